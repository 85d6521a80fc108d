/- What the inner functions of package word do, each at every argument: contracts, the leaves first. -/
import Derived.Test.YtlibjdilicfcdaaGreatDoorProg
import Derived.WalkKit
import Derived.WalkSpells
import Derived.WalkLawsBesides
import Derived.Deep.QuietTactic
import Derived.BigQuiet
import Derived.StringKeys
import Derived.Test.YtlibjdilicfcdaaGreatDoornu00Z
namespace Go.Proofs.YtlibjdilicfcdaaGreatDoor
set_option maxRecDepth 100000
open Go.RowKit
theorem w_ret_int {k : IntKind} {a b : Int} (h : a = b) : Ending.returned (.int k a) = .returned (.int k b) := by rw [h]
theorem w_ret_bool {a b : Bool} (h : a = b) : Ending.returned (.bool a) = .returned (.bool b) := by rw [h]
set_option maxHeartbeats 400000 in
theorem tag_any (n : Int) (w : World) (h0 : 0 ≤ n) (h1 : n ≤ 18446744073709551615) :
    Calls Tryz.prog 98 #[.int .u64 n] w fun e w' => e = .returned (.int .i64 (n % 8)) ∧ w' = w := by
  go_enter Tryz.func98, Tryz.ntmps98
  go_wp2
  go_ret
  exact ⟨w_ret_int (wrap_and7 n h0 h1), rfl⟩
set_option maxHeartbeats 400000 in
theorem value_any (n : Int) (w : World) :
    Calls Tryz.prog 111 #[.int .u64 n] w fun e w' => e = .returned (.int .i64 (valOf n)) ∧ w' = w := by
  go_enter Tryz.func111, Tryz.ntmps111
  go_wp2
  go_ret
  exact ⟨w_ret_int rfl, rfl⟩
set_option maxHeartbeats 400000 in
theorem isName_any (a : Int) (w : World) :
    Calls Tryz.prog 157 #[.int .i64 a] w fun e w' => e = .returned (.bool (decide (0 ≤ a ∧ a < 1024))) ∧ w' = w := by
  by_cases h : 0 ≤ a
  · go_enter Tryz.func157, Tryz.ntmps157
    go_wp2
    go_ret
    exact ⟨w_ret_bool (by simp [h]), rfl⟩
  · go_enter Tryz.func157, Tryz.ntmps157
    go_wp2
    go_ret
    exact ⟨w_ret_bool (by simp; omega), rfl⟩
set_option maxHeartbeats 400000 in
theorem isFunctor_any (a k : Int) (w : World) :
    Calls Tryz.prog 152 #[.int .i64 a, .int .i64 k] w fun e w' => e = .returned (.bool (funB a k)) ∧ w' = w := by
  by_cases h : 0 ≤ a ∧ a < 1024
  · have hd : decide (0 ≤ a ∧ a < 1024) = true := by simpa using h
    by_cases h1 : 1 ≤ k
    all_goals
      go_enter Tryz.func152, Tryz.ntmps152
      go_wp2_with (go_at_call 157; refine (isName_any _ _).mono ?_; rintro e w' ⟨rfl, rfl⟩)
      go_ret
      exact ⟨w_ret_bool (by unfold funB; first | (rw [decide_eq_decide]; omega) | (symm; rw [decide_eq_false_iff_not]; omega)), rfl⟩
  · have hd : decide (0 ≤ a ∧ a < 1024) = false := by simpa using h
    go_enter Tryz.func152, Tryz.ntmps152
    go_wp2_with (go_at_call 157; refine (isName_any _ _).mono ?_; rintro e w' ⟨rfl, rfl⟩)
    go_ret
    exact ⟨w_ret_bool (by unfold funB; symm; rw [decide_eq_false_iff_not]; omega), rfl⟩
set_option maxHeartbeats 400000 in
theorem w_split_any (v : Int) (w : World) (h0 : 0 ≤ v) (h1 : v ≤ 9223372036854775807) :
    Calls Tryz.prog 132 #[.int .i64 v] w fun e w' => e = .returned (.tuple #[.int .i64 (v / 16), .int .i64 (v % 16)]) ∧ w' = w := by
  go_enter Tryz.func132, Tryz.ntmps132
  go_wp2
  go_ret2
  exact ⟨rfl, rfl⟩
set_option maxHeartbeats 400000 in
theorem split_neg (v : Int) (w : World) (h0 : v < 0) (h1 : -9223372036854775808 ≤ v) :
    Calls Tryz.prog 132 #[.int .i64 v] w fun e w' => e = .returned (.tuple #[.int .i64 (v.tdiv 16), .int .i64 (v.tmod 16)]) ∧ w' = w := by
  go_enter Tryz.func132, Tryz.ntmps132
  go_wp2
  go_ret2
  exact ⟨rfl, rfl⟩
theorem funB_split (v : Int) : funB (v / 16) (v % 16) = fitsB 4 v := by
  rw [Bool.eq_iff_iff]; simp [funB, fitsB]; omega
theorem funB_neg (v : Int) (h : v < 0) : funB (v.tdiv 16) (v.tmod 16) = fitsB 4 v := by
  have hm : v.tmod 16 = -((-v) % 16) := by
    have := Int.neg_tmod (-v) 16
    rw [Int.neg_neg] at this
    rw [this, Int.tmod_eq_emod_of_nonneg (by omega)]
  rw [hm, Bool.eq_iff_iff]; simp [funB, fitsB]; omega
set_option maxHeartbeats 400000 in
theorem fits_any (t v : Int) (w : World) (h0 : -9223372036854775808 ≤ v) (h1 : v ≤ 9223372036854775807) :
    Calls Tryz.prog 150 #[.int .i64 t, .int .i64 v] w fun e w' => e = .returned (.bool (fitsB t v)) ∧ w' = w := by
  by_cases e0 : t = 0
  · subst e0
    by_cases h : 0 ≤ v
    all_goals
      go_enter Tryz.func150, Tryz.ntmps150
      go_wp2
      go_ret
      exact ⟨w_ret_bool (by unfold fitsB; simp; try omega), rfl⟩
  by_cases e3 : t = 3
  · subst e3
    by_cases h : 0 ≤ v
    all_goals
      go_enter Tryz.func150, Tryz.ntmps150
      go_wp2
      go_ret
      exact ⟨w_ret_bool (by unfold fitsB; simp; try omega), rfl⟩
  by_cases e5 : t = 5
  · subst e5
    by_cases h : 0 ≤ v
    all_goals
      go_enter Tryz.func150, Tryz.ntmps150
      go_wp2
      go_ret
      exact ⟨w_ret_bool (by unfold fitsB; simp; try omega), rfl⟩
  by_cases e1 : t = 1
  · subst e1
    go_enter Tryz.func150, Tryz.ntmps150
    go_wp2_with (go_at_call 157; refine (isName_any _ _).mono ?_; rintro e w' ⟨rfl, rfl⟩)
    go_ret
    exact ⟨w_ret_bool (by unfold fitsB; simp), rfl⟩
  by_cases e2 : t = 2
  · subst e2
    by_cases h : -1125899906842624 ≤ v
    all_goals
      go_enter Tryz.func150, Tryz.ntmps150
      go_wp2
      go_ret
      exact ⟨w_ret_bool (by unfold fitsB; simp; try omega), rfl⟩
  by_cases e4 : t = 4
  · subst e4
    by_cases h : 0 ≤ v
    · have H : Hid (funB (v / 16) (v % 16) = fitsB 4 v) := funB_split v
      go_enter Tryz.func150, Tryz.ntmps150
      go_wp2_with (first | (go_at_call 132; refine (w_split_any _ _ (by omega) (by omega)).mono ?_; rintro e w' ⟨rfl, rfl⟩) | (go_at_call 152; refine (isFunctor_any _ _ _).mono ?_; rintro e w' ⟨rfl, rfl⟩))
      go_ret
      exact ⟨w_ret_bool H.out, rfl⟩
    · have H : Hid (funB (v.tdiv 16) (v.tmod 16) = fitsB 4 v) := funB_neg v (by omega)
      go_enter Tryz.func150, Tryz.ntmps150
      go_wp2_with (first | (go_at_call 132; refine (split_neg _ _ (by omega) (by omega)).mono ?_; rintro e w' ⟨rfl, rfl⟩) | (go_at_call 152; refine (isFunctor_any _ _ _).mono ?_; rintro e w' ⟨rfl, rfl⟩))
      go_ret
      exact ⟨w_ret_bool H.out, rfl⟩
  have H' : fitsB t v = false := by unfold fitsB; simp [e0, e1, e2, e3, e4, e5]
  have H : Hid (fitsB t v = false) := H'
  clear H'
  have b0 : (t == 0) = false := by simpa using e0
  have b1 : (t == 1) = false := by simpa using e1
  have b2 : (t == 2) = false := by simpa using e2
  have b3 : (t == 3) = false := by simpa using e3
  have b4 : (t == 4) = false := by simpa using e4
  have b5 : (t == 5) = false := by simpa using e5
  clear e0 e1 e2 e3 e4 e5
  go_enter Tryz.func150, Tryz.ntmps150
  go_wp2
  go_ret
  exact ⟨w_ret_bool H.out.symm, rfl⟩
set_option maxHeartbeats 400000 in
theorem w_good_any (n : Int) (w : World) (h0 : 0 ≤ n) (h1 : n ≤ 18446744073709551615) :
    Calls Tryz.prog 131 #[.int .u64 n] w fun e w' => e = .returned (.bool (goodB n)) ∧ w' = w := by
  have hb := valOf_bd n
  go_enter Tryz.func131, Tryz.ntmps131
  go_wp2_with (first | (go_at_call 98; refine (tag_any _ _ h0 h1).mono ?_; rintro e w' ⟨rfl, rfl⟩) | (go_at_call 111; refine (value_any _ _).mono ?_; rintro e w' ⟨rfl, rfl⟩) | (go_at_call 150; refine (fits_any _ _ _ (by omega) (by omega)).mono ?_; rintro e w' ⟨rfl, rfl⟩))
  go_ret
  exact ⟨w_ret_bool rfl, rfl⟩
end Go.Proofs.YtlibjdilicfcdaaGreatDoor

namespace Go.Proofs.YtlibjdilicfcdaaGreatDoor
set_option maxRecDepth 100000
open Go.RowKit Go.Maps
theorem n_byte_at (s : ByteArray) (k : Nat) (h : k < s.size) : s.data.toList[k]? = some s[k] := by
  rw [List.getElem?_eq_getElem (by simpa using h)]
  rfl
theorem n_goodS_byte {s : ByteArray} (h : n_goodS s = true) (k : Nat) (hk : k < s.size) : 33 ≤ (s[k].toNat : Int) ∧ (s[k].toNat : Int) ≤ 126 := by
  simp only [n_goodS, Bool.and_eq_true, List.all_eq_true, decide_eq_true_eq] at h
  have := h.2 s[k] (List.mem_of_getElem? (n_byte_at s k hk))
  omega
theorem n_goodS_of {s : ByteArray} (h1 : 1 ≤ s.size) (h2 : s.size ≤ 32) (h : ∀ k (hk : k < s.size), 33 ≤ (s[k].toNat : Int) ∧ (s[k].toNat : Int) ≤ 126) : n_goodS s = true := by
  simp only [n_goodS, Bool.and_eq_true, List.all_eq_true, decide_eq_true_eq]
  refine ⟨⟨h1, h2⟩, fun x hx => ?_⟩
  obtain ⟨k, hk, rfl⟩ := List.getElem_of_mem hx
  have hk' : k < s.size := by simpa using hk
  have := h k hk'
  have e : s.data.toList[k] = s[k] := rfl
  rw [e]
  omega
theorem n_goodS_no {s : ByteArray} (k : Nat) (hk : k < s.size) (h : ¬ (33 ≤ (s[k].toNat : Int) ∧ (s[k].toNat : Int) ≤ 126)) : n_goodS s = false := by
  cases hg : n_goodS s with
  | false => rfl
  | true => exact absurd (n_goodS_byte hg k hk) h
theorem n_goodS_short {s : ByteArray} (h : s.size < 1 ∨ 32 < s.size) : n_goodS s = false := by
  cases hg : n_goodS s with
  | false => rfl
  | true => have := n_goodS_size hg; omega
set_option maxHeartbeats 1000000 in
theorem n_good_any (s : ByteArray) (w : World) (hs : s.size ≤ 281474976710656) :
    Calls Tryz.prog 51 #[.string s] w fun e w' => e = .returned (.bool (n_goodS s)) ∧ w' = w := by
  by_cases h1 : s.size < 1
  · have hG : Hid (n_goodS s = false) := n_goodS_short (Or.inl h1)
    go_enter Tryz.func51, Tryz.ntmps51
    go_wp2
    go_ret
    exact ⟨n_ret_bool hG.out.symm, rfl⟩
  · by_cases h2 : 32 < s.size
    · have hG : Hid (n_goodS s = false) := n_goodS_short (Or.inr h2)
      go_enter Tryz.func51, Tryz.ntmps51
      go_wp2
      go_ret
      exact ⟨n_ret_bool hG.out.symm, rfl⟩
    · go_enter Tryz.func51, Tryz.ntmps51
      go_wp2
      go_loop [14] (fun i => ∃ k : Nat, k ≤ s.size ∧ i = .int .i64 k ∧ Hid (∀ j (hj : j < s.size), j < k → 33 ≤ (s[j].toNat : Int) ∧ (s[j].toNat : Int) ≤ 126)) (fun i => s.size - (intOf i).toNat)
      case atStart => exact ⟨0, by omega, rfl, fun j hj h0 => by omega⟩
      case round =>
        obtain ⟨k, hk, rfl, hm⟩ := hrel
        by_cases hlt : k < s.size
        · by_cases hd : 33 ≤ (s[k].toNat : Int)
          · by_cases hd' : (s[k].toNat : Int) ≤ 126
            · have hst : Hid (∀ j (hj : j < s.size), j < k + 1 → 33 ≤ (s[j].toNat : Int) ∧ (s[j].toNat : Int) ≤ 126) := fun j hj h0 => by
                rcases Nat.lt_or_eq_of_le (Nat.le_of_lt_succ h0) with h3 | h3
                · exact hm.out j hj h3
                · subst h3
                  exact ⟨hd, hd'⟩
              go_wp2
              exact ⟨⟨k + 1, by omega, congrArg (Value.int .i64) (by omega), hst⟩, by simp [intOf]; omega⟩
            · have hG : Hid (n_goodS s = false) := n_goodS_no k hlt (by omega)
              go_wp2
              go_ret
              exact ⟨n_ret_bool hG.out.symm, rfl⟩
          · have hG : Hid (n_goodS s = false) := n_goodS_no k hlt (by omega)
            go_wp2
            go_ret
            exact ⟨n_ret_bool hG.out.symm, rfl⟩
        · have hG : Hid (n_goodS s = true) := n_goodS_of (by omega) (by omega) (fun j hj => hm.out j hj (by omega))
          go_wp2
          go_ret
          exact ⟨n_ret_bool hG.out.symm, rfl⟩
set_option maxHeartbeats 400000 in
theorem new_any (w : World) (B : Nat) (hB : B ≤ w.heap.size) :
    Calls Tryz.prog 55 #[] w fun e w' => e = .returned (.pointer (some ⟨w.heap.size + 1, 0, none⟩)) ∧ Tb w' B (w.heap.size + 1) (.slice none 0 0) w.heap.size [] ∧ Below w.heap.size w w' := by
  have hmm := @run_makeMap Tryz.prog
  go_enter Tryz.func55, Tryz.ntmps55
  go_wp2
  go_ret
  have h1 := (World.ownsMap_made w Tryz.prog 9 (plainElem (H := Unit) Tryz.prog 3))
  refine ⟨by simp, ⟨?_, by omega, World.ownsRow_nil _ _ _ _, hB, ⟨_, h1.alloc _, mapOf_nil⟩, by simp, by simp, List.nodup_nil⟩, ((Below.refl _ w).alloc (Nat.le_refl _) _).alloc (by simp) _⟩
  have := heap_alloc_new (w.alloc (.map #[] 0)) (.cells #[.slice none 0 0, .map (some w.heap.size)] 162 (0, 0))
  simpa using this
set_option maxHeartbeats 400000 in
theorem len_any {w : World} {B p q : Nat} {v : Value} {l : List ByteArray} (h : Tb w B p v q l) :
    Calls Tryz.prog 124 #[.pointer (some ⟨p, 0, none⟩)] w fun e w' => e = .returned (.int .i64 (l.length : Int)) ∧ w' = w := by
  obtain ⟨ao, cap, rfl, _⟩ := h.val
  have c0 := h.c0
  go_enter Tryz.func124, Tryz.ntmps124
  go_wp2
  go_ret
  exact ⟨rfl, rfl⟩
theorem n_zeroInt (w : World) : (zeroValue 3).run Tryz.prog w = .ok (.int .i64 0) w := by kernel_rfl
set_option maxHeartbeats 400000 in
theorem find_any {w : World} {B p q : Nat} {v : Value} {l : List ByteArray} (h : Tb w B p v q l) (s : ByteArray) (hs : s.size ≤ 281474976710656) :
    Calls Tryz.prog 89 #[.pointer (some ⟨p, 0, none⟩), .string s] w fun e w' => e = .returned (.tuple #[.int .i64 (num l s : Int), .bool (inL l s)]) ∧ w' = w := by
  have c1 := h.c1
  obtain ⟨D, hD, hO⟩ := h.map
  have hk := WideMaps.keyOf_string_mk (P := Tryz.prog) (k := 9) Tryz.underlying9 (s := s) (by unfold maxLen; omega)
  have h1 := hO.1 s
  have h2 := hO.2 s
  clear hO h
  go_enter Tryz.func89, Tryz.ntmps89
  go_wp2_with (at_lookup; refine wpList_lookup_own_ok_int _ rfl _ _ 160 rfl 9 3 .i64 (string_keyed Tryz.underlying9) Tryz.underlying160 Tryz.underlying3 (n_zeroInt _) q l.length D rfl hD _ _ rfl hk ?_; intro c hat hwc)
  go_ret2
  rw [h2] at hat
  obtain rfl : (num l s : Int) = c := by injection hat with e; injection e
  exact ⟨rfl, rfl⟩
set_option maxHeartbeats 400000 in
theorem name_yes {w : World} {B p q : Nat} {v : Value} {l : List ByteArray} (h : Tb w B p v q l) (k : Nat) (hk : k < l.length) :
    Calls Tryz.prog 142 #[.pointer (some ⟨p, 0, none⟩), .int .i64 (k : Int)] w fun e w' => e = .returned (.tuple #[.string (l.getD k ⟨#[]⟩), .bool true]) ∧ w' = w := by
  have hlen := len_any h
  have hl := h.len
  have c0 := h.c0
  rcases h.rs with ⟨rfl, rfl⟩ | ⟨a, c, rfl, rfl⟩ | ⟨b, o, c, rfl, hc⟩
  · simp at hk
  · simp at hk
  · have hcx := hc k hk
    obtain ⟨x, hx⟩ : ∃ x, x = l.getD k ⟨#[]⟩ := ⟨_, rfl⟩
    rw [← hx] at hcx ⊢
    clear hx hc h
    go_enter Tryz.func142, Tryz.ntmps142
    go_wp2_with (go_at_call 124; refine hlen.mono ?_; rintro e w ⟨rfl, rfl⟩)
    go_ret2
    exact ⟨rfl, rfl⟩
end Go.Proofs.YtlibjdilicfcdaaGreatDoor
