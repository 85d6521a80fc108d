/- A region that draws its order and only reads, inside the round of a range over a function: one walk in the text's order. -/
import Derived.Sort.BigQuietIn
import Derived.OwnWalkIn
import Derived.WalkKit
import Derived.Test.YtgmldkojldlekaaGreatDoorProg
import Derived.WalkSpells
import Derived.WalkLawsBesides
import Derived.Deep.QuietTactic
import Derived.BigQuiet
import Derived.Shelf.Abstract
import Derived.StringKeys
import Derived.Test.YtgmldkojldlekaaGreatDoorSR00Z
namespace Go.Proofs.YtgmldkojldlekaaGreatDoor
set_option maxRecDepth 100000
open Go.RowKit
def noDefer (l : List Oper) : Bool := l.all fun o => match o.op with | .defer _ => false | _ => true
theorem noDefer_at {l : List Oper} (h : noDefer l = true) {i : Nat} {o : Oper} (hi : l.toArray[i]? = some o) : ∀ c, o.op ≠ .defer c := by
  intro c e
  have h1 : o ∈ l := List.mem_of_getElem? (by simpa using hi)
  have h2 := List.all_eq_true.1 h o h1
  rw [e] at h2
  cases h2
end Go.Proofs.YtgmldkojldlekaaGreatDoor

namespace Go.Proofs.YtgmldkojldlekaaGreatDoor
set_option maxRecDepth 100000
open Go.RowKit
theorem w_ret_int {k : IntKind} {a b : Int} (h : a = b) : Ending.returned (.int k a) = .returned (.int k b) := by rw [h]
theorem w_ret_bool {a b : Bool} (h : a = b) : Ending.returned (.bool a) = .returned (.bool b) := by rw [h]
set_option maxHeartbeats 400000 in
theorem tag_any (n : Int) (w : World) (h0 : 0 ≤ n) (h1 : n ≤ 18446744073709551615) :
    Calls Tryz.prog 55 #[.int .u64 n] w fun e w' => e = .returned (.int .i64 (n % 8)) ∧ w' = w := by
  go_enter Tryz.func55, Tryz.ntmps55
  go_wp2
  go_ret
  exact ⟨w_ret_int (wrap_and7 n h0 h1), rfl⟩
set_option maxHeartbeats 400000 in
theorem value_any (n : Int) (w : World) :
    Calls Tryz.prog 56 #[.int .u64 n] w fun e w' => e = .returned (.int .i64 (valOf n)) ∧ w' = w := by
  go_enter Tryz.func56, Tryz.ntmps56
  go_wp2
  go_ret
  exact ⟨w_ret_int rfl, rfl⟩
set_option maxHeartbeats 400000 in
theorem isName_any (a : Int) (w : World) :
    Calls Tryz.prog 130 #[.int .i64 a] w fun e w' => e = .returned (.bool (decide (0 ≤ a ∧ a < 1024))) ∧ w' = w := by
  by_cases h : 0 ≤ a
  · go_enter Tryz.func130, Tryz.ntmps130
    go_wp2
    go_ret
    exact ⟨w_ret_bool (by simp [h]), rfl⟩
  · go_enter Tryz.func130, Tryz.ntmps130
    go_wp2
    go_ret
    exact ⟨w_ret_bool (by simp; omega), rfl⟩
set_option maxHeartbeats 400000 in
theorem isFunctor_any (a k : Int) (w : World) :
    Calls Tryz.prog 125 #[.int .i64 a, .int .i64 k] w fun e w' => e = .returned (.bool (funB a k)) ∧ w' = w := by
  by_cases h : 0 ≤ a ∧ a < 1024
  · have hd : decide (0 ≤ a ∧ a < 1024) = true := by simpa using h
    by_cases h1 : 1 ≤ k
    all_goals
      go_enter Tryz.func125, Tryz.ntmps125
      go_wp2_with (go_at_call 130; refine (isName_any _ _).mono ?_; rintro e w' ⟨rfl, rfl⟩)
      go_ret
      exact ⟨w_ret_bool (by unfold funB; first | (rw [decide_eq_decide]; omega) | (symm; rw [decide_eq_false_iff_not]; omega)), rfl⟩
  · have hd : decide (0 ≤ a ∧ a < 1024) = false := by simpa using h
    go_enter Tryz.func125, Tryz.ntmps125
    go_wp2_with (go_at_call 130; refine (isName_any _ _).mono ?_; rintro e w' ⟨rfl, rfl⟩)
    go_ret
    exact ⟨w_ret_bool (by unfold funB; symm; rw [decide_eq_false_iff_not]; omega), rfl⟩
set_option maxHeartbeats 400000 in
theorem w_split_any (v : Int) (w : World) (h0 : 0 ≤ v) (h1 : v ≤ 9223372036854775807) :
    Calls Tryz.prog 113 #[.int .i64 v] w fun e w' => e = .returned (.tuple #[.int .i64 (v / 16), .int .i64 (v % 16)]) ∧ w' = w := by
  go_enter Tryz.func113, Tryz.ntmps113
  go_wp2
  go_ret2
  exact ⟨rfl, rfl⟩
set_option maxHeartbeats 400000 in
theorem split_neg (v : Int) (w : World) (h0 : v < 0) (h1 : -9223372036854775808 ≤ v) :
    Calls Tryz.prog 113 #[.int .i64 v] w fun e w' => e = .returned (.tuple #[.int .i64 (v.tdiv 16), .int .i64 (v.tmod 16)]) ∧ w' = w := by
  go_enter Tryz.func113, Tryz.ntmps113
  go_wp2
  go_ret2
  exact ⟨rfl, rfl⟩
theorem funB_split (v : Int) : funB (v / 16) (v % 16) = fitsB 4 v := by
  rw [Bool.eq_iff_iff]; simp [funB, fitsB]; omega
theorem funB_neg (v : Int) (h : v < 0) : funB (v.tdiv 16) (v.tmod 16) = fitsB 4 v := by
  have hm : v.tmod 16 = -((-v) % 16) := by
    have := Int.neg_tmod (-v) 16
    rw [Int.neg_neg] at this
    rw [this, Int.tmod_eq_emod_of_nonneg (by omega)]
  rw [hm, Bool.eq_iff_iff]; simp [funB, fitsB]; omega
set_option maxHeartbeats 400000 in
theorem fits_any (t v : Int) (w : World) (h0 : -9223372036854775808 ≤ v) (h1 : v ≤ 9223372036854775807) :
    Calls Tryz.prog 119 #[.int .i64 t, .int .i64 v] w fun e w' => e = .returned (.bool (fitsB t v)) ∧ w' = w := by
  by_cases e0 : t = 0
  · subst e0
    by_cases h : 0 ≤ v
    all_goals
      go_enter Tryz.func119, Tryz.ntmps119
      go_wp2
      go_ret
      exact ⟨w_ret_bool (by unfold fitsB; simp; try omega), rfl⟩
  by_cases e3 : t = 3
  · subst e3
    by_cases h : 0 ≤ v
    all_goals
      go_enter Tryz.func119, Tryz.ntmps119
      go_wp2
      go_ret
      exact ⟨w_ret_bool (by unfold fitsB; simp; try omega), rfl⟩
  by_cases e5 : t = 5
  · subst e5
    by_cases h : 0 ≤ v
    all_goals
      go_enter Tryz.func119, Tryz.ntmps119
      go_wp2
      go_ret
      exact ⟨w_ret_bool (by unfold fitsB; simp; try omega), rfl⟩
  by_cases e1 : t = 1
  · subst e1
    go_enter Tryz.func119, Tryz.ntmps119
    go_wp2_with (go_at_call 130; refine (isName_any _ _).mono ?_; rintro e w' ⟨rfl, rfl⟩)
    go_ret
    exact ⟨w_ret_bool (by unfold fitsB; simp), rfl⟩
  by_cases e2 : t = 2
  · subst e2
    by_cases h : -1125899906842624 ≤ v
    all_goals
      go_enter Tryz.func119, Tryz.ntmps119
      go_wp2
      go_ret
      exact ⟨w_ret_bool (by unfold fitsB; simp; try omega), rfl⟩
  by_cases e4 : t = 4
  · subst e4
    by_cases h : 0 ≤ v
    · have H : Hid (funB (v / 16) (v % 16) = fitsB 4 v) := funB_split v
      go_enter Tryz.func119, Tryz.ntmps119
      go_wp2_with (first | (go_at_call 113; refine (w_split_any _ _ (by omega) (by omega)).mono ?_; rintro e w' ⟨rfl, rfl⟩) | (go_at_call 125; refine (isFunctor_any _ _ _).mono ?_; rintro e w' ⟨rfl, rfl⟩))
      go_ret
      exact ⟨w_ret_bool H.out, rfl⟩
    · have H : Hid (funB (v.tdiv 16) (v.tmod 16) = fitsB 4 v) := funB_neg v (by omega)
      go_enter Tryz.func119, Tryz.ntmps119
      go_wp2_with (first | (go_at_call 113; refine (split_neg _ _ (by omega) (by omega)).mono ?_; rintro e w' ⟨rfl, rfl⟩) | (go_at_call 125; refine (isFunctor_any _ _ _).mono ?_; rintro e w' ⟨rfl, rfl⟩))
      go_ret
      exact ⟨w_ret_bool H.out, rfl⟩
  have H' : fitsB t v = false := by unfold fitsB; simp [e0, e1, e2, e3, e4, e5]
  have H : Hid (fitsB t v = false) := H'
  clear H'
  have b0 : (t == 0) = false := by simpa using e0
  have b1 : (t == 1) = false := by simpa using e1
  have b2 : (t == 2) = false := by simpa using e2
  have b3 : (t == 3) = false := by simpa using e3
  have b4 : (t == 4) = false := by simpa using e4
  have b5 : (t == 5) = false := by simpa using e5
  clear e0 e1 e2 e3 e4 e5
  go_enter Tryz.func119, Tryz.ntmps119
  go_wp2
  go_ret
  exact ⟨w_ret_bool H.out.symm, rfl⟩
set_option maxHeartbeats 400000 in
theorem w_good_any (n : Int) (w : World) (h0 : 0 ≤ n) (h1 : n ≤ 18446744073709551615) :
    Calls Tryz.prog 112 #[.int .u64 n] w fun e w' => e = .returned (.bool (goodB n)) ∧ w' = w := by
  have hb := valOf_bd n
  go_enter Tryz.func112, Tryz.ntmps112
  go_wp2_with (first | (go_at_call 55; refine (tag_any _ _ h0 h1).mono ?_; rintro e w' ⟨rfl, rfl⟩) | (go_at_call 56; refine (value_any _ _).mono ?_; rintro e w' ⟨rfl, rfl⟩) | (go_at_call 119; refine (fits_any _ _ _ (by omega) (by omega)).mono ?_; rintro e w' ⟨rfl, rfl⟩))
  go_ret
  exact ⟨w_ret_bool rfl, rfl⟩
end Go.Proofs.YtgmldkojldlekaaGreatDoor

namespace Go.Proofs.YtgmldkojldlekaaGreatDoor
set_option maxRecDepth 100000
open Go.RowKit
theorem byte_at (s : ByteArray) (k : Nat) (h : k < s.size) : s.data.toList[k]? = some s[k] := by
  rw [List.getElem?_eq_getElem (by simpa using h)]
  rfl
theorem goodS_byte {s : ByteArray} (h : goodS s = true) (k : Nat) (hk : k < s.size) : 33 ≤ (s[k].toNat : Int) ∧ (s[k].toNat : Int) ≤ 126 := by
  simp only [goodS, Bool.and_eq_true, List.all_eq_true, decide_eq_true_eq] at h
  have := h.2 s[k] (List.mem_of_getElem? (byte_at s k hk))
  omega
theorem goodS_of {s : ByteArray} (h1 : 1 ≤ s.size) (h2 : s.size ≤ 32) (h : ∀ k (hk : k < s.size), 33 ≤ (s[k].toNat : Int) ∧ (s[k].toNat : Int) ≤ 126) : goodS s = true := by
  simp only [goodS, Bool.and_eq_true, List.all_eq_true, decide_eq_true_eq]
  refine ⟨⟨h1, h2⟩, fun x hx => ?_⟩
  obtain ⟨k, hk, rfl⟩ := List.getElem_of_mem hx
  have hk' : k < s.size := by simpa using hk
  have := h k hk'
  have e : s.data.toList[k] = s[k] := rfl
  rw [e]
  omega
theorem goodS_no {s : ByteArray} (k : Nat) (hk : k < s.size) (h : ¬ (33 ≤ (s[k].toNat : Int) ∧ (s[k].toNat : Int) ≤ 126)) : goodS s = false := by
  cases hg : goodS s with
  | false => rfl
  | true => exact absurd (goodS_byte hg k hk) h
theorem goodS_short {s : ByteArray} (h : s.size < 1 ∨ 32 < s.size) : goodS s = false := by
  cases hg : goodS s with
  | false => rfl
  | true => have := goodS_size hg; omega
set_option maxHeartbeats 1000000 in
theorem good_any (s : ByteArray) (w : World) (hs : s.size ≤ 9223372036854775807) :
    Calls Tryz.prog 107 #[.string s] w fun e w' => e = .returned (.bool (goodS s)) ∧ w' = w := by
  by_cases h1 : s.size < 1
  · have hG : Hid (goodS s = false) := goodS_short (Or.inl h1)
    go_enter Tryz.func107, Tryz.ntmps107
    go_wp2
    go_ret
    exact ⟨ret_bool hG.out.symm, rfl⟩
  · by_cases h2 : 32 < s.size
    · have hG : Hid (goodS s = false) := goodS_short (Or.inr h2)
      go_enter Tryz.func107, Tryz.ntmps107
      go_wp2
      go_ret
      exact ⟨ret_bool hG.out.symm, rfl⟩
    · go_enter Tryz.func107, Tryz.ntmps107
      go_wp2
      go_loop [14] (fun i => ∃ k : Nat, k ≤ s.size ∧ i = .int .i64 k ∧ Hid (∀ j (hj : j < s.size), j < k → 33 ≤ (s[j].toNat : Int) ∧ (s[j].toNat : Int) ≤ 126)) (fun i => s.size - (intOf i).toNat)
      case atStart => exact ⟨0, by omega, rfl, fun j hj h0 => by omega⟩
      case round =>
        obtain ⟨k, hk, rfl, hm⟩ := hrel
        by_cases hlt : k < s.size
        · by_cases hd : 33 ≤ (s[k].toNat : Int)
          · by_cases hd' : (s[k].toNat : Int) ≤ 126
            · have hst : Hid (∀ j (hj : j < s.size), j < k + 1 → 33 ≤ (s[j].toNat : Int) ∧ (s[j].toNat : Int) ≤ 126) := fun j hj h0 => by
                rcases Nat.lt_or_eq_of_le (Nat.le_of_lt_succ h0) with h3 | h3
                · exact hm.out j hj h3
                · subst h3
                  exact ⟨hd, hd'⟩
              go_wp2
              exact ⟨⟨k + 1, by omega, congrArg (Value.int .i64) (by omega), hst⟩, by simp [intOf]; omega⟩
            · have hG : Hid (goodS s = false) := goodS_no k hlt (by omega)
              go_wp2
              go_ret
              exact ⟨ret_bool hG.out.symm, rfl⟩
          · have hG : Hid (goodS s = false) := goodS_no k hlt (by omega)
            go_wp2
            go_ret
            exact ⟨ret_bool hG.out.symm, rfl⟩
        · have hG : Hid (goodS s = true) := goodS_of (by omega) (by omega) (fun j hj => hm.out j hj (by omega))
          go_wp2
          go_ret
          exact ⟨ret_bool hG.out.symm, rfl⟩
set_option maxHeartbeats 400000 in
theorem fault_any (c a : Int) (w : World) :
    Calls Tryz.prog 99 #[.int .i64 c, .int .i64 a] w fun e w' => e = .returned (.iface 102 (.pointer (some ⟨w.heap.size, 0, none⟩))) ∧ w' = w.alloc (faultObj c a .nilIface) := by
  go_enter Tryz.func99, Tryz.ntmps99
  go_wp2
  go_ret
  exact ⟨rfl, rfl⟩
theorem fault_er (c a : Int) (hc : c ≠ 0) (w : World) :
    Calls Tryz.prog 99 #[.int .i64 c, .int .i64 a] w fun e w' => (∃ ev b, e = .returned ev ∧ ev = .iface 102 (.pointer (some ⟨b, 0, none⟩)) ∧ Er w' ev [(c, a)]) ∧ Below w.heap.size w w' := by
  refine (fault_any c a w).mono ?_
  rintro e w' ⟨rfl, rfl⟩
  exact ⟨⟨_, _, rfl, rfl, hc, _, _, rfl, heap_alloc_new w _, rfl⟩, below_alloc _ _⟩
set_option maxHeartbeats 1000000 in
theorem index_ints (f : Nat) (cb : Array Value) (eg : ∀ args w, (callFunc f args).run Tryz.prog w = .ok (.enter f args) w) (v : Value) (l : List Int) (p : Nat → Bool) (I T : Nat → World → Prop) (W : World) (hl : l.length ≤ 5000)
    (hr : ∀ k w, I k w → Ri w v l) (hs : ∀ k w, k < l.length → I k w → Calls Tryz.prog f (#[.int .i64 (l.getD k 0)] ++ cb) w fun e w' => e = .returned (.bool (p k)) ∧ (p k = true → T k w') ∧ (p k = false → I (k + 1) w')) (h0 : I 0 W) :
    Calls Tryz.prog 69 #[v, .func (.func f) #[] cb] W fun e w' => (∃ k : Nat, k < l.length ∧ (∀ j, j < k → p j = false) ∧ p k = true ∧ e = .returned (.int .i64 k) ∧ T k w') ∨ ((∀ j, j < l.length → p j = false) ∧ e = .returned (.int .i64 (-1)) ∧ I l.length w') := by
  obtain ⟨ao, c, rfl, _⟩ := hr 0 W h0
  go_enter Tryz.func69, Tryz.ntmps69
  go_wp2
  go_loopw [5, 8] (fun _ i wr => ∃ k : Nat, k ≤ l.length ∧ i = .int .i64 k ∧ Hid (I k wr) ∧ Hid (∀ j, j < k → p j = false)) (fun _ i _ => l.length - (intOf i).toNat)
  case atStart => exact ⟨0, Nat.zero_le _, rfl, h0, fun j hj => absurd hj (Nat.not_lt_zero _)⟩
  case round =>
    obtain ⟨k, hk, rfl, hI, hp⟩ := hrel
    by_cases hlt : k < l.length
    · obtain ⟨b, o, hc⟩ : ∃ b o, ao = some ⟨b, o, none⟩ ∧ wr.cell? ⟨b, o + k, none⟩ = some (.int .i64 (l.getD k 0)) := by
        obtain ⟨ao', c', h1, h2⟩ := hr k wr hI.out
        obtain ⟨b, o, h3, h4⟩ := h2 k hlt
        injection h1 with h1 _ _
        exact ⟨b, o, h1.trans h3, h4⟩
      obtain ⟨rfl, hc⟩ := hc
      have hcall := hs k wr hlt hI.out
      generalize l.getD k 0 = x at hc hcall
      clear hs hr h0
      cases hq : p k with
      | true =>
        have hq' : Hid (p k = true) := hq
        rw [hq] at hcall
        clear hq
        go_wp2_with (go_at_fn f; refine hcall.mono ?_; rintro e w' ⟨rfl, hT, _⟩)
        go_ret
        exact Or.inl ⟨k, hlt, hp.out, hq'.out, rfl, hT (by trivial)⟩
      | false =>
        have hq' : Hid (p k = false) := hq
        rw [hq] at hcall
        clear hq
        go_wp2_with (go_at_fn f; refine hcall.mono ?_; rintro e w' ⟨rfl, _, hT⟩)
        go_roundw
        case rel =>
          refine ⟨k + 1, by omega, congrArg (Value.int .i64) (by omega), hT (by trivial), (show Hid _ from fun j hj => ?_)⟩
          rcases Nat.lt_or_eq_of_le (Nat.le_of_lt_succ hj) with h | h
          · exact hp.out j h
          · subst h; exact hq'.out
        case measure => simp [intOf]; omega
    · have hkl : Hid (k = l.length) := show k = l.length by omega
      clear hs hr h0
      go_wp2
      go_ret
      refine Or.inr ⟨?_, rfl, ?_⟩
      · rw [← hkl.out]; exact hp.out
      · rw [← hkl.out]; exact hI.out
end Go.Proofs.YtgmldkojldlekaaGreatDoor

namespace Go.Proofs.YtgmldkojldlekaaGreatDoor
set_option maxRecDepth 100000
open Go.RowKit Go.Maps
theorem n_byte_at (s : ByteArray) (k : Nat) (h : k < s.size) : s.data.toList[k]? = some s[k] := by
  rw [List.getElem?_eq_getElem (by simpa using h)]
  rfl
theorem n_goodS_byte {s : ByteArray} (h : n_goodS s = true) (k : Nat) (hk : k < s.size) : 33 ≤ (s[k].toNat : Int) ∧ (s[k].toNat : Int) ≤ 126 := by
  simp only [n_goodS, Bool.and_eq_true, List.all_eq_true, decide_eq_true_eq] at h
  have := h.2 s[k] (List.mem_of_getElem? (n_byte_at s k hk))
  omega
theorem n_goodS_of {s : ByteArray} (h1 : 1 ≤ s.size) (h2 : s.size ≤ 32) (h : ∀ k (hk : k < s.size), 33 ≤ (s[k].toNat : Int) ∧ (s[k].toNat : Int) ≤ 126) : n_goodS s = true := by
  simp only [n_goodS, Bool.and_eq_true, List.all_eq_true, decide_eq_true_eq]
  refine ⟨⟨h1, h2⟩, fun x hx => ?_⟩
  obtain ⟨k, hk, rfl⟩ := List.getElem_of_mem hx
  have hk' : k < s.size := by simpa using hk
  have := h k hk'
  have e : s.data.toList[k] = s[k] := rfl
  rw [e]
  omega
theorem n_goodS_no {s : ByteArray} (k : Nat) (hk : k < s.size) (h : ¬ (33 ≤ (s[k].toNat : Int) ∧ (s[k].toNat : Int) ≤ 126)) : n_goodS s = false := by
  cases hg : n_goodS s with
  | false => rfl
  | true => exact absurd (n_goodS_byte hg k hk) h
theorem n_goodS_short {s : ByteArray} (h : s.size < 1 ∨ 32 < s.size) : n_goodS s = false := by
  cases hg : n_goodS s with
  | false => rfl
  | true => have := n_goodS_size hg; omega
set_option maxHeartbeats 1000000 in
theorem n_good_any (s : ByteArray) (w : World) (hs : s.size ≤ 281474976710656) :
    Calls Tryz.prog 107 #[.string s] w fun e w' => e = .returned (.bool (n_goodS s)) ∧ w' = w := by
  by_cases h1 : s.size < 1
  · have hG : Hid (n_goodS s = false) := n_goodS_short (Or.inl h1)
    go_enter Tryz.func107, Tryz.ntmps107
    go_wp2
    go_ret
    exact ⟨n_ret_bool hG.out.symm, rfl⟩
  · by_cases h2 : 32 < s.size
    · have hG : Hid (n_goodS s = false) := n_goodS_short (Or.inr h2)
      go_enter Tryz.func107, Tryz.ntmps107
      go_wp2
      go_ret
      exact ⟨n_ret_bool hG.out.symm, rfl⟩
    · go_enter Tryz.func107, Tryz.ntmps107
      go_wp2
      go_loop [14] (fun i => ∃ k : Nat, k ≤ s.size ∧ i = .int .i64 k ∧ Hid (∀ j (hj : j < s.size), j < k → 33 ≤ (s[j].toNat : Int) ∧ (s[j].toNat : Int) ≤ 126)) (fun i => s.size - (intOf i).toNat)
      case atStart => exact ⟨0, by omega, rfl, fun j hj h0 => by omega⟩
      case round =>
        obtain ⟨k, hk, rfl, hm⟩ := hrel
        by_cases hlt : k < s.size
        · by_cases hd : 33 ≤ (s[k].toNat : Int)
          · by_cases hd' : (s[k].toNat : Int) ≤ 126
            · have hst : Hid (∀ j (hj : j < s.size), j < k + 1 → 33 ≤ (s[j].toNat : Int) ∧ (s[j].toNat : Int) ≤ 126) := fun j hj h0 => by
                rcases Nat.lt_or_eq_of_le (Nat.le_of_lt_succ h0) with h3 | h3
                · exact hm.out j hj h3
                · subst h3
                  exact ⟨hd, hd'⟩
              go_wp2
              exact ⟨⟨k + 1, by omega, congrArg (Value.int .i64) (by omega), hst⟩, by simp [intOf]; omega⟩
            · have hG : Hid (n_goodS s = false) := n_goodS_no k hlt (by omega)
              go_wp2
              go_ret
              exact ⟨n_ret_bool hG.out.symm, rfl⟩
          · have hG : Hid (n_goodS s = false) := n_goodS_no k hlt (by omega)
            go_wp2
            go_ret
            exact ⟨n_ret_bool hG.out.symm, rfl⟩
        · have hG : Hid (n_goodS s = true) := n_goodS_of (by omega) (by omega) (fun j hj => hm.out j hj (by omega))
          go_wp2
          go_ret
          exact ⟨n_ret_bool hG.out.symm, rfl⟩
set_option maxHeartbeats 400000 in
theorem n_fault_any (c : Int) (s : ByteArray) (w : World) :
    Calls Tryz.prog 106 #[.int .i64 c, .string s] w fun e w' => e = .returned (.iface 102 (.pointer (some ⟨w.heap.size, 0, none⟩))) ∧ w' = w.alloc (n_faultObj c (-1) s) := by
  go_enter Tryz.func106, Tryz.ntmps106
  go_wp2
  go_ret
  exact ⟨rfl, rfl⟩
set_option maxHeartbeats 400000 in
theorem new_any (w : World) (B : Nat) (hB : B ≤ w.heap.size) :
    Calls Tryz.prog 47 #[] w fun e w' => e = .returned (.pointer (some ⟨w.heap.size + 1, 0, none⟩)) ∧ Tb w' B (w.heap.size + 1) (.slice none 0 0) w.heap.size [] ∧ Below w.heap.size w w' := by
  have hmm := @run_makeMap Tryz.prog
  go_enter Tryz.func47, Tryz.ntmps47
  go_wp2
  go_ret
  have h1 := (World.ownsMap_made w Tryz.prog 9 (plainElem (H := Unit) Tryz.prog 3))
  refine ⟨by simp, ⟨?_, by omega, World.ownsRow_nil _ _ _ _, hB, ⟨_, h1.alloc _, mapOf_nil⟩, by simp, by simp, List.nodup_nil⟩, ((Below.refl _ w).alloc (Nat.le_refl _) _).alloc (by simp) _⟩
  have := heap_alloc_new (w.alloc (.map #[] 0)) (.cells #[.slice none 0 0, .map (some w.heap.size)] 129 (0, 0))
  simpa using this
set_option maxHeartbeats 400000 in
theorem len_any {w : World} {B p q : Nat} {v : Value} {l : List ByteArray} (h : Tb w B p v q l) :
    Calls Tryz.prog 108 #[.pointer (some ⟨p, 0, none⟩)] w fun e w' => e = .returned (.int .i64 (l.length : Int)) ∧ w' = w := by
  obtain ⟨ao, cap, rfl, _⟩ := h.val
  have c0 := h.c0
  go_enter Tryz.func108, Tryz.ntmps108
  go_wp2
  go_ret
  exact ⟨rfl, rfl⟩
theorem n_zeroInt (w : World) : (zeroValue 3).run Tryz.prog w = .ok (.int .i64 0) w := by kernel_rfl
set_option maxHeartbeats 400000 in
theorem find_any {w : World} {B p q : Nat} {v : Value} {l : List ByteArray} (h : Tb w B p v q l) (s : ByteArray) (hs : s.size ≤ 281474976710656) :
    Calls Tryz.prog 77 #[.pointer (some ⟨p, 0, none⟩), .string s] w fun e w' => e = .returned (.tuple #[.int .i64 (num l s : Int), .bool (inL l s)]) ∧ w' = w := by
  have c1 := h.c1
  obtain ⟨D, hD, hO⟩ := h.map
  have hk := WideMaps.keyOf_string_mk (P := Tryz.prog) (k := 9) Tryz.underlying9 (s := s) (by unfold maxLen; omega)
  have h1 := hO.1 s
  have h2 := hO.2 s
  clear hO h
  go_enter Tryz.func77, Tryz.ntmps77
  go_wp2_with (at_lookup; refine wpList_lookup_own_ok_int _ rfl _ _ 127 rfl 9 3 .i64 (string_keyed Tryz.underlying9) Tryz.underlying127 Tryz.underlying3 (n_zeroInt _) q l.length D rfl hD _ _ rfl hk ?_; intro c hat hwc)
  go_ret2
  rw [h2] at hat
  obtain rfl : (num l s : Int) = c := by injection hat with e; injection e
  exact ⟨rfl, rfl⟩
set_option maxHeartbeats 400000 in
theorem name_yes {w : World} {B p q : Nat} {v : Value} {l : List ByteArray} (h : Tb w B p v q l) (k : Nat) (hk : k < l.length) :
    Calls Tryz.prog 111 #[.pointer (some ⟨p, 0, none⟩), .int .i64 (k : Int)] w fun e w' => e = .returned (.tuple #[.string (l.getD k ⟨#[]⟩), .bool true]) ∧ w' = w := by
  have hlen := len_any h
  have hl := h.len
  have c0 := h.c0
  rcases h.rs with ⟨rfl, rfl⟩ | ⟨a, c, rfl, rfl⟩ | ⟨b, o, c, rfl, hc⟩
  · simp at hk
  · simp at hk
  · have hcx := hc k hk
    obtain ⟨x, hx⟩ : ∃ x, x = l.getD k ⟨#[]⟩ := ⟨_, rfl⟩
    rw [← hx] at hcx ⊢
    clear hx hc h
    go_enter Tryz.func111, Tryz.ntmps111
    go_wp2_with (go_at_call 108; refine hlen.mono ?_; rintro e w ⟨rfl, rfl⟩)
    go_ret2
    exact ⟨rfl, rfl⟩
end Go.Proofs.YtgmldkojldlekaaGreatDoor
