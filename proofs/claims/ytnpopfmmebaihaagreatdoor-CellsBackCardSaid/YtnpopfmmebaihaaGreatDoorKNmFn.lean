/- What the small functions of package names do, each at every argument; faults, and the question whether an error is just a fault. -/
import Derived.Test.YtnpopfmmebaihaaGreatDoorKNmMem
import Derived.Deep.QuietTactic
import Derived.BigQuiet
import Derived.StringKeys
namespace Go.Proofs.YtnpopfmmebaihaaGreatDoor
open Go.RowKit Go.Maps

theorem n_byte_at (s : ByteArray) (k : Nat) (h : k < s.size) : s.data.toList[k]? = some s[k] := by
  rw [List.getElem?_eq_getElem (by simpa using h)]
  rfl
theorem n_goodS_byte {s : ByteArray} (h : n_goodS s = true) (k : Nat) (hk : k < s.size) : 33 ≤ (s[k].toNat : Int) ∧ (s[k].toNat : Int) ≤ 126 := by
  simp only [n_goodS, Bool.and_eq_true, List.all_eq_true, decide_eq_true_eq] at h
  have := h.2 s[k] (List.mem_of_getElem? (n_byte_at s k hk))
  omega
theorem n_goodS_of {s : ByteArray} (h1 : 1 ≤ s.size) (h2 : s.size ≤ 32) (h : ∀ k (hk : k < s.size), 33 ≤ (s[k].toNat : Int) ∧ (s[k].toNat : Int) ≤ 126) : n_goodS s = true := by
  simp only [n_goodS, Bool.and_eq_true, List.all_eq_true, decide_eq_true_eq]
  refine ⟨⟨h1, h2⟩, fun x hx => ?_⟩
  obtain ⟨k, hk, rfl⟩ := List.getElem_of_mem hx
  have hk' : k < s.size := by simpa using hk
  have := h k hk'
  have e : s.data.toList[k] = s[k] := rfl
  rw [e]
  omega
theorem n_goodS_no {s : ByteArray} (k : Nat) (hk : k < s.size) (h : ¬ (33 ≤ (s[k].toNat : Int) ∧ (s[k].toNat : Int) ≤ 126)) : n_goodS s = false := by
  cases hg : n_goodS s with
  | false => rfl
  | true => exact absurd (n_goodS_byte hg k hk) h
theorem n_goodS_short {s : ByteArray} (h : s.size < 1 ∨ 32 < s.size) : n_goodS s = false := by
  cases hg : n_goodS s with
  | false => rfl
  | true => have := n_goodS_size hg; omega
set_option maxRecDepth 100000 in
set_option maxHeartbeats 1000000 in
theorem n_good_any (s : ByteArray) (w : World) (hs : s.size ≤ 281474976710656) :
    Calls Tryz.prog 89 #[.string s] w fun e w' => e = .returned (.bool (n_goodS s)) ∧ w' = w := by
  by_cases h1 : s.size < 1
  · have hG : Hid (n_goodS s = false) := n_goodS_short (Or.inl h1)
    go_enter Tryz.func89, Tryz.ntmps89
    go_wp2
    go_ret
    exact ⟨n_ret_bool hG.out.symm, rfl⟩
  · by_cases h2 : 32 < s.size
    · have hG : Hid (n_goodS s = false) := n_goodS_short (Or.inr h2)
      go_enter Tryz.func89, Tryz.ntmps89
      go_wp2
      go_ret
      exact ⟨n_ret_bool hG.out.symm, rfl⟩
    · go_enter Tryz.func89, Tryz.ntmps89
      go_wp2
      go_loop [14] (fun i => ∃ k : Nat, k ≤ s.size ∧ i = .int .i64 k ∧ Hid (∀ j (hj : j < s.size), j < k → 33 ≤ (s[j].toNat : Int) ∧ (s[j].toNat : Int) ≤ 126)) (fun i => s.size - (intOf i).toNat)
      case atStart => exact ⟨0, by omega, rfl, fun j hj h0 => by omega⟩
      case round =>
        obtain ⟨k, hk, rfl, hm⟩ := hrel
        by_cases hlt : k < s.size
        · by_cases hd : 33 ≤ (s[k].toNat : Int)
          · by_cases hd' : (s[k].toNat : Int) ≤ 126
            · have hst : Hid (∀ j (hj : j < s.size), j < k + 1 → 33 ≤ (s[j].toNat : Int) ∧ (s[j].toNat : Int) ≤ 126) := fun j hj h0 => by
                rcases Nat.lt_or_eq_of_le (Nat.le_of_lt_succ h0) with h3 | h3
                · exact hm.out j hj h3
                · subst h3
                  exact ⟨hd, hd'⟩
              go_wp2
              exact ⟨⟨k + 1, by omega, congrArg (Value.int .i64) (by omega), hst⟩, by simp [intOf]; omega⟩
            · have hG : Hid (n_goodS s = false) := n_goodS_no k hlt (by omega)
              go_wp2
              go_ret
              exact ⟨n_ret_bool hG.out.symm, rfl⟩
          · have hG : Hid (n_goodS s = false) := n_goodS_no k hlt (by omega)
            go_wp2
            go_ret
            exact ⟨n_ret_bool hG.out.symm, rfl⟩
        · have hG : Hid (n_goodS s = true) := n_goodS_of (by omega) (by omega) (fun j hj => hm.out j hj (by omega))
          go_wp2
          go_ret
          exact ⟨n_ret_bool hG.out.symm, rfl⟩
set_option maxRecDepth 100000 in
set_option maxHeartbeats 400000 in
theorem n_fault_any (c : Int) (s : ByteArray) (w : World) :
    Calls Tryz.prog 119 #[.int .i64 c, .string s] w fun e w' => e = .returned (.iface 109 (.pointer (some ⟨w.heap.size, 0, none⟩))) ∧ w' = w.alloc (n_faultObj c (-1) s) := by
  go_enter Tryz.func119, Tryz.ntmps119
  go_wp2
  go_ret
  exact ⟨rfl, rfl⟩
set_option maxRecDepth 100000 in
set_option maxHeartbeats 400000 in
theorem new_any (w : World) (B : Nat) (hB : B ≤ w.heap.size) :
    Calls Tryz.prog 32 #[] w fun e w' => e = .returned (.pointer (some ⟨w.heap.size + 1, 0, none⟩)) ∧ Tb w' B (w.heap.size + 1) (.slice none 0 0) w.heap.size [] ∧ Below w.heap.size w w' := by
  have hmm := @run_makeMap Tryz.prog
  go_enter Tryz.func32, Tryz.ntmps32
  go_wp2
  go_ret
  have h1 := (World.ownsMap_made w Tryz.prog 9 (plainElem (H := Unit) Tryz.prog 3))
  refine ⟨by simp, ⟨?_, by omega, World.ownsRow_nil _ _ _ _, hB, ⟨_, h1.alloc _, mapOf_nil⟩, by simp, by simp, List.nodup_nil⟩, ((Below.refl _ w).alloc (Nat.le_refl _) _).alloc (by simp) _⟩
  have := heap_alloc_new (w.alloc (.map #[] 0)) (.cells #[.slice none 0 0, .map (some w.heap.size)] 139 (0, 0))
  simpa using this
set_option maxRecDepth 100000 in
set_option maxHeartbeats 400000 in
theorem len_any {w : World} {B p q : Nat} {v : Value} {l : List ByteArray} (h : Tb w B p v q l) :
    Calls Tryz.prog 120 #[.pointer (some ⟨p, 0, none⟩)] w fun e w' => e = .returned (.int .i64 (l.length : Int)) ∧ w' = w := by
  obtain ⟨ao, cap, rfl, _⟩ := h.val
  have c0 := h.c0
  go_enter Tryz.func120, Tryz.ntmps120
  go_wp2
  go_ret
  exact ⟨rfl, rfl⟩
set_option maxRecDepth 100000 in
set_option maxHeartbeats 400000 in
theorem len_nil (w : World) :
    Calls Tryz.prog 120 #[.pointer none] w fun e w' => e = .returned (.int .i64 0) ∧ w' = w := by
  go_enter Tryz.func120, Tryz.ntmps120
  go_wp2
  go_ret
  exact ⟨rfl, rfl⟩
theorem n_zeroInt (w : World) : (zeroValue 3).run Tryz.prog w = .ok (.int .i64 0) w := by kernel_rfl
set_option maxRecDepth 100000 in
set_option maxHeartbeats 400000 in
theorem find_any {w : World} {B p q : Nat} {v : Value} {l : List ByteArray} (h : Tb w B p v q l) (s : ByteArray) (hs : s.size ≤ 281474976710656) :
    Calls Tryz.prog 83 #[.pointer (some ⟨p, 0, none⟩), .string s] w fun e w' => e = .returned (.tuple #[.int .i64 (num l s : Int), .bool (inL l s)]) ∧ w' = w := by
  have c1 := h.c1
  obtain ⟨D, hD, hO⟩ := h.map
  have hk := WideMaps.keyOf_string_mk (P := Tryz.prog) (k := 9) Tryz.underlying9 (s := s) (by unfold maxLen; omega)
  have h1 := hO.1 s
  have h2 := hO.2 s
  clear hO h
  go_enter Tryz.func83, Tryz.ntmps83
  go_wp2_with (at_lookup; refine wpList_lookup_own_ok_int _ rfl _ _ 137 rfl 9 3 .i64 (string_keyed Tryz.underlying9) Tryz.underlying137 Tryz.underlying3 (n_zeroInt _) q l.length D rfl hD _ _ rfl hk ?_; intro c hat hwc)
  go_ret2
  rw [h2] at hat
  obtain rfl : (num l s : Int) = c := by injection hat with e; injection e
  exact ⟨rfl, rfl⟩
set_option maxRecDepth 100000 in
set_option maxHeartbeats 400000 in
theorem find_nil (s : ByteArray) (w : World) :
    Calls Tryz.prog 83 #[.pointer none, .string s] w fun e w' => e = .returned (.tuple #[.int .i64 0, .bool false]) ∧ w' = w := by
  go_enter Tryz.func83, Tryz.ntmps83
  go_wp2
  go_ret2
  exact ⟨rfl, rfl⟩
set_option maxRecDepth 100000 in
set_option maxHeartbeats 400000 in
theorem name_nil (n : Int) (w : World) :
    Calls Tryz.prog 133 #[.pointer none, .int .i64 n] w fun e w' => e = .returned (.tuple #[.string ⟨#[]⟩, .bool false]) ∧ w' = w := by
  by_cases h : n < 0
  · go_enter Tryz.func133, Tryz.ntmps133
    go_wp2
    go_ret2
    exact ⟨rfl, rfl⟩
  · go_enter Tryz.func133, Tryz.ntmps133
    go_wp2_with (go_at_call 120; refine (len_nil _).mono ?_; rintro e w ⟨rfl, rfl⟩)
    go_ret2
    exact ⟨rfl, rfl⟩
set_option maxRecDepth 100000 in
set_option maxHeartbeats 400000 in
theorem name_yes {w : World} {B p q : Nat} {v : Value} {l : List ByteArray} (h : Tb w B p v q l) (k : Nat) (hk : k < l.length) :
    Calls Tryz.prog 133 #[.pointer (some ⟨p, 0, none⟩), .int .i64 (k : Int)] w fun e w' => e = .returned (.tuple #[.string (l.getD k ⟨#[]⟩), .bool true]) ∧ w' = w := by
  have hlen := len_any h
  have hl := h.len
  have c0 := h.c0
  rcases h.rs with ⟨rfl, rfl⟩ | ⟨a, c, rfl, rfl⟩ | ⟨b, o, c, rfl, hc⟩
  · simp at hk
  · simp at hk
  · have hcx := hc k hk
    obtain ⟨x, hx⟩ : ∃ x, x = l.getD k ⟨#[]⟩ := ⟨_, rfl⟩
    rw [← hx] at hcx ⊢
    clear hx hc h
    go_enter Tryz.func133, Tryz.ntmps133
    go_wp2_with (go_at_call 120; refine hlen.mono ?_; rintro e w ⟨rfl, rfl⟩)
    go_ret2
    exact ⟨rfl, rfl⟩
set_option maxRecDepth 100000 in
set_option maxHeartbeats 400000 in
theorem name_no {w : World} {B p q : Nat} {v : Value} {l : List ByteArray} (h : Tb w B p v q l) (n : Int) (h1 : -9223372036854775808 ≤ n) (h2 : n ≤ 9223372036854775807) (hn : n < 0 ∨ (l.length : Int) ≤ n) :
    Calls Tryz.prog 133 #[.pointer (some ⟨p, 0, none⟩), .int .i64 n] w fun e w' => e = .returned (.tuple #[.string ⟨#[]⟩, .bool false]) ∧ w' = w := by
  have hlen := len_any h
  have hl := h.len
  clear h
  by_cases h0 : n < 0
  · go_enter Tryz.func133, Tryz.ntmps133
    go_wp2
    go_ret2
    exact ⟨rfl, rfl⟩
  · have h3 : (l.length : Int) ≤ n := by omega
    go_enter Tryz.func133, Tryz.ntmps133
    go_wp2_with (go_at_call 120; refine hlen.mono ?_; rintro e w ⟨rfl, rfl⟩)
    go_ret2
    exact ⟨rfl, rfl⟩
end Go.Proofs.YtnpopfmmebaihaaGreatDoor
