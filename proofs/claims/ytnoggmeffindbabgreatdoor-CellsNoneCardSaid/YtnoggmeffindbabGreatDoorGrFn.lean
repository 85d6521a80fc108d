/- The small functions of layer 4: names, faults, and the first place at which a function says yes. -/
import Derived.Test.YtnoggmeffindbabGreatDoorGrMem
import Derived.Deep.QuietTactic
import Derived.BigQuiet
import Derived.Shelf.Abstract
namespace Go.Proofs.YtnoggmeffindbabGreatDoor
open Go.RowKit

theorem byte_at (s : ByteArray) (k : Nat) (h : k < s.size) : s.data.toList[k]? = some s[k] := by
  rw [List.getElem?_eq_getElem (by simpa using h)]
  rfl
theorem goodS_byte {s : ByteArray} (h : goodS s = true) (k : Nat) (hk : k < s.size) : 33 ≤ (s[k].toNat : Int) ∧ (s[k].toNat : Int) ≤ 126 := by
  simp only [goodS, Bool.and_eq_true, List.all_eq_true, decide_eq_true_eq] at h
  have := h.2 s[k] (List.mem_of_getElem? (byte_at s k hk))
  omega
theorem goodS_of {s : ByteArray} (h1 : 1 ≤ s.size) (h2 : s.size ≤ 32) (h : ∀ k (hk : k < s.size), 33 ≤ (s[k].toNat : Int) ∧ (s[k].toNat : Int) ≤ 126) : goodS s = true := by
  simp only [goodS, Bool.and_eq_true, List.all_eq_true, decide_eq_true_eq]
  refine ⟨⟨h1, h2⟩, fun x hx => ?_⟩
  obtain ⟨k, hk, rfl⟩ := List.getElem_of_mem hx
  have hk' : k < s.size := by simpa using hk
  have := h k hk'
  have e : s.data.toList[k] = s[k] := rfl
  rw [e]
  omega
theorem goodS_no {s : ByteArray} (k : Nat) (hk : k < s.size) (h : ¬ (33 ≤ (s[k].toNat : Int) ∧ (s[k].toNat : Int) ≤ 126)) : goodS s = false := by
  cases hg : goodS s with
  | false => rfl
  | true => exact absurd (goodS_byte hg k hk) h
theorem goodS_short {s : ByteArray} (h : s.size < 1 ∨ 32 < s.size) : goodS s = false := by
  cases hg : goodS s with
  | false => rfl
  | true => have := goodS_size hg; omega
set_option maxHeartbeats 1000000 in
theorem good_any (s : ByteArray) (w : World) (hs : s.size ≤ 9223372036854775807) :
    Calls Tryz.prog 129 #[.string s] w fun e w' => e = .returned (.bool (goodS s)) ∧ w' = w := by
  by_cases h1 : s.size < 1
  · have hG : Hid (goodS s = false) := goodS_short (Or.inl h1)
    go_enter Tryz.func129, Tryz.ntmps129
    go_wp2
    go_ret
    exact ⟨ret_bool hG.out.symm, rfl⟩
  · by_cases h2 : 32 < s.size
    · have hG : Hid (goodS s = false) := goodS_short (Or.inr h2)
      go_enter Tryz.func129, Tryz.ntmps129
      go_wp2
      go_ret
      exact ⟨ret_bool hG.out.symm, rfl⟩
    · go_enter Tryz.func129, Tryz.ntmps129
      go_wp2
      go_loop [14] (fun i => ∃ k : Nat, k ≤ s.size ∧ i = .int .i64 k ∧ Hid (∀ j (hj : j < s.size), j < k → 33 ≤ (s[j].toNat : Int) ∧ (s[j].toNat : Int) ≤ 126)) (fun i => s.size - (intOf i).toNat)
      case atStart => exact ⟨0, by omega, rfl, fun j hj h0 => by omega⟩
      case round =>
        obtain ⟨k, hk, rfl, hm⟩ := hrel
        by_cases hlt : k < s.size
        · by_cases hd : 33 ≤ (s[k].toNat : Int)
          · by_cases hd' : (s[k].toNat : Int) ≤ 126
            · have hst : Hid (∀ j (hj : j < s.size), j < k + 1 → 33 ≤ (s[j].toNat : Int) ∧ (s[j].toNat : Int) ≤ 126) := fun j hj h0 => by
                rcases Nat.lt_or_eq_of_le (Nat.le_of_lt_succ h0) with h3 | h3
                · exact hm.out j hj h3
                · subst h3
                  exact ⟨hd, hd'⟩
              go_wp2
              exact ⟨⟨k + 1, by omega, congrArg (Value.int .i64) (by omega), hst⟩, by simp [intOf]; omega⟩
            · have hG : Hid (goodS s = false) := goodS_no k hlt (by omega)
              go_wp2
              go_ret
              exact ⟨ret_bool hG.out.symm, rfl⟩
          · have hG : Hid (goodS s = false) := goodS_no k hlt (by omega)
            go_wp2
            go_ret
            exact ⟨ret_bool hG.out.symm, rfl⟩
        · have hG : Hid (goodS s = true) := goodS_of (by omega) (by omega) (fun j hj => hm.out j hj (by omega))
          go_wp2
          go_ret
          exact ⟨ret_bool hG.out.symm, rfl⟩
set_option maxHeartbeats 400000 in
theorem fault_any (c a : Int) (w : World) :
    Calls Tryz.prog 117 #[.int .i64 c, .int .i64 a] w fun e w' => e = .returned (.iface 126 (.pointer (some ⟨w.heap.size, 0, none⟩))) ∧ w' = w.alloc (faultObj c a .nilIface) := by
  go_enter Tryz.func117, Tryz.ntmps117
  go_wp2
  go_ret
  exact ⟨rfl, rfl⟩
/-- A fault made anew. -/
theorem fault_er (c a : Int) (hc : c ≠ 0) (w : World) :
    Calls Tryz.prog 117 #[.int .i64 c, .int .i64 a] w fun e w' => (∃ ev b, e = .returned ev ∧ ev = .iface 126 (.pointer (some ⟨b, 0, none⟩)) ∧ Er w' ev [(c, a)]) ∧ Below w.heap.size w w' := by
  refine (fault_any c a w).mono ?_
  rintro e w' ⟨rfl, rfl⟩
  exact ⟨⟨_, _, rfl, rfl, hc, _, _, rfl, heap_alloc_new w _, rfl⟩, below_alloc _ _⟩
set_option maxHeartbeats 1000000 in
/-- slices.IndexFunc over numbers; the function may change what I and T allow. -/
theorem index_ints (f : Nat) (cb : Array Value) (eg : ∀ args w, (callFunc f args).run Tryz.prog w = .ok (.enter f args) w) (v : Value) (l : List Int) (p : Nat → Bool) (I T : Nat → World → Prop) (W : World) (hl : l.length ≤ 5000)
    (hr : ∀ k w, I k w → Ri w v l) (hs : ∀ k w, k < l.length → I k w → Calls Tryz.prog f (#[.int .i64 (l.getD k 0)] ++ cb) w fun e w' => e = .returned (.bool (p k)) ∧ (p k = true → T k w') ∧ (p k = false → I (k + 1) w')) (h0 : I 0 W) :
    Calls Tryz.prog 95 #[v, .func (.func f) #[] cb] W fun e w' => (∃ k : Nat, k < l.length ∧ (∀ j, j < k → p j = false) ∧ p k = true ∧ e = .returned (.int .i64 k) ∧ T k w') ∨ ((∀ j, j < l.length → p j = false) ∧ e = .returned (.int .i64 (-1)) ∧ I l.length w') := by
  obtain ⟨ao, c, rfl, _⟩ := hr 0 W h0
  go_enter Tryz.func95, Tryz.ntmps95
  go_wp2
  go_loopw [5, 8] (fun _ i wr => ∃ k : Nat, k ≤ l.length ∧ i = .int .i64 k ∧ Hid (I k wr) ∧ Hid (∀ j, j < k → p j = false)) (fun _ i _ => l.length - (intOf i).toNat)
  case atStart => exact ⟨0, Nat.zero_le _, rfl, h0, fun j hj => absurd hj (Nat.not_lt_zero _)⟩
  case round =>
    obtain ⟨k, hk, rfl, hI, hp⟩ := hrel
    by_cases hlt : k < l.length
    · obtain ⟨b, o, hc⟩ : ∃ b o, ao = some ⟨b, o, none⟩ ∧ wr.cell? ⟨b, o + k, none⟩ = some (.int .i64 (l.getD k 0)) := by
        obtain ⟨ao', c', h1, h2⟩ := hr k wr hI.out
        obtain ⟨b, o, h3, h4⟩ := h2 k hlt
        injection h1 with h1 _ _
        exact ⟨b, o, h1.trans h3, h4⟩
      obtain ⟨rfl, hc⟩ := hc
      have hcall := hs k wr hlt hI.out
      generalize l.getD k 0 = x at hc hcall
      clear hs hr h0
      cases hq : p k with
      | true =>
        have hq' : Hid (p k = true) := hq
        rw [hq] at hcall
        clear hq
        go_wp2_with (go_at_fn f; refine hcall.mono ?_; rintro e w' ⟨rfl, hT, _⟩)
        go_ret
        exact Or.inl ⟨k, hlt, hp.out, hq'.out, rfl, hT (by trivial)⟩
      | false =>
        have hq' : Hid (p k = false) := hq
        rw [hq] at hcall
        clear hq
        go_wp2_with (go_at_fn f; refine hcall.mono ?_; rintro e w' ⟨rfl, _, hT⟩)
        go_roundw
        case rel =>
          refine ⟨k + 1, by omega, congrArg (Value.int .i64) (by omega), hT (by trivial), (show Hid _ from fun j hj => ?_)⟩
          rcases Nat.lt_or_eq_of_le (Nat.le_of_lt_succ hj) with h | h
          · exact hp.out j h
          · subst h; exact hq'.out
        case measure => simp [intOf]; omega
    · have hkl : Hid (k = l.length) := show k = l.length by omega
      clear hs hr h0
      go_wp2
      go_ret
      refine Or.inr ⟨?_, rfl, ?_⟩
      · rw [← hkl.out]; exact hp.out
      · rw [← hkl.out]; exact hI.out
end Go.Proofs.YtnoggmeffindbabGreatDoor
