/- isMark and opens of package parse. -/
import Derived.Test.YtklfnphkepfmaaaGreatDoorPsFn5
namespace Go.Proofs.YtklfnphkepfmaaaGreatDoor
open Go.RowKit
attribute [local go_sem] tok_kind tok_text tok_num tok_at

/-- A slice tells these texts. -/
def Rz (w : World) (v : Value) (l : List ByteArray) : Prop :=
  ∃ ao c, v = .slice ao l.length c ∧ ∀ j, j < l.length → ∃ b o, ao = some ⟨b, o, none⟩ ∧ w.cell? ⟨b, o + j, none⟩ = some (.string (l.getD j ⟨#[]⟩))
/-- The first place of a text from j on. -/
def ixS (s : ByteArray) : List ByteArray → Int → Int
  | [], _ => -1
  | x :: r, j => if s.toList == x.toList then j else ixS s r (j + 1)
theorem ixS_step {s : ByteArray} : ∀ {l : List ByteArray} {k : Nat} {j : Int}, k < l.length → ixS s (l.drop k) j = if s.toList == (l.getD k ⟨#[]⟩).toList then j else ixS s (l.drop (k + 1)) (j + 1)
  | [], _, _, h => by simp at h
  | x :: r, 0, j, _ => by simp [ixS]
  | x :: r, k + 1, j, h => by
    have := ixS_step (s := s) (l := r) (k := k) (j := j) (by simpa using h)
    simpa using this
set_option maxRecDepth 100000 in
set_option maxHeartbeats 4000000 in
theorem index_texts {w : World} {v : Value} {l : List ByteArray} (h : Rz w v l) (hl : l.length ≤ 1000) (s : ByteArray) :
    Calls Tryz.prog 162 #[v, .string s] w fun e w' => e = .returned (.int .i64 (ixS s l 0)) ∧ w' = w := by
  obtain ⟨ao, c, rfl, hc⟩ := h
  have hfin : Hid (ixS s (l.drop l.length) (l.length : Int) = -1) := by simp [Hid, ixS]
  have hst : Hid (∀ j, j < l.length → ixS s (l.drop j) (j : Int) = if s.toList == (l.getD j ⟨#[]⟩).toList then (j : Int) else ixS s (l.drop (j + 1)) ((j : Int) + 1)) := fun j hj => ixS_step hj
  have h0 : Hid (ixS s (l.drop 0) ((0 : Nat) : Int) = ixS s l 0) := by simp [Hid]
  generalize ixS s l 0 = X at *
  generalize hF : (fun (j : Nat) (i : Int) => ixS s (l.drop j) i) = F at *
  have hF' : ∀ j i, ixS s (l.drop j) i = F j i := fun j i => by rw [← hF]
  simp only [hF'] at hfin hst h0
  clear hF hF'
  generalize hG : (fun j => l.getD j (⟨#[]⟩ : ByteArray)) = G at *
  have hG' : ∀ j, l.getD j (⟨#[]⟩ : ByteArray) = G j := fun j => by rw [← hG]
  simp only [hG'] at hst hc
  clear hG hG'
  generalize l.length = N at *
  go_enter Tryz.func162, Tryz.ntmps162
  go_wp2
  go_loop [8] (fun i => ∃ m : Nat, m ≤ N ∧ i = .int .i64 (m : Int) ∧ Hid (F m (m : Int) = X)) (fun i => N - (intOf i).toNat)
  case atStart => exact ⟨0, Nat.zero_le _, rfl, h0⟩
  case round =>
    obtain ⟨m, hm, rfl, hX⟩ := hrel
    by_cases hlm : m < N
    · obtain ⟨b, o, hao, hcell⟩ := hc m hlm
      subst hao
      have hs := hst.out m hlm
      rw [hX.out] at hs
      have hlm2 : (m : Int) < (N : Int) := by omega
      cases e : (s.toList == (G m).toList) with
      | true =>
        rw [e, if_pos rfl] at hs
        clear hX hst hc
        go_wp2
        go_ret
        exact ⟨rfl, rfl⟩
      | false =>
        rw [e, if_neg (by decide)] at hs
        replace hs := hid hs
        clear hX hst hc
        go_wp2
        go_round
        case rel => exact ⟨m + 1, by omega, by go_num, hs.out.symm⟩
        case measure => simp [intOf]; omega
    · obtain rfl : m = N := by omega
      have hs := hfin.out
      rw [hX.out] at hs
      clear hX hst hc hfin
      go_wp2
      go_ret
      exact ⟨rfl, rfl⟩
/-- Whether a text is among others. -/
def inS (s : ByteArray) (l : List ByteArray) : Bool := l.any (fun x => s.toList == x.toList)
theorem ixS_in {s : ByteArray} : ∀ {l : List ByteArray} {j : Nat}, decide (0 ≤ ixS s l (j : Int)) = inS s l
  | [], j => by simp [ixS, inS]
  | x :: r, j => by
    unfold ixS inS
    rw [List.any_cons]
    split
    · rename_i e
      rw [e]
      simp
    · rename_i e
      have := ixS_in (s := s) (l := r) (j := j + 1)
      have e' : (s.toList == x.toList) = false := by simpa using e
      rw [e', Bool.false_or]
      rw [show ((j : Int) + 1) = ((j + 1 : Nat) : Int) by omega]
      exact this
set_option maxRecDepth 100000 in
set_option maxHeartbeats 4000000 in
theorem contains_texts {w : World} {v : Value} {l : List ByteArray} (h : Rz w v l) (hl : l.length ≤ 1000) (s : ByteArray) :
    Calls Tryz.prog 150 #[v, .string s] w fun e w' => e = .returned (.bool (inS s l)) ∧ w' = w := by
  have hx := index_texts h hl s
  have he : decide (0 ≤ ixS s l 0) = inS s l := ixS_in (j := 0)
  rw [← he]
  clear he h
  generalize ixS s l 0 = X at *
  go_enter Tryz.func150, Tryz.ntmps150
  go_wp2_with (go_at_call 162; refine hx.mono ?_; rintro e w1 ⟨rfl, rfl⟩)
  go_ret
  exact ⟨rfl, rfl⟩
theorem Rz.below {w w' : World} {v : Value} {l : List ByteArray} (h : Rz w v l) (hb : Below w.heap.size w w') : Rz w' v l := by
  obtain ⟨ao, c, rfl, h⟩ := h
  refine ⟨ao, c, rfl, fun j hj => ?_⟩
  obtain ⟨b, o, hao, hc⟩ := h j hj
  exact ⟨b, o, hao, by rw [hb.cell (p := ⟨b, o + j, none⟩) (lt_of_cell hc)]; exact hc⟩
set_option maxRecDepth 100000 in
set_option maxHeartbeats 4000000 in
theorem isMark_any {w : World} {v : Value} {l : List ByteArray} (h : Rz w v l) (hl : l.length ≤ 1000) (t : Tk) :
    Calls Tryz.prog 136 #[tokV t, v] w fun e w' => e = .returned (.bool (t.kind == 4 && inS t.text l)) ∧ Below w.heap.size w w' := by
  obtain ⟨tk, tt, tn, ta, te⟩ := t
  have hb0 := below_alloc w (tokObj ⟨tk, tt, tn, ta, te⟩)
  have hx := contains_texts (h.below hb0) hl tt
  have hq := heap_alloc_new w (tokObj ⟨tk, tt, tn, ta, te⟩)
  unfold tokObj at *
  dsimp only at *
  obtain ⟨⟨q0, q1, q2, q3, q4⟩, _⟩ := blk5 hq
  unfold tokV
  dsimp only
  clear h
  generalize inS tt l = B at *
  by_cases e0 : tk = 4
  · subst e0
    go_enter Tryz.func136, Tryz.ntmps136
    go_wp2_with (go_at_call 150; refine hx.mono ?_; rintro e w1 ⟨rfl, rfl⟩)
    go_ret
    exact ⟨rfl, hb0⟩
  · have e1 : (tk == 4) = false := beq_eq_false_iff_ne.2 e0
    go_enter Tryz.func136, Tryz.ntmps136
    go_wp2
    go_ret
    exact ⟨by rw [e1]; rfl, hb0⟩
end Go.Proofs.YtklfnphkepfmaaaGreatDoor
