/- A region that draws its order, by one property that every operation keeps: as many steps as operations, not as many as orders. -/
import Derived.Test.YtcgkmenlacinjaaBiSpMZ
namespace Go.Proofs.Ytcgkmenlacinjaa
open Go.RowKit

theorem count_set : ∀ (l : List Bool) (i : Nat), l[i]? = some false → (l.set i true).count false + 1 = l.count false
  | [], _, h => by simp at h
  | b :: l, 0, h => by
    have : b = false := by simpa using h
    subst this
    simp
  | b :: l, i + 1, h => by
    have h1 := count_set l i (by simpa using h)
    cases b <;> simp <;> omega
theorem ready_spec {md : Region.Mode} {ops : Array Oper} {l : Array Bool} {i : Nat} (h : i ∈ Region.ready md ops l) : i < ops.size ∧ l.getD i true = false ∧ ((ops[i]?).map (·.after.all fun e => !Region.binds md e || l.getD e.on false)).getD false = true := by
  unfold Region.ready at h
  obtain ⟨h1, h2⟩ := List.mem_filter.1 h
  rw [Bool.and_eq_true] at h2
  exact ⟨List.mem_range.1 h1, by simpa using h2.1, h2.2⟩
theorem getD_false {l : Array Bool} {i : Nat} (h : l.getD i true = false) : l.toList[i]? = some false := by
  simp only [Array.getD_eq_getD_getElem?] at h
  cases e : l[i]? with
  | none => rw [e] at h; simp at h
  | some b =>
    rw [e] at h
    have : b = false := by simpa using h
    subst this
    simpa using e
theorem wpAny_inv {P : Program} {md : Region.Mode} {ops : Array Oper} {Q : Exit → Act → World → Prop} (I : Array Bool → Act → World → Prop)
    (hstep : ∀ l a w, I l a w → ∀ i, i ∈ Region.ready md ops l → wpOp P ops Q i (I (l.setIfInBounds i true)) a w)
    (hdone : ∀ l a w, I l a w → Region.ready md ops l = [] → Q .normal a w) :
    ∀ (fuel : Nat) (l : Array Bool) (a : Act) (w : World), l.toList.count false ≤ fuel → I l a w → wpAny P md ops Q fuel l a w
  | 0, l, a, w, hf, hI => by
    have h0 : Region.ready md ops l = [] := by
      cases e : Region.ready md ops l with
      | nil => rfl
      | cons i r =>
        have h1 := getD_false (ready_spec (i := i) (by rw [e]; simp)).2.1
        have h2 := count_set _ _ h1
        omega
    exact ⟨h0, hdone l a w hI h0⟩
  | fuel + 1, l, a, w, hf, hI => by
    refine ⟨fun h0 => hdone l a w hI h0, fun i hi => ?_⟩
    have h1 := getD_false (ready_spec hi).2.1
    have h2 := count_set _ _ h1
    refine wpOp_mono (fun a' w' h => wpAny_inv I hstep hdone fuel _ a' w' ?_ h) (hstep l a w hI i hi)
    rw [Array.toList_setIfInBounds]
    omega
end Go.Proofs.Ytcgkmenlacinjaa
