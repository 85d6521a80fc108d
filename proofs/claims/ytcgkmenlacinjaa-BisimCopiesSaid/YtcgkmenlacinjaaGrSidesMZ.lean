/- Two graphs beside one another, as plain mathematics. -/
import Derived.Test.YtcgkmenlacinjaaBiEZ
namespace Go.Proofs.Ytcgkmenlacinjaa
open Go.RowKit

theorem renum_zero (n : Nd) : renum (fun x => ((([] : List Nd).length : Nat) : Int) + x) n = n := by
  obtain ⟨k, s, u, a⟩ := n
  have h : a.map (fun x => ((([] : List Nd).length : Nat) : Int) + x) = a := by
    have : a.map (fun x => ((([] : List Nd).length : Nat) : Int) + x) = a.map id := List.map_congr_left (fun x _ => by simp)
    rw [this, List.map_id]
  simp only [renum, h]
theorem joinS_nil (a : Gf) : joinS ⟨[], []⟩ a = a := by
  obtain ⟨ns, rs⟩ := a
  have h1 : ns.map (renum (fun x => ((([] : List Nd).length : Nat) : Int) + x)) = ns := by
    have : ns.map (renum (fun x => ((([] : List Nd).length : Nat) : Int) + x)) = ns.map id := List.map_congr_left (fun x _ => renum_zero x)
    rw [this, List.map_id]
  have h2 : rs.map (fun x => ((([] : List Nd).length : Nat) : Int) + x) = rs := by
    have : rs.map (fun x => ((([] : List Nd).length : Nat) : Int) + x) = rs.map id := List.map_congr_left (fun x _ => by simp)
    rw [this, List.map_id]
  unfold joinS
  dsimp only
  rw [h1, h2]
  rfl
theorem join_one (a : Gf) : joinG [a] = a := joinS_nil a
theorem join_two (a b : Gf) : joinG [a, b] = joinS a b := by
  show joinS (joinS ⟨[], []⟩ a) b = joinS a b
  rw [joinS_nil]
theorem strange_mono {N M : Nat} {x : Int} (h : strange N x = false) (hN : N ≤ M) : strange M x = false := by
  have := strange_no h
  simp [strange]
  omega
theorem goodNd_args {N M : Nat} {n n' : Nd} (h : goodNd N n = true) (hk : n'.kind = n.kind) (hs : n'.name = n.name) (hu : n'.num = n.num) (hl : n'.args.length = n.args.length) (ha : ∀ x ∈ n'.args, 0 ≤ x ∧ x < (M : Int)) : goodNd M n' = true := by
  have hst : n'.args.any (strange M) = false := by
    rw [List.any_eq_false]
    intro x hx
    have := ha x hx
    simp [strange]
    omega
  unfold goodNd at h ⊢
  rw [hk, hs, hu, hl, hst]
  split
  · rename_i hk1
    rw [if_pos hk1] at h
    exact h
  · rename_i hk1
    rw [if_neg hk1] at h
    split
    · rename_i hk2
      rw [if_pos hk2] at h
      exact h
    · rename_i hk2
      rw [if_neg hk2] at h
      split
      · rename_i hk3
        rw [if_pos hk3] at h
        exact h
      · rename_i hk3
        rw [if_neg hk3] at h
        split
        · rename_i hk4
          rw [if_pos hk4] at h
          simp only [Bool.and_eq_true] at h ⊢
          exact ⟨h.1, rfl⟩
        · rename_i hk4
          rw [if_neg hk4] at h
          exact h
section
variable {a b : Gf}
theorem joinS_nodes : (joinS a b).nodes = a.nodes ++ b.nodes.map (renum (fun x => (a.nodes.length : Int) + x)) := rfl
theorem joinS_len : (joinS a b).nodes.length = a.nodes.length + b.nodes.length := by simp [joinS]
theorem joinS_left {x : Int} (h0 : 0 ≤ x) (h1 : x < a.nodes.length) : (joinS a b).argsOf x = a.argsOf x := by
  have hx : x.toNat < a.nodes.length := by omega
  unfold Gf.argsOf
  rw [joinS_nodes]
  simp [List.getD, List.getElem?_append_left hx]
theorem joinS_right {x : Int} (h0 : (a.nodes.length : Int) ≤ x) (h1 : x < ((joinS a b).nodes.length : Int)) : ∀ y ∈ (joinS a b).argsOf x, ∃ z ∈ b.argsOf (x - a.nodes.length), y = (a.nodes.length : Int) + z := by
  rw [joinS_len] at h1
  have hx : x.toNat = a.nodes.length + (x - a.nodes.length).toNat := by omega
  have hx2 : (x - (a.nodes.length : Int)).toNat < b.nodes.length := by omega
  intro y hy
  unfold Gf.argsOf at hy ⊢
  rw [joinS_nodes, hx] at hy
  simp only [List.getD, List.getElem?_append_right (Nat.le_add_right _ _), Nat.add_sub_cancel_left, List.getElem?_map, List.getElem?_eq_getElem hx2, Option.map_some, Option.getD_some, renum] at hy ⊢
  obtain ⟨z, hz, rfl⟩ := List.mem_map.1 hy
  exact ⟨z, hz, rfl⟩
theorem joinS_good_nodes (ha : Good a) (hb : Good b) : ∀ n ∈ (joinS a b).nodes, goodNd (joinS a b).nodes.length n = true := fun n hn => by
  rw [joinS_len]
  rw [joinS_nodes] at hn
  rcases List.mem_append.1 hn with h | h
  · have hg := ha.node n h
    exact goodNd_args hg rfl rfl rfl rfl (fun x hx => by have := (good_args hg).1 x hx; omega)
  · obtain ⟨n0, h0, rfl⟩ := List.mem_map.1 h
    have hg := hb.node n0 h0
    refine goodNd_args hg rfl rfl rfl (by simp [renum]) (fun x hx => ?_)
    obtain ⟨z, hz, rfl⟩ := List.mem_map.1 hx
    have := (good_args hg).1 z hz
    omega
theorem left_good (ha : Good a) (hb : Good b) (hs : a.nodes.length + b.nodes.length ≤ 4096) : Good ⟨(joinS a b).nodes, a.roots⟩ :=
  ⟨by show (joinS a b).nodes.length ≤ 4096; rw [joinS_len]; exact hs, ha.roots, joinS_good_nodes ha hb, fun x hx => by
    have := ha.root x hx
    show 0 ≤ x ∧ x < ((joinS a b).nodes.length : Int)
    rw [joinS_len]
    omega⟩
theorem right_good (ha : Good a) (hb : Good b) (hs : a.nodes.length + b.nodes.length ≤ 4096) : Good ⟨(joinS a b).nodes, b.roots.map (fun x => (a.nodes.length : Int) + x)⟩ :=
  ⟨by show (joinS a b).nodes.length ≤ 4096; rw [joinS_len]; exact hs, by simpa using hb.roots, joinS_good_nodes ha hb, fun x hx => by
    obtain ⟨z, hz, rfl⟩ := List.mem_map.1 hx
    have := hb.root z hz
    show 0 ≤ (a.nodes.length : Int) + z ∧ (a.nodes.length : Int) + z < ((joinS a b).nodes.length : Int)
    rw [joinS_len]
    omega⟩
theorem join_good2 (ha : Good a) (hb : Good b) (hs : a.nodes.length + b.nodes.length ≤ 4096) (hr : a.roots.length + b.roots.length ≤ 4096) : Good (joinS a b) :=
  ⟨by rw [joinS_len]; exact hs, by simpa [joinS] using hr, joinS_good_nodes ha hb, fun x hx => by
    rcases List.mem_append.1 hx with h | h
    · exact (left_good ha hb hs).root x h
    · exact (right_good ha hb hs).root x h⟩
theorem left_met (ha : Good a) : ∀ x ∈ metF ⟨(joinS a b).nodes, a.roots⟩, 0 ≤ x ∧ x < (a.nodes.length : Int) :=
  meet_in (fun x => 0 ≤ x ∧ x < (a.nodes.length : Int)) (fun x hx y hy => by
    have e : (⟨(joinS a b).nodes, a.roots⟩ : Gf).argsOf x = (joinS a b).argsOf x := rfl
    rw [e, joinS_left hx.1 hx.2] at hy
    exact (ha.args hx.1 hx.2).1 y hy) _ _ _ ha.root (by simp)
theorem right_met (hb : Good b) : ∀ x ∈ metF ⟨(joinS a b).nodes, b.roots.map (fun x => (a.nodes.length : Int) + x)⟩, (a.nodes.length : Int) ≤ x ∧ x < ((joinS a b).nodes.length : Int) :=
  meet_in (fun x => (a.nodes.length : Int) ≤ x ∧ x < ((joinS a b).nodes.length : Int)) (fun x hx y hy => by
    have e : (⟨(joinS a b).nodes, b.roots.map (fun x => (a.nodes.length : Int) + x)⟩ : Gf).argsOf x = (joinS a b).argsOf x := rfl
    rw [e] at hy
    obtain ⟨z, hz, rfl⟩ := joinS_right hx.1 hx.2 y hy
    rw [joinS_len] at hx ⊢
    have := (hb.args (x := x - a.nodes.length) (by omega) (by omega)).1 z hz
    omega) _ _ _ (fun x hx => by
    obtain ⟨z, hz, rfl⟩ := List.mem_map.1 hx
    have := hb.root z hz
    rw [joinS_len]
    omega) (by simp)
theorem join_path (ha : Good a) : ∀ (path : List Int) (x : Int), 0 ≤ x → x < (a.nodes.length : Int) → goF (joinS a b) x path = goF a x path
  | [], _, _, _ => rfl
  | s :: r, x, h0, h1 => by
    have e := joinS_left (b := b) h0 h1
    simp only [goF, e]
    split
    · rfl
    · rename_i hs
      have hlt : s.toNat < (a.argsOf x).length := by omega
      have := (ha.args h0 h1).1 _ (getD_mem hlt)
      exact join_path ha r _ this.1 this.2
end
/-- Join of two small graphs refuses just where one of them is not good. -/
theorem joinC_two (a b : Gf) (h1 : a.nodes.length + b.nodes.length ≤ 4096) (h2 : a.roots.length + b.roots.length ≤ 4096) :
    (joinC [a, b] = [] ∧ Good a ∧ Good b) ∨ (joinC [a, b] ≠ [] ∧ (one (chk a) ≠ [] ∨ (one (chk a) = [] ∧ one (chk b) ≠ []))) := by
  have t1 : totN [a, b] = a.nodes.length + b.nodes.length := by simp [totN]
  have t2 : totR [a, b] = a.roots.length + b.roots.length := by simp [totR]
  by_cases ga : one (chk a) = []
  · by_cases gb : one (chk b) = []
    · refine Or.inl ⟨?_, chk_good ga, chk_good gb⟩
      have hx : ixOf badG [a, b] = -1 := by simp [ixOf, badG, ga, gb]
      unfold joinC
      rw [hx, if_neg (by omega), if_neg (by omega), if_neg (by omega)]
    · refine Or.inr ⟨?_, Or.inr ⟨ga, gb⟩⟩
      have hx : ixOf badG [a, b] = 1 := by simp [ixOf, badG, ga, gb]
      unfold joinC
      rw [hx, if_pos (by omega)]
      simp
  · refine Or.inr ⟨?_, Or.inl ga⟩
    have hx : ixOf badG [a, b] = 0 := by simp [ixOf, badG, ga]
    unfold joinC
    rw [hx, if_pos (by omega)]
    simp
end Go.Proofs.Ytcgkmenlacinjaa
