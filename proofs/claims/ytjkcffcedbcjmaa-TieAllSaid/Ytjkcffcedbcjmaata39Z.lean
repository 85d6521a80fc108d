/- Both sides of an equation are one node: mathematics. -/
import Derived.Test.Ytjkcffcedbcjmaata37Z
import Derived.Test.Ytjkcffcedbcjmaata33Z
namespace Go.Proofs.Ytjkcffcedbcjmaa
set_option maxRecDepth 100000
open Go.RowKit
theorem flatQ_names (ns : List ByteArray) : ∀ (qs : List (ByteArray × Ex)) (p : Nat), (flatQ ns p qs).1.map (·.1) = qs.map (fun q => ixN ns q.1)
  | [], p => by rw [flatQ]; rfl
  | q :: r, p => by rw [flatQ, List.map_cons, List.map_cons, flatQ_names ns r]
theorem bind_keep : ∀ (ps : List (Nat × Nat)) (E : Nat → Nat) (x y : Nat), E x = E y → bindAll E ps x = bindAll E ps y
  | [], E, x, y, h => h
  | p :: r, E, x, y, h => bind_keep r (bindE E p) x y (by unfold bindE; rw [h])
theorem bind_fix (M : Nat) : ∀ (ps : List (Nat × Nat)) (E : Nat → Nat), (∀ p ∈ ps, p.1 < M) → (∀ z, M ≤ z → E z = z) → ∀ z, M ≤ z → bindAll E ps z = z
  | [], E, _, h, z, hz => h z hz
  | p :: r, E, hp, h, z, hz => bind_fix M r (bindE E p) (fun q hq => hp q (by simp [hq])) (fun y hy => by
      have h1 := hp p (by simp)
      unfold bindE
      rw [h y hy, if_neg (by omega)]) z hz
theorem bind_pair : ∀ (ps : List (Nat × Nat)) (E : Nat → Nat), (ps.map (·.1)).Nodup → (∀ p ∈ ps, E p.1 = p.1) → ∀ p ∈ ps, bindAll E ps p.1 = bindAll E ps p.2
  | q :: r, E, hn, h, p, hp => by
    have hn' : q.1 ∉ r.map (·.1) ∧ (r.map (·.1)).Nodup := by simpa using hn
    rcases List.mem_cons.1 hp with rfl | hp
    · refine bind_keep r (bindE E p) p.1 p.2 ?_
      have := h p (by simp)
      unfold bindE
      rw [if_pos this]
      split
      · rfl
      · rfl
    · refine bind_pair r (bindE E q) hn'.2 (fun t ht => ?_) p hp
      have h1 := h t (by simp [ht])
      have h2 : t.1 ≠ q.1 := fun e => hn'.1 (List.mem_map.2 ⟨t, ht, e⟩)
      unfold bindE
      rw [h1, if_neg h2]
theorem names_nodup {qs : List (ByteArray × Ex)} {ns : List ByteArray} (hq : GoodQ qs) (hin : ∀ q ∈ qs, inN ns q.1 = true) : (qs.map (fun q => ixN ns q.1)).Nodup := by
  unfold List.Nodup
  rw [List.pairwise_iff_getElem]
  intro i j hi hj hij e
  have hj' : j < qs.length := by simpa using hj
  have hi' : i < qs.length := by simpa using hi
  have hne := hq.nd i j hij hj'
  simp only [List.getD, List.getElem?_eq_getElem hi', List.getElem?_eq_getElem hj', Option.getD_some] at hne
  rw [List.getElem_map, List.getElem_map] at e
  exact hne (ixN_inj (hin _ (List.getElem_mem hi')) (hin _ (List.getElem_mem hj')) e)
end Go.Proofs.Ytjkcffcedbcjmaa
