/- The graph of terms with variables of its names behind them: the same nodes, and each such root is its name's node. Mathematics. -/
import Derived.Test.Ytncileojdighnaana46Z
import Derived.Test.Ytncileojdighnaana37Z
import Derived.Test.Ytncileojdighnaana29Z
namespace Go.Proofs.Ytncileojdighnaa
set_option maxRecDepth 100000
open Go.RowKit
theorem nodup_putS {l : List ByteArray} {s : ByteArray} (h : l.Nodup) : (putS l s).Nodup := by
  unfold putS
  split
  · exact h
  · rename_i hn
    refine List.nodup_append.2 ⟨h, by simp, fun a ha b hb e => ?_⟩
    simp at hb
    subst hb e
    exact hn (inN_iff.2 ha)
mutual
theorem nodup_namX : ∀ (l : List ByteArray) (x : Ex), l.Nodup → (namX l x).Nodup
  | l, .mk k n m xs, h => by
    rw [namX]
    split
    · exact nodup_namXs _ xs (nodup_putS h)
    · exact nodup_namXs _ xs h
theorem nodup_namXs : ∀ (l : List ByteArray) (xs : List Ex), l.Nodup → (namXs l xs).Nodup
  | l, [], h => by rw [namXs]; exact h
  | l, x :: r, h => by rw [namXs]; exact nodup_namXs _ r (nodup_namX l x h)
end
theorem nodup_namQ : ∀ (l : List ByteArray) (qs : List (ByteArray × Ex)), l.Nodup → (namQ l qs).Nodup
  | l, [], h => by rw [namQ]; exact h
  | l, q :: r, h => by rw [namQ]; exact nodup_namQ _ r (nodup_namX _ q.2 (nodup_putS h))
theorem nodup_namA (xs : List Ex) (qs : List (ByteArray × Ex)) : (namA xs qs).Nodup := nodup_namQ _ qs (nodup_namXs [] xs List.nodup_nil)
theorem inN_put {l : List ByteArray} {s x : ByteArray} (h : inN (putS l s) x = true) : inN l x = true ∨ x = s := by
  unfold putS at h
  split at h
  · exact Or.inl h
  · rw [inN_snoc, Bool.or_eq_true] at h
    rcases h with h | h
    · exact Or.inl h
    · exact Or.inr (of_decide_eq_true h).symm
mutual
theorem namX_or (l2 : List ByteArray) : ∀ (l : List ByteArray) (x : Ex) (s : ByteArray), inN (namX l x) s = true → inN l s = true ∨ inN (namX l2 x) s = true
  | l, .mk k n m xs, s, h => by
    rw [namX] at h ⊢
    split at h
    · rename_i hk
      rw [if_pos hk]
      rcases namXs_or (putS l2 n) _ xs s h with h1 | h1
      · rcases inN_put h1 with h2 | h2
        · exact Or.inl h2
        · subst h2
          exact Or.inr (inN_namXs _ xs _ (inN_self l2 s))
      · exact Or.inr h1
    · rename_i hk
      rw [if_neg hk]
      exact namXs_or l2 _ xs s h
theorem namXs_or (l2 : List ByteArray) : ∀ (l : List ByteArray) (xs : List Ex) (s : ByteArray), inN (namXs l xs) s = true → inN l s = true ∨ inN (namXs l2 xs) s = true
  | l, [], s, h => by rw [namXs] at h; exact Or.inl h
  | l, x :: r, s, h => by
    rw [namXs] at h ⊢
    rcases namXs_or (namX l2 x) _ r s h with h1 | h1
    · rcases namX_or l2 l x s h1 with h2 | h2
      · exact Or.inl h2
      · exact Or.inr (inN_namXs _ r s h2)
    · exact Or.inr h1
end
theorem namQ_or (l2 : List ByteArray) : ∀ (l : List ByteArray) (qs : List (ByteArray × Ex)) (s : ByteArray), inN (namQ l qs) s = true → inN l s = true ∨ inN (namQ l2 qs) s = true
  | l, [], s, h => by rw [namQ] at h; exact Or.inl h
  | l, q :: r, s, h => by
    rw [namQ] at h ⊢
    rcases namQ_or (namX (putS l2 q.1) q.2) _ r s h with h1 | h1
    · rcases namX_or (putS l2 q.1) _ q.2 s h1 with h2 | h2
      · rcases inN_put h2 with h3 | h3
        · exact Or.inl h3
        · subst h3
          exact Or.inr (inN_namQ _ r _ (inN_namX _ q.2 _ (inN_self l2 q.1)))
      · exact Or.inr (inN_namQ _ r s h2)
    · exact Or.inr h1
abbrev vX (s : ByteArray) : Ex := .mk 1 s 0 []
structure Sg (ns ns' : List ByteArray) : Prop where
  nd : ns.Nodup
  nd' : ns'.Nodup
  mem : ∀ s, inN ns s = true ↔ inN ns' s = true
theorem ixN_getD : ∀ {l : List ByteArray}, l.Nodup → ∀ {j : Nat}, j < l.length → ixN l (l.getD j ⟨#[]⟩) = j
  | x :: r, h, 0, _ => by simp [ixN]
  | x :: r, h, j + 1, hj => by
    have hn := List.nodup_cons.1 h
    have hj' : j < r.length := by simpa using hj
    have hne : ¬ x = r.getD j ⟨#[]⟩ := fun e => hn.1 (by rw [e]; simp [List.getD, hj'])
    rw [List.getD_cons_succ, ixN, if_neg hne, ixN_getD hn.2 hj']
theorem sg_le {ns ns' : List ByteArray} (h : Sg ns ns') : ns.length ≤ ns'.length := by
  have h1 := pigeon ns'.length (ns.map (fun s => ((ixN ns' s : Nat) : Int))) (by
    unfold List.Nodup
    rw [List.pairwise_iff_getElem]
    intro i j hi hj hij e
    have hi' : i < ns.length := by simpa using hi
    have hj' : j < ns.length := by simpa using hj
    rw [List.getElem_map, List.getElem_map] at e
    have e1 := ixN_inj ((h.mem _).1 (inN_iff.2 (List.getElem_mem hi'))) ((h.mem _).1 (inN_iff.2 (List.getElem_mem hj'))) (by omega)
    have h2 := List.pairwise_iff_getElem.1 h.nd i j hi' hj' hij
    exact h2 e1) (fun x hx => by
    obtain ⟨s, hs, rfl⟩ := List.mem_map.1 hx
    have := ixN_lt ((h.mem s).1 (inN_iff.2 hs))
    omega)
  simpa using h1
theorem Sg.symm {ns ns' : List ByteArray} (h : Sg ns ns') : Sg ns' ns := ⟨h.nd', h.nd, fun s => (h.mem s).symm⟩
theorem sg_len {ns ns' : List ByteArray} (h : Sg ns ns') : ns'.length = ns.length := Nat.le_antisymm (sg_le h.symm) (sg_le h)
section
variable {ns ns' : List ByteArray}
theorem sg_in {z : Nat} (hz : z < ns.length) : inN ns (ns.getD z ⟨#[]⟩) = true := inN_iff.2 (by simp [List.getD, hz])
end
theorem map_getD_nd {l : List Nd} {F : Nd → Nd} {z : Nat} (h : z < l.length) : (l.map F).getD z nd0 = F (l.getD z nd0) := by simp [List.getD, h]
end Go.Proofs.Ytncileojdighnaa

namespace Go.Proofs.Ytncileojdighnaa
set_option maxRecDepth 100000
open Go.RowKit
theorem flatQ_names (ns : List ByteArray) : ∀ (qs : List (ByteArray × Ex)) (p : Nat), (flatQ ns p qs).1.map (·.1) = qs.map (fun q => ixN ns q.1)
  | [], p => by rw [flatQ]; rfl
  | q :: r, p => by rw [flatQ, List.map_cons, List.map_cons, flatQ_names ns r]
theorem bind_keep : ∀ (ps : List (Nat × Nat)) (E : Nat → Nat) (x y : Nat), E x = E y → bindAll E ps x = bindAll E ps y
  | [], E, x, y, h => h
  | p :: r, E, x, y, h => bind_keep r (bindE E p) x y (by unfold bindE; rw [h])
theorem bind_fix (M : Nat) : ∀ (ps : List (Nat × Nat)) (E : Nat → Nat), (∀ p ∈ ps, p.1 < M) → (∀ z, M ≤ z → E z = z) → ∀ z, M ≤ z → bindAll E ps z = z
  | [], E, _, h, z, hz => h z hz
  | p :: r, E, hp, h, z, hz => bind_fix M r (bindE E p) (fun q hq => hp q (by simp [hq])) (fun y hy => by
      have h1 := hp p (by simp)
      unfold bindE
      rw [h y hy, if_neg (by omega)]) z hz
theorem bind_pair : ∀ (ps : List (Nat × Nat)) (E : Nat → Nat), (ps.map (·.1)).Nodup → (∀ p ∈ ps, E p.1 = p.1) → ∀ p ∈ ps, bindAll E ps p.1 = bindAll E ps p.2
  | q :: r, E, hn, h, p, hp => by
    have hn' : q.1 ∉ r.map (·.1) ∧ (r.map (·.1)).Nodup := by simpa using hn
    rcases List.mem_cons.1 hp with rfl | hp
    · refine bind_keep r (bindE E p) p.1 p.2 ?_
      have := h p (by simp)
      unfold bindE
      rw [if_pos this]
      split
      · rfl
      · rfl
    · refine bind_pair r (bindE E q) hn'.2 (fun t ht => ?_) p hp
      have h1 := h t (by simp [ht])
      have h2 : t.1 ≠ q.1 := fun e => hn'.1 (List.mem_map.2 ⟨t, ht, e⟩)
      unfold bindE
      rw [h1, if_neg h2]
theorem names_nodup {qs : List (ByteArray × Ex)} {ns : List ByteArray} (hq : GoodQ qs) (hin : ∀ q ∈ qs, inN ns q.1 = true) : (qs.map (fun q => ixN ns q.1)).Nodup := by
  unfold List.Nodup
  rw [List.pairwise_iff_getElem]
  intro i j hi hj hij e
  have hj' : j < qs.length := by simpa using hj
  have hi' : i < qs.length := by simpa using hi
  have hne := hq.nd i j hij hj'
  simp only [List.getD, List.getElem?_eq_getElem hi', List.getElem?_eq_getElem hj', Option.getD_some] at hne
  rw [List.getElem_map, List.getElem_map] at e
  exact hne (ixN_inj (hin _ (List.getElem_mem hi')) (hin _ (List.getElem_mem hj')) e)
end Go.Proofs.Ytncileojdighnaa
