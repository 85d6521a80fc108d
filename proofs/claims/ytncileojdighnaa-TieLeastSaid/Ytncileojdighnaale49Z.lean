/- The graph of terms with variables of its names behind them: the same nodes, and each such root is its name's node. Mathematics. -/
import Derived.Test.Ytncileojdighnaale47Z
import Derived.Test.Ytncileojdighnaale37Z
import Derived.Test.Ytncileojdighnaale29Z
namespace Go.Proofs.Ytncileojdighnaa
set_option maxRecDepth 100000
open Go.RowKit
theorem nodup_putS {l : List ByteArray} {s : ByteArray} (h : l.Nodup) : (putS l s).Nodup := by
  unfold putS
  split
  · exact h
  · rename_i hn
    refine List.nodup_append.2 ⟨h, by simp, fun a ha b hb e => ?_⟩
    simp at hb
    subst hb e
    exact hn (inN_iff.2 ha)
mutual
theorem nodup_namX : ∀ (l : List ByteArray) (x : Ex), l.Nodup → (namX l x).Nodup
  | l, .mk k n m xs, h => by
    rw [namX]
    split
    · exact nodup_namXs _ xs (nodup_putS h)
    · exact nodup_namXs _ xs h
theorem nodup_namXs : ∀ (l : List ByteArray) (xs : List Ex), l.Nodup → (namXs l xs).Nodup
  | l, [], h => by rw [namXs]; exact h
  | l, x :: r, h => by rw [namXs]; exact nodup_namXs _ r (nodup_namX l x h)
end
theorem nodup_namQ : ∀ (l : List ByteArray) (qs : List (ByteArray × Ex)), l.Nodup → (namQ l qs).Nodup
  | l, [], h => by rw [namQ]; exact h
  | l, q :: r, h => by rw [namQ]; exact nodup_namQ _ r (nodup_namX _ q.2 (nodup_putS h))
theorem nodup_namA (xs : List Ex) (qs : List (ByteArray × Ex)) : (namA xs qs).Nodup := nodup_namQ _ qs (nodup_namXs [] xs List.nodup_nil)
theorem inN_put {l : List ByteArray} {s x : ByteArray} (h : inN (putS l s) x = true) : inN l x = true ∨ x = s := by
  unfold putS at h
  split at h
  · exact Or.inl h
  · rw [inN_snoc, Bool.or_eq_true] at h
    rcases h with h | h
    · exact Or.inl h
    · exact Or.inr (of_decide_eq_true h).symm
mutual
theorem namX_or (l2 : List ByteArray) : ∀ (l : List ByteArray) (x : Ex) (s : ByteArray), inN (namX l x) s = true → inN l s = true ∨ inN (namX l2 x) s = true
  | l, .mk k n m xs, s, h => by
    rw [namX] at h ⊢
    split at h
    · rename_i hk
      rw [if_pos hk]
      rcases namXs_or (putS l2 n) _ xs s h with h1 | h1
      · rcases inN_put h1 with h2 | h2
        · exact Or.inl h2
        · subst h2
          exact Or.inr (inN_namXs _ xs _ (inN_self l2 s))
      · exact Or.inr h1
    · rename_i hk
      rw [if_neg hk]
      exact namXs_or l2 _ xs s h
theorem namXs_or (l2 : List ByteArray) : ∀ (l : List ByteArray) (xs : List Ex) (s : ByteArray), inN (namXs l xs) s = true → inN l s = true ∨ inN (namXs l2 xs) s = true
  | l, [], s, h => by rw [namXs] at h; exact Or.inl h
  | l, x :: r, s, h => by
    rw [namXs] at h ⊢
    rcases namXs_or (namX l2 x) _ r s h with h1 | h1
    · rcases namX_or l2 l x s h1 with h2 | h2
      · exact Or.inl h2
      · exact Or.inr (inN_namXs _ r s h2)
    · exact Or.inr h1
end
theorem namQ_or (l2 : List ByteArray) : ∀ (l : List ByteArray) (qs : List (ByteArray × Ex)) (s : ByteArray), inN (namQ l qs) s = true → inN l s = true ∨ inN (namQ l2 qs) s = true
  | l, [], s, h => by rw [namQ] at h; exact Or.inl h
  | l, q :: r, s, h => by
    rw [namQ] at h ⊢
    rcases namQ_or (namX (putS l2 q.1) q.2) _ r s h with h1 | h1
    · rcases namX_or (putS l2 q.1) _ q.2 s h1 with h2 | h2
      · rcases inN_put h2 with h3 | h3
        · exact Or.inl h3
        · subst h3
          exact Or.inr (inN_namQ _ r _ (inN_namX _ q.2 _ (inN_self l2 q.1)))
      · exact Or.inr (inN_namQ _ r s h2)
    · exact Or.inr h1
abbrev vX (s : ByteArray) : Ex := .mk 1 s 0 []
theorem namXs_cat : ∀ (l : List ByteArray) (xs ys : List Ex), namXs l (xs ++ ys) = namXs (namXs l xs) ys
  | l, [], ys => by rw [List.nil_append, namXs]
  | l, x :: r, ys => by rw [List.cons_append, namXs, namXs, namXs_cat _ r ys]
theorem namXs_vars : ∀ (l ss : List ByteArray) (s : ByteArray), inN (namXs l (ss.map vX)) s = true → inN l s = true ∨ s ∈ ss
  | l, [], s, h => by
    rw [List.map_nil, namXs] at h
    exact Or.inl h
  | l, y :: r, s, h => by
    rw [List.map_cons, namXs, vX, namX, namXs] at h
    rcases namXs_vars _ r s h with h1 | h1
    · split at h1
      · rcases inN_put h1 with h2 | h2
        · exact Or.inl h2
        · exact Or.inr (by simp [h2])
      · exact Or.inl h1
    · exact Or.inr (by simp [h1])
structure Sg (ns ns' : List ByteArray) : Prop where
  nd : ns.Nodup
  nd' : ns'.Nodup
  mem : ∀ s, inN ns s = true ↔ inN ns' s = true
theorem ixN_getD : ∀ {l : List ByteArray}, l.Nodup → ∀ {j : Nat}, j < l.length → ixN l (l.getD j ⟨#[]⟩) = j
  | x :: r, h, 0, _ => by simp [ixN]
  | x :: r, h, j + 1, hj => by
    have hn := List.nodup_cons.1 h
    have hj' : j < r.length := by simpa using hj
    have hne : ¬ x = r.getD j ⟨#[]⟩ := fun e => hn.1 (by rw [e]; simp [List.getD, hj'])
    rw [List.getD_cons_succ, ixN, if_neg hne, ixN_getD hn.2 hj']
theorem sg_le {ns ns' : List ByteArray} (h : Sg ns ns') : ns.length ≤ ns'.length := by
  have h1 := pigeon ns'.length (ns.map (fun s => ((ixN ns' s : Nat) : Int))) (by
    unfold List.Nodup
    rw [List.pairwise_iff_getElem]
    intro i j hi hj hij e
    have hi' : i < ns.length := by simpa using hi
    have hj' : j < ns.length := by simpa using hj
    rw [List.getElem_map, List.getElem_map] at e
    have e1 := ixN_inj ((h.mem _).1 (inN_iff.2 (List.getElem_mem hi'))) ((h.mem _).1 (inN_iff.2 (List.getElem_mem hj'))) (by omega)
    have h2 := List.pairwise_iff_getElem.1 h.nd i j hi' hj' hij
    exact h2 e1) (fun x hx => by
    obtain ⟨s, hs, rfl⟩ := List.mem_map.1 hx
    have := ixN_lt ((h.mem s).1 (inN_iff.2 hs))
    omega)
  simpa using h1
theorem Sg.symm {ns ns' : List ByteArray} (h : Sg ns ns') : Sg ns' ns := ⟨h.nd', h.nd, fun s => (h.mem s).symm⟩
theorem sg_len {ns ns' : List ByteArray} (h : Sg ns ns') : ns'.length = ns.length := Nat.le_antisymm (sg_le h.symm) (sg_le h)
def sgF (ns ns' : List ByteArray) (z : Nat) : Nat := if z < ns.length then ixN ns' (ns.getD z ⟨#[]⟩) else z
def sgI (ns ns' : List ByteArray) (z : Int) : Int := ((sgF ns ns' z.toNat : Nat) : Int)
section
variable {ns ns' : List ByteArray}
theorem sg_in {z : Nat} (hz : z < ns.length) : inN ns (ns.getD z ⟨#[]⟩) = true := inN_iff.2 (by simp [List.getD, hz])
theorem sg_lt (h : Sg ns ns') {z : Nat} (hz : z < ns.length) : sgF ns ns' z < ns.length := by
  unfold sgF
  rw [if_pos hz, ← sg_len h]
  exact ixN_lt ((h.mem _).1 (sg_in hz))
theorem sg_ge {z : Nat} (hz : ns.length ≤ z) : sgF ns ns' z = z := by
  unfold sgF
  rw [if_neg (by omega)]
theorem sg_inj (h : Sg ns ns') {x y : Nat} (e : sgF ns ns' x = sgF ns ns' y) : x = y := by
  by_cases hx : x < ns.length
  · by_cases hy : y < ns.length
    · unfold sgF at e
      rw [if_pos hx, if_pos hy] at e
      have e1 := ixN_inj ((h.mem _).1 (sg_in hx)) ((h.mem _).1 (sg_in hy)) e
      have e2 := ixN_getD h.nd hx
      rw [e1, ixN_getD h.nd hy] at e2
      exact e2.symm
    · have h1 := sg_lt h hx
      rw [e, sg_ge (by omega)] at h1
      omega
  · rw [sg_ge (by omega)] at e
    by_cases hy : y < ns.length
    · have h1 := sg_lt h hy
      rw [← e] at h1
      omega
    · rw [sg_ge (by omega)] at e
      exact e
theorem sg_ix {s : ByteArray} (hs : inN ns s = true) : sgF ns ns' (ixN ns s) = ixN ns' s := by
  unfold sgF
  rw [if_pos (ixN_lt hs), ixN_at hs]
theorem sg_up (h : Sg ns ns') {z N : Nat} (hN : ns.length ≤ N) (hz : z < N) : sgF ns ns' z < N := by
  by_cases h1 : z < ns.length
  · have := sg_lt h h1; omega
  · rw [sg_ge (by omega)]; exact hz
mutual
theorem flat_sg : ∀ (p : Nat) (x : Ex), ns.length ≤ p → okX ns x → flatX ns' p x = (sgF ns ns' (flatX ns p x).1, (flatX ns p x).2.map (renum (sgI ns ns')))
  | p, .mk k n m xs, hp, hok => by
    rw [flatX, flatX]
    by_cases hk : (decide (k = 1) && !isU n) = true
    · rw [if_pos hk, if_pos hk]
      simp only [List.map_nil]
      rw [sg_ix (hok.1 hk)]
    · rw [if_neg hk, if_neg hk]
      by_cases h1 : k = 1
      · rw [if_pos h1, if_pos h1]
        simp only [sg_ge hp]
        rfl
      · rw [if_neg h1, if_neg h1]
        have ih := flats_sg (p + 1) xs (by omega) hok.2
        rw [ih]
        simp only [sg_ge hp]
        rfl
theorem flats_sg : ∀ (p : Nat) (xs : List Ex), ns.length ≤ p → okXs ns xs → flatXs ns' p xs = ((flatXs ns p xs).1.map (sgI ns ns'), (flatXs ns p xs).2.map (renum (sgI ns ns')))
  | p, [], _, _ => by rw [flatXs, flatXs]; rfl
  | p, x :: r, hp, hok => by
    have h1 := flat_sg p x hp hok.1
    rw [flatXs, flatXs, h1]
    simp only [List.length_map]
    rw [flats_sg (p + (flatX ns p x).2.length) r (by omega) hok.2]
    simp [sgI]
end
theorem flatQ_sg : ∀ (p : Nat) (qs : List (ByteArray × Ex)), ns.length ≤ p → (∀ q ∈ qs, inN ns q.1 = true ∧ okX ns q.2) → flatQ ns' p qs = ((flatQ ns p qs).1.map (fun y => (sgF ns ns' y.1, sgF ns ns' y.2)), (flatQ ns p qs).2.map (renum (sgI ns ns')))
  | p, [], _, _ => by rw [flatQ, flatQ]; rfl
  | p, q :: r, hp, hok => by
    have h0 := hok q (by simp)
    have h1 := flat_sg (ns' := ns') p q.2 hp h0.2
    rw [flatQ, flatQ, h1]
    simp only [List.length_map]
    rw [flatQ_sg (p + (flatX ns p q.2).2.length) r (by omega) (fun y hy => hok y (by simp [hy]))]
    simp [sg_ix h0.1]
theorem bind_sg {F : Nat → Nat} (hF : ∀ x y, F x = F y → x = y) : ∀ (ps : List (Nat × Nat)) (E E' : Nat → Nat), (∀ x, E' (F x) = F (E x)) → ∀ x, bindAll E' (ps.map (fun y => (F y.1, F y.2))) (F x) = F (bindAll E ps x)
  | [], E, E', h, x => h x
  | p :: r, E, E', h, x => by
    refine bind_sg hF r (bindE E p) (bindE E' (F p.1, F p.2)) (fun y => ?_) x
    unfold bindE
    simp only [h]
    by_cases e : E y = p.1
    · rw [if_pos (by rw [e]), if_pos e]
    · rw [if_neg (fun e2 => e (hF _ _ e2)), if_neg e]
end
theorem flats_cat (ns : List ByteArray) : ∀ (p : Nat) (xs ys : List Ex), flatXs ns p (xs ++ ys) = ((flatXs ns p xs).1 ++ (flatXs ns (p + (flatXs ns p xs).2.length) ys).1, (flatXs ns p xs).2 ++ (flatXs ns (p + (flatXs ns p xs).2.length) ys).2)
  | p, [], ys => by
    have e : flatXs ns p [] = ([], []) := by rw [flatXs]
    rw [List.nil_append, e]
    simp
  | p, x :: r, ys => by
    have e : flatXs ns p (x :: r) = (((flatX ns p x).1 : Int) :: (flatXs ns (p + (flatX ns p x).2.length) r).1, (flatX ns p x).2 ++ (flatXs ns (p + (flatX ns p x).2.length) r).2) := by rw [flatXs]
    rw [List.cons_append, flatXs, flats_cat ns _ r ys, e]
    simp [Nat.add_assoc]
theorem flats_vars (ns : List ByteArray) : ∀ (p : Nat) (ss : List ByteArray), (∀ s ∈ ss, isU s = false) → flatXs ns p (ss.map vX) = (ss.map (fun s => ((ixN ns s : Nat) : Int)), [])
  | p, [], _ => by rw [List.map_nil, flatXs]; rfl
  | p, s :: r, h => by
    have h0 : flatX ns p (vX s) = (ixN ns s, []) := by
      rw [vX, flatX, if_pos (by rw [h s (by simp)]; rfl)]
    rw [List.map_cons, flatXs, h0, flats_vars ns _ r (fun y hy => h y (by simp [hy]))]
    simp
mutual
theorem namX_isU : ∀ (l : List ByteArray) (x : Ex), (∀ s ∈ l, isU s = false) → ∀ s ∈ namX l x, isU s = false
  | l, .mk k n m xs, h => by
    rw [namX]
    split
    · rename_i hk
      refine namXs_isU _ xs (fun s hs => ?_)
      rcases inN_put (inN_iff.2 hs) with h1 | h1
      · exact h s (inN_iff.1 h1)
      · subst h1
        rw [Bool.and_eq_true] at hk
        simpa using hk.2
    · exact namXs_isU _ xs h
theorem namXs_isU : ∀ (l : List ByteArray) (xs : List Ex), (∀ s ∈ l, isU s = false) → ∀ s ∈ namXs l xs, isU s = false
  | l, [], h => by rw [namXs]; exact h
  | l, x :: r, h => by rw [namXs]; exact namXs_isU _ r (namX_isU l x h)
end
theorem namQ_isU : ∀ (l : List ByteArray) (qs : List (ByteArray × Ex)), (∀ s ∈ l, isU s = false) → (∀ q ∈ qs, isU q.1 = false) → ∀ s ∈ namQ l qs, isU s = false
  | l, [], h, _ => by rw [namQ]; exact h
  | l, q :: r, h, hq => by
    rw [namQ]
    refine namQ_isU _ r (namX_isU _ q.2 (fun s hs => ?_)) (fun y hy => hq y (by simp [hy]))
    rcases inN_put (inN_iff.2 hs) with h1 | h1
    · exact h s (inN_iff.1 h1)
    · subst h1
      exact hq q (by simp)
theorem namA_isU {xs : List Ex} {qs : List (ByteArray × Ex)} (hq : ∀ q ∈ qs, isU q.1 = false) : ∀ s ∈ namA xs qs, isU s = false := namQ_isU _ qs (namXs_isU [] xs (by simp)) hq
theorem more_sg (xs : List Ex) (qs : List (ByteArray × Ex)) {ss : List ByteArray} (hss : ∀ s ∈ ss, s ∈ namA xs qs) : Sg (namA xs qs) (namA (xs ++ ss.map vX) qs) := by
  refine ⟨nodup_namA _ _, nodup_namA _ _, fun s => ⟨fun h => ?_, fun h => ?_⟩⟩
  · unfold namA at h ⊢
    rcases namQ_or (namXs [] (xs ++ ss.map vX)) _ qs s h with h1 | h1
    · rw [namXs_cat]
      exact inN_namQ _ qs s (inN_namXs _ _ s h1)
    · exact h1
  · unfold namA at h
    rcases namQ_or (namXs [] xs) _ qs s h with h1 | h1
    · rw [namXs_cat] at h1
      rcases namXs_vars _ ss s h1 with h2 | h2
      · exact inN_namQ _ qs s h2
      · exact inN_iff.2 (hss s h2)
    · exact h1
theorem nmd_at (e : Nat → Nat → Bool) (g : Gf) (E : Nat → Nat) (ns : List ByteArray) : ∀ (m : Nat) (p : ByteArray × Int), p ∈ nmdF e g E ns m → ∃ j, j < m ∧ p = (ns.getD j ⟨#[]⟩, posF (metF (quoF e g)) (clsI e g.nodes.length ((E j : Nat) : Int))) ∧ clsI e g.nodes.length ((E j : Nat) : Int) ∈ metF (quoF e g)
  | 0, p, h => by simp [nmdF] at h
  | m + 1, p, h => by
    rw [nmdF] at h
    split at h
    · rename_i hc
      rcases List.mem_append.1 h with h | h
      · obtain ⟨j, h1, h2⟩ := nmd_at e g E ns m p h
        exact ⟨j, by omega, h2⟩
      · simp at h
        exact ⟨m, by omega, h, hc⟩
    · obtain ⟨j, h1, h2⟩ := nmd_at e g E ns m p h
      exact ⟨j, by omega, h2⟩
theorem map_getD_nd {l : List Nd} {F : Nd → Nd} {z : Nat} (h : z < l.length) : (l.map F).getD z nd0 = F (l.getD z nd0) := by simp [List.getD, h]
structure More (xs : List Ex) (qs : List (ByteArray × Ex)) (ss : List ByteArray) (F : Nat → Nat) : Prop where
  len : (tieN (xs ++ ss.map vX) qs).length = (tieN xs qs).length
  nd : ∀ z, z < (tieN xs qs).length → F z < (tieN xs qs).length ∧ (tieN (xs ++ ss.map vX) qs).getD (F z) nd0 = renum (EI F) ((tieN xs qs).getD z nd0)
  inj : ∀ x y, F x = F y → x = y
  rt : tieR (xs ++ ss.map vX) qs = (tieR xs qs).map (EI F) ++ ss.map (fun s => ((F (ixN (namA xs qs) s) : Nat) : Int))
  ed : ∀ x, tieE (xs ++ ss.map vX) qs (F x) = F (tieE xs qs x)
theorem tie_more {xs : List Ex} {qs : List (ByteArray × Ex)} {ss : List ByteArray} (hss : ∀ s ∈ ss, s ∈ namA xs qs) (hq : ∀ q ∈ qs, isU q.1 = false) : More xs qs ss (sgF (namA xs qs) (namA (xs ++ ss.map vX) qs)) := by
  have hsg := more_sg xs qs hss
  obtain ⟨a1, a2, a3⟩ := tie_flat xs qs
  obtain ⟨b1, b2, b3⟩ := tie_flat (xs ++ ss.map vX) qs
  have hU : ∀ s ∈ ss, isU s = false := fun s hs => namA_isU hq s (hss s hs)
  have hx := okA_x xs qs
  have hqq := okA_q xs qs
  have hin : ∀ s ∈ ss, inN (namA xs qs) s = true := fun s hs => inN_iff.2 (hss s hs)
  suffices key : (tieN (xs ++ ss.map vX) qs).length = (tieN xs qs).length ∧ (∀ z, z < (tieN xs qs).length → sgF (namA xs qs) (namA (xs ++ ss.map vX) qs) z < (tieN xs qs).length ∧ (tieN (xs ++ ss.map vX) qs).getD (sgF (namA xs qs) (namA (xs ++ ss.map vX) qs) z) nd0 = renum (EI (sgF (namA xs qs) (namA (xs ++ ss.map vX) qs))) ((tieN xs qs).getD z nd0)) ∧ tieR (xs ++ ss.map vX) qs = (tieR xs qs).map (EI (sgF (namA xs qs) (namA (xs ++ ss.map vX) qs))) ++ ss.map (fun s => ((sgF (namA xs qs) (namA (xs ++ ss.map vX) qs) (ixN (namA xs qs) s) : Nat) : Int)) ∧ ∀ x, tieE (xs ++ ss.map vX) qs (sgF (namA xs qs) (namA (xs ++ ss.map vX) qs) x) = sgF (namA xs qs) (namA (xs ++ ss.map vX) qs) (tieE xs qs x) from ⟨key.1, key.2.1, fun x y e => sg_inj hsg e, key.2.2.1, key.2.2.2⟩
  have hE1 : tieE xs qs = bindAll id (tieP xs qs) := rfl
  have hE2 : tieE (xs ++ ss.map vX) qs = bindAll id (tieP (xs ++ ss.map vX) qs) := rfl
  generalize tieN xs qs = N at *
  generalize tieR xs qs = R at *
  generalize tieP xs qs = P at *
  generalize tieN (xs ++ ss.map vX) qs = N' at *
  generalize tieR (xs ++ ss.map vX) qs = R' at *
  generalize tieP (xs ++ ss.map vX) qs = P' at *
  generalize namA (xs ++ ss.map vX) qs = ns' at *
  generalize namA xs qs = ns at *
  have hl := sg_len hsg
  rw [hl, flats_cat, flats_sg ns.length xs (Nat.le_refl _) hx] at b1 b2 b3
  rw [flats_vars _ _ ss hU] at b1 b2 b3
  simp only [List.append_nil, List.length_map] at b1 b2 b3
  rw [flatQ_sg (ns := ns) _ qs (by omega) hqq] at b2 b3
  simp only at b2 b3
  rw [← a1] at b1
  rw [← a3] at b3
  have hN' : N' = N.map (renum (sgI ns ns')) := by
    rw [b2, a2, List.map_append, List.map_append, List.map_replicate]
    rfl
  have hlen : ns.length ≤ N.length := by rw [a2]; simp
  have hE : sgI ns ns' = EI (sgF ns ns') := rfl
  refine ⟨by rw [hN', List.length_map], fun z hz => ⟨sg_up hsg hlen hz, ?_⟩, ?_, fun x => ?_⟩
  · have h2 := sg_up hsg hlen hz
    rw [hN', map_getD_nd h2, ← hE]
    by_cases hzl : z < ns.length
    · have h3 := sg_lt hsg hzl
      have hv : ∀ t, t < ns.length → N.getD t nd0 = varN := fun t ht => by
        rw [a2]
        simp [List.getD, List.getElem?_append_left, ht]
      rw [hv _ h3, hv _ hzl]
    · rw [sg_ge (by omega)]
  · rw [b1, ← hE]
    congr 1
    refine List.map_congr_left (fun s hs => ?_)
    rw [sg_ix (hin s hs)]
  · rw [hE1, hE2, b3]
    exact bind_sg (fun x y e => sg_inj hsg e) P id id (fun _ => rfl) x
theorem more_pr {xs : List Ex} {qs : List (ByteArray × Ex)} {ss : List ByteArray} {F : Nat → Nat} (h : More xs qs ss F) (hg : GoodT xs qs) (hG : Good (tieG xs qs)) : Pr (tieG xs qs) ⟨(tieG (xs ++ ss.map vX) qs).nodes, (tieG xs qs).roots.map (EI F)⟩ (fun x y => isN (tieG xs qs) x ∧ y = EI F x) := by
  have ht := tie_good hg
  have hl1 : (tieG xs qs).nodes.length = (tieN xs qs).length := by simp [tieG, gE]
  have hl2 : (tieG (xs ++ ss.map vX) qs).nodes.length = (tieN xs qs).length := by simp [tieG, gE, h.len]
  have n1 : ∀ x, isN (tieG xs qs) x → (tieG xs qs).nd x = renum (EI (tieE xs qs)) ((tieN xs qs).getD x.toNat nd0) := fun x hx => by
    have h2 : x.toNat < (tieN xs qs).length := by have := hx.1; have := hx.2; omega
    unfold tieG gE Gf.nd
    exact map_getD_nd h2
  have n2 : ∀ x, isN (tieG xs qs) x → Gf.nd ⟨(tieG (xs ++ ss.map vX) qs).nodes, (tieG xs qs).roots.map (EI F)⟩ (EI F x) = renum (EI (tieE (xs ++ ss.map vX) qs)) (renum (EI F) ((tieN xs qs).getD x.toNat nd0)) := fun x hx => by
    have h2 : x.toNat < (tieN xs qs).length := by have := hx.1; have := hx.2; omega
    have h3 := h.nd _ h2
    have e0 : (EI F x).toNat = F x.toNat := by simp [EI]
    show (tieG (xs ++ ss.map vX) qs).nodes.getD (EI F x).toNat nd0 = _
    rw [e0, ← h3.2]
    unfold tieG gE
    exact map_getD_nd (by rw [h.len]; exact h3.1)
  have nn : ∀ x, isN (tieG xs qs) x → isN ⟨(tieG (xs ++ ss.map vX) qs).nodes, (tieG xs qs).roots.map (EI F)⟩ (EI F x) := fun x hx => by
    have h2 : x.toNat < (tieN xs qs).length := by have := hx.1; have := hx.2; omega
    have h3 := (h.nd _ h2).1
    refine ⟨by simp [EI], ?_⟩
    show EI F x < ((tieG (xs ++ ss.map vX) qs).nodes.length : Int)
    rw [hl2]
    unfold EI
    omega
  refine ⟨fun x y ⟨hx, hy⟩ => ⟨hx, by rw [hy]; exact nn x hx⟩, fun x y ⟨hx, hy⟩ => ?_, fun x y ⟨hx, hy⟩ k hk => ?_, fun x y y' ⟨_, hy⟩ ⟨_, hy'⟩ _ => hy.trans hy'.symm, fun x x' y ⟨hx, hy⟩ ⟨hx', hy'⟩ _ => ?_, by simp, fun i hi => ?_⟩
  · subst hy
    rw [n1 x hx, n2 x hx]
    exact ⟨rfl, rfl, rfl, by simp [renum]⟩
  · subst hy
    refine ⟨arg_isN hG hx hk, ?_⟩
    unfold Gf.arg
    rw [n1 x hx] at hk ⊢
    rw [n2 x hx]
    have hk' : k < ((tieN xs qs).getD x.toNat nd0).args.length := by simpa [renum] using hk
    simp only [renum]
    rw [map_getD0 (by simpa using hk'), map_getD0 hk', map_getD0 hk']
    simp [EI, h.ed]
  · have h0 := hx.1
    have h0' := hx'.1
    have e : F x.toNat = F x'.toNat := by
      have := hy.symm.trans hy'
      unfold EI at this
      omega
    have := h.inj _ _ e
    omega
  · have e : ((tieG xs qs).roots.map (EI F)).getD i 0 = EI F ((tieG xs qs).roots.getD i 0) := map_getD0 hi
    exact ⟨hG.root _ (getD_mem hi), e⟩
theorem more_roots {xs : List Ex} {qs : List (ByteArray × Ex)} {ss : List ByteArray} {F : Nat → Nat} (hm : More xs qs ss F) : (tieG (xs ++ ss.map vX) qs).roots = (tieG xs qs).roots.map (EI F) ++ ss.map (fun s => EI F ((tieE xs qs (ixN (namA xs qs) s) : Nat) : Int)) := by
  show (tieR (xs ++ ss.map vX) qs).map (EI (tieE (xs ++ ss.map vX) qs)) = ((tieR xs qs).map (EI (tieE xs qs))).map (EI F) ++ _
  have hed := hm.ed
  rw [hm.rt, List.map_append]
  generalize tieE (xs ++ ss.map vX) qs = E' at hed ⊢
  congr 1
  · rw [List.map_map, List.map_map]
    exact List.map_congr_left (fun z _ => by simp [EI, hed])
  · rw [List.map_map]
    exact List.map_congr_left (fun s _ => by simp [EI, hed])
theorem least_more {xs : List Ex} {qs : List (ByteArray × Ex)} (hg : GoodT xs qs) (hb : (namA xs qs).length + othA xs qs ≤ 4096) {e e' : Nat → Nat → Bool} (hd : ∀ x y : Nat, (e x y = true ↔ Al (tieG xs qs) (x : Int) (y : Int))) (ms : List (ByteArray × Int)) (hms : ms = nmdF e (tieG xs qs) (tieE xs qs) (namA xs qs) (namA xs qs).length) (hg' : GoodT (xs ++ (ms.map (·.1)).map vX) qs) (hb' : (namA (xs ++ (ms.map (·.1)).map vX) qs).length + othA (xs ++ (ms.map (·.1)).map vX) qs ≤ 4096)
    (hd' : ∀ x y : Nat, (e' x y = true ↔ Al (tieG (xs ++ (ms.map (·.1)).map vX) qs) (x : Int) (y : Int))) :
    (trimF (quoF e' (tieG (xs ++ (ms.map (·.1)).map vX) qs))).nodes = (trimF (quoF e (tieG xs qs))).nodes ∧ (trimF (quoF e' (tieG (xs ++ (ms.map (·.1)).map vX) qs))).roots = (trimF (quoF e (tieG xs qs))).roots ++ ms.map (·.2) := by
  have hAt : ∀ p ∈ ms, ∃ j, j < (namA xs qs).length ∧ p = ((namA xs qs).getD j ⟨#[]⟩, posF (metF (quoF e (tieG xs qs))) (clsI e (tieG xs qs).nodes.length ((tieE xs qs j : Nat) : Int))) ∧ clsI e (tieG xs qs).nodes.length ((tieE xs qs j : Nat) : Int) ∈ metF (quoF e (tieG xs qs)) := fun p hp => by
    rw [hms] at hp
    exact nmd_at _ _ _ _ _ p hp
  clear hms
  have hss : ∀ s ∈ ms.map (·.1), s ∈ namA xs qs := fun s hs => by
    obtain ⟨p, hp, rfl⟩ := List.mem_map.1 hs
    obtain ⟨j, hj, e1, _⟩ := hAt p hp
    rw [e1]
    exact inN_iff.1 (sg_in hj)
  have hm := tie_more hss (fun q hq => (hg.q.nm q hq).2)
  generalize sgF (namA xs qs) (namA (xs ++ (ms.map (·.1)).map vX) qs) = F at hm
  have hG := tie_goodG hg hb
  have hG' := tie_goodG hg' hb'
  have ht := tie_good hg
  have hnd := nodup_namA xs qs
  have hpr := more_pr hm hg hG
  have hroots := more_roots hm
  have hnl : (tieG xs qs).nodes.length = (tieN xs qs).length := by simp [tieG, gE]
  have hlen0 : (namA xs qs).length ≤ (tieN xs qs).length := by rw [ht.len]; omega
  generalize tieG (xs ++ (ms.map (·.1)).map vX) qs = G' at *
  obtain ⟨N', R'⟩ := G'
  dsimp only at hroots hpr
  have hG2 : Good ⟨N', (tieG xs qs).roots.map (EI F)⟩ := ⟨hG'.nodes, by have := hG.roots; simpa using this, hG'.node, fun z hz => hG'.root z (by rw [hroots]; exact List.mem_append.2 (Or.inl hz))⟩
  have hd2 : ∀ x y : Nat, (e' x y = true ↔ Al ⟨N', (tieG xs qs).roots.map (EI F)⟩ (x : Int) (y : Int)) := hd'
  have hT := hpr.least hG hG2 hd hd2
  have hpl := hpr.place hG hG2 hd hd2
  have hext : ∀ p ∈ ms, clsI e' N'.length (EI F ((tieE xs qs (ixN (namA xs qs) p.1) : Nat) : Int)) ∈ metF (quoF e' ⟨N', (tieG xs qs).roots.map (EI F)⟩) ∧ posF (metF (quoF e' ⟨N', (tieG xs qs).roots.map (EI F)⟩)) (clsI e' N'.length (EI F ((tieE xs qs (ixN (namA xs qs) p.1) : Nat) : Int))) = p.2 := fun p hp => by
    obtain ⟨j, hj, e1, hc⟩ := hAt p hp
    have e2 : ixN (namA xs qs) p.1 = j := by rw [e1]; exact ixN_getD hnd hj
    have hj2 : isN (tieG xs qs) ((tieE xs qs j : Nat) : Int) := by
      have := ht.er j (by omega)
      exact ⟨by omega, by rw [hnl]; omega⟩
    have h2 := hpl _ _ ⟨hj2, rfl⟩ hc
    rw [e2]
    refine ⟨h2.1, ?_⟩
    have h3 := h2.2
    unfold lstI at h3
    rw [e1]
    exact h3
  have hmet : metF (quoF e' ⟨N', R'⟩) = metF (quoF e' ⟨N', (tieG xs qs).roots.map (EI F)⟩) := by
    have h1 : quoF e' ⟨N', R'⟩ = ⟨(quoF e' ⟨N', (tieG xs qs).roots.map (EI F)⟩).nodes, (quoF e' ⟨N', (tieG xs qs).roots.map (EI F)⟩).roots ++ ((ms.map (·.1)).map (fun s => EI F ((tieE xs qs (ixN (namA xs qs) s) : Nat) : Int))).map (clsI e' N'.length)⟩ := by
      unfold quoF
      simp only [hroots, List.map_append]
    rw [h1]
    exact metF_more (fun x hx => by
      obtain ⟨y, hy, rfl⟩ := List.mem_map.1 hx
      obtain ⟨s, hs, rfl⟩ := List.mem_map.1 hy
      obtain ⟨p, hp, rfl⟩ := List.mem_map.1 hs
      exact (hext p hp).1)
  rw [hT]
  refine ⟨?_, ?_⟩
  · show (metF (quoF e' ⟨N', R'⟩)).map _ = (metF (quoF e' ⟨N', (tieG xs qs).roots.map (EI F)⟩)).map _
    rw [hmet]
    rfl
  · show (quoF e' ⟨N', R'⟩).roots.map (posF (metF (quoF e' ⟨N', R'⟩))) = (quoF e' ⟨N', (tieG xs qs).roots.map (EI F)⟩).roots.map (posF (metF (quoF e' ⟨N', (tieG xs qs).roots.map (EI F)⟩))) ++ ms.map (·.2)
    rw [hmet]
    have h1 : (quoF e' ⟨N', R'⟩).roots = (quoF e' ⟨N', (tieG xs qs).roots.map (EI F)⟩).roots ++ ((ms.map (·.1)).map (fun s => EI F ((tieE xs qs (ixN (namA xs qs) s) : Nat) : Int))).map (clsI e' N'.length) := by
      unfold quoF
      simp only [hroots, List.map_append]
    rw [h1, List.map_append]
    congr 1
    simp only [List.map_map]
    exact List.map_congr_left (fun p hp => (hext p hp).2)
end Go.Proofs.Ytncileojdighnaa

namespace Go.Proofs.Ytncileojdighnaa
set_option maxRecDepth 100000
open Go.RowKit
theorem prtXs_cat : ∀ xs ys : List Ex, prtXs (xs ++ ys) = prtXs xs + prtXs ys
  | [], ys => by simp [prtXs]
  | x :: r, ys => by rw [List.cons_append, prtXs, prtXs, prtXs_cat r ys]; omega
end Go.Proofs.Ytncileojdighnaa
