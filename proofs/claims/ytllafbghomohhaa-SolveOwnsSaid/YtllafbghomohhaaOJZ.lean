/- Solving step by step: a graph solved by one pair more. -/
import Derived.Test.YtllafbghomohhaaOFZ
import Derived.Test.YtllafbghomohhaaOIZ
import Derived.Lib.AppendZerosOnto
namespace Go.Proofs.Ytllafbghomohhaa
open Go.RowKit

/-- The roots of a graph tell where the nodes are; behind them come the roots. -/
structure Rts (N : Nat) (rs : List Int) (A : Gf) (r : Nat → Nat) : Prop where
  len : A.roots.length = N + rs.length
  nd : ∀ x, x < N → A.roots.getD x 0 = ((r x : Nat) : Int)
  rt : ∀ i, i < rs.length → A.roots.getD (N + i) 0 = ((r (rs.getD i 0).toNat : Nat) : Int)
theorem var_lab {N : Nat} {m n : Nd} (hm : goodNd N m = true) {M : Nat} (hn : goodNd M n = true) (h1 : m.kind = 1) (h2 : n.kind = 1) : labS m n := by
  unfold goodNd at hm hn
  rw [if_pos h1] at hm
  rw [if_pos h2] at hn
  simp only [Bool.and_eq_true, decide_eq_true_eq] at hm hn
  exact ⟨h1.trans h2.symm, str_eq (hm.1.1.trans hn.1.1.symm), hm.1.2.trans hn.1.2.symm, hm.2.trans hn.2.symm⟩
theorem good_nd {g : Gf} (hg : Good g) {x : Nat} (hx : x < g.nodes.length) : goodNd g.nodes.length (ndN g.nodes x) = true := hg.node _ (by simp [ndN, List.getD, hx])
theorem rst_var {ns : List Nd} {P : List (Nat × Nat)} {E : Nat → Nat} (hU : Un ns P E []) {x y : Nat} (hv : (ndN ns (E x)).kind = 1) (h : Rst ns (fun x y => E x = E y) x y) : E x = E y := by
  rcases rst_bs ns _ x y h with h1 | ⟨u1, v1, a1, a2, a3, a4, a5, a6, _⟩
  · exact h1
  · obtain ⟨b, _⟩ := hU.rep u1 a1 a5
    have a3' : E x = E u1 := a3
    rw [← a3'] at b
    exact absurd hv b
/-- The step. -/
theorem Hm.step {g : Gf} (hg : Good g) {P : List (Nat × Nat)} {E E' : Nat → Nat} (hU : Un g.nodes P E []) {A : Gf} (hAg : Good A) {r : Nat → Nat} (h : Hm g.nodes E A r) (hPn : ∀ p ∈ P, p.1 < g.nodes.length ∧ p.2 < g.nodes.length) {rs : List Int} (hrs : ∀ z ∈ rs, 0 ≤ z ∧ z < (g.nodes.length : Int)) (hR : Rts g.nodes.length rs A r) {a b : Nat} (ha : a < g.nodes.length) (hb : b < g.nodes.length)
    (hU' : Un g.nodes (P ++ [(a, b)]) E' []) {F : Nat → Nat} (hF : Un A.nodes [(r a, r b)] F []) {ee : Nat → Nat → Bool} (hd : ∀ x y : Nat, (ee x y = true ↔ Al (gE A.nodes A.roots F) (x : Int) (y : Int))) :
    ∃ r', Hm g.nodes E' (trimF (quoF ee (gE A.nodes A.roots F))) r' ∧ Rts g.nodes.length rs (trimF (quoF ee (gE A.nodes A.roots F))) r' := by
  have hA := goodA_of hg
  have hAA := goodA_of hAg
  have hB := gE_good hAg hF.rng
  have hlB : (gE A.nodes A.roots F).nodes.length = A.nodes.length := by simp [gE]
  obtain ⟨hC', hp', hm'⟩ := hU'.done
  obtain ⟨hCF, hpF, hmF⟩ := hF.done
  -- what is one by E' is one by F
  have M2 : ∀ x y, x < g.nodes.length → y < g.nodes.length → E' x = E' y → F (r x) = F (r y) := fun x y hx hy e => by
    obtain ⟨c1, c2⟩ := h.dn hA hU hCF hPn
    have h3 := hm' _ c1 (fun p hq => by
      rcases List.mem_append.1 hq with e | e
      · exact c2 p e
      · have e1 : p = (a, b) := by simpa using e
        subst e1
        exact Or.inr ⟨ha, hb, hpF (r a, r b) (by simp)⟩) x y e
    rcases h3 with e | ⟨_, _, e⟩
    · rw [e]
    · exact e
  -- what is one by F is so by E'
  have hup := h.up hA hU hC' (fun p hq => hp' p (by simp [hq]))
  have M1 : ∀ y z, F y = F z → upR g.nodes (fun x y => E' x = E' y) r y z := fun y z e => hmF _ hup (fun p hq => by
    have e1 : p = (r a, r b) := by simpa using hq
    subst e1
    exact Or.inr ⟨a, b, ha, hb, rfl, rfl, Rst.of (hp' (a, b) (by simp))⟩) y z e
  have hEE : ∀ x y, E x = E y → E' x = E' y := fun x y e => hU.done.2.2 _ hC' (fun p hq => hp' p (by simp [hq])) x y e
  -- variables stay variables
  have hvar : ∀ x, x < g.nodes.length → (ndN g.nodes (E' x)).kind = 1 → (ndN A.nodes (F (r x))).kind = 1 := fun x hx hv => by
    apply Classical.byContradiction
    intro hnv
    have hFr := hF.rng _ (h.rng x hx)
    have hz : ∃ w, w < g.nodes.length ∧ F (r x) = r w ∧ Rst g.nodes (fun x y => E' x = E' y) x w := by
      rcases M1 (r x) (F (r x)) (hF.idem _).symm with e | ⟨x1, x2, b1, b2, b3, b4, b5⟩
      · exact ⟨x, hx, e.symm, Rst.of rfl⟩
      · exact ⟨x2, b2, b4, (rst_cg hC').trans _ _ _ (h.rst hA hU hC' (fun p hq => hp' p (by simp [hq])) hx b1 b3) b5⟩
    obtain ⟨w, hw, e, hst⟩ := hz
    have e1 := rst_var hU' hv hst
    have lw := h.lab w hw
    rw [e, ← lw.1] at hnv
    obtain ⟨c, _⟩ := hU'.rep (E w) (hU.rng w hw) hnv
    have e2 : E' (E w) = E' w := hEE _ _ (hU.idem w)
    rw [e2, ← e1] at c
    exact c hv
  -- labels and arguments
  have hnon : ∀ x, x < g.nodes.length → (ndN g.nodes (E' x)).kind ≠ 1 → labS (ndN g.nodes (E' x)) (ndN A.nodes (F (r x))) ∧ ∀ k, k < (ndN g.nodes (E' x)).args.length → F (argN A.nodes (F (r x)) k) = F (r (argN g.nodes (E' x) k)) := fun x hx hnv => by
    have hX := hU'.rng x hx
    have e1 : F (r x) = F (r (E' x)) := M2 x (E' x) hx hX (hU'.idem x).symm
    obtain ⟨c1, c2, _⟩ := hU.rep (E' x) hX hnv
    have l1 := h.lab (E' x) hX
    have hrX := h.rng (E' x) hX
    have k1 : (ndN A.nodes (r (E' x))).kind ≠ 1 := by rw [← l1.1]; exact c1
    obtain ⟨d1, d2, _⟩ := hF.rep (r (E' x)) hrX k1
    refine ⟨(c2.trans l1).trans (by rw [e1]; exact d2), fun k hk => ?_⟩
    have hk1 : k < (ndN g.nodes (E (E' x))).args.length := by rw [← c2.2.2.2]; exact hk
    have hk2 : k < (ndN A.nodes (r (E' x))).args.length := by rw [← l1.2.2.2]; exact hk1
    have s1 := (hCF.lab (r (E' x)) (F (r (E' x))) hrX (hF.rng _ hrX) (hF.idem _).symm k1 d1).2 k hk2
    rw [e1, ← s1, h.arg (E' x) hX k hk1]
    have hEX := hU.rng _ hX
    refine M2 _ _ (hA.arg _ hEX k hk1).2 (hA.arg _ hX k hk).2 ?_
    exact (hC'.lab (E (E' x)) (E' x) hEX hX (hEE _ _ (hU.idem _)) c1 hnv).2 k hk1
  have hroot : ∀ x, x < g.nodes.length → ((F (r x) : Nat) : Int) ∈ metF (gE A.nodes A.roots F) := fun x hx => by
    have hi : x < (gE A.nodes A.roots F).roots.length := by simp [gE]; rw [hR.len]; omega
    have := metF_root hB hi
    have e : (gE A.nodes A.roots F).roots.getD x 0 = ((F (r x) : Nat) : Int) := by
      have hi' : x < A.roots.length := by rw [hR.len]; omega
      have h2 := hR.nd x hx
      simp [gE, List.getD, hi'] at h2 ⊢
      rw [h2]
      simp [EI]
    rw [e] at this
    exact this
  have hnn : ∀ x, x < g.nodes.length → 0 ≤ lstI ee (gE A.nodes A.roots F) ((F (r x) : Nat) : Int) ∧ lstI ee (gE A.nodes A.roots F) ((F (r x) : Nat) : Int) < ((trimF (quoF ee (gE A.nodes A.roots F))).nodes.length : Int) := fun x hx => least_rng hB hd (hroot x hx)
  have hcast : ∀ x, x < g.nodes.length → (((lstI ee (gE A.nodes A.roots F) ((F (r x) : Nat) : Int)).toNat : Nat) : Int) = lstI ee (gE A.nodes A.roots F) ((F (r x) : Nat) : Int) := fun x hx => by have := (hnn x hx).1; omega
  have hnd : ∀ x, x < g.nodes.length → ndN (trimF (quoF ee (gE A.nodes A.roots F))).nodes (lstI ee (gE A.nodes A.roots F) ((F (r x) : Nat) : Int)).toNat = renum (lstI ee (gE A.nodes A.roots F)) (renum (EI F) (ndN A.nodes (F (r x)))) := fun x hx => by
    rw [← nd_N, hcast x hx, least_nd hB hd (hroot x hx), gE_nd (hF.rng _ (h.rng x hx))]
  have hlab : ∀ x, x < g.nodes.length → labS (ndN g.nodes (E' x)) (ndN A.nodes (F (r x))) := fun x hx => by
    by_cases hv : (ndN g.nodes (E' x)).kind = 1
    · exact var_lab (good_nd hg (hU'.rng x hx)) (good_nd hAg (hF.rng _ (h.rng x hx))) hv (hvar x hx hv)
    · exact (hnon x hx hv).1
  refine ⟨fun x => (lstI ee (gE A.nodes A.roots F) ((F (r x) : Nat) : Int)).toNat, ⟨fun x hx => ?_, fun x y hx hy e => ?_, fun x hx => ?_, fun x hx k hk => ?_, fun x y hx hy hv e => ?_⟩, ⟨?_, fun x hx => ?_, fun i hi => ?_⟩⟩
  · have := hnn x hx
    show (lstI ee (gE A.nodes A.roots F) ((F (r x) : Nat) : Int)).toNat < _
    omega
  · show Int.toNat _ = Int.toNat _
    rw [M2 x y hx hy e]
  · show labS _ (ndN _ (Int.toNat _))
    rw [hnd x hx]
    obtain ⟨l1, l2, l3, l4⟩ := hlab x hx
    exact ⟨l1, l2, l3, by simpa [renum] using l4⟩
  · show argN _ (Int.toNat _) k = Int.toNat _
    have hnv : (ndN g.nodes (E' x)).kind ≠ 1 := fun hv => by rw [hA.var _ hv] at hk; simp at hk
    have hk2 : k < (ndN A.nodes (F (r x))).args.length := by rw [← (hlab x hx).2.2.2]; exact hk
    have h2 := (hnon x hx hnv).2 k hk
    have h3 := (hAA.arg _ (hF.rng _ (h.rng x hx)) k hk2)
    unfold argN at h2 ⊢
    rw [hnd x hx]
    simp [renum, List.getD, hk2, EI] at h2 ⊢
    rw [h2]
  · have e1 : lstI ee (gE A.nodes A.roots F) ((F (r x) : Nat) : Int) = lstI ee (gE A.nodes A.roots F) ((F (r y) : Nat) : Int) := by
      have e' : (lstI ee (gE A.nodes A.roots F) ((F (r x) : Nat) : Int)).toNat = (lstI ee (gE A.nodes A.roots F) ((F (r y) : Nat) : Int)).toNat := e
      have := (hnn x hx).1
      have := (hnn y hy).1
      omega
    have hal := (least_al hB hd (hroot x hx) (hroot y hy)).1 e1
    have hkv : ((gE A.nodes A.roots F).nd ((F (r x) : Nat) : Int)).kind = 1 := by
      rw [gE_nd (hF.rng _ (h.rng x hx))]
      exact hvar x hx hv
    have e2 := (al_sim _ _ _ hal).2.2.1.2.2.2.2 hkv
    have e3 : F (r x) = F (r y) := by omega
    rcases M1 (r x) (r y) e3 with e4 | ⟨x1, x2, b1, b2, b3, b4, b5⟩
    · exact rst_var hU' hv (h.rst hA hU hC' (fun p hq => hp' p (by simp [hq])) hx hy e4)
    · have q1 := h.rst hA hU hC' (fun p hq => hp' p (by simp [hq])) hx b1 b3
      have q2 := h.rst hA hU hC' (fun p hq => hp' p (by simp [hq])) b2 hy b4.symm
      exact rst_var hU' hv ((rst_cg hC').trans _ _ _ q1 ((rst_cg hC').trans _ _ _ b5 q2))
  · rw [least_root]
    simp [gE]
    exact hR.len
  · have hi' : x < A.roots.length := by rw [hR.len]; omega
    have h2 := hR.nd x hx
    rw [hcast x hx, least_root]
    simp [gE, List.getD, hi'] at h2 ⊢
    rw [h2]
    simp [EI]
  · have hi' : g.nodes.length + i < A.roots.length := by rw [hR.len]; omega
    have h2 := hR.rt i hi
    have hz := hrs (rs.getD i 0) (getD_mem hi)
    rw [hcast _ (by omega), least_root]
    simp [gE, List.getD, hi'] at h2 ⊢
    rw [h2]
    simp [EI]
/-- The start. -/
theorem Hm.start {g : Gf} (hg : Good g) : Hm g.nodes id ⟨g.nodes, (List.range g.nodes.length).map (fun n : Nat => (n : Int)) ++ g.roots⟩ id ∧ Rts g.nodes.length g.roots ⟨g.nodes, (List.range g.nodes.length).map (fun n : Nat => (n : Int)) ++ g.roots⟩ id := by
  refine ⟨⟨fun x hx => hx, fun x y _ _ e => e, fun x _ => labS.refl _, fun x _ k _ => rfl, fun x y _ _ _ e => e⟩, ⟨by simp, fun x hx => ?_, fun i hi => ?_⟩⟩
  · simp [List.getD, List.getElem?_append_left, hx]
  · have hz := hg.root (g.roots.getD i 0) (getD_mem hi)
    have e : ((List.range g.nodes.length).map (fun n : Nat => (n : Int)) ++ g.roots).getD (g.nodes.length + i) 0 = g.roots.getD i 0 := by
      rw [List.getD, List.getD, List.getElem?_append_right (by simp)]
      simp
    rw [e]
    show _ = (((g.roots.getD i 0).toNat : Nat) : Int)
    omega
/-- The end: the least graph of the roots alone. -/
theorem Hm.fin {g : Gf} (hg : Good g) {ps : List (Int × Int)} {E : Nat → Nat} (hU : Un g.nodes (ps.map natP) E []) {A : Gf} (hAg : Good A) {r : Nat → Nat} (h : Hm g.nodes E A r) (hR : Rts g.nodes.length g.roots A r) {t : Gf} (ht : LeastS g ps t) {e2 : Nat → Nat → Bool} (hd2 : ∀ x y : Nat, (e2 x y = true ↔ Al ⟨A.nodes, A.roots.drop g.nodes.length⟩ (x : Int) (y : Int))) : trimF (quoF e2 ⟨A.nodes, A.roots.drop g.nodes.length⟩) = t := by
  obtain ⟨ee, hd⟩ := al_dec (gE g.nodes g.roots E)
  have hu := leastS_uniq hg (qs := ps) (fun R hR => Iff.rfl) ht ⟨E, ee, hU, hd, rfl⟩
  rw [hu]
  have hA := goodA_of hg
  have hgE := gE_good hg hU.rng
  have hlE : (gE g.nodes g.roots E).nodes.length = g.nodes.length := by simp [gE]
  have hgD : Good ⟨A.nodes, A.roots.drop g.nodes.length⟩ := ⟨hAg.nodes, by have := hAg.roots; simp; omega, hAg.node, fun z hz => hAg.root z (List.mem_of_mem_drop hz)⟩
  refine (Pr.least hgE hgD hd hd2 (R := fun u v => ∃ x, x < g.nodes.length ∧ u = ((E x : Nat) : Int) ∧ v = ((r x : Nat) : Int)) ⟨?_, ?_, ?_, ?_, ?_, ?_, ?_⟩).symm
  · rintro u v ⟨x, hx, rfl, rfl⟩
    have := hU.rng x hx
    have := h.rng x hx
    exact ⟨⟨by omega, by rw [hlE]; omega⟩, by omega, by show _ < (A.nodes.length : Int); omega⟩
  · rintro u v ⟨x, hx, rfl, rfl⟩
    rw [gE_nd (hU.rng x hx), nd_N]
    obtain ⟨l1, l2, l3, l4⟩ := h.lab x hx
    exact ⟨l1, l2, l3, by simpa [renum] using l4⟩
  · rintro u v ⟨x, hx, rfl, rfl⟩ k hk
    have hEx := hU.rng x hx
    rw [gE_nd hEx] at hk
    have hk1 : k < (ndN g.nodes (E x)).args.length := by simpa [renum] using hk
    have hk2 : k < (ndN A.nodes (r x)).args.length := by rw [← (h.lab x hx).2.2.2]; exact hk1
    refine ⟨argN g.nodes (E x) k, (hA.arg _ hEx k hk1).2, ?_, ?_⟩
    · unfold Gf.arg
      rw [gE_nd hEx]
      simp [renum, List.getD, hk1, EI, argN]
    · rw [← h.arg x hx k hk1]
      unfold Gf.arg argN
      rw [nd_N]
      have := ((goodA_of hAg).arg _ (h.rng x hx) k hk2).1
      show (ndN A.nodes (r x)).args.getD k 0 = _
      omega
  · rintro u v v' ⟨x, hx, rfl, rfl⟩ ⟨x', hx', e, rfl⟩ _
    rw [h.ker x x' hx hx' (by omega)]
  · rintro u u' v ⟨x, hx, rfl, rfl⟩ ⟨x', hx', rfl, e⟩ hk
    have e1 : r x = r x' := by omega
    rw [nd_N] at hk
    have hkv : (ndN g.nodes (E x)).kind = 1 := by rw [(h.lab x hx).1]; exact hk
    rw [h.var x x' hx hx' hkv e1]
  · have := hR.len
    simp [gE]
    omega
  · intro i hi
    have hi' : i < g.roots.length := by simpa [gE] using hi
    have hr := hg.root (g.roots.getD i 0) (getD_mem hi')
    refine ⟨(g.roots.getD i 0).toNat, by omega, ?_, ?_⟩
    · simp [gE, List.getD, hi', EI]
    · rw [← hR.rt i hi']
      simp [List.getD]
end Go.Proofs.Ytllafbghomohhaa

/- The least graph of a solution is an instance: plain data. -/
namespace Go.Proofs.Ytllafbghomohhaa
open Go.RowKit

theorem map_getD {F : Int → Int} {l : List Int} {k : Nat} (h : k < l.length) : (l.map F).getD k 0 = F (l.getD k 0) := by simp [List.getD, h]
theorem least_ins {a : Gf} (ha : Good a) {ee : Nat → Nat → Bool} (hd : ∀ x y : Nat, (ee x y = true ↔ Al a (x : Int) (y : Int))) : Ins a (trimF (quoF ee a)) (fun x y => x ∈ metF a ∧ y = lstI ee a x) := by
  have hnd : ∀ x, x ∈ metF a → (trimF (quoF ee a)).nd (lstI ee a x) = renum (lstI ee a) (a.nd x) := fun x hx => least_nd ha hd hx
  have hlen : ∀ x, x ∈ metF a → ((trimF (quoF ee a)).nd (lstI ee a x)).args.length = (a.nd x).args.length := fun x hx => by rw [hnd x hx]; simp [renum]
  have harg : ∀ x, x ∈ metF a → ∀ k, k < (a.nd x).args.length → (trimF (quoF ee a)).arg (lstI ee a x) k = lstI ee a (a.arg x k) := fun x hx k hk => by
    unfold Gf.arg
    rw [hnd x hx]
    exact map_getD hk
  refine ⟨fun x y ⟨hx, e⟩ => ⟨(met_cls ha hd x hx).1, by rw [e]; exact least_rng ha hd hx⟩, fun x y ⟨hx, e⟩ _ => ?_, fun x y ⟨hx, e⟩ _ k hk => ?_, fun x y y' ⟨hx, e⟩ ⟨_, e'⟩ hk => ?_, by rw [least_root]; simp, fun i hi => ⟨metF_root ha hi, ?_⟩⟩
  · rw [e, hnd x hx]
    exact ⟨rfl, rfl, rfl, by simp [renum]⟩
  · rw [e, harg x hx k hk]
    exact ⟨met_argk ha hx hk, rfl⟩
  · rw [e, e']
    have hr := least_rng ha hd hx
    have hv := good_varA ha (met_cls ha hd x hx).1 hk
    refine ⟨fun u v => u = lstI ee a x ∧ v = lstI ee a x, fun u v ⟨eu, ev⟩ => ?_, rfl, rfl⟩
    rw [eu, ev]
    exact ⟨hr, hr, labE_refl _ _, fun k hkk => by rw [hlen x hx, hv] at hkk; omega⟩
  · rw [least_root]
    exact map_getD hi
theorem gE_ins {g : Gf} (hg : Good g) {P : List (Nat × Nat)} {E : Nat → Nat} (hU : Un g.nodes P E []) : Ins g (gE g.nodes g.roots E) (fun x y => isN g x ∧ y = EI E x) := by
  obtain ⟨hc, _, _⟩ := hU.done
  have hgg := gE_good hg hU.rng
  have hl : (gE g.nodes g.roots E).nodes.length = g.nodes.length := by simp [gE]
  have hin : ∀ x, isN g x → isN (gE g.nodes g.roots E) (EI E x) := fun x hx => by
    have h0 := hx.1
    have h1 := hx.2
    have := hU.rng x.toNat (by omega)
    refine ⟨by unfold EI; omega, ?_⟩
    rw [hl]
    unfold EI
    omega
  have hnd : ∀ x, isN g x → (gE g.nodes g.roots E).nd (EI E x) = renum (EI E) (ndN g.nodes (E x.toNat)) := fun x hx => by
    have h0 := hx.1
    have h1 := hx.2
    exact gE_nd (hU.rng x.toNat (by omega))
  have hN : ∀ x, isN g x → ndN g.nodes x.toNat = g.nd x := fun x hx => by
    have h0 := hx.1
    rw [← nd_int, show ((x.toNat : Nat) : Int) = x by omega]
  refine ⟨fun x y ⟨hx, e⟩ => ⟨hx, by rw [e]; exact hin x hx⟩, fun x y ⟨hx, e⟩ hk => ?_, fun x y ⟨hx, e⟩ hk k hkk => ?_, fun x y y' ⟨hx, e⟩ ⟨_, e'⟩ _ => ?_, by simp [gE], fun i hi => ⟨hg.root _ (getD_mem hi), map_getD hi⟩⟩
  · have h0 := hx.1
    have h1 := hx.2
    obtain ⟨_, l, _⟩ := hU.rep x.toNat (by omega) (by rw [hN x hx]; exact hk)
    rw [hN x hx] at l
    rw [e, hnd x hx]
    exact ⟨l.1, l.2.1, l.2.2.1, by rw [l.2.2.2]; simp [renum]⟩
  · have h0 := hx.1
    have h1 := hx.2
    obtain ⟨k2, l, _⟩ := hU.rep x.toNat (by omega) (by rw [hN x hx]; exact hk)
    have ha := (hc.lab x.toNat (E x.toNat) (by omega) (hU.rng _ (by omega)) (hU.idem _).symm (by rw [hN x hx]; exact hk) k2).2 k (by rw [hN x hx]; exact hkk)
    rw [hN x hx] at l
    refine ⟨arg_isN hg hx hkk, ?_⟩
    rw [e]
    show ((gE g.nodes g.roots E).nd (EI E x)).args.getD k 0 = _
    rw [hnd x hx]
    have hkl : k < (ndN g.nodes (E x.toNat)).args.length := by rw [← l.2.2.2]; exact hkk
    have h2 : (renum (EI E) (ndN g.nodes (E x.toNat))).args.getD k 0 = EI E ((ndN g.nodes (E x.toNat)).args.getD k 0) := map_getD hkl
    rw [h2]
    have h3 : E (((ndN g.nodes x.toNat).args.getD k 0).toNat) = E (((ndN g.nodes (E x.toNat)).args.getD k 0).toNat) := ha
    rw [hN x hx] at h3
    unfold EI Gf.arg
    rw [h3]
  · rw [e, e']
    exact al_refl hgg (hin x hx)
/-- What is solved is an instance of what it was solved from. -/
theorem sol_ins {g : Gf} (hg : Good g) {ps : List (Int × Int)} {t : Gf} (h : LeastS g ps t) : ∃ S, Ins g t S := by
  obtain ⟨E, ee, hU, hd, rfl⟩ := h
  exact (gE_ins hg hU).trans (least_ins (gE_good hg hU.rng) hd)
/-- The roots of a pair become one. -/
theorem sol_roots {g : Gf} {ps : List (Int × Int)} {t : Gf} (h : LeastS g ps t) : t.roots.length = g.roots.length ∧ ∀ i j, i < g.roots.length → j < g.roots.length → (g.roots.getD i 0, g.roots.getD j 0) ∈ ps → t.roots.getD i 0 = t.roots.getD j 0 := by
  obtain ⟨E, ee, hU, hd, rfl⟩ := h
  obtain ⟨_, hp, _⟩ := hU.done
  refine ⟨by rw [least_root]; simp [gE], fun i j hi hj hm => ?_⟩
  rw [least_root, map_getD (by simpa [gE] using hi), map_getD (by simpa [gE] using hj)]
  have e1 : (gE g.nodes g.roots E).roots.getD i 0 = EI E (g.roots.getD i 0) := map_getD hi
  have e2 : (gE g.nodes g.roots E).roots.getD j 0 = EI E (g.roots.getD j 0) := map_getD hj
  rw [e1, e2]
  have := hp (natP (g.roots.getD i 0, g.roots.getD j 0)) (List.mem_map.2 ⟨_, hm, rfl⟩)
  have h3 : E (g.roots.getD i 0).toNat = E (g.roots.getD j 0).toNat := this
  unfold EI
  rw [h3]
end Go.Proofs.Ytllafbghomohhaa

/- fixed of package solve. -/
namespace Go.Proofs.Ytllafbghomohhaa
open Go.RowKit

theorem fixedF_snoc (f : Nat) : ∀ (n : Nat) (l : List Nd) (y : Nd), fixedF f n (l ++ [y]) = fixedF f n l ++ [fixN1 f (n + l.length) y]
  | n, [], y => by simp [fixedF]
  | n, z :: r, y => by
    rw [List.cons_append, fixedF, fixedF, fixedF_snoc f (n + 1) r y, List.cons_append, List.length_cons, show n + 1 + r.length = n + (r.length + 1) by omega]
theorem ftake_snoc {l : List Nd} {k : Nat} (h : k < l.length) : l.take (k + 1) = l.take k ++ [l.getD k nd0] := by
  rw [List.take_add_one]
  simp [List.getD, h]
/-- A node's box and its new arguments, while they are made. -/
structure Fa (wr wy : World) (bx : Array Value) (v : Value) (k : Nat) (xs : List Value) : Prop where
  bel : Below wr.heap.size wr wy
  box : wy.heap[wr.heap.size]? = some (.cells bx 56)
  row : wy.ownsRow wr.heap.size 3 1 v k xs
theorem Fa.start (wr : World) (bx : Array Value) : Fa wr (wr.alloc (.cells bx 56)) bx (.slice none 0 0) 0 [] := ⟨below_alloc wr _, heap_alloc_new wr _, World.ownsRow_nil _ _ _ _⟩
theorem Fa.ne {wr wy : World} {bx : Array Value} {v : Value} {k : Nat} {xs : List Value} (h : Fa wr wy bx v k xs) {q : Nat} (hq : v.ownBlock = some q) : q ≠ wr.heap.size := by
  obtain ⟨cur, hc⟩ := row_obj h.row hq
  exact obj_ne hc h.box (by decide)
theorem Fa.push {wr wy w2 : World} {bx : Array Value} {v v2 : Value} {k k2 : Nat} {xs xs2 : List Value} {o : Obj} (h : Fa wr wy bx v k xs) (hg : (wy.alloc o).grownBy w2 v.ownBlock) (hown : w2.ownsRow wr.heap.size 3 1 v2 k2 xs2) : Fa wr w2 bx v2 k2 xs2 := by
  have hz := lt_of_block h.box
  refine ⟨(h.bel.alloc (Nat.le_of_lt hz) o).grown hg (by simp; omega) (fun q hq => (h.row.lt q hq).1), ?_, hown⟩
  rw [hg.block wr.heap.size (by simp; omega) (fun e => h.ne e.symm rfl), Below.heap_alloc _ _ _ hz]
  exact h.box
/-- The nodes so far, and one more. -/
theorem Fa.done {W wr wy w2 : World} {k0 s0 n0 a0 : Value} {ao : Option Addr} {c j g cap : Nat} {nv : Value} {avs : List Value} {nds : List Nd} {nd : Nd} {o : Obj} (h : Fa wr wy #[k0, s0, n0, a0] (.slice ao nd.args.length c) nd.args.length (nd.args.map (Value.int .i64))) (hO : On wr W.heap.size nv avs nds) (hW : Below W.heap.size W wr) (hj : nds.length = j)
    (hg : ((wy.setCell ⟨wr.heap.size, 3, none⟩ (.slice ao nd.args.length c)).alloc o).grownBy w2 nv.ownBlock) (hown : w2.ownsRow W.heap.size 56 4 (.slice (some ⟨g, 0, none⟩) (j + 1) cap) (j + 1) (ncells nds avs ++ [.int .i64 nd.kind, .string nd.name, .int .i64 nd.num, .slice ao nd.args.length c])) (hat : nv.ownBlock = some g ∨ ((wy.setCell ⟨wr.heap.size, 3, none⟩ (.slice ao nd.args.length c)).alloc o).heap.size ≤ g) :
    (∃ avs', On w2 W.heap.size (.slice (some ⟨g, 0, none⟩) (j + 1) cap) avs' (nds ++ [nd])) ∧ Below W.heap.size W w2 := by
  subst hj
  have hz := lt_of_block h.box
  have hb1 : Below wr.heap.size wr ((wy.setCell ⟨wr.heap.size, 3, none⟩ (.slice ao nd.args.length c)).alloc o) := (h.bel.setCell (p := ⟨wr.heap.size, 3, none⟩) (Nat.le_refl _) _).alloc (by simp; omega) o
  have hr1 : ((wy.setCell ⟨wr.heap.size, 3, none⟩ (.slice ao nd.args.length c)).alloc o).ownsRow wr.heap.size 3 1 (.slice ao nd.args.length c) nd.args.length (nd.args.map (Value.int .i64)) := by
    refine World.ownsRow.alloc ?_ o
    exact row_keep h.row (fun k hk => Below.heap_setCell _ _ _ _ (h.ne hk))
  refine ⟨⟨_, hO.push hb1 hr1 hW.size hg hown hat⟩, ?_⟩
  refine (hW.trans (hb1.mono hW.size)).grown hg (by have := hW.size; simp; omega) (fun q hq => (hO.n.lt q hq).1)
set_option maxRecDepth 100000 in
set_option maxHeartbeats 8000000 in
theorem fixed_any {W : World} {nv : Value} {ns : List Nd} (hn : Rn W nv ns) (hN : ns.length ≤ 5000) {f : Nat} (hf : f ≤ 5000) (hav : ∀ j, j < ns.length → ∀ x ∈ (ns.getD j nd0).args, 0 ≤ x ∧ x ≤ 5000) (h8 : ∀ j, j < ns.length → (ns.getD j nd0).args.length ≤ 8) :
    Calls Try.prog 37 #[nv, .int .i64 (f : Int)] W fun e w' => ∃ ao c avs, e = .returned (.slice ao ns.length c) ∧ On w' W.heap.size (.slice ao ns.length c) avs (fixedF f 0 ns) ∧ Below W.heap.size W w' := by
  obtain ⟨i0, hi, hz0, hz1, hz2⟩ := info_parts infoI
  obtain ⟨i1, hi1, hy0, hy1, hy2⟩ := info_parts infoN
  have HAV := hid hav
  have H8 := hid h8
  obtain ⟨na, nc, rfl, hn0⟩ := hn
  have HN := hid hn0
  clear hav h8 hn0
  go_enter Try.func37, Try.ntmps37
  go_wp2
  have hO0 : Hid (On W W.heap.size (.slice none 0 0) [] (fixedF f 0 (ns.take 0))) := On.nil W _
  have hB0 := hid (Below.refl W.heap.size W)
  go_loopw [5, 13] (fun x i wr => ∃ (j : Nat) (ao : Option Addr) (c : Nat) (avs : List Value), j ≤ ns.length ∧ i = .int .i64 (j : Int) ∧ x = .slice ao j c ∧ Hid (On wr W.heap.size (.slice ao j c) avs (fixedF f 0 (ns.take j))) ∧ Hid (Below W.heap.size W wr)) (fun _ i _ => ns.length - (intOf i).toNat)
  case atStart => exact ⟨0, none, 0, [], by omega, rfl, rfl, hO0, hB0⟩
  case round =>
    clear hO0 hB0
    obtain ⟨j, ao, c, avs, hj, rfl, rfl, hO, hB⟩ := hrel
    obtain ⟨wo, hwo⟩ : ∃ wo, wo = wr := ⟨_, rfl⟩
    subst hwo
    have hjl : Hid ((fixedF f 0 (ns.take j)).length = j) := show _ = _ by rw [fixedF_len, List.length_take]; omega
    by_cases hlt : j < ns.length
    · obtain ⟨nb, no, av, rfl, hNd⟩ := HN.out j hlt
      obtain ⟨aa, ac, rfl, _⟩ := hNd.2.2.2.2
      obtain ⟨d0, d1, d2, d3, d4⟩ := hNd.below hB.out
      have hzn := lt_of_cell d0
      have hRA : Hid (∀ w', Below wo.heap.size wo w' → Ri w' (.slice aa (ns.getD j nd0).args.length ac) (ns.getD j nd0).args) := fun w' hb => d4.below hb
      have hav := hid (HAV.out j hlt)
      have ha8 := H8.out j hlt
      have htk : Hid (fixedF f 0 (ns.take (j + 1)) = fixedF f 0 (ns.take j) ++ [fixN1 f j (ns.getD j nd0)]) := show _ = _ by
        rw [ftake_snoc hlt, fixedF_snoc, Nat.zero_add, List.length_take, Nat.min_eq_left (by omega)]
      have hjj : (j : Int) < (ns.length : Int) := by omega
      have hon : Hid (wo.ownsRow W.heap.size 56 4 (.slice ao j c) j (ncells (fixedF f 0 (ns.take j)) avs)) := by
        have := hO.out.n
        rw [hjl.out] at this
        exact this
      clear hNd d4
      generalize ns.getD j nd0 = nd at *
      obtain ⟨kd, nm, nu, args⟩ := nd
      dsimp only at d0 d1 d2 d3 hav ha8 hRA
      have hszr := hB.out.size
      by_cases hkd : kd = 1
      · subst hkd
        have hfn : Hid (fixN1 f j ⟨1, nm, nu, args⟩ = ⟨0, ⟨#[]⟩, (j : Int), []⟩) := fixN1_var rfl
        have hFa0 := hid (Fa.start wo #[.int .i64 0, .string ⟨#[]⟩, .int .i64 (j : Int), .slice none 0 0])
        go_wp2
        go_loopw [8, 26] (fun x i wy => ∃ (k : Nat) (bo : Option Addr) (bc : Nat), k ≤ ([] : List Int).length ∧ i = .int .i64 (k : Int) ∧ x = .slice bo k bc ∧ Hid (Fa wo wy #[.int .i64 0, .string ⟨#[]⟩, .int .i64 (j : Int), .slice none 0 0] (.slice bo k bc) k (((([] : List Int).take k).map (fun a => (f : Int) + a)).map (Value.int .i64)))) (fun _ i _ => ([] : List Int).length - (intOf i).toNat)
        case atStart => exact ⟨0, none, 0, Nat.zero_le _, rfl, rfl, hFa0⟩
        case round =>
          clear hFa0
          obtain ⟨k, bo, bc, hk, rfl, rfl, hFa⟩ := hrel
          by_cases hlk : k < ([] : List Int).length
          · exact absurd hlk (Nat.not_lt_zero _)
          · obtain rfl : k = ([] : List Int).length := by omega
            have hF9 := hid hFa.out
            rw [List.take_length] at hF9
            have hF9' : Hid (Fa wo wr #[.int .i64 0, .string ⟨#[]⟩, .int .i64 (j : Int), .slice none 0 0] (.slice bo (([] : List Int).map (fun a => (f : Int) + a)).length bc) (([] : List Int).map (fun a => (f : Int) + a)).length ((([] : List Int).map (fun a => (f : Int) + a)).map (Value.int .i64))) := by
              have := hF9.out
              rw [List.length_map]
              exact this
            obtain ⟨⟨x0, x1, x2, x3⟩, f0, f3⟩ := nblk hF9.out.box
            have hzz := lt_of_block hF9.out.box
            have hon2 : Hid (((wr.setCell ⟨wo.heap.size, 3, none⟩ (.slice bo ([] : List Int).length bc)).alloc (.cells #[.int .i64 0, .string ⟨#[]⟩, .int .i64 (j : Int), .slice bo ([] : List Int).length bc] 56)).ownsRow W.heap.size 56 4 (.slice ao j c) j (ncells (fixedF f 0 (ns.take j)) avs)) := by
              refine World.ownsRow.alloc ?_ _
              refine row_keep hon.out (fun q hq => ?_)
              have hq2 := (hon.out.lt q hq).2
              rw [Below.heap_setCell _ _ _ _ (by show q ≠ wo.heap.size; omega)]
              exact hF9.out.bel.block q hq2
            have hdone := hid (fun (w2 : World) (o : Obj) (g cap : Nat) h1 h2 h3 => Fa.done (w2 := w2) (o := o) (g := g) (cap := cap) (nd := ⟨0, ⟨#[]⟩, (j : Int), ([] : List Int).map (fun a => (f : Int) + a)⟩) hF9'.out hO.out hB.out hjl.out h1 h2 h3)
            rw [List.length_map] at hdone
            clear hFa hF9 hF9'
            go_wp2_with (at_builtin; go_must (refine wpList_append_lies _ rfl _ _ 22 rfl W.heap.size 56 i1 (.agg #[.int .i64 0, .string ⟨#[]⟩, .int .i64 0, .slice none 0 0]) 4 56 Try.underlying22 hi1 hy0 hy1 hy2 rfl (by decide) _ j _ rfl hon2.out ⟨wr.heap.size, 0, none⟩ 1 1 [.int .i64 0, .string ⟨#[]⟩, .int .i64 (j : Int), .slice bo ([] : List Int).length bc] rfl rfl (World.news_of_block (cs := #[.int .i64 0, .string ⟨#[]⟩, .int .i64 (j : Int), .slice bo ([] : List Int).length bc]) (t := 56) (fr := (0, 0)) (by have h9 := heap_alloc_new (wr.setCell ⟨wo.heap.size, 3, none⟩ (.slice bo ([] : List Int).length bc)) (.cells #[.int .i64 0, .string ⟨#[]⟩, .int .i64 (j : Int), .slice bo ([] : List Int).length bc] 56); simpa using h9)) (by simp [Value.oneCell']) (by decide) (by unfold maxLen; omega) (by omega) (by simp; omega) _ rfl ?_; intro g cap w6 hown6 hg6 hat6 hlt6; obtain ⟨⟨avs3, hO6⟩, hB6⟩ := hdone.out w6 _ g cap hg6 hown6 (hat6.imp id (fun e => Nat.le_of_eq e.symm))))
            go_roundw
            case rel => exact ⟨j + 1, some ⟨g, 0, none⟩, cap, avs3, by omega, by go_num, rfl, (show On _ _ _ _ _ by rw [htk.out, hfn.out]; exact hO6), hB6⟩
            case measure => simp [intOf]; omega
      · have hfn : Hid (fixN1 f j ⟨kd, nm, nu, args⟩ = ⟨kd, nm, nu, args.map (fun a => (f : Int) + a)⟩) := fixN1_not hkd
        have hFa0 := hid (Fa.start wo #[.int .i64 kd, .string nm, .int .i64 nu, .slice aa args.length ac])
        go_wp2
        go_loopw [8, 26] (fun x i wy => ∃ (k : Nat) (bo : Option Addr) (bc : Nat), k ≤ args.length ∧ i = .int .i64 (k : Int) ∧ x = .slice bo k bc ∧ Hid (Fa wo wy #[.int .i64 kd, .string nm, .int .i64 nu, .slice aa args.length ac] (.slice bo k bc) k (((args.take k).map (fun a => (f : Int) + a)).map (Value.int .i64)))) (fun _ i _ => args.length - (intOf i).toNat)
        case atStart => exact ⟨0, none, 0, Nat.zero_le _, rfl, rfl, hFa0⟩
        case round =>
          clear hFa0
          obtain ⟨k, bo, bc, hk, rfl, rfl, hFa⟩ := hrel
          by_cases hlk : k < args.length
          · obtain ⟨_, _, hve, hvc⟩ := hRA.out wr hFa.out.bel
            injection hve with u1 _ u3
            subst u1 u3
            obtain ⟨b, o, rfl, hu⟩ := hvc k hlk
            have hx := hav.out _ (getD_mem hlk)
            have hst : Hid (((args.take (k + 1)).map (fun a => (f : Int) + a)).map (Value.int .i64) = ((args.take k).map (fun a => (f : Int) + a)).map (Value.int .i64) ++ [.int .i64 ((f : Int) + args.getD k 0)]) := show _ = _ by
              rw [List.take_add_one, List.map_append, List.map_append]
              simp [List.getD, hlk]
            have hzb := lt_of_cell hu
            clear hvc hRA
            generalize args.getD k 0 = x at *
            obtain ⟨xn, rfl⟩ : ∃ xn : Nat, x = (xn : Int) := ⟨x.toNat, by omega⟩
            have ho2 := hid (World.ownsRow.alloc hFa.out.row (.cells #[.int .i64 ((f : Int) + (xn : Int))] 3))
            have hsz2 := lt_of_block hFa.out.box
            have hnx := hid (fun (w2 : World) (o : Obj) (v2 : Value) (k2 : Nat) (xs2 : List Value) h1 h2 => Fa.push (w2 := w2) (o := o) (v2 := v2) (k2 := k2) (xs2 := xs2) hFa.out h1 h2)
            clear hFa
            go_wp2_with (at_builtin; go_must (refine wpList_append_lies _ rfl _ _ 23 rfl wo.heap.size 3 i0 (.int .i64 0) 1 8 Try.underlying23 hi hz0 hz1 hz2 rfl (by decide) _ k _ rfl ho2.out ⟨wr.heap.size, 0, none⟩ 1 1 [.int .i64 ((f : Int) + (xn : Int))] rfl rfl (cell_one_new wr _ _) (by simp [Value.oneCell']) (by decide) (by unfold maxLen; omega) (by omega) (by simp; omega) _ rfl ?_; intro g cap w2 hown2 hg2 hat2 hlt2))
            go_roundw
            case rel => exact ⟨k + 1, _, cap, by omega, by go_num, rfl, hnx.out w2 _ _ _ _ hg2 (by rw [hst.out]; exact hown2)⟩
            case measure => simp [intOf]; omega
          · obtain rfl : k = args.length := by omega
            have hF9 := hid hFa.out
            rw [List.take_length] at hF9
            have hF9' : Hid (Fa wo wr #[.int .i64 kd, .string nm, .int .i64 nu, .slice aa args.length ac] (.slice bo (args.map (fun a => (f : Int) + a)).length bc) (args.map (fun a => (f : Int) + a)).length ((args.map (fun a => (f : Int) + a)).map (Value.int .i64))) := by
              have := hF9.out
              rw [List.length_map]
              exact this
            obtain ⟨⟨x0, x1, x2, x3⟩, f0, f3⟩ := nblk hF9.out.box
            have hzz := lt_of_block hF9.out.box
            have hon2 : Hid (((wr.setCell ⟨wo.heap.size, 3, none⟩ (.slice bo args.length bc)).alloc (.cells #[.int .i64 kd, .string nm, .int .i64 nu, .slice bo args.length bc] 56)).ownsRow W.heap.size 56 4 (.slice ao j c) j (ncells (fixedF f 0 (ns.take j)) avs)) := by
              refine World.ownsRow.alloc ?_ _
              refine row_keep hon.out (fun q hq => ?_)
              have hq2 := (hon.out.lt q hq).2
              rw [Below.heap_setCell _ _ _ _ (by show q ≠ wo.heap.size; omega)]
              exact hF9.out.bel.block q hq2
            have hdone := hid (fun (w2 : World) (o : Obj) (g cap : Nat) h1 h2 h3 => Fa.done (w2 := w2) (o := o) (g := g) (cap := cap) (nd := ⟨kd, nm, nu, args.map (fun a => (f : Int) + a)⟩) hF9'.out hO.out hB.out hjl.out h1 h2 h3)
            rw [List.length_map] at hdone
            clear hFa hF9 hF9'
            go_wp2_with (at_builtin; go_must (refine wpList_append_lies _ rfl _ _ 22 rfl W.heap.size 56 i1 (.agg #[.int .i64 0, .string ⟨#[]⟩, .int .i64 0, .slice none 0 0]) 4 56 Try.underlying22 hi1 hy0 hy1 hy2 rfl (by decide) _ j _ rfl hon2.out ⟨wr.heap.size, 0, none⟩ 1 1 [.int .i64 kd, .string nm, .int .i64 nu, .slice bo args.length bc] rfl rfl (World.news_of_block (cs := #[.int .i64 kd, .string nm, .int .i64 nu, .slice bo args.length bc]) (t := 56) (fr := (0, 0)) (by have h9 := heap_alloc_new (wr.setCell ⟨wo.heap.size, 3, none⟩ (.slice bo args.length bc)) (.cells #[.int .i64 kd, .string nm, .int .i64 nu, .slice bo args.length bc] 56); simpa using h9)) (by simp [Value.oneCell']) (by decide) (by unfold maxLen; omega) (by omega) (by simp; omega) _ rfl ?_; intro g cap w6 hown6 hg6 hat6 hlt6; obtain ⟨⟨avs3, hO6⟩, hB6⟩ := hdone.out w6 _ g cap hg6 hown6 (hat6.imp id (fun e => Nat.le_of_eq e.symm))))
            go_roundw
            case rel => exact ⟨j + 1, some ⟨g, 0, none⟩, cap, avs3, by omega, by go_num, rfl, (show On _ _ _ _ _ by rw [htk.out, hfn.out]; exact hO6), hB6⟩
            case measure => simp [intOf]; omega
    · obtain rfl : j = ns.length := by omega
      have hO9 := hid hO.out
      rw [List.take_length] at hO9
      have hB9 := hid hB.out
      clear hO hB
      go_wp2
      go_ret
      exact ⟨_, _, _, rfl, hO9.out, hB9.out⟩
end Go.Proofs.Ytllafbghomohhaa

/- slices.Grow and slices.Concat over nodes. -/
namespace Go.Proofs.Ytllafbghomohhaa
open Go.RowKit

/-- A slice of nothing is appended: nothing changes. -/
theorem run_app_empty {P : Program} {w : World} (base : Nat) (t ty e : TypeId) (i : TypeInfo) (size : Nat) (ht : P.underlying t = some (.slice e)) (hi : P.info? e = some i)
    (v : Value) (n : Nat) (xs : List Value) (hown : w.ownsRow base e size v n xs) (ao : Option Addr) (c : Nat) :
    (Builtin.append_ #[t, t] ty #[v, .slice ao 0 c]).run P w = .ok v w := by
  cases ao with
  | none =>
    rcases hown.2 with ⟨rfl, rfl⟩ | ⟨g, cap, cur, rfl, _, _, hnc, _⟩
    · simp [Builtin.append_, run_underlying ht, sizeOf, typeInfo, hi, Builtin.lenOf, Builtin.firstCells]
    · simp [Builtin.append_, run_underlying ht, sizeOf, typeInfo, hi, Builtin.lenOf, Builtin.firstCells, hnc, storeCells]
  | some a =>
    rcases hown.2 with ⟨rfl, rfl⟩ | ⟨g, cap, cur, rfl, _, _, hnc, _⟩
    · simp [Builtin.append_, run_underlying ht, sizeOf, typeInfo, hi, Builtin.lenOf, Builtin.firstCells, loadCells, loadCellsFrom]
    · simp [Builtin.append_, run_underlying ht, sizeOf, typeInfo, hi, Builtin.lenOf, Builtin.firstCells, hnc, storeCells, loadCells, loadCellsFrom]
set_option maxRecDepth 100000 in
set_option maxHeartbeats 4000000 in
theorem ngrow_any (w : World) (n : Nat) (hn : n ≤ 20000) :
    Calls Try.prog 62 #[.slice none 0 0, .int .i64 (n : Int)] w fun e w' => ∃ ao c, e = .returned (.slice ao 0 c) ∧ w'.ownsRow w.heap.size 56 4 (.slice ao 0 c) 0 [] ∧ Below w.heap.size w w' := by
  obtain ⟨i1, hi1, hy0, hy1, hy2⟩ := info_parts infoN
  have h1 : ¬ ((n : Int) < 0) := by omega
  by_cases h0 : n = 0
  · subst h0
    go_enter Try.func62, Try.ntmps62
    go_wp2
    go_ret
    exact ⟨_, _, rfl, World.ownsRow_nil _ _ _ _, Below.refl _ _⟩
  · have hrz : ∀ ty, (Builtin.append_ #[22, 3] ty #[.slice none 0 0, .int .i64 (n : Int)]).run Try.prog w = .ok (.slice (some ⟨w.heap.size, 0, none⟩) n (grownCap w n 0 56)) (w.drew.alloc (.cells (Builtin.zeroCells (Value.agg #[.int .i64 0, .string ⟨#[]⟩, .int .i64 0, .slice none 0 0]).cells n ++ Builtin.zeroCells (Value.agg #[.int .i64 0, .string ⟨#[]⟩, .int .i64 0, .slice none 0 0]).cells (grownCap w n 0 56 - n)) 56)) := fun ty =>
      Lib.run_append_nil_zeros (P := Try.prog) w 22 3 ty 56 i1 _ .i64 .i64 Try.underlying22 Try.underlying3 hi1 hy0 n (by omega) (by rw [hy1]; omega) (by omega) (by rw [hy2]; omega)
    have hgc := grownCap_ge w n 0 56
    have hgm := grownCap_le_maxLen w n 0 56 (by unfold maxLen; omega)
    have hfin : Hid (∀ C, C = grownCap w n 0 56 → (w.drew.alloc (.cells (Builtin.zeroCells (Value.agg #[.int .i64 0, .string ⟨#[]⟩, .int .i64 0, .slice none 0 0]).cells n ++ Builtin.zeroCells (Value.agg #[.int .i64 0, .string ⟨#[]⟩, .int .i64 0, .slice none 0 0]).cells (C - n)) 56)).ownsRow w.heap.size 56 4 (.slice (some ⟨w.heap.size, 0, none⟩) 0 C) 0 []) := fun C hC => by
      refine ⟨rfl, .inr ⟨w.heap.size, C, _, rfl, Nat.le_refl _, heap_alloc_new w.drew _, Nat.zero_le _, by rw [hC]; exact hgm, ?_, rfl⟩⟩
      rw [Array.size_append, size_zeroCells, size_zeroCells, ← Nat.add_mul, show n + (C - n) = C by omega]
      rfl
    generalize hC : grownCap w n 0 56 = C at *
    have hn0 : (n : Int) > 0 := by omega
    go_enter Try.func62, Try.ntmps62
    go_wp2_with (at_builtin; refine Lib.wpList_append_run _ rfl _ _ _ _ rfl _ _ rfl rfl _ _ (hrz _) ?_)
    go_ret
    exact ⟨_, _, rfl, hfin.out C rfl, (Below.refl _ _).drew.alloc (by simp) _⟩
end Go.Proofs.Ytllafbghomohhaa

/- with of package tendrillaw10. -/
namespace Go.Proofs.Ytllafbghomohhaa
open Go.RowKit

/-- The roots, and both of each pair behind them. -/
def withR (rs : List Int) : List (Int × Int) → List Int
  | [] => rs
  | p :: r => withR (rs ++ [p.1, p.2]) r
theorem withR_snoc : ∀ (rs : List Int) (ps : List (Int × Int)) (p : Int × Int), withR rs (ps ++ [p]) = withR rs ps ++ [p.1, p.2]
  | _, [], _ => rfl
  | rs, q :: r, p => withR_snoc (rs ++ [q.1, q.2]) r p
theorem withR_len : ∀ (rs : List Int) (ps : List (Int × Int)), (withR rs ps).length = rs.length + 2 * ps.length
  | rs, [] => by simp [withR]
  | rs, q :: r => by
    unfold withR
    rw [withR_len]
    simp
    omega
set_option maxRecDepth 100000 in
/-- Numbers, or none, are appended. -/
theorem iapp {w : World} {B : Nat} {ao : Option Addr} {n c : Nat} {xs : List Value} (hown : w.ownsRow B 3 1 (.slice ao n c) n xs) (hB : B ≤ w.heap.size) {v : Value} {l : List Int} (h : Ri w v l) (hn : n ≤ 100000) (hl : l.length ≤ 100000) :
    ∃ ao' c' w', (∀ ty, (Builtin.append_ #[23, 23] ty #[.slice ao n c, v]).run Try.prog w = .ok (.slice ao' (n + l.length) c') w') ∧ w'.ownsRow B 3 1 (.slice ao' (n + l.length) c') (n + l.length) (xs ++ l.map (Value.int .i64)) ∧ w.grownBy w' (Value.slice ao n c).ownBlock := by
  obtain ⟨i0, hi, hz0, hz1, hz2⟩ := info_parts infoI
  obtain ⟨ra, rc, rfl, hc⟩ := h
  by_cases h0 : 0 < l.length
  · obtain ⟨b, o, rfl, _⟩ := hc 0 h0
    obtain ⟨g, cap, w', hr, ho, hg, _⟩ := run_append_lies (P := Try.prog) w 23 0 B 3 i0 (.int .i64 0) 1 8 Try.underlying23 hi hz0 hz1 hz2 rfl (by decide) _ n xs hown ⟨b, o, none⟩ l.length rc (l.map (Value.int .i64)) (by simp) (fun j u hu => by
      have hj : j < l.length := by have := (List.getElem?_eq_some_iff.1 hu).1; simpa using this
      obtain ⟨b', o', e, h6⟩ := hc j hj
      injection e with e
      injection e with e1 e2
      subst e1 e2
      rw [Addr.add_lit, h6, ← hu]
      simp [List.getD, hj]) (fun u hu => by
      obtain ⟨x, _, rfl⟩ := List.mem_map.1 hu
      rfl) h0 (by unfold maxLen; omega) (by omega) hB _ rfl
    exact ⟨_, _, w', fun ty => hr, ho, hg⟩
  · have el : l = [] := List.eq_nil_of_length_eq_zero (by omega)
    subst el
    have hr := run_app_empty (P := Try.prog) B 23 0 3 i0 1 Try.underlying23 hi _ n xs hown ra rc
    refine ⟨ao, c, w, fun ty => hr, ?_, ⟨rfl, rfl, rfl, Nat.le_refl _, fun _ _ _ => rfl⟩⟩
    simpa using hown
end Go.Proofs.Ytllafbghomohhaa
