/- Solve of package solve: one contract over the answer. -/
import Derived.Test.YtllafbghomohhaaOFZ
import Derived.Test.YtllafbghomohhaaOGZ
import Derived.Deep.QuietTactic
import Derived.BigQuiet
import Derived.Test.YtllafbghomohhaaOJZ
import Derived.Test.YtllafbghomohhaaOHZ
namespace Go.Proofs.Ytllafbghomohhaa
open Go.RowKit

/-- What Solve's answer tells. -/
def SolR (g : Gf) (ps : List (Int × Int)) (ok : Bool) (h : Gf) : Prop := (chkS g ps = [] → (ok = true ↔ ¬ NoSol g.nodes (ps.map natP))) ∧ (ok = true → chkS g ps = [] ∧ LeastS g ps h) ∧ (ok = false → h = ⟨[], []⟩)
theorem gr_none (w : World) : Gr w (.slice none 0 0) (.slice none 0 0) ⟨[], []⟩ := ⟨⟨none, 0, rfl, fun _ h => absurd h (Nat.not_lt_zero _)⟩, Ri.nil w⟩
theorem solve_all {W : World} {nv rv pv : Value} {g : Gf} {ps : List (Int × Int)} (hG : Gr W nv rv g) (hS : Sized g) (hP : Rp W pv ps) (hl : ps.length ≤ 5000) :
    Calls Try.prog 7 #[.agg #[nv, rv], pv] W fun e w' => (∃ na nc ra rc ok ev h, e = .returned (.tuple #[.agg #[.slice na h.nodes.length nc, .slice ra h.roots.length rc], .bool ok, ev]) ∧ Gr w' (.slice na h.nodes.length nc) (.slice ra h.roots.length rc) h ∧ Er w' ev (chkS g ps) ∧ SolR g ps ok h) ∧ Below W.heap.size W w' := by
  by_cases hc : chkS g ps = []
  · by_cases hn : NoSol g.nodes (ps.map natP)
    · refine (solve_no hG hS hP hl hc hn).mono (fun e w' ⟨h1, h2⟩ => ⟨⟨none, 0, none, 0, false, .nilIface, ⟨[], []⟩, h1, gr_none w', by rw [hc]; rfl, fun _ => ⟨fun h => absurd h (by decide), fun h => absurd hn h⟩, fun h => absurd h (by decide), fun _ => rfl⟩, h2⟩)
    · refine (solve_yes hG hS hP hl hc hn).mono (fun e w' ⟨⟨t, na, nc, ra, rc, avs, h1, h3, h4⟩, h2⟩ => ⟨⟨na, nc, ra, rc, true, .nilIface, t, h1, h4.gr, by rw [hc]; rfl, fun _ => ⟨fun _ => hn, fun _ => rfl⟩, fun _ => ⟨hc, h3⟩, fun h => absurd h (by decide)⟩, h2⟩)
  · refine (solve_bad hG hS hP hl hc).mono (fun e w' ⟨⟨ev, h1, h3⟩, h2⟩ => ⟨⟨none, 0, none, 0, false, ev, ⟨[], []⟩, h1, gr_none w', h3, fun h => absurd h hc, fun h => absurd h (by decide), fun _ => rfl⟩, h2⟩)
end Go.Proofs.Ytllafbghomohhaa

/- Same of package bisim at a good graph and two of its nodes. -/
namespace Go.Proofs.Ytllafbghomohhaa
open Go.RowKit

end Go.Proofs.Ytllafbghomohhaa

/- SolveSound: the graph with the pairs among its roots: plain data. -/
namespace Go.Proofs.Ytllafbghomohhaa
open Go.RowKit

theorem withR_pre : ∀ (rs : List Int) (ps : List (Int × Int)) (k : Nat), k < rs.length → (withR rs ps).getD k 0 = rs.getD k 0
  | _, [], _, _ => rfl
  | rs, q :: r, k, h => by
    unfold withR
    rw [withR_pre (rs ++ [q.1, q.2]) r k (by simp; omega)]
    simp [List.getD, List.getElem?_append_left h]
theorem withR_get : ∀ (rs : List Int) (ps : List (Int × Int)) (i : Nat), i < ps.length → (withR rs ps).getD (rs.length + 2 * i) 0 = (ps.getD i (0, 0)).1 ∧ (withR rs ps).getD (rs.length + 2 * i + 1) 0 = (ps.getD i (0, 0)).2
  | _, [], _, h => absurd h (Nat.not_lt_zero _)
  | rs, q :: r, 0, _ => by
    unfold withR
    rw [withR_pre _ r _ (by simp), withR_pre _ r _ (by simp)]
    simp [List.getD]
  | rs, q :: r, i + 1, h => by
    unfold withR
    have := withR_get (rs ++ [q.1, q.2]) r i (by simpa using h)
    rw [List.length_append, show rs.length + [q.1, q.2].length + 2 * i = rs.length + 2 * (i + 1) by simp; omega] at this
    simpa [List.getD] using this
theorem withR_mem : ∀ (rs : List Int) (ps : List (Int × Int)) (x : Int), x ∈ withR rs ps → x ∈ rs ∨ ∃ p ∈ ps, x = p.1 ∨ x = p.2
  | _, [], _, h => Or.inl h
  | rs, q :: r, x, h => by
    unfold withR at h
    rcases withR_mem _ r x h with h | ⟨p, hp, e⟩
    · rcases List.mem_append.1 h with h | h
      · exact Or.inl h
      · exact Or.inr ⟨q, by simp, by simpa using h⟩
    · exact Or.inr ⟨p, by simp [hp], e⟩
/-- Pairs can be made one, or there is no solution. -/
theorem un_all {ns : List Nd} (hA : GoodA ns) : ∀ (n : Nat) (P : List (Nat × Nat)), P.length = n → (∀ p ∈ P, p.1 < ns.length ∧ p.2 < ns.length) → (∃ E, Un ns P E []) ∨ NoSol ns P
  | 0, P, h, _ => Or.inl ⟨id, by rw [List.eq_nil_of_length_eq_zero h]; exact Un.init ns⟩
  | n + 1, P, h, hr => by
    rcases List.eq_nil_or_concat P with e | ⟨Q, p, e⟩
    · subst e; simp at h
    · subst e
      rcases un_all hA n Q (by simpa using h) (fun q hq => hr q (by simp [hq])) with ⟨E, hU⟩ | hn
      · rw [List.concat_eq_append]
        exact un_more hA hU (hr p (by simp)).1 (hr p (by simp)).2
      · exact Or.inr (hn.more (fun q hq => by simp [hq]))
theorem pairD_mem {ps : List (Int × Int)} {i : Nat} (h : i < ps.length) : ps.getD i (0, 0) ∈ ps := by simp [List.getD, h]
/-- With the pairs among the roots a good graph is good, and the pairs are. -/
theorem with_good {g : Gf} {ps : List (Int × Int)} (hc : chkS g ps = []) (hr : g.roots.length ≤ 200) (hl : ps.length ≤ 100) : Good ⟨g.nodes, withR g.roots ps⟩ ∧ chkS ⟨g.nodes, withR g.roots ps⟩ ps = [] := by
  obtain ⟨hg, hp⟩ := chkS_good hc
  have hw : Good ⟨g.nodes, withR g.roots ps⟩ := by
    refine ⟨hg.nodes, by rw [withR_len]; omega, hg.node, fun x hx => ?_⟩
    rcases withR_mem _ _ _ hx with h | ⟨p, hm, e⟩
    · exact hg.root x h
    · obtain ⟨h1, h2⟩ := hp p hm
      rcases e with rfl | rfl
      · exact h1
      · exact h2
  refine ⟨hw, ?_⟩
  unfold chkS at hc ⊢
  rw [chk_of_good hg] at hc
  rw [chk_of_good hw]
  exact hc
/-- What is solved is good. -/
theorem sol_good {g : Gf} (hg : Good g) {ps : List (Int × Int)} {t : Gf} (h : LeastS g ps t) : Good t := by
  obtain ⟨E, ee, hU, hd, rfl⟩ := h
  have h1 := gE_good hg hU.rng
  exact trim_good0 (quo_good h1 (al_eqv h1 hd))
/-- The pairs' roots are one. -/
theorem sol_pairs {g : Gf} {ps : List (Int × Int)} {t : Gf} (h : LeastS ⟨g.nodes, withR g.roots ps⟩ ps t) : t.roots.length = (withR g.roots ps).length ∧ ∀ i, i < ps.length → t.roots.getD (g.roots.length + 2 * i) 0 = t.roots.getD (g.roots.length + 2 * i + 1) 0 := by
  obtain ⟨h1, h2⟩ := sol_roots h
  refine ⟨h1, fun i hi => ?_⟩
  obtain ⟨e1, e2⟩ := withR_get g.roots ps i hi
  have hl := withR_len g.roots ps
  have hm := pairD_mem hi
  refine h2 _ _ (by show _ < (withR g.roots ps).length; omega) (by show _ < (withR g.roots ps).length; omega) ?_
  show ((withR g.roots ps).getD _ 0, (withR g.roots ps).getD _ 0) ∈ ps
  rw [e1, e2]
  exact hm
/-- Do the first pairs unfold alike? -/
def alP (ee : Nat → Nat → Bool) (ps : List (Int × Int)) : Nat → Bool
  | 0 => true
  | j + 1 => alP ee ps j && ee (ps.getD j (0, 0)).1.toNat (ps.getD j (0, 0)).2.toNat
theorem alP_iff {ee : Nat → Nat → Bool} {ps : List (Int × Int)} : ∀ {j : Nat}, alP ee ps j = true ↔ ∀ i, i < j → ee (ps.getD i (0, 0)).1.toNat (ps.getD i (0, 0)).2.toNat = true
  | 0 => ⟨fun _ i h => absurd h (Nat.not_lt_zero _), fun _ => rfl⟩
  | j + 1 => by
    unfold alP
    rw [Bool.and_eq_true, alP_iff]
    constructor
    · rintro ⟨h1, h2⟩ i hi
      by_cases e : i = j
      · subst e; exact h2
      · exact h1 i (by omega)
    · exact fun h => ⟨fun i hi => h i (by omega), h j (by omega)⟩
theorem alP_hang {g : Gf} {ps : List (Int × Int)} (hc : chkS g ps = []) {E : Nat → Nat} (hU : Un g.nodes (ps.map natP) E []) {ee : Nat → Nat → Bool} (he : ∀ x y : Nat, (ee x y = true ↔ Al g (x : Int) (y : Int))) : alP ee ps ps.length = true ↔ hangF g.nodes E g.nodes.length = [] := by
  obtain ⟨hg, hp⟩ := chkS_good hc
  rw [hang_iff hg hU (fun p hm => by
    obtain ⟨q, hq, rfl⟩ := List.mem_map.1 hm
    obtain ⟨h1, h2⟩ := hp q hq
    simp only [natP]
    omega), alP_iff]
  constructor
  · intro h p hm
    obtain ⟨q, hq, rfl⟩ := List.mem_map.1 hm
    obtain ⟨i, hi, rfl⟩ := List.getElem_of_mem hq
    have := h i hi
    rw [he] at this
    simpa [natP, List.getD, hi] using this
  · intro h i hi
    rw [he]
    exact h (natP (ps.getD i (0, 0))) (List.mem_map.2 ⟨_, pairD_mem hi, rfl⟩)
end Go.Proofs.Ytllafbghomohhaa

/- SolveGeneral: variables given nodes: plain data. -/
namespace Go.Proofs.Ytllafbghomohhaa
open Go.RowKit

/-- Is a node a variable that is given a node? -/
def stepV (ns : List Nd) (tos : List Int) (x : Nat) : Bool := decide ((ndN ns x).kind = 1) && decide (x < tos.length) && decide (0 ≤ tos.getD x 0) && decide (tos.getD x 0 < (ns.length : Int))
/-- Where a node leads in so many steps. -/
def plc (ns : List Nd) (tos : List Int) : Nat → Nat → Nat
  | 0, x => x
  | n + 1, x => if stepV ns tos x = true then plc ns tos n (tos.getD x 0).toNat else x
/-- Where a node leads. -/
def plF (ns : List Nd) (tos : List Int) (x : Nat) : Nat := plc ns tos (ns.length + 1) x
theorem stepV_iff {ns : List Nd} {tos : List Int} {x : Nat} : stepV ns tos x = true ↔ (ndN ns x).kind = 1 ∧ x < tos.length ∧ 0 ≤ tos.getD x 0 ∧ tos.getD x 0 < (ns.length : Int) := by
  simp only [stepV, Bool.and_eq_true, decide_eq_true_eq, and_assoc]
theorem plc_rng {ns : List Nd} {tos : List Int} : ∀ {n x : Nat}, x < ns.length → plc ns tos n x < ns.length
  | 0, _, h => h
  | n + 1, x, h => by
    unfold plc
    split
    · rename_i hs
      have := stepV_iff.1 hs
      exact plc_rng (by omega)
    · exact h
theorem plc_fix {ns : List Nd} {tos : List Int} {n x : Nat} (h : (ndN ns x).kind ≠ 1) : plc ns tos n x = x := by
  cases n with
  | zero => rfl
  | succ n =>
    unfold plc
    rw [if_neg (fun hs => h (stepV_iff.1 hs).1)]
theorem plF_rng {ns : List Nd} {tos : List Int} {x : Nat} (h : x < ns.length) : plF ns tos x < ns.length := plc_rng h
theorem plF_fix {ns : List Nd} {tos : List Int} {x : Nat} (h : (ndN ns x).kind ≠ 1) : plF ns tos x = x := plc_fix h
/-- The graph in which variables were given nodes. -/
def givenF (g : Gf) (tos : List Int) : Gf := ⟨(List.range g.nodes.length).map (fun i => renum (EI (plF g.nodes tos)) (ndN g.nodes (plF g.nodes tos i))), g.roots.map (EI (plF g.nodes tos))⟩
theorem given_len (g : Gf) (tos : List Int) : (givenF g tos).nodes.length = g.nodes.length := by simp [givenF]
theorem given_nd {g : Gf} {tos : List Int} {i : Nat} (h : i < g.nodes.length) : (givenF g tos).nd (i : Int) = renum (EI (plF g.nodes tos)) (ndN g.nodes (plF g.nodes tos i)) := by
  simp [givenF, Gf.nd, List.getD, h]
theorem given_good {g : Gf} (hg : Good g) (tos : List Int) : Good (givenF g tos) := by
  have hEI : ∀ z : Int, 0 ≤ z ∧ z < (g.nodes.length : Int) → 0 ≤ EI (plF g.nodes tos) z ∧ EI (plF g.nodes tos) z < (g.nodes.length : Int) := fun z hz => by
    have := plF_rng (tos := tos) (x := z.toNat) (ns := g.nodes) (by omega)
    unfold EI
    omega
  refine ⟨by rw [given_len]; exact hg.nodes, by simp [givenF]; exact hg.roots, fun n hn => ?_, fun z hz => ?_⟩
  · obtain ⟨i, hi, rfl⟩ := List.mem_map.1 hn
    rw [given_len]
    have hi' : i < g.nodes.length := by simpa using hi
    have hr := plF_rng (tos := tos) hi'
    have hgd : goodNd g.nodes.length (ndN g.nodes (plF g.nodes tos i)) = true := hg.node _ (by simp [ndN, List.getD, hr])
    exact renum_good hgd (fun z hz => hEI z ((good_args hgd).1 z hz))
  · obtain ⟨y, hy, rfl⟩ := List.mem_map.1 hz
    rw [given_len]
    exact hEI y (hg.root y hy)
section
variable {g : Gf} {tos : List Int}
theorem given_isN {x : Nat} (h : x < g.nodes.length) : isN (givenF g tos) (x : Int) := ⟨by omega, by rw [given_len]; omega⟩
theorem given_arg {x k : Nat} (h : x < g.nodes.length) (hk : (ndN g.nodes x).kind ≠ 1) (hkk : k < (ndN g.nodes x).args.length) : (givenF g tos).arg (x : Int) k = ((plF g.nodes tos (argN g.nodes x k) : Nat) : Int) := by
  unfold Gf.arg
  rw [given_nd h, plF_fix hk]
  exact map_getD hkk
/-- What leads tos no variable unfolds as that. -/
theorem pl_al (hg : Good g) {x : Nat} (h : x < g.nodes.length) (hk : (ndN g.nodes (plF g.nodes tos x)).kind ≠ 1) : Al (givenF g tos) (x : Int) ((plF g.nodes tos x : Nat) : Int) := by
  have hr := plF_rng (tos := tos) h
  have hh := given_good hg tos
  have e : (givenF g tos).nd (x : Int) = (givenF g tos).nd ((plF g.nodes tos x : Nat) : Int) := by rw [given_nd h, given_nd hr, plF_fix hk]
  have hkd : ((givenF g tos).nd (x : Int)).kind ≠ 1 := by rw [given_nd h]; exact hk
  refine ⟨fun a b => (a = b ∧ isN (givenF g tos) a) ∨ (a = (x : Int) ∧ b = ((plF g.nodes tos x : Nat) : Int)), fun a b hab => ?_, Or.inr ⟨rfl, rfl⟩⟩
  rcases hab with ⟨rfl, ha⟩ | ⟨rfl, rfl⟩
  · exact ⟨ha, ha, labE_refl _ _, fun k hk => Or.inl ⟨rfl, arg_isN hh ha hk⟩⟩
  · refine ⟨given_isN h, given_isN hr, ⟨by rw [e], by rw [e], by rw [e], by rw [e], fun e1 => absurd e1 hkd⟩, fun k hk2 => Or.inl ⟨?_, arg_isN hh (given_isN h) hk2⟩⟩
    unfold Gf.arg
    rw [e]
/-- Two nodes lead tos what unfolds alike. -/
def GvR (g : Gf) (tos : List Int) (x y : Nat) : Prop := x = y ∨ (x < g.nodes.length ∧ y < g.nodes.length ∧ Al (givenF g tos) ((plF g.nodes tos x : Nat) : Int) ((plF g.nodes tos y : Nat) : Int))
theorem gv_cg (hg : Good g) : Cg g.nodes (GvR g tos) := by
  have hA := goodA_of hg
  refine ⟨⟨fun _ => Or.inl rfl, fun x y h => ?_, fun x y z h k => ?_⟩, fun x y hx hy h hkx hky => ?_⟩
  · rcases h with rfl | ⟨h1, h2, h3⟩
    · exact Or.inl rfl
    · exact Or.inr ⟨h2, h1, al_symm h3⟩
  · rcases h with rfl | ⟨h1, h2, h3⟩
    · exact k
    · rcases k with rfl | ⟨_, k2, k3⟩
      · exact Or.inr ⟨h1, h2, h3⟩
      · exact Or.inr ⟨h1, k2, al_trans h3 k3⟩
  · rcases h with rfl | ⟨_, _, h3⟩
    · exact ⟨labS.refl _, fun _ _ => Or.inl rfl⟩
    · rw [plF_fix hkx, plF_fix hky] at h3
      obtain ⟨i1, i2, l, ar⟩ := al_sim _ _ _ h3
      unfold labE at l
      rw [given_nd hx, given_nd hy, plF_fix hkx, plF_fix hky] at l
      have l4 : (ndN g.nodes x).args.length = (ndN g.nodes y).args.length := by have := l.2.2.2.1; simpa [renum] using this
      refine ⟨⟨l.1, l.2.1, l.2.2.1, l4⟩, fun k hk => Or.inr ⟨(hA.arg x hx k hk).2, (hA.arg y hy k (by rw [← l4]; exact hk)).2, ?_⟩⟩
      have := ar k (by rw [given_nd hx, plF_fix hkx]; simpa [renum] using hk)
      rw [given_arg hx hkx hk, given_arg hy hky (by rw [← l4]; exact hk)] at this
      exact this
theorem gv_pair (hg : Good g) {x y : Nat} (hx : x < g.nodes.length) (hy : y < g.nodes.length) (h : Al (givenF g tos) (x : Int) (y : Int)) : GvR g tos x y := by
  have hl := (al_sim _ _ _ h).2.2.1
  have e1 : ((givenF g tos).nd (x : Int)).kind = (ndN g.nodes (plF g.nodes tos x)).kind := by rw [given_nd hx]; rfl
  have e2 : ((givenF g tos).nd (y : Int)).kind = (ndN g.nodes (plF g.nodes tos y)).kind := by rw [given_nd hy]; rfl
  by_cases hk : (ndN g.nodes (plF g.nodes tos x)).kind = 1
  · have := hl.2.2.2.2 (e1.trans hk)
    exact Or.inl (by omega)
  · have hk2 : (ndN g.nodes (plF g.nodes tos y)).kind ≠ 1 := fun e => hk (by rw [← e1, hl.1, e2, e])
    exact Or.inr ⟨hx, hy, al_trans (al_symm (pl_al hg hx hk)) (al_trans h (pl_al hg hy hk2))⟩
/-- What was given is an instance of what was made one. -/
theorem gv_ins (hg : Good g) {P : List (Nat × Nat)} {E : Nat → Nat} (hU : Un g.nodes P E []) (hP : ∀ p ∈ P, GvR g tos p.1 p.2) : Ins (gE g.nodes g.roots E) (givenF g tos) (fun x y => ∃ z : Nat, z < g.nodes.length ∧ x = ((E z : Nat) : Int) ∧ Al (givenF g tos) y ((plF g.nodes tos z : Nat) : Int)) := by
  have hA := goodA_of hg
  have hh := given_good hg tos
  have hmin := hU.done.2.2 _ (gv_cg (tos := tos) hg) hP
  have hgv : ∀ a b, a < g.nodes.length → E a = E b → b < g.nodes.length → Al (givenF g tos) ((plF g.nodes tos a : Nat) : Int) ((plF g.nodes tos b : Nat) : Int) := fun a b ha he hb => by
    rcases hmin a b he with rfl | ⟨_, _, h⟩
    · exact al_refl hh (given_isN (plF_rng ha))
    · exact h
  have hl : (gE g.nodes g.roots E).nodes.length = g.nodes.length := by simp [gE]
  have key : ∀ z, z < g.nodes.length → (ndN g.nodes (E z)).kind ≠ 1 → ∀ y, Al (givenF g tos) y ((plF g.nodes tos z : Nat) : Int) → Al (givenF g tos) y ((E z : Nat) : Int) := fun z hz hk y hy => by
    have h1 := hgv z (E z) hz (hU.idem z).symm (hU.rng z hz)
    rw [plF_fix hk] at h1
    exact al_trans hy h1
  refine ⟨fun x y ⟨z, hz, e, hy⟩ => ⟨?_, (al_sim _ _ _ hy).1⟩, fun x y ⟨z, hz, e, hy⟩ hk => ?_, fun x y ⟨z, hz, e, hy⟩ hk k hkk => ?_, fun x y y' ⟨z, hz, e, hy⟩ ⟨z', hz', e', hy'⟩ hk => ?_, by simp [gE, givenF], fun i hi => ?_⟩
  · have := hU.rng z hz
    subst e
    exact ⟨by omega, by rw [hl]; omega⟩
  · subst e
    have hr := hU.rng z hz
    rw [gE_nd hr] at hk ⊢
    have hk' : (ndN g.nodes (E z)).kind ≠ 1 := hk
    obtain ⟨_, _, l, _⟩ := al_sim _ _ _ (key z hz hk' y hy)
    unfold labE at l
    rw [given_nd hr, plF_fix hk'] at l
    exact ⟨l.1.symm, l.2.1.symm, l.2.2.1.symm, by have := l.2.2.2.1; simpa [renum] using this.symm⟩
  · subst e
    have hr := hU.rng z hz
    rw [gE_nd hr] at hk hkk
    have hk' : (ndN g.nodes (E z)).kind ≠ 1 := hk
    have hkk' : k < (ndN g.nodes (E z)).args.length := by simpa [renum] using hkk
    obtain ⟨_, _, l, ar⟩ := al_sim _ _ _ (key z hz hk' y hy)
    unfold labE at l
    rw [given_nd hr, plF_fix hk'] at l
    have a1 := ar k (by rw [l.2.2.2.1]; simpa [renum] using hkk')
    rw [given_arg hr hk' hkk'] at a1
    refine ⟨argN g.nodes (E z) k, (hA.arg _ hr k hkk').2, ?_, a1⟩
    unfold Gf.arg
    rw [gE_nd hr]
    exact map_getD hkk'
  · have he : E z = E z' := by omega
    exact al_trans hy (al_trans (hgv z z' hz he hz') (al_symm hy'))
  · have hi' : i < g.roots.length := by simpa [gE] using hi
    have hrt := hg.root _ (getD_mem hi')
    have e1 : (gE g.nodes g.roots E).roots.getD i 0 = EI E (g.roots.getD i 0) := map_getD hi'
    have e2 : (givenF g tos).roots.getD i 0 = EI (plF g.nodes tos) (g.roots.getD i 0) := map_getD hi'
    rw [e1, e2]
    exact ⟨(g.roots.getD i 0).toNat, by omega, rfl, al_refl hh (given_isN (plF_rng (by omega)))⟩
/-- What was given is an instance of the most general solution. -/
theorem gv_least (hg : Good g) {ps : List (Int × Int)} {t : Gf} (h : LeastS g ps t) (hP : ∀ p ∈ ps.map natP, GvR g tos p.1 p.2) : ∃ S, Ins t (givenF g tos) S := by
  obtain ⟨E, ee, hU, hd, rfl⟩ := h
  have h1 := gE_good hg hU.rng
  exact (pr_ins h1 (least_pair h1 hd)).trans (gv_ins hg hU hP)
theorem gv_sol (hg : Good g) {ps : List (Int × Int)} (hP : ∀ p ∈ ps.map natP, GvR g tos p.1 p.2) : ¬ NoSol g.nodes (ps.map natP) := fun h => h _ (gv_cg hg) hP
end
end Go.Proofs.Ytllafbghomohhaa

/- given of package tendrillaw10: what lies in memory. -/
namespace Go.Proofs.Ytllafbghomohhaa
open Go.RowKit

/-- The first values of a function, the rest nought. -/
def fJ (f : Nat → Nat) (N j : Nat) : List Nat := (List.range N).map (fun i => if i < j then f i else 0)
theorem fJ_len (f : Nat → Nat) (N j : Nat) : (fJ f N j).length = N := by simp [fJ]
theorem fJ_get {f : Nat → Nat} {N j i : Nat} (h : i < N) : (fJ f N j).getD i 0 = if i < j then f i else 0 := by simp [fJ, List.getD, h]
theorem fJ_zero (f : Nat → Nat) (N : Nat) : (ints (fJ f N 0)).map (Value.int .i64) = List.replicate N (.int .i64 0) := by
  apply List.ext_getElem
  · simp [ints, fJ]
  · intro i h1 h2
    simp [ints, fJ]
theorem fJ_step {f : Nat → Nat} {N j : Nat} : (fJ f N j).set j (f j) = fJ f N (j + 1) := by
  apply List.ext_getElem
  · simp [fJ]
  · intro i h1 h2
    by_cases e : j = i
    · subst e
      simp [fJ]
    · have h3 : i < N := by simpa [fJ] using h2
      rw [List.getElem_set_ne e]
      simp only [fJ, List.getElem_map, List.getElem_range]
      by_cases h4 : i < j
      · rw [if_pos h4, if_pos (by omega)]
      · rw [if_neg h4, if_neg (by omega)]
/-- The row of places. -/
structure Gv1 (W : World) (nv rv : Value) (pb N : Nat) (L : List Nat) (w : World) : Prop where
  s : Sb W nv rv w
  p : w.ownsRow (W.heap.size + 1 + 1) 3 1 (.slice (some ⟨pb, 0, none⟩) N N) N ((ints L).map (Value.int .i64))
  l : L.length = N
section
variable {W w w' : World} {nv rv : Value} {pb N : Nat} {L : List Nat}
theorem Gv1.next (h : Gv1 W nv rv pb N L w) (hb : Below w.heap.size w w') : Gv1 W nv rv pb N L w' := ⟨h.s.next hb, row_keep h.p (fun k hk => hb.block k (h.p.lt k hk).2), h.l⟩
theorem Gv1.lo (h : Gv1 W nv rv pb N L w) : W.heap.size + 1 + 1 ≤ pb ∧ pb < w.heap.size := h.p.lt pb rfl
theorem Gv1.cell (h : Gv1 W nv rv pb N L w) {i : Nat} (hi : i < N) : w.cell? ⟨pb, i, none⟩ = some (.int .i64 ((L.getD i 0 : Nat) : Int)) ∧ w.frozen? ⟨pb, i, none⟩ = false :=
  ⟨by rw [h.p.cellAt i (by omega)]; exact ints_at (by rw [h.l]; exact hi), h.p.frozenAt i⟩
theorem Gv1.set (h : Gv1 W nv rv pb N L w) (n v : Nat) : Gv1 W nv rv pb N (L.set n v) (w.setCell ⟨pb, n, none⟩ (.int .i64 (v : Int))) := by
  obtain ⟨h1, h2⟩ := h.lo
  refine ⟨⟨(Below.heap_setCell _ _ _ _ (by show W.heap.size ≠ pb; omega)).trans h.s.g, (Below.heap_setCell _ _ _ _ (by show W.heap.size + 1 ≠ pb; omega)).trans h.s.r, h.s.b.setCell (p := ⟨pb, n, none⟩) (by show W.heap.size ≤ pb; omega) _⟩, ?_, by simp [h.l]⟩
  have h3 := (World.ownsRow.stored h.p n (.int .i64 (v : Int))).1
  rw [ints_set] at h3
  exact h3
theorem Gv1.box (h : Gv1 W nv rv pb N L w) : (w.cell? ⟨W.heap.size, 0, none⟩ = some nv ∧ w.cell? ⟨W.heap.size, 1, none⟩ = some rv) ∧ W.heap.size < w.heap.size := by
  obtain ⟨a, _⟩ := blk2y h.s.g
  exact ⟨a, lt_of_block h.s.g⟩
end
theorem gv1_start {W w1 : World} {nv rv : Value} {N : Nat} (f : Nat → Nat) (hown : w1.ownsRow (W.heap.size + 1 + 1) 3 1 (.slice (some ⟨((W.alloc (.cells #[nv, rv] 25)).alloc grZ).heap.size, 0, none⟩) N N) N (madeCells (Value.int .i64 0).cells (N * 1)).toList) (hgrow : ((W.alloc (.cells #[nv, rv] 25)).alloc grZ).grownBy w1 none) : Gv1 W nv rv (W.heap.size + 1 + 1) N (fJ f N 0) w1 := by
  have hsz : ((W.alloc (.cells #[nv, rv] 25)).alloc grZ).heap.size = W.heap.size + 1 + 1 := by simp
  rw [hsz] at hown
  refine ⟨(Sb.new W nv rv).next ((Below.refl _ _).grown hgrow (Nat.le_refl _) (fun _ e => by cases e)), ?_, fJ_len _ _ _⟩
  rw [fJ_zero]
  rw [show (madeCells (Value.int .i64 0).cells (N * 1)).toList = List.replicate N (.int .i64 0) by rw [Nat.mul_one]; simp [Value.cells, toList_madeCells_one]] at hown
  exact hown
theorem Gv1.nd {W w : World} {na : Option Addr} {nc : Nat} {rv : Value} {pb N : Nat} {L : List Nat} {g : Gf} (h : Gv1 W (.slice na g.nodes.length nc) rv pb N L w) (hG : Gr W (.slice na g.nodes.length nc) rv g) {x : Nat} (hx : x < g.nodes.length) : ∃ b o aa ac, na = some ⟨b, o, none⟩ ∧ (w.cell? ⟨b, o + x * 4, none⟩ = some (.int .i64 (ndN g.nodes x).kind) ∧ w.cell? ⟨b, o + x * 4 + 1, none⟩ = some (.string (ndN g.nodes x).name) ∧ w.cell? ⟨b, o + x * 4 + 2, none⟩ = some (.int .i64 (ndN g.nodes x).num) ∧ w.cell? ⟨b, o + x * 4 + 3, none⟩ = some (.slice aa (ndN g.nodes x).args.length ac)) ∧ Ri W (.slice aa (ndN g.nodes x).args.length ac) (ndN g.nodes x).args := by
  obtain ⟨na', nc', e, hc⟩ := hG.1
  injection e with e1 _ _
  subst e1
  obtain ⟨b, o, av, rfl, h0⟩ := hc x hx
  obtain ⟨p0, p1, p2, p3, _⟩ := h0.below h.s.b
  obtain ⟨aa, ac, rfl, ha⟩ := h0.2.2.2.2
  exact ⟨b, o, aa, ac, rfl, ⟨p0, p1, p2, p3⟩, aa, ac, rfl, ha⟩
/-- Roots are laid: the rest stays. -/
theorem Gp.rooted {S : Nat} {w w' : World} {gb : Nat} {gv rv rv2 : Value} {avs : List Value} {nds : List Nd} {rts rts2 : List Int} (h : Gp S w gb gv rv avs nds rts) (hm : Mo (fun k => k = gb) w w') (hb : w'.heap[gb]? = some (.cells #[gv, rv2] 25)) (hr : w'.ownsRow S 3 1 rv2 rts2.length (rts2.map (Value.int .i64))) : Gp S w' gb gv rv2 avs nds rts2 := by
  have kr : ∀ {e : TypeId} {z : Nat} {v : Value} {n : Nat} {xs : List Value}, e ≠ 25 → w.ownsRow S e z v n xs → w'.ownsRow S e z v n xs := fun hne ho => row_keep ho (fun k hk => by
    obtain ⟨cur, hc⟩ := row_obj ho hk
    exact hm.block k (ho.lt k hk).2 (obj_ne hc h.box hne))
  refine ⟨h.lo, hb, kr (by decide) h.n, h.len, fun j hj => ?_, hr⟩
  obtain ⟨ao, c, e, ho⟩ := h.a j hj
  exact ⟨ao, c, e, kr (by decide) ho⟩
theorem Gv1.mo {W w w' : World} {nv rv : Value} {pb N q : Nat} {L : List Nat} (h : Gv1 W nv rv pb N L w) (hm : Mo (fun k => k = q) w w') (hq : pb < q) : Gv1 W nv rv pb N L w' := by
  obtain ⟨h1, h2⟩ := h.lo
  refine ⟨⟨(hm.block _ (lt_of_block h.s.g) (by omega)).trans h.s.g, (hm.block _ (lt_of_block h.s.r) (by omega)).trans h.s.r, h.s.b.trans (hm.below (fun k hk => by omega) h.s.b.size)⟩, row_keep h.p (fun k hk => ?_), h.l⟩
  have e : pb = k := by simpa [Value.ownBlock] using hk
  exact hm.block k (by omega) (by omega)
/-- Roots are laid, one more. -/
structure Gr5 (w3 : World) (ob : Nat) (nv rv : Value) (k : Nat) (xs : List Value) (wr : World) : Prop where
  m : Mo (fun q => q = ob) w3 wr
  b : wr.heap[ob]? = some (.cells #[nv, rv] 25)
  o : wr.ownsRow w3.heap.size 3 1 rv k xs
theorem Gr5.push {w3 wr w5 : World} {ob : Nat} {nv : Value} {ao : Option Addr} {k c gg cap : Nat} {y : Int} {xs : List Value} (h : Gr5 w3 ob nv (.slice ao k c) k xs wr) (hob : ob < w3.heap.size) (hown : w5.ownsRow w3.heap.size 3 1 (.slice (some ⟨gg, 0, none⟩) (k + 1) cap) (k + 1) (xs ++ [.int .i64 y])) (hg : (wr.alloc (.cells #[.int .i64 y] 3)).drew.grownBy w5 (Value.slice ao k c).ownBlock) :
    w5.heap[ob]? = some (.cells #[nv, .slice ao k c] 25) ∧ Gr5 w3 ob nv (.slice (some ⟨gg, 0, none⟩) (k + 1) cap) (k + 1) (xs ++ [.int .i64 y]) (w5.setCell ⟨ob, 1, none⟩ (.slice (some ⟨gg, 0, none⟩) (k + 1) cap)) := by
  have hs := h.m.size
  have hlo := fun q hq => (h.o.lt q hq).1
  have b5 : w5.heap[ob]? = some (.cells #[nv, .slice ao k c] 25) := by
    rw [hg.block ob (by simp; omega) (fun e => by have := hlo ob e.symm; omega)]
    exact (Below.heap_alloc _ _ _ (by omega)).trans h.b
  refine ⟨b5, ?_, ?_, ?_⟩
  · exact (((h.m.alloc _).drew).grown hg (fun q hq => Or.inr (hlo q hq))).setCell (p := ⟨ob, 1, none⟩) (Or.inl rfl) _
  · exact blk2_set1 b5
  · refine row_keep hown (fun q hq => Below.heap_setCell _ _ _ _ ?_)
    have := (hown.lt q hq).1
    show q ≠ ob
    omega
theorem cut_new (w : World) (o : Obj) : Below w.heap.size w (w.alloc o).drew ∧ (w.alloc o).drew.heap[w.heap.size]? = some o ∧ (w.alloc o).drew.heap.size = w.heap.size + 1 :=
  ⟨(below_alloc w o).drew, heap_alloc_new w o, by simp⟩
/-- The node's box gets its arguments: the graph that is built stays. -/
theorem giv_set {S gb : Nat} {w4 wk : World} {gv rv v : Value} {avs : List Value} {nds : List Nd} {rts : List Int} {n : Nat} {xs : List Value} (h : Gp S w4 gb gv rv avs nds rts) (hb : Below w4.heap.size w4 wk) (ho : wk.ownsRow (w4.heap.size + 1) 3 1 v n xs) : Gp S (wk.setCell ⟨w4.heap.size, 3, none⟩ v) gb gv rv avs nds rts ∧ (wk.setCell ⟨w4.heap.size, 3, none⟩ v).ownsRow S 3 1 v n xs ∧ Below S w4 (wk.setCell ⟨w4.heap.size, 3, none⟩ v) := by
  have hS : S ≤ w4.heap.size := by have := lt_of_block h.box; have := h.lo; omega
  refine ⟨h.keep (fun k h1 h2 => ?_), ?_, (hb.mono hS).setCell (p := ⟨w4.heap.size, 3, none⟩) hS _⟩
  · rw [Below.heap_setCell _ _ _ _ (by show k ≠ w4.heap.size; omega), hb.block k h2]
  · refine row_keep (own_base ho (by omega)) (fun k hk => Below.heap_setCell _ _ _ _ ?_)
    have := (ho.lt k hk).1
    show k ≠ w4.heap.size
    omega
theorem giv_push {S gb : Nat} {w w9 : World} {rv : Value} {ao : Option Addr} {j c : Nat} {avs : List Value} {nds : List Nd} {rts : List Int} {nd : Nd} {ao4 : Option Addr} {c4 g cap : Nat} {o : Obj} (h : Gp S w gb (.slice ao j c) rv avs nds rts) (hj : nds.length = j) (ha : w.ownsRow S 3 1 (.slice ao4 nd.args.length c4) nd.args.length (nd.args.map (Value.int .i64)))
    (hown : w9.ownsRow S 56 4 (.slice (some ⟨g, 0, none⟩) (j + 1) cap) (j + 1) (ncells nds avs ++ [.int .i64 nd.kind, .string nd.name, .int .i64 nd.num, .slice ao4 nd.args.length c4])) (hg : (w.alloc o).grownBy w9 (Value.slice ao j c).ownBlock) :
    (w9.cell? ⟨gb, 0, none⟩ = some (.slice ao j c) ∧ w9.frozen? ⟨gb, 0, none⟩ = false ∧ gb < w9.heap.size) ∧ (∃ avs', Gp S (w9.setCell ⟨gb, 0, none⟩ (.slice (some ⟨g, 0, none⟩) (j + 1) cap)) gb (.slice (some ⟨g, 0, none⟩) (j + 1) cap) rv avs' (nds ++ [nd]) rts) ∧ Below S w (w9.setCell ⟨gb, 0, none⟩ (.slice (some ⟨g, 0, none⟩) (j + 1) cap)) := by
  subst hj
  have hs6 := hg.size
  simp at hs6
  have hzb := lt_of_block h.box
  have hlo := h.lo
  have hnb : ∀ k, (Value.slice ao nds.length c).ownBlock = some k → S ≤ k ∧ k ≠ gb := fun k hk => by
    obtain ⟨cur, hc⟩ := row_obj h.n hk
    exact ⟨(h.n.lt k hk).1, obj_ne hc h.box (by decide)⟩
  have b6 : w9.heap[gb]? = some (.cells #[.slice ao nds.length c, rv] 25) := by
    rw [hg.block gb (by simp; omega) (fun e => (hnb gb e.symm).2 rfl), Below.heap_alloc _ _ _ hzb]
    exact h.box
  refine ⟨⟨by simp [World.cell?, b6], by simp [World.frozen?, b6], lt_of_block b6⟩, ⟨_, h.push ha hown hg⟩, ?_⟩
  exact (((Below.refl _ _).alloc (by omega) o).grown hg (by simp; omega) (fun k hk => (hnb k hk).1)).setCell (p := ⟨gb, 0, none⟩) hlo _
theorem take_map1 {α : Type} {l : List Int} {f : Int → α} {k : Nat} (h : k < l.length) : (l.map f).take (k + 1) = (l.map f).take k ++ [f (l.getD k 0)] := by
  rw [List.take_add_one]
  simp [List.getD, h]
end Go.Proofs.Ytllafbghomohhaa
