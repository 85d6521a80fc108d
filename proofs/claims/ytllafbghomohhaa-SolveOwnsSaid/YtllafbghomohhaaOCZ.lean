/- The least graph, as plain data; two graphs have the same least graph just if a pairing of their nodes keeps labels and leads on. -/
import Derived.Test.YtllafbghomohhaaOBZ
import Derived.Test.YtllafbghomohhaaGrMem
namespace Go.Proofs.Ytllafbghomohhaa
open Go.RowKit

/-- The class of a node, as a number. -/
def clsI (e : Nat → Nat → Bool) (N : Nat) (x : Int) : Int := (ints (csF e N)).getD x.toNat 0
/-- The graph of classes. -/
def quoF (e : Nat → Nat → Bool) (g : Gf) : Gf := ⟨(lsF e g.nodes.length).map (fun n => renum (clsI e g.nodes.length) (g.nodes.getD n nd0)), g.roots.map (clsI e g.nodes.length)⟩
theorem clsI_eq (e : Nat → Nat → Bool) {N : Nat} {x : Int} (h0 : 0 ≤ x) (h1 : x < (N : Int)) : clsI e N x = (((csF e N).getD x.toNat 0 : Nat) : Int) := ints_get (by rw [csF_len]; omega)
theorem cls_rng {e : Nat → Nat → Bool} {N : Nat} (he : Eqv e N) {x : Int} (h0 : 0 ≤ x) (h1 : x < (N : Int)) : 0 ≤ clsI e N x ∧ clsI e N x < ((lsF e N).length : Int) := by
  have := ((numF_said he N (Nat.le_refl _)).hit x.toNat (by omega)).1
  rw [clsI_eq e h0 h1]
  omega
theorem quo_len (e : Nat → Nat → Bool) (g : Gf) : (quoF e g).nodes.length = (lsF e g.nodes.length).length := by simp [quoF]
theorem renum_good {N M : Nat} {F : Int → Int} {n : Nd} (h : goodNd N n = true) (hF : ∀ x ∈ n.args, 0 ≤ F x ∧ F x < (M : Int)) : goodNd M (renum F n) = true := by
  have hst : (n.args.map F).any (strange M) = false := by
    rw [List.any_eq_false]
    intro y hy
    obtain ⟨z, hz, rfl⟩ := List.mem_map.1 hy
    have := hF z hz
    simp [strange]
    omega
  unfold goodNd at h ⊢
  simp only [renum, List.length_map, hst]
  split
  · rename_i hk
    rw [if_pos hk] at h
    exact h
  · rename_i hk
    rw [if_neg hk] at h
    split
    · rename_i hk2
      rw [if_pos hk2] at h
      exact h
    · rename_i hk2
      rw [if_neg hk2] at h
      split
      · rename_i hk3
        rw [if_pos hk3] at h
        exact h
      · rename_i hk3
        rw [if_neg hk3] at h
        split
        · rename_i hk4
          rw [if_pos hk4] at h
          simp only [Bool.and_eq_true] at h ⊢
          exact ⟨h.1, rfl⟩
        · rename_i hk4
          rw [if_neg hk4] at h
          exact h
theorem quo_good {g : Gf} (hg : Good g) {e : Nat → Nat → Bool} (he : Eqv e g.nodes.length) : Good (quoF e g) := by
  have h1 := hg.nodes
  have h2 := hg.roots
  have h3 := lsF_le e g.nodes.length
  refine ⟨by rw [quo_len]; omega, by simp [quoF]; omega, fun n hn => ?_, fun x hx => ?_⟩
  · obtain ⟨m, hm, rfl⟩ := List.mem_map.1 hn
    have hlt := lsF_lt e _ m hm
    have hgd := hg.node (g.nodes.getD m nd0) (by simp [List.getD, hlt])
    rw [quo_len]
    exact renum_good hgd (fun x hx => by
      have := (good_args hgd).1 x hx
      exact cls_rng he this.1 this.2)
  · obtain ⟨z, hz, rfl⟩ := List.mem_map.1 hx
    rw [quo_len]
    have := hg.root z hz
    exact cls_rng he this.1 this.2
theorem cls_al {g : Gf} (hg : Good g) {e : Nat → Nat → Bool} (hd : ∀ x y : Nat, (e x y = true ↔ Al g (x : Int) (y : Int))) {x y : Int} (hx : isN g x) (hy : isN g y) : clsI e g.nodes.length x = clsI e g.nodes.length y ↔ Al g x y := by
  obtain ⟨hx0, hx1⟩ := hx
  obtain ⟨hy0, hy1⟩ := hy
  have he := al_eqv hg hd
  have h := (numF_said he g.nodes.length (Nat.le_refl _)).same he (x := x.toNat) (y := y.toNat) (by omega) (by omega)
  have k := hd x.toNat y.toNat
  have ex : ((x.toNat : Nat) : Int) = x := by omega
  have ey : ((y.toNat : Nat) : Int) = y := by omega
  rw [ex, ey] at k
  rw [clsI_eq e hx0 hx1, clsI_eq e hy0 hy1, ← k, ← h]
  omega
/-- A node's class in the graph of classes is labelled as the node, and leads to the classes of its arguments. -/
theorem quo_nd {g : Gf} (hg : Good g) {e : Nat → Nat → Bool} (hd : ∀ x y : Nat, (e x y = true ↔ Al g (x : Int) (y : Int))) {x : Int} (hx : isN g x) : (quoF e g).nd (clsI e g.nodes.length x) = renum (clsI e g.nodes.length) (g.nd x) := by
  have he := al_eqv hg hd
  have hx0 := hx.1
  have hx1 := hx.2
  have hh := (numF_said he g.nodes.length (Nat.le_refl _)).hit x.toNat (by omega)
  have hc := clsI_eq e hx0 hx1
  have hr : ((lsF e g.nodes.length).getD ((csF e g.nodes.length).getD x.toNat 0) 0) < g.nodes.length := lsF_lt e _ _ (nget_mem hh.1)
  have hal := (hd _ _).1 hh.2
  have ex : ((x.toNat : Nat) : Int) = x := by omega
  rw [ex] at hal
  have e1 : (quoF e g).nd (clsI e g.nodes.length x) = renum (clsI e g.nodes.length) (g.nd (((lsF e g.nodes.length).getD ((csF e g.nodes.length).getD x.toNat 0) 0 : Nat) : Int)) := by
    rw [hc]
    unfold Gf.nd
    have h1 := hh.1
    generalize (csF e g.nodes.length).getD x.toNat 0 = c at h1 ⊢
    simp only [Int.toNat_natCast, quoF]
    simp [List.getD, h1]
  rw [e1]
  generalize (((lsF e g.nodes.length).getD ((csF e g.nodes.length).getD x.toNat 0) 0 : Nat) : Int) = y at hal
  obtain ⟨_, hy, hl, ha⟩ := al_sim g x y hal
  obtain ⟨l1, l2, l3, l4, _⟩ := hl
  unfold renum
  rw [l1, l2, l3]
  congr 1
  apply list_ext0
  · simp [l4]
  · intro j hj
    have hj' : j < (g.nd y).args.length := by simpa using hj
    have hjx : j < (g.nd x).args.length := by omega
    have e2 : ((g.nd y).args.map (clsI e g.nodes.length)).getD j 0 = clsI e g.nodes.length (g.arg y j) := by simp [Gf.arg, List.getD, hj']
    have e3 : ((g.nd x).args.map (clsI e g.nodes.length)).getD j 0 = clsI e g.nodes.length (g.arg x j) := by simp [Gf.arg, List.getD, hjx]
    rw [e2, e3]
    exact (cls_al hg hd (arg_isN hg hy hj') (arg_isN hg hx hjx)).2 (al_symm (ha j hjx))
/-- Two graphs that are one but for their nodes' numbers are trimmed to the same. -/
theorem pos_map {F : Int → Int} : ∀ {m : List Int} {x : Int}, (∀ y ∈ m, F y = F x → y = x) → pos (m.map F) (F x) = pos m x
  | [], _, _ => rfl
  | y :: r, x, h => by
    by_cases e : y = x
    · subst e
      simp [pos]
    · have h1 : ¬ F y = F x := fun h2 => e (h y (by simp) h2)
      simp only [List.map_cons, pos, if_neg e, if_neg h1]
      rw [pos_map (fun z hz => h z (by simp [hz]))]
theorem trim_iso {g t : Gf} (hg : Good g) (ht : Good t) {F : Int → Int} (hF : ∀ x ∈ metF g, ∀ y ∈ metF g, F x = F y → x = y) (hn : ∀ x ∈ metF g, t.nd (F x) = renum F (g.nd x)) (hr : t.roots = g.roots.map F) : trimF t = trimF g := by
  have hc := met_arg hg
  have hS : In (metF g) [] := ⟨List.nodup_nil, by simp⟩
  have hta : ∀ x ∈ metF g, t.argsOf (F x) = (g.argsOf x).map F := fun x hx => by
    have := hn x hx
    show (t.nd (F x)).args = _
    rw [this]
    rfl
  have hml := (met_ok hg).le
  have hlen : ((metF g).map F).length = (metF g).length := by simp
  have h1 := meet_map hc hF hta g.nodes.length g.roots [] (met_root hg) hS
  have hcS : ∀ x ∈ (metF g).map F, ∀ y ∈ t.argsOf x, y ∈ (metF g).map F := fun x hx y hy => by
    obtain ⟨z, hz, rfl⟩ := List.mem_map.1 hx
    rw [hta z hz] at hy
    obtain ⟨u, hu, rfl⟩ := List.mem_map.1 hy
    exact List.mem_map.2 ⟨u, hc z hz u hu, rfl⟩
  have hrS : ∀ x ∈ t.roots, x ∈ (metF g).map F := fun x hx => by
    rw [hr] at hx
    obtain ⟨z, hz, rfl⟩ := List.mem_map.1 hx
    exact List.mem_map.2 ⟨z, met_root hg z hz, rfl⟩
  have hS' : In ((metF g).map F) [] := ⟨List.nodup_nil, by simp⟩
  have hin := meet_inS hcS t.nodes.length t.roots [] hrS hS'
  have hmt : metF t = (metF g).map F := by
    have h2 := meet_fuel hcS (g.nodes.length + t.nodes.length) g.nodes.length t.roots [] hrS hS' (by rw [hlen]; simp; omega) (by rw [hlen]; simp; omega)
    have hcT := met_arg ht
    have hST : In (metF t) [] := ⟨List.nodup_nil, by simp⟩
    have hmlt := (met_ok ht).le
    have h3 := meet_fuel hcT t.nodes.length (g.nodes.length + t.nodes.length) t.roots [] (met_root ht) hST (by simp; omega) (by simp; omega)
    have h4 : metF t = meetF t t.nodes.length t.roots [] := rfl
    rw [h4, h3, h2, hr]
    exact h1
  have hpos : ∀ x ∈ metF g, posF (metF t) (F x) = posF (metF g) x := fun x hx => by
    rw [hmt]
    unfold posF
    rw [if_pos hx, if_pos (List.mem_map.2 ⟨x, hx, rfl⟩), pos_map (fun y hy e => hF y hy x hx e)]
  have hnodes : (metF t).map (fun x => renum (posF (metF t)) (t.nodes.getD x.toNat nd0)) = (metF g).map (fun x => renum (posF (metF g)) (g.nodes.getD x.toNat nd0)) := by
    rw [show (metF t).map (fun x => renum (posF (metF t)) (t.nodes.getD x.toNat nd0)) = ((metF g).map F).map (fun x => renum (posF (metF t)) (t.nodes.getD x.toNat nd0)) from congrArg (fun m => m.map (fun x => renum (posF (metF t)) (t.nodes.getD x.toNat nd0))) hmt]
    rw [List.map_map]
    apply List.map_congr_left
    intro x hx
    show renum (posF (metF t)) (t.nd (F x)) = renum (posF (metF g)) (g.nd x)
    rw [hn x hx]
    unfold renum
    congr 1
    rw [List.map_map]
    apply List.map_congr_left
    intro y hy
    exact hpos y (hc x hx y hy)
  have hroots : t.roots.map (posF (metF t)) = g.roots.map (posF (metF g)) := by
    rw [hr, List.map_map]
    apply List.map_congr_left
    intro y hy
    exact hpos y (met_root hg y hy)
  unfold trimF
  rw [hnodes, hroots]
/-- A pairing of the nodes of two graphs. -/
structure Pr (a b : Gf) (R : Int → Int → Prop) : Prop where
  rng : ∀ x y, R x y → isN a x ∧ isN b y
  lab : ∀ x y, R x y → (a.nd x).kind = (b.nd y).kind ∧ (a.nd x).name = (b.nd y).name ∧ (a.nd x).num = (b.nd y).num ∧ (a.nd x).args.length = (b.nd y).args.length
  arg : ∀ x y, R x y → ∀ k, k < (a.nd x).args.length → R (a.arg x k) (b.arg y k)
  v1 : ∀ x y y', R x y → R x y' → (a.nd x).kind = 1 → y = y'
  v2 : ∀ x x' y, R x y → R x' y → (b.nd y).kind = 1 → x = x'
  len : a.roots.length = b.roots.length
  root : ∀ i, i < a.roots.length → R (a.roots.getD i 0) (b.roots.getD i 0)
theorem Pr.symm {a b : Gf} {R : Int → Int → Prop} (h : Pr a b R) : Pr b a (fun y x => R x y) :=
  ⟨fun y x r => ⟨(h.rng x y r).2, (h.rng x y r).1⟩, fun y x r => by
    obtain ⟨h1, h2, h3, h4⟩ := h.lab x y r
    exact ⟨h1.symm, h2.symm, h3.symm, h4.symm⟩, fun y x r k hk => h.arg x y r k (by rw [(h.lab x y r).2.2.2]; exact hk), fun y x x' r r' hk => h.v2 x x' y r r' hk, fun y y' x r r' hk => h.v1 x y y' r r' hk, h.len.symm, fun i hi => h.root i (by rw [h.len]; exact hi)⟩
/-- What is alike on one side is alike on the other. -/
theorem Pr.al {a b : Gf} {R : Int → Int → Prop} (h : Pr a b R) {x x' y y' : Int} (h1 : R x y) (h2 : R x' y') (hal : Al a x x') : Al b y y' := by
  refine ⟨fun u v => ∃ s t, R s u ∧ R t v ∧ Al a s t, fun u v huv => ?_, x, x', h1, h2, hal⟩
  obtain ⟨s, t, hs, ht, hst⟩ := huv
  obtain ⟨_, _, hl, ha⟩ := al_sim a s t hst
  obtain ⟨l1, l2, l3, l4⟩ := h.lab s u hs
  obtain ⟨m1, m2, m3, m4⟩ := h.lab t v ht
  refine ⟨(h.rng s u hs).2, (h.rng t v ht).2, ⟨by rw [← l1, hl.1, m1], by rw [← l2, hl.2.1, m2], by rw [← l3, hl.2.2.1, m3], by rw [← l4, hl.2.2.2.1, m4], fun hk => ?_⟩, fun k hk => ?_⟩
  · have e : s = t := hl.2.2.2.2 (l1.trans hk)
    subst e
    exact h.v1 s u v hs ht (l1.trans hk)
  · have hk1 : k < (a.nd s).args.length := by rw [l4]; exact hk
    have hk2 : k < (a.nd t).args.length := by rw [← hl.2.2.2.1]; exact hk1
    exact ⟨_, _, h.arg s u hs k hk1, h.arg t v ht k hk2, ha k hk1⟩
theorem list_mem_getD {l : List Int} {x : Int} (h : x ∈ l) : ∃ i, i < l.length ∧ l.getD i 0 = x := by
  obtain ⟨i, hi, e⟩ := List.getElem_of_mem h
  exact ⟨i, hi, by simp [List.getD, hi, e]⟩
/-- A pairing makes the least graphs the same. -/
theorem Pr.least {a b : Gf} (ha : Good a) (hb : Good b) {ea eb : Nat → Nat → Bool} (hda : ∀ x y : Nat, (ea x y = true ↔ Al a (x : Int) (y : Int))) (hdb : ∀ x y : Nat, (eb x y = true ↔ Al b (x : Int) (y : Int))) {R : Int → Int → Prop} (h : Pr a b R) : trimF (quoF ea a) = trimF (quoF eb b) := by
  have hA := quo_good ha (al_eqv ha hda)
  have hB := quo_good hb (al_eqv hb hdb)
  let Q : Int → Int → Prop := fun c d => ∃ x y, R x y ∧ clsI ea a.nodes.length x = c ∧ clsI eb b.nodes.length y = d
  have hfun : ∀ c d d', Q c d → Q c d' → d = d' := by
    rintro c d d' ⟨x, y, r, rfl, rfl⟩ ⟨x', y', r', e, rfl⟩
    have h1 := h.rng x y r
    have h2 := h.rng x' y' r'
    exact (cls_al hb hdb h1.2 h2.2).2 (h.al r r' ((cls_al ha hda h1.1 h2.1).1 e.symm))
  have hinj : ∀ c c' d, Q c d → Q c' d → c = c' := by
    rintro c c' d ⟨x, y, r, rfl, rfl⟩ ⟨x', y', r', rfl, e⟩
    have h1 := h.rng x y r
    have h2 := h.rng x' y' r'
    exact (cls_al ha hda h1.1 h2.1).2 (h.symm.al r r' ((cls_al hb hdb h1.2 h2.2).1 e.symm))
  have hFex : ∃ F : Int → Int, ∀ c d, Q c d → F c = d := by
    refine ⟨fun c => @dite _ (∃ d, Q c d) (Classical.propDecidable _) (fun hx => Classical.choose hx) (fun _ => 0), fun c d hcd => ?_⟩
    have hx : ∃ d, Q c d := ⟨d, hcd⟩
    show @dite _ (∃ d, Q c d) (Classical.propDecidable _) (fun hx => Classical.choose hx) (fun _ => 0) = d
    rw [dif_pos hx]
    exact hfun c _ d (Classical.choose_spec hx) hcd
  obtain ⟨F, hF⟩ := hFex
  have hstep : ∀ c d, Q c d → (quoF eb b).nd (F c) = renum F ((quoF ea a).nd c) ∧ ∀ y ∈ (quoF ea a).argsOf c, ∃ d, Q y d := by
    rintro c d ⟨x, y, r, rfl, rfl⟩
    have hr := h.rng x y r
    have hl := h.lab x y r
    rw [hF _ _ ⟨x, y, r, rfl, rfl⟩, quo_nd hb hdb hr.2]
    have ea1 : (quoF ea a).argsOf (clsI ea a.nodes.length x) = (a.nd x).args.map (clsI ea a.nodes.length) := by
      show ((quoF ea a).nd _).args = _
      rw [quo_nd ha hda hr.1]
      rfl
    refine ⟨?_, fun z hz => ?_⟩
    · rw [quo_nd ha hda hr.1]
      unfold renum
      simp only
      rw [hl.1, hl.2.1, hl.2.2.1]
      congr 1
      apply list_ext0
      · simp [hl.2.2.2]
      · intro j hj
        have hj' : j < (b.nd y).args.length := by simpa using hj
        have hjx : j < (a.nd x).args.length := by rw [hl.2.2.2]; exact hj'
        have e2 : ((b.nd y).args.map (clsI eb b.nodes.length)).getD j 0 = clsI eb b.nodes.length (b.arg y j) := by simp [Gf.arg, List.getD, hj']
        have e3 : (((a.nd x).args.map (clsI ea a.nodes.length)).map F).getD j 0 = F (clsI ea a.nodes.length (a.arg x j)) := by simp [Gf.arg, List.getD, hjx]
        rw [e2, e3]
        exact (hF _ _ ⟨_, _, h.arg x y r j hjx, rfl, rfl⟩).symm
    · rw [ea1] at hz
      obtain ⟨u, hu, rfl⟩ := List.mem_map.1 hz
      obtain ⟨j, hj, rfl⟩ := list_mem_getD hu
      exact ⟨_, _, _, h.arg x y r j hj, rfl, rfl⟩
  have hmet : ∀ c ∈ metF (quoF ea a), ∃ d, Q c d := by
    refine meet_in (fun c => ∃ d, Q c d) (fun c hc y hy => ?_) _ _ _ (fun c hc => ?_) (by simp)
    · obtain ⟨d, hd⟩ := hc
      exact (hstep c d hd).2 y hy
    · obtain ⟨z, hz, rfl⟩ := List.mem_map.1 hc
      obtain ⟨i, hi, rfl⟩ := list_mem_getD hz
      exact ⟨_, _, _, h.root i hi, rfl, rfl⟩
  refine (trim_iso hA hB (F := F) (fun c hc c' hc' e => ?_) (fun c hc => ?_) ?_).symm
  · obtain ⟨d, hd⟩ := hmet c hc
    obtain ⟨d', hd'⟩ := hmet c' hc'
    rw [hF c d hd, hF c' d' hd'] at e
    subst e
    exact hinj c c' d hd hd'
  · obtain ⟨d, hd⟩ := hmet c hc
    exact (hstep c d hd).1
  · show b.roots.map _ = (a.roots.map _).map F
    apply list_ext0
    · simp [h.len]
    · intro j hj
      have hj' : j < b.roots.length := by simpa using hj
      have hja : j < a.roots.length := by rw [h.len]; exact hj'
      have e2 : (b.roots.map (clsI eb b.nodes.length)).getD j 0 = clsI eb b.nodes.length (b.roots.getD j 0) := by simp [List.getD, hj']
      have e3 : ((a.roots.map (clsI ea a.nodes.length)).map F).getD j 0 = F (clsI ea a.nodes.length (a.roots.getD j 0)) := by simp [List.getD, hja]
      rw [e2, e3]
      exact (hF _ _ ⟨_, _, h.root j hja, rfl, rfl⟩).symm
/-- The number of a node in the least graph. -/
def lstI (e : Nat → Nat → Bool) (g : Gf) (x : Int) : Int := posF (metF (quoF e g)) (clsI e g.nodes.length x)
/-- A node that is met from the roots: so is its class, and its number in the least graph is labelled as it is. -/
theorem met_cls {g : Gf} (hg : Good g) {e : Nat → Nat → Bool} (hd : ∀ x y : Nat, (e x y = true ↔ Al g (x : Int) (y : Int))) : ∀ x ∈ metF g, isN g x ∧ clsI e g.nodes.length x ∈ metF (quoF e g) := by
  have hq := quo_good hg (al_eqv hg hd)
  refine meet_in (fun x => isN g x ∧ clsI e g.nodes.length x ∈ metF (quoF e g)) (fun x hx y hy => ?_) _ _ _ (fun x hx => ?_) (by simp)
  · obtain ⟨hx, hm⟩ := hx
    refine ⟨(hg.args hx.1 hx.2).1 y hy, met_arg hq _ hm _ ?_⟩
    show _ ∈ ((quoF e g).nd _).args
    rw [quo_nd hg hd hx]
    exact List.mem_map.2 ⟨y, hy, rfl⟩
  · exact ⟨hg.root x hx, met_root hq _ (List.mem_map.2 ⟨x, hx, rfl⟩)⟩
theorem least_nd {g : Gf} (hg : Good g) {e : Nat → Nat → Bool} (hd : ∀ x y : Nat, (e x y = true ↔ Al g (x : Int) (y : Int))) {x : Int} (hx : x ∈ metF g) : (trimF (quoF e g)).nd (lstI e g x) = renum (lstI e g) (g.nd x) := by
  have hq := quo_good hg (al_eqv hg hd)
  obtain ⟨h1, h2⟩ := met_cls hg hd x hx
  have h3 : (trimF (quoF e g)).nd (lstI e g x) = renum (posF (metF (quoF e g))) ((quoF e g).nd (clsI e g.nodes.length x)) := trim_node hq _ h2
  rw [h3, quo_nd hg hd h1]
  unfold renum
  congr 1
  rw [List.map_map]
  rfl
theorem least_al {g : Gf} (hg : Good g) {e : Nat → Nat → Bool} (hd : ∀ x y : Nat, (e x y = true ↔ Al g (x : Int) (y : Int))) {x y : Int} (hx : x ∈ metF g) (hy : y ∈ metF g) : lstI e g x = lstI e g y ↔ Al g x y := by
  have hq := quo_good hg (al_eqv hg hd)
  obtain ⟨h1, h2⟩ := met_cls hg hd x hx
  obtain ⟨k1, k2⟩ := met_cls hg hd y hy
  rw [← cls_al hg hd h1 k1]
  exact ⟨fun e => pos_inj hq _ h2 _ k2 e, fun e => by unfold lstI; rw [e]⟩
theorem least_rng {g : Gf} (hg : Good g) {e : Nat → Nat → Bool} (hd : ∀ x y : Nat, (e x y = true ↔ Al g (x : Int) (y : Int))) {x : Int} (hx : x ∈ metF g) : isN (trimF (quoF e g)) (lstI e g x) := by
  have hq := quo_good hg (al_eqv hg hd)
  obtain ⟨h1, h2⟩ := met_cls hg hd x hx
  have := pos_rng hq _ h2
  exact ⟨this.1, by rw [trim_len hq]; exact this.2⟩
theorem least_root (e : Nat → Nat → Bool) (g : Gf) : (trimF (quoF e g)).roots = g.roots.map (lstI e g) := by
  show (g.roots.map _).map _ = _
  rw [List.map_map]
  rfl
theorem metF_root {g : Gf} (hg : Good g) {i : Nat} (hi : i < g.roots.length) : g.roots.getD i 0 ∈ metF g := met_root hg _ (getD_mem hi)
theorem met_argk {g : Gf} (hg : Good g) {x : Int} (hx : x ∈ metF g) {k : Nat} (hk : k < (g.nd x).args.length) : g.arg x k ∈ metF g := met_arg hg x hx _ (getD_mem hk)
theorem renum_inv {F G : Int → Int} {m n : Nd} (h : renum F m = renum G n) : m.kind = n.kind ∧ m.name = n.name ∧ m.num = n.num ∧ m.args.map F = n.args.map G := by
  unfold renum at h
  injection h with h1 h2 h3 h4
  exact ⟨h1, h2, h3, h4⟩
/-- The same least graphs: a pairing. -/
theorem least_pr {a b : Gf} (ha : Good a) (hb : Good b) {ea eb : Nat → Nat → Bool} (hda : ∀ x y : Nat, (ea x y = true ↔ Al a (x : Int) (y : Int))) (hdb : ∀ x y : Nat, (eb x y = true ↔ Al b (x : Int) (y : Int))) (h : trimF (quoF ea a) = trimF (quoF eb b)) : Pr a b (fun x y => x ∈ metF a ∧ y ∈ metF b ∧ lstI ea a x = lstI eb b y) := by
  have hlab : ∀ x y, x ∈ metF a → y ∈ metF b → lstI ea a x = lstI eb b y → renum (lstI ea a) (a.nd x) = renum (lstI eb b) (b.nd y) := fun x y hx hy e => by
    rw [← least_nd ha hda hx, ← least_nd hb hdb hy, h, e]
  have hrt : a.roots.map (lstI ea a) = b.roots.map (lstI eb b) := by rw [← least_root, ← least_root, h]
  have hlen : a.roots.length = b.roots.length := by simpa using congrArg List.length hrt
  refine ⟨fun x y ⟨hx, hy, _⟩ => ⟨(met_ok ha).rng x hx, (met_ok hb).rng y hy⟩, fun x y ⟨hx, hy, e⟩ => ?_, fun x y ⟨hx, hy, e⟩ k hk => ?_, fun x y y' ⟨hx, hy, e⟩ ⟨_, hy', e'⟩ hk => ?_, fun x x' y ⟨hx, hy, e⟩ ⟨hx', _, e'⟩ hk => ?_, hlen, fun i hi => ?_⟩
  · obtain ⟨h1, h2, h3, h4⟩ := renum_inv (hlab x y hx hy e)
    exact ⟨h1, h2, h3, by simpa using congrArg List.length h4⟩
  · obtain ⟨h1, h2, h3, h4⟩ := renum_inv (hlab x y hx hy e)
    have hl : (a.nd x).args.length = (b.nd y).args.length := by simpa using congrArg List.length h4
    have hkb : k < (b.nd y).args.length := by omega
    have h5 := congrArg (fun l => l.getD k 0) h4
    refine ⟨met_argk ha hx hk, met_argk hb hy hkb, ?_⟩
    simp [List.getD, hk, hkb] at h5
    simpa [Gf.arg, List.getD, hk, hkb] using h5
  · obtain ⟨h1, _⟩ := renum_inv (hlab x y hx hy e)
    have hal := (least_al hb hdb hy hy').1 (e.symm.trans e')
    exact (al_sim b y y' hal).2.2.1.2.2.2.2 (h1.symm.trans hk)
  · obtain ⟨h1, _⟩ := renum_inv (hlab x y hx hy e)
    have hal := (least_al ha hda hx hx').1 (e.trans e'.symm)
    exact (al_sim a x x' hal).2.2.1.2.2.2.2 (h1.trans hk)
  · have hib : i < b.roots.length := by omega
    refine ⟨metF_root ha hi, metF_root hb hib, ?_⟩
    have h5 := congrArg (fun l => l.getD i 0) hrt
    simp [List.getD, hi, hib] at h5
    simpa [List.getD, hi, hib] using h5
end Go.Proofs.Ytllafbghomohhaa

/- Quotient of package bisim, at every good graph. -/
namespace Go.Proofs.Ytllafbghomohhaa
open Go.RowKit

/-- The loop over the least nodes: the nodes so far, the roots beside them. -/
structure Tq (w3 w : World) (rv : Value) (ns : List Nd) (ao : Option Addr) (c : Nat) (avs : List Value) : Prop where
  b : Below w3.heap.size w3 w
  out : w.heap[w3.heap.size]? = some (.cells #[.slice ao ns.length c, rv] 25 (0, 0))
  on : On w (w3.heap.size + 1) (.slice ao ns.length c) avs ns
theorem Tq.step {w3 wr w4 w5 : World} {rv : Value} {NS : List Nd} {n : Nd} {F : Int → Int} {ao aa : Option Addr} {c ac j g cap : Nat} {avs : List Value} (hT : Tq w3 wr rv NS ao c avs) (hL : NS.length = j) (hb : Below wr.heap.size wr w4)
    (ha : w4.ownsRow wr.heap.size 3 1 (.slice aa n.args.length ac) n.args.length ((n.args.map F).map (Value.int .i64))) (o : Obj)
    (hg : (w4.alloc o).grownBy w5 (Value.ownBlock (.slice ao j c))) (hown : w5.ownsRow (w3.heap.size + 1) 56 4 (.slice (some ⟨g, 0, none⟩) (j + 1) cap) (j + 1) (ncells NS avs ++ [.int .i64 n.kind, .string n.name, .int .i64 n.num, .slice aa n.args.length ac]))
    (hat : Value.ownBlock (.slice ao j c) = some g ∨ g = w4.heap.size + 1) :
    Tq w3 (w5.setCell ⟨w3.heap.size, 0, none⟩ (.slice (some ⟨g, 0, none⟩) (j + 1) cap)) rv (NS ++ [renum F n]) (some ⟨g, 0, none⟩) cap (avs ++ [.slice aa n.args.length ac]) := by
  subst hL
  have hl : (renum F n).args.length = n.args.length := by simp [renum]
  have hz := lt_of_block hT.out
  have hz4 := hb.size
  have hnv : ∀ k, Value.ownBlock (.slice ao NS.length c) = some k → w3.heap.size + 1 ≤ k := fun k e => (hT.on.n.lt k e).1
  have hP : On w5 (w3.heap.size + 1) (.slice (some ⟨g, 0, none⟩) (NS.length + 1) cap) (avs ++ [.slice aa n.args.length ac]) (NS ++ [renum F n]) := by
    have hP := On.push (n := renum F n) (ao := aa) (c := ac) (g := g) (cap := cap) hT.on (hb.alloc hz4 o) (by rw [hl]; exact ha.alloc o) (by omega) hg (by rw [hl]; exact hown) (by
      rcases hat with e | e
      · exact Or.inl e
      · exact Or.inr (by simp; omega))
    rw [hl] at hP
    exact hP
  have hgb : w3.heap.size < g := by
    rcases hat with e | e
    · have := hnv g e
      omega
    · omega
  have h5 : w5.heap[w3.heap.size]? = some (.cells #[.slice ao NS.length c, rv] 25) := by
    rw [hg.block _ (by simp; omega) (fun e => by have := hnv _ e.symm; omega), Below.heap_alloc _ _ _ (by omega), hb.block _ hz]
    exact hT.out
  refine ⟨?_, ?_, ?_⟩
  · have h1 : Below w3.heap.size w3 (w4.alloc o) := (Below.next hT.b hb).alloc (by have := hT.b.size; omega) o
    exact (h1.grown hg (by simp; omega) (fun k e => by have := hnv k e; omega)).setCell (Nat.le_refl _) _
  · rw [blk2_set0 h5]
    simp
  · rw [List.length_append, List.length_singleton]
    exact hP.keep (fun k hk => Below.heap_setCell _ _ _ _ (by have := (hP.lt k hk).1; show k ≠ w3.heap.size; omega))
theorem og_far {w : World} {B q i : Nat} {nv rv v : Value} {avs : List Value} {g : Gf} (h : Og w B nv rv avs g) (hq : q < B) : Og (w.setCell ⟨q, i, none⟩ v) B nv rv avs g := by
  have hk : ∀ k, B ≤ k → (w.setCell ⟨q, i, none⟩ v).heap[k]? = w.heap[k]? := fun k hk => Below.heap_setCell _ _ _ _ (by show k ≠ q; omega)
  obtain ⟨ao, c, e, ho⟩ := h.r
  exact ⟨h.on.keep (fun k hk' => hk k (h.on.lt k hk').1), h.nsl, ⟨ao, c, e, own_block ho (fun k ek => hk k (ho.lt k ek).1)⟩, h.ap⟩
theorem og_base {w : World} {B B' : Nat} {nv rv : Value} {avs : List Value} {g : Gf} (h : Og w B nv rv avs g) (hB : B' ≤ B) : Og w B' nv rv avs g := by
  obtain ⟨ao, c, e, ho⟩ := h.r
  exact ⟨⟨own_base h.on.n hB, h.on.len, fun j hj => by
    obtain ⟨a, b, e1, e2⟩ := h.on.a j hj
    exact ⟨a, b, e1, own_base e2 hB⟩, h.on.nd⟩, h.nsl, ⟨ao, c, e, own_base ho hB⟩, h.ap⟩
theorem good_sized {g : Gf} (hg : Good g) : Sized g := fun n hn => by
  have := good_name (hg.node n hn)
  omega
theorem ansC0 (e : Nat → Nat → Bool) (N : Nat) : ansC e N 0 = ints (csF e N) := rfl
theorem ansC1 (e : Nat → Nat → Bool) (N : Nat) : ansC e N 1 = ints (lsF e N) := rfl
theorem Fm.two {w : World} {B : Nat} {t2 t3 : Value} {e : Nat → Nat → Bool} {N : Nat} (h : Fm w B [t2, t3] (ansC e N)) : Ri w t2 (ints (csF e N)) ∧ Ri w t3 (ints (lsF e N)) := by
  have h0 := h.own 0 (by simp)
  have h1 := h.own 1 (by simp)
  rw [ansC0] at h0
  rw [ansC1] at h1
  obtain ⟨a0, c0, e0⟩ := own_sl h0
  obtain ⟨a1, c1, e1⟩ := own_sl h1
  have e0' : t2 = .slice a0 (ints (csF e N)).length c0 := e0
  have e1' : t3 = .slice a1 (ints (lsF e N)).length c1 := e1
  subst e0' e1'
  exact ⟨Ri.ofOwn h0, Ri.ofOwn h1⟩
set_option maxRecDepth 100000 in
set_option maxHeartbeats 8000000 in
theorem quot_good {W : World} {nv rv : Value} {g : Gf} (hG : Gr W nv rv g) (hS : Sized g) (hb : one (chk g) = []) (ee : Nat → Nat → Bool) (he : ∀ x y : Nat, (ee x y = true ↔ Al g (x : Int) (y : Int))) :
    Calls Try.prog 24 #[.agg #[nv, rv]] W fun r w' => (∃ nv' rv' avs, r = .returned (.tuple #[.agg #[nv', rv'], .nilIface]) ∧ Og w' W.heap.size nv' rv' avs (trimF (quoF ee g))) ∧ Below W.heap.size W w' := by
  obtain ⟨i1, hi1, hy0, hy1, hy2⟩ := info_parts infoN
  have hg := chk_good hb
  have hev := al_eqv hg he
  have hq := quo_good hg hev
  have hgn := hg.nodes
  have hgr := hg.roots
  have hll := lsF_le ee g.nodes.length
  have hllt := lsF_lt ee g.nodes.length
  have hcl := csF_len ee g.nodes.length
  have hb2 : Below W.heap.size W ((W.alloc (.cells #[nv, rv] 25)).alloc (.cells #[.slice none 0 0, .slice none 0 0] 25)) := (below_alloc W _).alloc (by simp) _
  have hal := alike_good (hG.below hb2) hS hb ee (fun x y _ _ => he x y)
  obtain ⟨na, nc, rfl, hNc⟩ := hG.1
  obtain ⟨ra, rc, rfl, _⟩ := hG.2
  have hC : ∀ w1 : World, Below ((W.alloc (.cells #[.slice na g.nodes.length nc, .slice ra g.roots.length rc] 25)).alloc (.cells #[.slice none 0 0, .slice none 0 0] 25)).heap.size ((W.alloc (.cells #[.slice na g.nodes.length nc, .slice ra g.roots.length rc] 25)).alloc (.cells #[.slice none 0 0, .slice none 0 0] 25)) w1 →
      w1.heap[W.heap.size + 1]? = some (.cells #[.slice none 0 0, .slice none 0 0] 25) ∧ w1.heap[W.heap.size]? = some (.cells #[.slice na g.nodes.length nc, .slice ra g.roots.length rc] 25) ∧ W.heap.size + 1 < w1.heap.size := fun w1 hb => by
    refine ⟨?_, ?_, ?_⟩
    · rw [hb.block _ (by simp)]
      simpa using heap_alloc_new (W.alloc (.cells #[.slice na g.nodes.length nc, .slice ra g.roots.length rc] 25)) (.cells #[.slice none 0 0, .slice none 0 0] 25)
    · rw [hb.block _ (by simp <;> omega), Below.heap_alloc _ _ _ (by simp)]
      exact heap_alloc_new W _
    · have := hb.size
      simp at this
      omega
  have hcr : Hid (∀ (w1 : World) (t2 : Value), Below W.heap.size W w1 → Ri w1 t2 (ints (csF ee g.nodes.length)) → Calls Try.prog 44 #[.slice ra g.roots.length rc, t2] w1 fun e w' => (∃ ao c, e = .returned (.slice ao g.roots.length c) ∧ w'.ownsRow w1.heap.size 3 1 (.slice ao g.roots.length c) g.roots.length ((g.roots.map (clsI ee g.nodes.length)).map (Value.int .i64))) ∧ Below w1.heap.size w1 w') := fun w1 t2 h1 h2 => classesOf_any (hG.2.below h1) h2 (fun x hx => by rw [ints_len, hcl]; exact hg.root x hx) (by omega)
  have hHG := hid hG
  clear hG
  go_enter Try.func24, Try.ntmps24
  have hlL := ints_len (lsF ee g.nodes.length)
  obtain ⟨L, hLd⟩ : ∃ L, L = (lsF ee g.nodes.length).length := ⟨_, rfl⟩
  rw [← hLd] at hlL hll
  have HLd := hid hLd
  clear hLd
  go_wp2_with (first
    | (go_at_call 43; refine hal.mono ?_; rintro e w1 ⟨⟨t2, t3, rfl, hF⟩, hb1⟩; obtain ⟨k1, k0, k2⟩ := hC w1 hb1; obtain ⟨⟨c0, c1⟩, _⟩ := blk2 k0; have hbw := Below.next hb2 hb1; obtain ⟨hR2, la, lc, rfl, hR3⟩ := hF.two; rw [hlL] at hR3 ⊢; clear hal hC hF)
    | (go_at_call 44; refine (hcr.out w1 t2 hbw hR2).mono ?_; rintro e w2 ⟨⟨ro, rcc, rfl, hro⟩, hb3⟩; clear c0 c1))
  have hT0 : Hid (Tq w2 (w2.alloc (.cells #[.slice none 0 0, .slice ro g.roots.length rcc] 25)) (.slice ro g.roots.length rcc) [] none 0 []) := ⟨below_alloc _ _, heap_alloc_new w2 _, On.nil _ _⟩
  have hbW2 := Below.next hbw hb3
  have hz2 := hb3.size
  have k0' : w2.heap[W.heap.size]? = some (.cells #[.slice na g.nodes.length nc, .slice ra g.roots.length rc] 25) := by rw [hb3.block _ (by omega)]; exact k0
  have k1' : w2.heap[W.heap.size + 1]? = some (.cells #[.slice none 0 0, .slice none 0 0] 25) := by rw [hb3.block _ k2]; exact k1
  have hHR2 := hid (hR2.below hb3)
  have hHR3 : Hid (∀ j, j < L → ∃ b o, la = some ⟨b, o, none⟩ ∧ w2.cell? ⟨b, o + j, none⟩ = some (.int .i64 ((ints (lsF ee g.nodes.length)).getD j 0))) := fun j hj => by
    obtain ⟨b, o, h1, h2⟩ := hR3 j hj
    exact ⟨b, o, h1, by rw [hb3.cell (p := ⟨b, o + j, none⟩) (lt_of_cell h2)]; exact h2⟩
  have Hro := hid hro
  have hHN := hid hNc
  clear hcr hR2 hR3 hro k0 k1 hb2 hNc
  go_wp2
  go_loopw [28] (fun i wr => ∃ (k : Nat) (ao : Option Addr) (c : Nat) (avs : List Value), k ≤ L ∧ i = .int .i64 k ∧ Hid (Tq w2 wr (.slice ro g.roots.length rcc) (((lsF ee g.nodes.length).take k).map (fun n => renum (clsI ee g.nodes.length) (g.nodes.getD n nd0))) ao c avs)) (fun i _ => L - (intOf i).toNat)
  case atStart => exact ⟨0, none, 0, [], Nat.zero_le _, rfl, by simpa [Hid] using hT0⟩
  case round =>
    clear hT0
    obtain ⟨j, ao, c, avs, hj, rfl, hT⟩ := hrel
    by_cases hjl : j < L
    · have hjl' : j < (lsF ee g.nodes.length).length := by rw [← HLd.out]; exact hjl
      have hts := ntake_snoc hjl'
      have hnN := hllt _ (nget_mem hjl')
      obtain ⟨lb, lo, hla, hlc⟩ := hHR3.out j hjl
      subst hla
      rw [ints_get hjl'] at hlc
      have hlc' : wr.cell? ⟨lb, lo + j, none⟩ = some (.int .i64 (((lsF ee g.nodes.length).getD j 0 : Nat) : Int)) := by rw [hT.out.b.cell (p := ⟨lb, lo + j, none⟩) (lt_of_cell hlc)]; exact hlc
      generalize (lsF ee g.nodes.length).getD j 0 = n at hts hnN hlc'
      have hbe := Below.next hbW2 hT.out.b
      obtain ⟨nb, no, av, rfl, hnd⟩ := hHN.out n hnN
      obtain ⟨n0, n1, n2, n3, hA⟩ := hnd.below hbe
      have hga := good_args (hg.node (g.nodes.getD n nd0) (by simp [List.getD, hnN]))
      have hNS : Hid (((lsF ee g.nodes.length).take (j + 1)).map (fun n => renum (clsI ee g.nodes.length) (g.nodes.getD n nd0)) = ((lsF ee g.nodes.length).take j).map (fun n => renum (clsI ee g.nodes.length) (g.nodes.getD n nd0)) ++ [renum (clsI ee g.nodes.length) (g.nodes.getD n nd0)]) := by
        show _ = _
        rw [hts]
        simp
      have hL : (((lsF ee g.nodes.length).take j).map (fun n => renum (clsI ee g.nodes.length) (g.nodes.getD n nd0))).length = j := by simp; omega
      generalize ((lsF ee g.nodes.length).take j).map (fun n => renum (clsI ee g.nodes.length) (g.nodes.getD n nd0)) = NS at hT hNS hL
      have hcp : ∀ w : World, Below wr.heap.size wr w → Calls Try.prog 44 #[av, t2] w fun e w' => (∃ ao c, e = .returned (.slice ao (g.nodes.getD n nd0).args.length c) ∧ w'.ownsRow w.heap.size 3 1 (.slice ao (g.nodes.getD n nd0).args.length c) (g.nodes.getD n nd0).args.length (((g.nodes.getD n nd0).args.map (clsI ee g.nodes.length)).map (Value.int .i64))) ∧ Below w.heap.size w w' := fun w hb => classesOf_any (hA.below hb) (hHR2.out.below (Below.next hT.out.b hb)) (fun x hx => by rw [ints_len, hcl]; exact hga.1 x hx) (by omega)
      have e0 : wr.heap[W.heap.size]? = some (.cells #[.slice (some ⟨nb, no, none⟩) g.nodes.length nc, .slice ra g.roots.length rc] 25) := by rw [hT.out.b.block _ (by omega)]; exact k0'
      obtain ⟨⟨c0, _⟩, _⟩ := blk2 e0
      have hon := hT.out.on
      rw [hL] at hon
      have honn := hon.n
      rw [hL] at honn
      have hz4 := hT.out.b.size
      have hzo := lt_of_block hT.out.out
      have hout := hT.out.out
      rw [hL] at hout
      have hnv : ∀ k, Value.ownBlock (.slice ao j c) = some k → w2.heap.size + 1 ≤ k := fun k e => (hon.n.lt k e).1
      have hstep := hid (fun (w4 w5 : World) (aa : Option Addr) (ac gg cap : Nat) => Tq.step (w4 := w4) (w5 := w5) (aa := aa) (ac := ac) (g := gg) (cap := cap) (F := clsI ee g.nodes.length) (n := g.nodes.getD n nd0) hT.out hL)
      have hal := hga.2
      generalize g.nodes.getD n nd0 = x at n0 n1 n2 n3 hcp hNS hstep hA hal
      obtain ⟨kind, name, num, args⟩ := x
      dsimp only at n0 n1 n2 n3 hcp hstep hA hal
      obtain ⟨aa0, ac0, rfl, _⟩ := hA
      have hbd : Below wr.heap.size wr (wr.alloc (.cells #[.int .i64 kind, .string name, .int .i64 num, .slice aa0 args.length ac0] 56)) := below_alloc wr _
      have hnw := heap_alloc_new wr (.cells #[.int .i64 kind, .string name, .int .i64 num, .slice aa0 args.length ac0] 56)
      have hcall := hcp _ hbd
      have hzd := lt_of_block hnw
      have hfacts := hid (fun (w4 : World) (aa : Option Addr) (ac : Nat) (hb4 : Below (wr.alloc (.cells #[.int .i64 kind, .string name, .int .i64 num, .slice aa0 args.length ac0] 56)).heap.size (wr.alloc (.cells #[.int .i64 kind, .string name, .int .i64 num, .slice aa0 args.length ac0] 56)) w4) (hao : w4.ownsRow (wr.alloc (.cells #[.int .i64 kind, .string name, .int .i64 num, .slice aa0 args.length ac0] 56)).heap.size 3 1 (.slice aa args.length ac) args.length ((args.map (clsI ee g.nodes.length)).map (Value.int .i64))) => (show (w4.heap[wr.heap.size]? = some (.cells #[.int .i64 kind, .string name, .int .i64 num, .slice aa0 args.length ac0] 56)) ∧ Below wr.heap.size wr (w4.setCell ⟨wr.heap.size, 3, none⟩ (.slice aa args.length ac)) ∧ (w4.setCell ⟨wr.heap.size, 3, none⟩ (.slice aa args.length ac)).ownsRow wr.heap.size 3 1 (.slice aa args.length ac) args.length ((args.map (clsI ee g.nodes.length)).map (Value.int .i64)) from
        ⟨by rw [hb4.block _ hzd]; exact hnw, (Below.next hbd hb4).setCell (Nat.le_refl _) _, own_base (own_block hao (fun k e => Below.heap_setCell _ _ _ _ (by have := (hao.lt k e).1; simp at this; show k ≠ wr.heap.size; omega))) (by simp)⟩))
      clear hcp hnd hga hT hlc hts e0 k0' k1' k2
      go_wp2_with (first
        | (go_at_call 44; refine hcall.mono ?_; rintro e w4 ⟨⟨aa, ac, rfl, hao⟩, hb4⟩; obtain ⟨f0, hb4s, haos⟩ := hfacts.out w4 aa ac hb4 hao; obtain ⟨⟨f1, f2, f3, f4⟩, f5, f6, f7, f8⟩ := blk4 f0; have hon4 := World.ownsRow.alloc (own_below honn hb4s) (.cells #[.int .i64 kind, .string name, .int .i64 num, .slice aa args.length ac] 56); have d4 : (w4.setCell ⟨wr.heap.size, 3, none⟩ (.slice aa args.length ac)).heap[w2.heap.size]? = some (.cells #[.slice ao j c, .slice ro g.roots.length rcc] 25) := (by rw [hb4s.block _ hzo]; exact hout); obtain ⟨⟨g0, _⟩, g1, _⟩ := blk2 d4; obtain ⟨⟨gg0, _⟩, gg1, _⟩ := blk2 (((Below.next hbd hb4).block _ hzo).trans hout); have hsz4 : (w4.setCell ⟨wr.heap.size, 3, none⟩ (.slice aa args.length ac)).heap.size = w4.heap.size := (by simp); have hz5 := hb4s.size; rw [hsz4] at hz5; have hnews := heap_alloc_new (w4.setCell ⟨wr.heap.size, 3, none⟩ (.slice aa args.length ac)) (.cells #[.int .i64 kind, .string name, .int .i64 num, .slice aa args.length ac] 56); rw [hsz4] at hnews; clear hao hb4 hfacts hcall)
        | (at_builtin; refine wpList_append_lies _ rfl _ _ _ rfl (w2.heap.size + 1) 56 i1 (.agg #[.int .i64 0, .string ⟨#[]⟩, .int .i64 0, .slice none 0 0]) 4 56 Try.underlying22 hi1 hy0 hy1 hy2 rfl (by omega) _ j (ncells NS avs) rfl hon4 ⟨w4.heap.size, 0, none⟩ 1 1 [.int .i64 kind, .string name, .int .i64 num, .slice aa args.length ac] rfl rfl (World.news_of_block (cs := #[.int .i64 kind, .string name, .int .i64 num, .slice aa args.length ac]) (t := 56) (fr := (0, 0)) hnews) (by simp [Value.oneCell']) (by omega) (by unfold maxLen; omega) (by omega) (by simp; omega) (w4.heap.size + 1) (by simp) ?_; intro gg cap w5 hown5 hgr5 hat hlt5; have d5 : w5.heap[w2.heap.size]? = some (.cells #[.slice ao j c, .slice ro g.roots.length rcc] 25) := (by rw [hgr5.block _ (by simp; omega) (fun e => by have := hnv _ e.symm; omega), Below.heap_alloc _ _ _ (by simp; omega)]; exact d4); obtain ⟨⟨d0', _⟩, d1', _⟩ := blk2 d5))
      go_roundw
      case rel =>
        refine ⟨j + 1, some ⟨gg, 0, none⟩, cap, avs ++ [.slice aa args.length ac], by omega, congrArg (Value.int .i64) (by omega), ?_⟩
        show Tq _ _ _ _ _ _ _
        rw [hNS.out]
        exact hstep.out _ w5 aa ac gg cap hb4s haos _ hgr5 hown5 (by rw [hsz4]; exact hat)
      case measure => simp [intOf]; omega
    · have hTe : Hid (Tq w2 wr (.slice ro g.roots.length rcc) ((lsF ee g.nodes.length).map (fun n => renum (clsI ee g.nodes.length) (g.nodes.getD n nd0))) ao c avs) := by
        have := hT.out
        rw [List.take_of_length_le (by rw [← HLd.out]; omega)] at this
        exact this
      clear hT
      have hOut := hTe.out.out
      have hlm : ((lsF ee g.nodes.length).map (fun n => renum (clsI ee g.nodes.length) (g.nodes.getD n nd0))).length = L := by rw [List.length_map]; exact HLd.out.symm
      have hOn := hTe.out.on
      rw [hlm] at hOut
      obtain ⟨⟨o0, o1⟩, _⟩ := blk2 hOut
      have hGq : Gr wr (.slice ao L c) (.slice ro g.roots.length rcc) (quoF ee g) := by
        refine ⟨?_, ?_⟩
        · have := hOn.rn
          rw [hlm] at this
          exact this
        · have h1 := Ri.ofOwn (l := g.roots.map (clsI ee g.nodes.length)) (by rw [List.length_map]; exact Hro.out)
          rw [List.length_map] at h1
          exact h1.below hTe.out.b
      have htr := trim_good hGq (good_sized hq) (chk_of_good hq)
      have hbe := Below.next hbW2 hTe.out.b
      have e1 : wr.heap[W.heap.size + 1]? = some (.cells #[.slice none 0 0, .slice none 0 0] 25) := by rw [hTe.out.b.block _ (by omega)]; exact k1'
      have hze := lt_of_block e1
      have hF : Hid (∀ w5 : World, Below wr.heap.size wr w5 → w5.heap[W.heap.size + 1]? = some (.cells #[.slice none 0 0, .slice none 0 0] 25)) := fun w5 hb => by rw [hb.block _ hze]; exact e1
      clear hGq hOn hOut e1 k0' k1' hTe
      go_wp2_with (go_at_call 45; refine htr.mono ?_; rintro e w5 ⟨⟨nv5, rv5, avs5, rfl, hO5⟩, hb5⟩; obtain ⟨n5a, n5c, rfl⟩ := hO5.nsl; obtain ⟨r5a, r5c, rfl, _⟩ := hO5.r; have j1 := hF.out w5 hb5; obtain ⟨⟨r0, r1⟩, s0, s1⟩ := blk2 j1)
      refine bodyPost_ret (ret_gr Try.results24 (by rfl) (by rfl) (blk2_set j1)) rfl ⟨⟨_, _, avs5, rfl, ?_⟩, ?_⟩
      · exact og_base (og_far (og_far hO5 (by omega)) (by omega)) (by omega)
      · exact ((Below.next hbe hb5).setCell (by simp) _).setCell (by simp) _
end Go.Proofs.Ytllafbghomohhaa

/- Rows that are kept. -/
namespace Go.Proofs.Ytllafbghomohhaa
open Go.RowKit

theorem row_keep {w w' : World} {B z : Nat} {e : TypeId} {v : Value} {n : Nat} {xs : List Value} (h : w.ownsRow B e z v n xs) (hm : ∀ k, v.ownBlock = some k → w'.heap[k]? = w.heap[k]?) : w'.ownsRow B e z v n xs := by
  refine ⟨h.1, ?_⟩
  rcases h.2 with h0 | ⟨g, cap, cur, rfl, hb, hg, rest⟩
  · exact Or.inl h0
  · exact Or.inr ⟨g, cap, cur, rfl, hb, by rw [hm g rfl]; exact hg, rest⟩
theorem row_obj {w : World} {B z : Nat} {e : TypeId} {v : Value} {n : Nat} {xs : List Value} (h : w.ownsRow B e z v n xs) {k : Nat} (hk : v.ownBlock = some k) : ∃ cur, w.heap[k]? = some (.cells cur e (0, 0)) := by
  rcases h.2 with ⟨rfl, _⟩ | ⟨g, cap, cur, rfl, _, hg, _⟩
  · cases hk
  · have : g = k := by simpa [Value.ownBlock] using hk
    subst this
    exact ⟨cur, hg⟩
theorem obj_ne {w : World} {k j : Nat} {c c' : Array Value} {e e' : TypeId} {x x' : Nat × Nat} (h : w.heap[k]? = some (.cells c e x)) (h' : w.heap[j]? = some (.cells c' e' x')) (hne : e ≠ e') : k ≠ j := fun ek => by
  subst ek
  rw [h] at h'
  injection h' with h'
  injection h' with _ h'
  exact hne h'
end Go.Proofs.Ytllafbghomohhaa

/- Frames: what a call may change. -/
namespace Go.Proofs.Ytllafbghomohhaa
open Go.RowKit

/-- Blocks outside of a set stay as they were; new ones may come. -/
structure Mo (S : Nat → Prop) (w w' : World) : Prop where
  os : w'.os = w.os
  tape : w'.tape = w.tape
  output : w'.output = w.output
  size : w.heap.size ≤ w'.heap.size
  block : ∀ k, k < w.heap.size → ¬ S k → w'.heap[k]? = w.heap[k]?
theorem Mo.refl (S : Nat → Prop) (w : World) : Mo S w w := ⟨rfl, rfl, rfl, Nat.le_refl _, fun _ _ _ => rfl⟩
theorem Mo.trans {S S' : Nat → Prop} {a b c : World} (h : Mo S a b) (k : Mo S' b c) (hs : ∀ x, S' x → S x ∨ a.heap.size ≤ x) : Mo S a c :=
  ⟨k.os.trans h.os, k.tape.trans h.tape, k.output.trans h.output, Nat.le_trans h.size k.size, fun i hi hn =>
    (k.block i (Nat.lt_of_lt_of_le hi h.size) (fun hx => by rcases hs i hx with h1 | h1; exact hn h1; omega)).trans (h.block i hi hn)⟩
theorem Mo.below {S : Nat → Prop} {w w' : World} {B : Nat} (h : Mo S w w') (hk : ∀ k, S k → B ≤ k) (hB : B ≤ w.heap.size) : Below B w w' :=
  ⟨h.os, h.tape, h.output, h.size, fun k hkB => h.block k (by omega) (fun hx => by have := hk k hx; omega)⟩
theorem Mo.ofBelow {S : Nat → Prop} {w w' : World} (h : Below w.heap.size w w') : Mo S w w' := ⟨h.os, h.tape, h.output, h.size, fun k hk _ => h.block k hk⟩
theorem Mo.grown {S : Nat → Prop} {a w w' : World} {row : Option Nat} (h : Mo S a w) (hg : w.grownBy w' row) (hr : ∀ k, row = some k → S k ∨ a.heap.size ≤ k) : Mo S a w' :=
  ⟨hg.os.trans h.os, hg.tape.trans h.tape, hg.output.trans h.output, Nat.le_trans h.size hg.size, fun k hk hn =>
    (hg.block k (Nat.lt_of_lt_of_le hk h.size) (fun e => by rcases hr k e.symm with h1 | h1; exact hn h1; omega)).trans (h.block k hk hn)⟩
theorem Mo.alloc {S : Nat → Prop} {a w : World} (h : Mo S a w) (o : Obj) : Mo S a (w.alloc o) := h.grown (World.grownBy_alloc w o none) (fun _ e => by cases e)
theorem Mo.setCell {S : Nat → Prop} {a w : World} (h : Mo S a w) {p : Addr} (hp : S p.block ∨ a.heap.size ≤ p.block) (u : Value) : Mo S a (w.setCell p u) :=
  ⟨h.os, h.tape, h.output, by simpa using h.size, fun k hk hn =>
    (Below.heap_setCell w p u k (fun e => by subst e; rcases hp with h1 | h1; exact hn h1; omega)).trans (h.block k hk hn)⟩
theorem Mo.drew {S : Nat → Prop} {a w : World} (h : Mo S a w) : Mo S a w.drew := ⟨h.os, h.tape, h.output, h.size, h.block⟩
theorem Mo.weak {S S' : Nat → Prop} {w w' : World} (h : Mo S w w') (hs : ∀ x, S x → S' x ∨ w.heap.size ≤ x) : Mo S' w w' := (Mo.refl S' w).trans h hs
end Go.Proofs.Ytllafbghomohhaa

/- What nodes lead to: plain data. -/
namespace Go.Proofs.Ytllafbghomohhaa
open Go.RowKit

/-- A name is led to its right side, unless that leads back to it. -/
def bindE (E : Nat → Nat) (p : Nat × Nat) : Nat → Nat := fun x => if E x = p.1 then E p.2 else E x
def bindAll (E : Nat → Nat) (ps : List (Nat × Nat)) : Nat → Nat := ps.foldl bindE E
/-- A row of which node leads to which; E is the node at each one's end. -/
structure Ld (L : List Nat) (E : Nat → Nat) : Prop where
  rng : ∀ n, n < L.length → L.getD n 0 < L.length
  st : ∀ n, n < L.length → E (L.getD n 0) = E n
  fix : ∀ n, n < L.length → (L.getD n 0 = n ↔ E n = n)
  out : ∀ n, L.length ≤ n → E n = n
  erng : ∀ n, n < L.length → E n < L.length
  idem : ∀ n, E (E n) = E n
  rank : ∃ (r : Nat → Nat) (M : Nat), (∀ n, r n ≤ M) ∧ ∀ n, n < L.length → L.getD n 0 ≠ n → r (L.getD n 0) < r n
theorem Ld.nil : Ld [] id := ⟨fun _ h => by simp at h, fun _ h => by simp at h, fun _ h => by simp at h, fun _ _ => rfl, fun _ h => by simp at h, fun _ => rfl, fun _ => 0, 0, fun _ => Nat.le_refl _, fun _ h => by simp at h⟩
theorem getD_snocN {L : List Nat} {v n : Nat} : (L ++ [v]).getD n 0 = if n < L.length then L.getD n 0 else if n = L.length then v else 0 := by
  by_cases h : n < L.length
  · rw [if_pos h]
    simp [List.getD, List.getElem?_append_left h]
  · rw [if_neg h]
    by_cases e : n = L.length
    · subst e; simp [List.getD]
    · rw [if_neg e]
      simp [List.getD, List.getElem?_eq_none (show (L ++ [v]).length ≤ n by simp; omega)]
theorem getD_setN {L : List Nat} {v i n : Nat} (h : i < L.length) : (L.set i v).getD n 0 = if n = i then v else L.getD n 0 := by
  by_cases e : n = i
  · subst e
    rw [if_pos rfl]
    simp [List.getD, h]
  · rw [if_neg e]
    simp [List.getD, Ne.symm e]
theorem Ld.add {L : List Nat} {E : Nat → Nat} (h : Ld L E) : Ld (L ++ [L.length]) E := by
  have hl : (L ++ [L.length]).length = L.length + 1 := by simp
  refine ⟨fun n hn => ?_, fun n hn => ?_, fun n hn => ?_, fun n hn => ?_, fun n hn => ?_, h.idem, ?_⟩
  · rw [hl] at hn ⊢
    rw [getD_snocN]
    split
    · have := h.rng n ‹_›; omega
    · split <;> omega
  · rw [hl] at hn
    rw [getD_snocN]
    split
    · exact h.st n ‹_›
    · rw [if_pos (by omega), show n = L.length by omega]
  · rw [hl] at hn
    rw [getD_snocN]
    split
    · exact h.fix n ‹_›
    · have e : n = L.length := by omega
      rw [if_pos e, e]
      exact ⟨fun _ => h.out _ (Nat.le_refl _), fun _ => rfl⟩
  · rw [hl] at hn
    exact h.out n (by omega)
  · rw [hl] at hn ⊢
    by_cases hlt : n < L.length
    · have := h.erng n hlt; omega
    · rw [h.out n (by omega)]; omega
  · obtain ⟨r, M, h1, h2⟩ := h.rank
    refine ⟨r, M, h1, fun n hn hne => ?_⟩
    rw [hl] at hn
    rw [getD_snocN] at hne ⊢
    by_cases hlt : n < L.length
    · rw [if_pos hlt] at hne ⊢
      exact h2 n hlt hne
    · rw [if_neg hlt, if_pos (by omega)] at hne
      omega
/-- A way made shorter. -/
theorem Ld.half {L : List Nat} {E : Nat → Nat} (h : Ld L E) {n : Nat} (hn : n < L.length) : Ld (L.set n (L.getD (L.getD n 0) 0)) E := by
  have hl : (L.set n (L.getD (L.getD n 0) 0)).length = L.length := by simp
  have h1 := h.rng n hn
  obtain ⟨r, M, hM, hr⟩ := h.rank
  have hloop : L.getD (L.getD n 0) 0 = n → L.getD n 0 = n := fun e => by
    apply Classical.byContradiction
    intro hne
    have a1 := hr n hn hne
    by_cases e2 : L.getD (L.getD n 0) 0 = L.getD n 0
    · exact hne (e2.symm.trans e)
    · have a2 := hr _ h1 e2
      rw [e] at a2
      omega
  refine ⟨fun i hi => ?_, fun i hi => ?_, fun i hi => ?_, fun i hi => h.out i (by rw [hl] at hi; exact hi), fun i hi => by rw [hl] at hi ⊢; exact h.erng i hi, h.idem, r, M, hM, fun i hi hne => ?_⟩
  · rw [hl] at hi ⊢
    rw [getD_setN hn]
    split
    · exact h.rng _ h1
    · exact h.rng i hi
  · rw [hl] at hi
    rw [getD_setN hn]
    split
    · rename_i e
      rw [h.st _ h1, h.st n hn, e]
    · exact h.st i hi
  · rw [hl] at hi
    rw [getD_setN hn]
    split
    · rename_i e
      subst e
      refine ⟨fun e => (h.fix i hn).1 (hloop e), fun e => ?_⟩
      have e1 := (h.fix i hn).2 e
      rw [e1, e1]
    · exact h.fix i hi
  · rw [hl] at hi
    rw [getD_setN hn] at hne ⊢
    split
    · rename_i e
      subst e
      rw [if_pos rfl] at hne
      have e1 : L.getD i 0 ≠ i := fun e => hne (by rw [e, e])
      have a1 := hr i hn e1
      by_cases e2 : L.getD (L.getD i 0) 0 = L.getD i 0
      · rw [e2]; exact a1
      · have a2 := hr _ h1 e2
        omega
    · rename_i e
      rw [if_neg e] at hne
      exact hr i hi hne
theorem Ld.bind {L : List Nat} {E : Nat → Nat} (h : Ld L E) {p : Nat × Nat} (h1 : p.1 < L.length) (h2 : p.2 < L.length) (hs : E p.1 = p.1) (hne : E p.2 ≠ p.1) : Ld (L.set p.1 p.2) (bindE E p) := by
  have hl : (L.set p.1 p.2).length = L.length := by simp
  obtain ⟨r, M, hM, hr⟩ := h.rank
  have hEE : ∀ x, bindE E p x = if E x = p.1 then E p.2 else E x := fun x => rfl
  have h2' : bindE E p p.2 = E p.2 := by rw [hEE, if_neg hne]
  have hrne : p.2 ≠ p.1 := fun e => hne (by rw [e]; exact hs)
  refine ⟨fun i hi => ?_, fun i hi => ?_, fun i hi => ?_, fun i hi => ?_, fun i hi => ?_, fun i => ?_, fun x => if E x = p.1 then r x + M + 1 else r x, M + M + 1, fun x => ?_, fun i hi hx => ?_⟩
  · rw [hl] at hi ⊢
    rw [getD_setN h1]
    split
    · exact h2
    · exact h.rng i hi
  · rw [hl] at hi
    rw [getD_setN h1]
    split
    · rename_i e
      rw [h2', e, hEE, if_pos hs]
    · rw [hEE, hEE, h.st i hi]
  · rw [hl] at hi
    rw [getD_setN h1]
    split
    · rename_i e
      rw [e, hEE, if_pos hs]
      exact ⟨fun e => absurd e hrne, fun e => absurd e hne⟩
    · rename_i e
      rw [hEE]
      split
      · rename_i e2
        refine ⟨fun e3 => ?_, fun e3 => ?_⟩
        · have := (h.fix i hi).1 e3
          omega
        · have h4 := h.idem p.2
          rw [e3] at h4
          omega
      · exact h.fix i hi
  · rw [hl] at hi
    have := h.out i hi
    rw [hEE, if_neg (by omega)]
    exact this
  · rw [hl] at hi ⊢
    rw [hEE]
    split
    · exact h.erng _ h2
    · exact h.erng i hi
  · rw [hEE i]
    split
    · rw [hEE, h.idem, if_neg hne]
    · rename_i e
      rw [hEE, h.idem, if_neg e]
  · have := hM x
    show (if E x = p.1 then r x + M + 1 else r x) ≤ _
    split <;> omega
  · rw [hl] at hi
    rw [getD_setN h1] at hx ⊢
    split
    · rename_i e
      subst e
      show (if E p.2 = p.1 then _ else r p.2) < (if E p.1 = p.1 then r p.1 + M + 1 else _)
      rw [if_neg hne, if_pos hs]
      have := hM p.2
      omega
    · rename_i e
      rw [if_neg e] at hx
      have := hr i hi hx
      show (if E (L.getD i 0) = p.1 then _ else _) < (if E i = p.1 then _ else _)
      rw [h.st i hi]
      split <;> omega
theorem bind_same {E : Nat → Nat} {p : Nat × Nat} (h : E p.2 = p.1) : bindE E p = E := by
  funext x
  unfold bindE
  split
  · rename_i e
    rw [h, e]
  · rfl
end Go.Proofs.Ytllafbghomohhaa
