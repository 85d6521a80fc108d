/- The least graph, as plain data; two graphs have the same least graph just if a pairing of their nodes keeps labels and leads on. -/
import Derived.Test.YtjenkpgoggmboaaBiCls
import Derived.Test.YtjenkpgoggmboaaGrTrimM
namespace Go.Proofs.Ytjenkpgoggmboaa
open Go.RowKit

/-- The class of a node, as a number. -/
def clsI (e : Nat → Nat → Bool) (N : Nat) (x : Int) : Int := (ints (csF e N)).getD x.toNat 0
/-- The graph of classes. -/
def quoF (e : Nat → Nat → Bool) (g : Gf) : Gf := ⟨(lsF e g.nodes.length).map (fun n => renum (clsI e g.nodes.length) (g.nodes.getD n nd0)), g.roots.map (clsI e g.nodes.length)⟩
theorem clsI_eq (e : Nat → Nat → Bool) {N : Nat} {x : Int} (h0 : 0 ≤ x) (h1 : x < (N : Int)) : clsI e N x = (((csF e N).getD x.toNat 0 : Nat) : Int) := ints_get (by rw [csF_len]; omega)
theorem cls_rng {e : Nat → Nat → Bool} {N : Nat} (he : Eqv e N) {x : Int} (h0 : 0 ≤ x) (h1 : x < (N : Int)) : 0 ≤ clsI e N x ∧ clsI e N x < ((lsF e N).length : Int) := by
  have := ((numF_said he N (Nat.le_refl _)).hit x.toNat (by omega)).1
  rw [clsI_eq e h0 h1]
  omega
theorem quo_len (e : Nat → Nat → Bool) (g : Gf) : (quoF e g).nodes.length = (lsF e g.nodes.length).length := by simp [quoF]
theorem renum_good {N M : Nat} {F : Int → Int} {n : Nd} (h : goodNd N n = true) (hF : ∀ x ∈ n.args, 0 ≤ F x ∧ F x < (M : Int)) : goodNd M (renum F n) = true := by
  have hst : (n.args.map F).any (strange M) = false := by
    rw [List.any_eq_false]
    intro y hy
    obtain ⟨z, hz, rfl⟩ := List.mem_map.1 hy
    have := hF z hz
    simp [strange]
    omega
  unfold goodNd at h ⊢
  simp only [renum, List.length_map, hst]
  split
  · rename_i hk
    rw [if_pos hk] at h
    exact h
  · rename_i hk
    rw [if_neg hk] at h
    split
    · rename_i hk2
      rw [if_pos hk2] at h
      exact h
    · rename_i hk2
      rw [if_neg hk2] at h
      split
      · rename_i hk3
        rw [if_pos hk3] at h
        exact h
      · rename_i hk3
        rw [if_neg hk3] at h
        split
        · rename_i hk4
          rw [if_pos hk4] at h
          simp only [Bool.and_eq_true] at h ⊢
          exact ⟨h.1, rfl⟩
        · rename_i hk4
          rw [if_neg hk4] at h
          exact h
theorem quo_good {g : Gf} (hg : Good g) {e : Nat → Nat → Bool} (he : Eqv e g.nodes.length) : Good (quoF e g) := by
  have h1 := hg.nodes
  have h2 := hg.roots
  have h3 := lsF_le e g.nodes.length
  refine ⟨by rw [quo_len]; omega, by simp [quoF]; omega, fun n hn => ?_, fun x hx => ?_⟩
  · obtain ⟨m, hm, rfl⟩ := List.mem_map.1 hn
    have hlt := lsF_lt e _ m hm
    have hgd := hg.node (g.nodes.getD m nd0) (by simp [List.getD, hlt])
    rw [quo_len]
    exact renum_good hgd (fun x hx => by
      have := (good_args hgd).1 x hx
      exact cls_rng he this.1 this.2)
  · obtain ⟨z, hz, rfl⟩ := List.mem_map.1 hx
    rw [quo_len]
    have := hg.root z hz
    exact cls_rng he this.1 this.2
theorem cls_al {g : Gf} (hg : Good g) {e : Nat → Nat → Bool} (hd : ∀ x y : Nat, (e x y = true ↔ Al g (x : Int) (y : Int))) {x y : Int} (hx : isN g x) (hy : isN g y) : clsI e g.nodes.length x = clsI e g.nodes.length y ↔ Al g x y := by
  obtain ⟨hx0, hx1⟩ := hx
  obtain ⟨hy0, hy1⟩ := hy
  have he := al_eqv hg hd
  have h := (numF_said he g.nodes.length (Nat.le_refl _)).same he (x := x.toNat) (y := y.toNat) (by omega) (by omega)
  have k := hd x.toNat y.toNat
  have ex : ((x.toNat : Nat) : Int) = x := by omega
  have ey : ((y.toNat : Nat) : Int) = y := by omega
  rw [ex, ey] at k
  rw [clsI_eq e hx0 hx1, clsI_eq e hy0 hy1, ← k, ← h]
  omega
/-- A node's class in the graph of classes is labelled as the node, and leads to the classes of its arguments. -/
theorem quo_nd {g : Gf} (hg : Good g) {e : Nat → Nat → Bool} (hd : ∀ x y : Nat, (e x y = true ↔ Al g (x : Int) (y : Int))) {x : Int} (hx : isN g x) : (quoF e g).nd (clsI e g.nodes.length x) = renum (clsI e g.nodes.length) (g.nd x) := by
  have he := al_eqv hg hd
  have hx0 := hx.1
  have hx1 := hx.2
  have hh := (numF_said he g.nodes.length (Nat.le_refl _)).hit x.toNat (by omega)
  have hc := clsI_eq e hx0 hx1
  have hr : ((lsF e g.nodes.length).getD ((csF e g.nodes.length).getD x.toNat 0) 0) < g.nodes.length := lsF_lt e _ _ (nget_mem hh.1)
  have hal := (hd _ _).1 hh.2
  have ex : ((x.toNat : Nat) : Int) = x := by omega
  rw [ex] at hal
  have e1 : (quoF e g).nd (clsI e g.nodes.length x) = renum (clsI e g.nodes.length) (g.nd (((lsF e g.nodes.length).getD ((csF e g.nodes.length).getD x.toNat 0) 0 : Nat) : Int)) := by
    rw [hc]
    unfold Gf.nd
    have h1 := hh.1
    generalize (csF e g.nodes.length).getD x.toNat 0 = c at h1 ⊢
    simp only [Int.toNat_natCast, quoF]
    simp [List.getD, h1]
  rw [e1]
  generalize (((lsF e g.nodes.length).getD ((csF e g.nodes.length).getD x.toNat 0) 0 : Nat) : Int) = y at hal
  obtain ⟨_, hy, hl, ha⟩ := al_sim g x y hal
  obtain ⟨l1, l2, l3, l4, _⟩ := hl
  unfold renum
  rw [l1, l2, l3]
  congr 1
  apply list_ext0
  · simp [l4]
  · intro j hj
    have hj' : j < (g.nd y).args.length := by simpa using hj
    have hjx : j < (g.nd x).args.length := by omega
    have e2 : ((g.nd y).args.map (clsI e g.nodes.length)).getD j 0 = clsI e g.nodes.length (g.arg y j) := by simp [Gf.arg, List.getD, hj']
    have e3 : ((g.nd x).args.map (clsI e g.nodes.length)).getD j 0 = clsI e g.nodes.length (g.arg x j) := by simp [Gf.arg, List.getD, hjx]
    rw [e2, e3]
    exact (cls_al hg hd (arg_isN hg hy hj') (arg_isN hg hx hjx)).2 (al_symm (ha j hjx))
/-- Two graphs that are one but for their nodes' numbers are trimmed to the same. -/
theorem pos_map {F : Int → Int} : ∀ {m : List Int} {x : Int}, (∀ y ∈ m, F y = F x → y = x) → pos (m.map F) (F x) = pos m x
  | [], _, _ => rfl
  | y :: r, x, h => by
    by_cases e : y = x
    · subst e
      simp [pos]
    · have h1 : ¬ F y = F x := fun h2 => e (h y (by simp) h2)
      simp only [List.map_cons, pos, if_neg e, if_neg h1]
      rw [pos_map (fun z hz => h z (by simp [hz]))]
theorem trim_iso {g t : Gf} (hg : Good g) (ht : Good t) {F : Int → Int} (hF : ∀ x ∈ metF g, ∀ y ∈ metF g, F x = F y → x = y) (hn : ∀ x ∈ metF g, t.nd (F x) = renum F (g.nd x)) (hr : t.roots = g.roots.map F) : trimF t = trimF g := by
  have hc := met_arg hg
  have hS : In (metF g) [] := ⟨List.nodup_nil, by simp⟩
  have hta : ∀ x ∈ metF g, t.argsOf (F x) = (g.argsOf x).map F := fun x hx => by
    have := hn x hx
    show (t.nd (F x)).args = _
    rw [this]
    rfl
  have hml := (met_ok hg).le
  have hlen : ((metF g).map F).length = (metF g).length := by simp
  have h1 := meet_map hc hF hta g.nodes.length g.roots [] (met_root hg) hS
  have hcS : ∀ x ∈ (metF g).map F, ∀ y ∈ t.argsOf x, y ∈ (metF g).map F := fun x hx y hy => by
    obtain ⟨z, hz, rfl⟩ := List.mem_map.1 hx
    rw [hta z hz] at hy
    obtain ⟨u, hu, rfl⟩ := List.mem_map.1 hy
    exact List.mem_map.2 ⟨u, hc z hz u hu, rfl⟩
  have hrS : ∀ x ∈ t.roots, x ∈ (metF g).map F := fun x hx => by
    rw [hr] at hx
    obtain ⟨z, hz, rfl⟩ := List.mem_map.1 hx
    exact List.mem_map.2 ⟨z, met_root hg z hz, rfl⟩
  have hS' : In ((metF g).map F) [] := ⟨List.nodup_nil, by simp⟩
  have hin := meet_inS hcS t.nodes.length t.roots [] hrS hS'
  have hmt : metF t = (metF g).map F := by
    have h2 := meet_fuel hcS (g.nodes.length + t.nodes.length) g.nodes.length t.roots [] hrS hS' (by rw [hlen]; simp; omega) (by rw [hlen]; simp; omega)
    have hcT := met_arg ht
    have hST : In (metF t) [] := ⟨List.nodup_nil, by simp⟩
    have hmlt := (met_ok ht).le
    have h3 := meet_fuel hcT t.nodes.length (g.nodes.length + t.nodes.length) t.roots [] (met_root ht) hST (by simp; omega) (by simp; omega)
    have h4 : metF t = meetF t t.nodes.length t.roots [] := rfl
    rw [h4, h3, h2, hr]
    exact h1
  have hpos : ∀ x ∈ metF g, posF (metF t) (F x) = posF (metF g) x := fun x hx => by
    rw [hmt]
    unfold posF
    rw [if_pos hx, if_pos (List.mem_map.2 ⟨x, hx, rfl⟩), pos_map (fun y hy e => hF y hy x hx e)]
  have hnodes : (metF t).map (fun x => renum (posF (metF t)) (t.nodes.getD x.toNat nd0)) = (metF g).map (fun x => renum (posF (metF g)) (g.nodes.getD x.toNat nd0)) := by
    rw [show (metF t).map (fun x => renum (posF (metF t)) (t.nodes.getD x.toNat nd0)) = ((metF g).map F).map (fun x => renum (posF (metF t)) (t.nodes.getD x.toNat nd0)) from congrArg (fun m => m.map (fun x => renum (posF (metF t)) (t.nodes.getD x.toNat nd0))) hmt]
    rw [List.map_map]
    apply List.map_congr_left
    intro x hx
    show renum (posF (metF t)) (t.nd (F x)) = renum (posF (metF g)) (g.nd x)
    rw [hn x hx]
    unfold renum
    congr 1
    rw [List.map_map]
    apply List.map_congr_left
    intro y hy
    exact hpos y (hc x hx y hy)
  have hroots : t.roots.map (posF (metF t)) = g.roots.map (posF (metF g)) := by
    rw [hr, List.map_map]
    apply List.map_congr_left
    intro y hy
    exact hpos y (met_root hg y hy)
  unfold trimF
  rw [hnodes, hroots]
/-- A pairing of the nodes of two graphs. -/
structure Pr (a b : Gf) (R : Int → Int → Prop) : Prop where
  rng : ∀ x y, R x y → isN a x ∧ isN b y
  lab : ∀ x y, R x y → (a.nd x).kind = (b.nd y).kind ∧ (a.nd x).name = (b.nd y).name ∧ (a.nd x).num = (b.nd y).num ∧ (a.nd x).args.length = (b.nd y).args.length
  arg : ∀ x y, R x y → ∀ k, k < (a.nd x).args.length → R (a.arg x k) (b.arg y k)
  v1 : ∀ x y y', R x y → R x y' → (a.nd x).kind = 1 → y = y'
  v2 : ∀ x x' y, R x y → R x' y → (b.nd y).kind = 1 → x = x'
  len : a.roots.length = b.roots.length
  root : ∀ i, i < a.roots.length → R (a.roots.getD i 0) (b.roots.getD i 0)
theorem Pr.symm {a b : Gf} {R : Int → Int → Prop} (h : Pr a b R) : Pr b a (fun y x => R x y) :=
  ⟨fun y x r => ⟨(h.rng x y r).2, (h.rng x y r).1⟩, fun y x r => by
    obtain ⟨h1, h2, h3, h4⟩ := h.lab x y r
    exact ⟨h1.symm, h2.symm, h3.symm, h4.symm⟩, fun y x r k hk => h.arg x y r k (by rw [(h.lab x y r).2.2.2]; exact hk), fun y x x' r r' hk => h.v2 x x' y r r' hk, fun y y' x r r' hk => h.v1 x y y' r r' hk, h.len.symm, fun i hi => h.root i (by rw [h.len]; exact hi)⟩
/-- What is alike on one side is alike on the other. -/
theorem Pr.al {a b : Gf} {R : Int → Int → Prop} (h : Pr a b R) {x x' y y' : Int} (h1 : R x y) (h2 : R x' y') (hal : Al a x x') : Al b y y' := by
  refine ⟨fun u v => ∃ s t, R s u ∧ R t v ∧ Al a s t, fun u v huv => ?_, x, x', h1, h2, hal⟩
  obtain ⟨s, t, hs, ht, hst⟩ := huv
  obtain ⟨_, _, hl, ha⟩ := al_sim a s t hst
  obtain ⟨l1, l2, l3, l4⟩ := h.lab s u hs
  obtain ⟨m1, m2, m3, m4⟩ := h.lab t v ht
  refine ⟨(h.rng s u hs).2, (h.rng t v ht).2, ⟨by rw [← l1, hl.1, m1], by rw [← l2, hl.2.1, m2], by rw [← l3, hl.2.2.1, m3], by rw [← l4, hl.2.2.2.1, m4], fun hk => ?_⟩, fun k hk => ?_⟩
  · have e : s = t := hl.2.2.2.2 (l1.trans hk)
    subst e
    exact h.v1 s u v hs ht (l1.trans hk)
  · have hk1 : k < (a.nd s).args.length := by rw [l4]; exact hk
    have hk2 : k < (a.nd t).args.length := by rw [← hl.2.2.2.1]; exact hk1
    exact ⟨_, _, h.arg s u hs k hk1, h.arg t v ht k hk2, ha k hk1⟩
theorem list_mem_getD {l : List Int} {x : Int} (h : x ∈ l) : ∃ i, i < l.length ∧ l.getD i 0 = x := by
  obtain ⟨i, hi, e⟩ := List.getElem_of_mem h
  exact ⟨i, hi, by simp [List.getD, hi, e]⟩
/-- A pairing makes the least graphs the same. -/
theorem Pr.least {a b : Gf} (ha : Good a) (hb : Good b) {ea eb : Nat → Nat → Bool} (hda : ∀ x y : Nat, (ea x y = true ↔ Al a (x : Int) (y : Int))) (hdb : ∀ x y : Nat, (eb x y = true ↔ Al b (x : Int) (y : Int))) {R : Int → Int → Prop} (h : Pr a b R) : trimF (quoF ea a) = trimF (quoF eb b) := by
  have hA := quo_good ha (al_eqv ha hda)
  have hB := quo_good hb (al_eqv hb hdb)
  let Q : Int → Int → Prop := fun c d => ∃ x y, R x y ∧ clsI ea a.nodes.length x = c ∧ clsI eb b.nodes.length y = d
  have hfun : ∀ c d d', Q c d → Q c d' → d = d' := by
    rintro c d d' ⟨x, y, r, rfl, rfl⟩ ⟨x', y', r', e, rfl⟩
    have h1 := h.rng x y r
    have h2 := h.rng x' y' r'
    exact (cls_al hb hdb h1.2 h2.2).2 (h.al r r' ((cls_al ha hda h1.1 h2.1).1 e.symm))
  have hinj : ∀ c c' d, Q c d → Q c' d → c = c' := by
    rintro c c' d ⟨x, y, r, rfl, rfl⟩ ⟨x', y', r', rfl, e⟩
    have h1 := h.rng x y r
    have h2 := h.rng x' y' r'
    exact (cls_al ha hda h1.1 h2.1).2 (h.symm.al r r' ((cls_al hb hdb h1.2 h2.2).1 e.symm))
  have hFex : ∃ F : Int → Int, ∀ c d, Q c d → F c = d := by
    refine ⟨fun c => @dite _ (∃ d, Q c d) (Classical.propDecidable _) (fun hx => Classical.choose hx) (fun _ => 0), fun c d hcd => ?_⟩
    have hx : ∃ d, Q c d := ⟨d, hcd⟩
    show @dite _ (∃ d, Q c d) (Classical.propDecidable _) (fun hx => Classical.choose hx) (fun _ => 0) = d
    rw [dif_pos hx]
    exact hfun c _ d (Classical.choose_spec hx) hcd
  obtain ⟨F, hF⟩ := hFex
  have hstep : ∀ c d, Q c d → (quoF eb b).nd (F c) = renum F ((quoF ea a).nd c) ∧ ∀ y ∈ (quoF ea a).argsOf c, ∃ d, Q y d := by
    rintro c d ⟨x, y, r, rfl, rfl⟩
    have hr := h.rng x y r
    have hl := h.lab x y r
    rw [hF _ _ ⟨x, y, r, rfl, rfl⟩, quo_nd hb hdb hr.2]
    have ea1 : (quoF ea a).argsOf (clsI ea a.nodes.length x) = (a.nd x).args.map (clsI ea a.nodes.length) := by
      show ((quoF ea a).nd _).args = _
      rw [quo_nd ha hda hr.1]
      rfl
    refine ⟨?_, fun z hz => ?_⟩
    · rw [quo_nd ha hda hr.1]
      unfold renum
      simp only
      rw [hl.1, hl.2.1, hl.2.2.1]
      congr 1
      apply list_ext0
      · simp [hl.2.2.2]
      · intro j hj
        have hj' : j < (b.nd y).args.length := by simpa using hj
        have hjx : j < (a.nd x).args.length := by rw [hl.2.2.2]; exact hj'
        have e2 : ((b.nd y).args.map (clsI eb b.nodes.length)).getD j 0 = clsI eb b.nodes.length (b.arg y j) := by simp [Gf.arg, List.getD, hj']
        have e3 : (((a.nd x).args.map (clsI ea a.nodes.length)).map F).getD j 0 = F (clsI ea a.nodes.length (a.arg x j)) := by simp [Gf.arg, List.getD, hjx]
        rw [e2, e3]
        exact (hF _ _ ⟨_, _, h.arg x y r j hjx, rfl, rfl⟩).symm
    · rw [ea1] at hz
      obtain ⟨u, hu, rfl⟩ := List.mem_map.1 hz
      obtain ⟨j, hj, rfl⟩ := list_mem_getD hu
      exact ⟨_, _, _, h.arg x y r j hj, rfl, rfl⟩
  have hmet : ∀ c ∈ metF (quoF ea a), ∃ d, Q c d := by
    refine meet_in (fun c => ∃ d, Q c d) (fun c hc y hy => ?_) _ _ _ (fun c hc => ?_) (by simp)
    · obtain ⟨d, hd⟩ := hc
      exact (hstep c d hd).2 y hy
    · obtain ⟨z, hz, rfl⟩ := List.mem_map.1 hc
      obtain ⟨i, hi, rfl⟩ := list_mem_getD hz
      exact ⟨_, _, _, h.root i hi, rfl, rfl⟩
  refine (trim_iso hA hB (F := F) (fun c hc c' hc' e => ?_) (fun c hc => ?_) ?_).symm
  · obtain ⟨d, hd⟩ := hmet c hc
    obtain ⟨d', hd'⟩ := hmet c' hc'
    rw [hF c d hd, hF c' d' hd'] at e
    subst e
    exact hinj c c' d hd hd'
  · obtain ⟨d, hd⟩ := hmet c hc
    exact (hstep c d hd).1
  · show b.roots.map _ = (a.roots.map _).map F
    apply list_ext0
    · simp [h.len]
    · intro j hj
      have hj' : j < b.roots.length := by simpa using hj
      have hja : j < a.roots.length := by rw [h.len]; exact hj'
      have e2 : (b.roots.map (clsI eb b.nodes.length)).getD j 0 = clsI eb b.nodes.length (b.roots.getD j 0) := by simp [List.getD, hj']
      have e3 : ((a.roots.map (clsI ea a.nodes.length)).map F).getD j 0 = F (clsI ea a.nodes.length (a.roots.getD j 0)) := by simp [List.getD, hja]
      rw [e2, e3]
      exact (hF _ _ ⟨_, _, h.root j hja, rfl, rfl⟩).symm
/-- The number of a node in the least graph. -/
def lstI (e : Nat → Nat → Bool) (g : Gf) (x : Int) : Int := posF (metF (quoF e g)) (clsI e g.nodes.length x)
/-- A node that is met from the roots: so is its class, and its number in the least graph is labelled as it is. -/
theorem met_cls {g : Gf} (hg : Good g) {e : Nat → Nat → Bool} (hd : ∀ x y : Nat, (e x y = true ↔ Al g (x : Int) (y : Int))) : ∀ x ∈ metF g, isN g x ∧ clsI e g.nodes.length x ∈ metF (quoF e g) := by
  have hq := quo_good hg (al_eqv hg hd)
  refine meet_in (fun x => isN g x ∧ clsI e g.nodes.length x ∈ metF (quoF e g)) (fun x hx y hy => ?_) _ _ _ (fun x hx => ?_) (by simp)
  · obtain ⟨hx, hm⟩ := hx
    refine ⟨(hg.args hx.1 hx.2).1 y hy, met_arg hq _ hm _ ?_⟩
    show _ ∈ ((quoF e g).nd _).args
    rw [quo_nd hg hd hx]
    exact List.mem_map.2 ⟨y, hy, rfl⟩
  · exact ⟨hg.root x hx, met_root hq _ (List.mem_map.2 ⟨x, hx, rfl⟩)⟩
theorem least_nd {g : Gf} (hg : Good g) {e : Nat → Nat → Bool} (hd : ∀ x y : Nat, (e x y = true ↔ Al g (x : Int) (y : Int))) {x : Int} (hx : x ∈ metF g) : (trimF (quoF e g)).nd (lstI e g x) = renum (lstI e g) (g.nd x) := by
  have hq := quo_good hg (al_eqv hg hd)
  obtain ⟨h1, h2⟩ := met_cls hg hd x hx
  have h3 : (trimF (quoF e g)).nd (lstI e g x) = renum (posF (metF (quoF e g))) ((quoF e g).nd (clsI e g.nodes.length x)) := trim_node hq _ h2
  rw [h3, quo_nd hg hd h1]
  unfold renum
  congr 1
  rw [List.map_map]
  rfl
theorem least_al {g : Gf} (hg : Good g) {e : Nat → Nat → Bool} (hd : ∀ x y : Nat, (e x y = true ↔ Al g (x : Int) (y : Int))) {x y : Int} (hx : x ∈ metF g) (hy : y ∈ metF g) : lstI e g x = lstI e g y ↔ Al g x y := by
  have hq := quo_good hg (al_eqv hg hd)
  obtain ⟨h1, h2⟩ := met_cls hg hd x hx
  obtain ⟨k1, k2⟩ := met_cls hg hd y hy
  rw [← cls_al hg hd h1 k1]
  exact ⟨fun e => pos_inj hq _ h2 _ k2 e, fun e => by unfold lstI; rw [e]⟩
theorem least_rng {g : Gf} (hg : Good g) {e : Nat → Nat → Bool} (hd : ∀ x y : Nat, (e x y = true ↔ Al g (x : Int) (y : Int))) {x : Int} (hx : x ∈ metF g) : isN (trimF (quoF e g)) (lstI e g x) := by
  have hq := quo_good hg (al_eqv hg hd)
  obtain ⟨h1, h2⟩ := met_cls hg hd x hx
  have := pos_rng hq _ h2
  exact ⟨this.1, by rw [trim_len hq]; exact this.2⟩
theorem least_root (e : Nat → Nat → Bool) (g : Gf) : (trimF (quoF e g)).roots = g.roots.map (lstI e g) := by
  show (g.roots.map _).map _ = _
  rw [List.map_map]
  rfl
theorem metF_root {g : Gf} (hg : Good g) {i : Nat} (hi : i < g.roots.length) : g.roots.getD i 0 ∈ metF g := met_root hg _ (getD_mem hi)
theorem met_argk {g : Gf} (hg : Good g) {x : Int} (hx : x ∈ metF g) {k : Nat} (hk : k < (g.nd x).args.length) : g.arg x k ∈ metF g := met_arg hg x hx _ (getD_mem hk)
theorem renum_inv {F G : Int → Int} {m n : Nd} (h : renum F m = renum G n) : m.kind = n.kind ∧ m.name = n.name ∧ m.num = n.num ∧ m.args.map F = n.args.map G := by
  unfold renum at h
  injection h with h1 h2 h3 h4
  exact ⟨h1, h2, h3, h4⟩
/-- The same least graphs: a pairing. -/
theorem least_pr {a b : Gf} (ha : Good a) (hb : Good b) {ea eb : Nat → Nat → Bool} (hda : ∀ x y : Nat, (ea x y = true ↔ Al a (x : Int) (y : Int))) (hdb : ∀ x y : Nat, (eb x y = true ↔ Al b (x : Int) (y : Int))) (h : trimF (quoF ea a) = trimF (quoF eb b)) : Pr a b (fun x y => x ∈ metF a ∧ y ∈ metF b ∧ lstI ea a x = lstI eb b y) := by
  have hlab : ∀ x y, x ∈ metF a → y ∈ metF b → lstI ea a x = lstI eb b y → renum (lstI ea a) (a.nd x) = renum (lstI eb b) (b.nd y) := fun x y hx hy e => by
    rw [← least_nd ha hda hx, ← least_nd hb hdb hy, h, e]
  have hrt : a.roots.map (lstI ea a) = b.roots.map (lstI eb b) := by rw [← least_root, ← least_root, h]
  have hlen : a.roots.length = b.roots.length := by simpa using congrArg List.length hrt
  refine ⟨fun x y ⟨hx, hy, _⟩ => ⟨(met_ok ha).rng x hx, (met_ok hb).rng y hy⟩, fun x y ⟨hx, hy, e⟩ => ?_, fun x y ⟨hx, hy, e⟩ k hk => ?_, fun x y y' ⟨hx, hy, e⟩ ⟨_, hy', e'⟩ hk => ?_, fun x x' y ⟨hx, hy, e⟩ ⟨hx', _, e'⟩ hk => ?_, hlen, fun i hi => ?_⟩
  · obtain ⟨h1, h2, h3, h4⟩ := renum_inv (hlab x y hx hy e)
    exact ⟨h1, h2, h3, by simpa using congrArg List.length h4⟩
  · obtain ⟨h1, h2, h3, h4⟩ := renum_inv (hlab x y hx hy e)
    have hl : (a.nd x).args.length = (b.nd y).args.length := by simpa using congrArg List.length h4
    have hkb : k < (b.nd y).args.length := by omega
    have h5 := congrArg (fun l => l.getD k 0) h4
    refine ⟨met_argk ha hx hk, met_argk hb hy hkb, ?_⟩
    simp [List.getD, hk, hkb] at h5
    simpa [Gf.arg, List.getD, hk, hkb] using h5
  · obtain ⟨h1, _⟩ := renum_inv (hlab x y hx hy e)
    have hal := (least_al hb hdb hy hy').1 (e.symm.trans e')
    exact (al_sim b y y' hal).2.2.1.2.2.2.2 (h1.symm.trans hk)
  · obtain ⟨h1, _⟩ := renum_inv (hlab x y hx hy e)
    have hal := (least_al ha hda hx hx').1 (e.trans e'.symm)
    exact (al_sim a x x' hal).2.2.1.2.2.2.2 (h1.trans hk)
  · have hib : i < b.roots.length := by omega
    refine ⟨metF_root ha hi, metF_root hb hib, ?_⟩
    have h5 := congrArg (fun l => l.getD i 0) hrt
    simp [List.getD, hi, hib] at h5
    simpa [List.getD, hi, hib] using h5
end Go.Proofs.Ytjenkpgoggmboaa
