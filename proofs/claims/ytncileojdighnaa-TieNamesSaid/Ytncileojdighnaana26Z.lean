/- Classes of package bisim; the fixed fact of layer 5. -/
import Derived.Test.Ytncileojdighnaana25Z
import Derived.Test.Ytncileojdighnaana18Z
namespace Go.Proofs.Ytncileojdighnaa
set_option maxRecDepth 100000
open Go.RowKit
theorem al_dec (g : Gf) : ∃ e : Nat → Nat → Bool, ∀ x y : Nat, (e x y = true ↔ Al g (x : Int) (y : Int)) :=
  ⟨fun x y => @decide (Al g (x : Int) (y : Int)) (Classical.propDecidable _), fun _ _ => @decide_eq_true_iff _ (Classical.propDecidable _)⟩
theorem al_eqv {g : Gf} (hg : Good g) {e : Nat → Nat → Bool} (he : ∀ x y : Nat, (e x y = true ↔ Al g (x : Int) (y : Int))) : Eqv e g.nodes.length :=
  ⟨fun x hx => (he x x).2 (al_refl hg ⟨by omega, by omega⟩), fun x y _ _ h => (he y x).2 (al_symm ((he x y).1 h)), fun x y z _ _ _ h1 h2 => (he x z).2 (al_trans ((he x y).1 h1) ((he y z).1 h2))⟩
set_option maxHeartbeats 1000000 in
theorem classes_good {W : World} {nv rv : Value} {g : Gf} (hG : Gr W nv rv g) (hS : Sized g) (hb : one (chk g) = []) (ee : Nat → Nat → Bool) (he : ∀ x y, x < g.nodes.length → y < g.nodes.length → (ee x y = true ↔ Al g (x : Int) (y : Int))) :
    Calls Try.prog 54 #[.agg #[nv, rv]] W fun r w' => (∃ ca cc, r = .returned (.tuple #[.slice ca g.nodes.length cc, .nilIface]) ∧ w'.ownsRow W.heap.size 3 1 (.slice ca g.nodes.length cc) g.nodes.length ((ints (csF ee g.nodes.length)).map (Value.int .i64))) ∧ Below W.heap.size W w' := by
  have hal := alike_good (hG.below (below_alloc W (.cells #[nv, rv] 29))) hS hb ee he
  clear hG
  go_enter Try.func54, Try.ntmps54
  go_wp2_with (go_at_call 42; refine hal.mono ?_; rintro e w1 ⟨⟨t2, t3, rfl, hF⟩, hb1⟩)
  go_ret2
  have h0 := hF.own 0 (by simp)
  have hl : (ansC ee g.nodes.length 0).length = g.nodes.length := (ints_len _).trans (csF_len _ _)
  rw [hl] at h0
  have h1 : w1.ownsRow (W.alloc (.cells #[nv, rv] 29)).heap.size 3 1 t2 g.nodes.length ((ints (csF ee g.nodes.length)).map (Value.int .i64)) := h0
  obtain ⟨ca, cc, rfl⟩ := own_sl h1
  exact ⟨⟨ca, cc, rfl, own_base h1 (by simp)⟩, Below.next (below_alloc _ _) hb1⟩
def g4 : Gf := ⟨[⟨4, ⟨#[102]⟩, 0, [1]⟩, ⟨4, ⟨#[102]⟩, 0, [0]⟩, ⟨4, ⟨#[102]⟩, 0, [2]⟩, ⟨1, ⟨#[]⟩, 0, []⟩], []⟩
end Go.Proofs.Ytncileojdighnaa

namespace Go.Proofs.Ytncileojdighnaa
set_option maxRecDepth 100000
open Go.RowKit
def clsI (e : Nat → Nat → Bool) (N : Nat) (x : Int) : Int := (ints (csF e N)).getD x.toNat 0
def quoF (e : Nat → Nat → Bool) (g : Gf) : Gf := ⟨(lsF e g.nodes.length).map (fun n => renum (clsI e g.nodes.length) (g.nodes.getD n nd0)), g.roots.map (clsI e g.nodes.length)⟩
theorem clsI_eq (e : Nat → Nat → Bool) {N : Nat} {x : Int} (h0 : 0 ≤ x) (h1 : x < (N : Int)) : clsI e N x = (((csF e N).getD x.toNat 0 : Nat) : Int) := ints_get (by rw [csF_len]; omega)
theorem cls_rng {e : Nat → Nat → Bool} {N : Nat} (he : Eqv e N) {x : Int} (h0 : 0 ≤ x) (h1 : x < (N : Int)) : 0 ≤ clsI e N x ∧ clsI e N x < ((lsF e N).length : Int) := by
  have := ((numF_said he N (Nat.le_refl _)).hit x.toNat (by omega)).1
  rw [clsI_eq e h0 h1]
  omega
theorem quo_len (e : Nat → Nat → Bool) (g : Gf) : (quoF e g).nodes.length = (lsF e g.nodes.length).length := by simp [quoF]
theorem renum_good {N M : Nat} {F : Int → Int} {n : Nd} (h : goodNd N n = true) (hF : ∀ x ∈ n.args, 0 ≤ F x ∧ F x < (M : Int)) : goodNd M (renum F n) = true := by
  have hst : (n.args.map F).any (strange M) = false := by
    rw [List.any_eq_false]
    intro y hy
    obtain ⟨z, hz, rfl⟩ := List.mem_map.1 hy
    have := hF z hz
    simp [strange]
    omega
  unfold goodNd at h ⊢
  simp only [renum, List.length_map, hst]
  split
  · rename_i hk
    rw [if_pos hk] at h
    exact h
  · rename_i hk
    rw [if_neg hk] at h
    split
    · rename_i hk2
      rw [if_pos hk2] at h
      exact h
    · rename_i hk2
      rw [if_neg hk2] at h
      split
      · rename_i hk3
        rw [if_pos hk3] at h
        exact h
      · rename_i hk3
        rw [if_neg hk3] at h
        split
        · rename_i hk4
          rw [if_pos hk4] at h
          simp only [Bool.and_eq_true] at h ⊢
          exact ⟨h.1, rfl⟩
        · rename_i hk4
          rw [if_neg hk4] at h
          exact h
theorem quo_good {g : Gf} (hg : Good g) {e : Nat → Nat → Bool} (he : Eqv e g.nodes.length) : Good (quoF e g) := by
  have h1 := hg.nodes
  have h2 := hg.roots
  have h3 := lsF_le e g.nodes.length
  refine ⟨by rw [quo_len]; omega, by simp [quoF]; omega, fun n hn => ?_, fun x hx => ?_⟩
  · obtain ⟨m, hm, rfl⟩ := List.mem_map.1 hn
    have hlt := lsF_lt e _ m hm
    have hgd := hg.node (g.nodes.getD m nd0) (by simp [List.getD, hlt])
    rw [quo_len]
    exact renum_good hgd (fun x hx => by
      have := (good_args hgd).1 x hx
      exact cls_rng he this.1 this.2)
  · obtain ⟨z, hz, rfl⟩ := List.mem_map.1 hx
    rw [quo_len]
    have := hg.root z hz
    exact cls_rng he this.1 this.2
theorem cls_al {g : Gf} (hg : Good g) {e : Nat → Nat → Bool} (hd : ∀ x y : Nat, (e x y = true ↔ Al g (x : Int) (y : Int))) {x y : Int} (hx : isN g x) (hy : isN g y) : clsI e g.nodes.length x = clsI e g.nodes.length y ↔ Al g x y := by
  obtain ⟨hx0, hx1⟩ := hx
  obtain ⟨hy0, hy1⟩ := hy
  have he := al_eqv hg hd
  have h := (numF_said he g.nodes.length (Nat.le_refl _)).same he (x := x.toNat) (y := y.toNat) (by omega) (by omega)
  have k := hd x.toNat y.toNat
  have ex : ((x.toNat : Nat) : Int) = x := by omega
  have ey : ((y.toNat : Nat) : Int) = y := by omega
  rw [ex, ey] at k
  rw [clsI_eq e hx0 hx1, clsI_eq e hy0 hy1, ← k, ← h]
  omega
theorem quo_nd {g : Gf} (hg : Good g) {e : Nat → Nat → Bool} (hd : ∀ x y : Nat, (e x y = true ↔ Al g (x : Int) (y : Int))) {x : Int} (hx : isN g x) : (quoF e g).nd (clsI e g.nodes.length x) = renum (clsI e g.nodes.length) (g.nd x) := by
  have he := al_eqv hg hd
  have hx0 := hx.1
  have hx1 := hx.2
  have hh := (numF_said he g.nodes.length (Nat.le_refl _)).hit x.toNat (by omega)
  have hc := clsI_eq e hx0 hx1
  have hr : ((lsF e g.nodes.length).getD ((csF e g.nodes.length).getD x.toNat 0) 0) < g.nodes.length := lsF_lt e _ _ (nget_mem hh.1)
  have hal := (hd _ _).1 hh.2
  have ex : ((x.toNat : Nat) : Int) = x := by omega
  rw [ex] at hal
  have e1 : (quoF e g).nd (clsI e g.nodes.length x) = renum (clsI e g.nodes.length) (g.nd (((lsF e g.nodes.length).getD ((csF e g.nodes.length).getD x.toNat 0) 0 : Nat) : Int)) := by
    rw [hc]
    unfold Gf.nd
    have h1 := hh.1
    generalize (csF e g.nodes.length).getD x.toNat 0 = c at h1 ⊢
    simp only [Int.toNat_natCast, quoF]
    simp [List.getD, h1]
  rw [e1]
  generalize (((lsF e g.nodes.length).getD ((csF e g.nodes.length).getD x.toNat 0) 0 : Nat) : Int) = y at hal
  obtain ⟨_, hy, hl, ha⟩ := al_sim g x y hal
  obtain ⟨l1, l2, l3, l4, _⟩ := hl
  unfold renum
  rw [l1, l2, l3]
  congr 1
  apply list_ext0
  · simp [l4]
  · intro j hj
    have hj' : j < (g.nd y).args.length := by simpa using hj
    have hjx : j < (g.nd x).args.length := by omega
    have e2 : ((g.nd y).args.map (clsI e g.nodes.length)).getD j 0 = clsI e g.nodes.length (g.arg y j) := by simp [Gf.arg, List.getD, hj']
    have e3 : ((g.nd x).args.map (clsI e g.nodes.length)).getD j 0 = clsI e g.nodes.length (g.arg x j) := by simp [Gf.arg, List.getD, hjx]
    rw [e2, e3]
    exact (cls_al hg hd (arg_isN hg hy hj') (arg_isN hg hx hjx)).2 (al_symm (ha j hjx))
theorem pos_map {F : Int → Int} : ∀ {m : List Int} {x : Int}, (∀ y ∈ m, F y = F x → y = x) → pos (m.map F) (F x) = pos m x
  | [], _, _ => rfl
  | y :: r, x, h => by
    by_cases e : y = x
    · subst e
      simp [pos]
    · have h1 : ¬ F y = F x := fun h2 => e (h y (by simp) h2)
      simp only [List.map_cons, pos, if_neg e, if_neg h1]
      rw [pos_map (fun z hz => h z (by simp [hz]))]
theorem trim_iso {g t : Gf} (hg : Good g) (ht : Good t) {F : Int → Int} (hF : ∀ x ∈ metF g, ∀ y ∈ metF g, F x = F y → x = y) (hn : ∀ x ∈ metF g, t.nd (F x) = renum F (g.nd x)) (hr : t.roots = g.roots.map F) : trimF t = trimF g := by
  have hc := met_arg hg
  have hS : In (metF g) [] := ⟨List.nodup_nil, by simp⟩
  have hta : ∀ x ∈ metF g, t.argsOf (F x) = (g.argsOf x).map F := fun x hx => by
    have := hn x hx
    show (t.nd (F x)).args = _
    rw [this]
    rfl
  have hml := (met_ok hg).le
  have hlen : ((metF g).map F).length = (metF g).length := by simp
  have h1 := meet_map hc hF hta g.nodes.length g.roots [] (met_root hg) hS
  have hcS : ∀ x ∈ (metF g).map F, ∀ y ∈ t.argsOf x, y ∈ (metF g).map F := fun x hx y hy => by
    obtain ⟨z, hz, rfl⟩ := List.mem_map.1 hx
    rw [hta z hz] at hy
    obtain ⟨u, hu, rfl⟩ := List.mem_map.1 hy
    exact List.mem_map.2 ⟨u, hc z hz u hu, rfl⟩
  have hrS : ∀ x ∈ t.roots, x ∈ (metF g).map F := fun x hx => by
    rw [hr] at hx
    obtain ⟨z, hz, rfl⟩ := List.mem_map.1 hx
    exact List.mem_map.2 ⟨z, met_root hg z hz, rfl⟩
  have hS' : In ((metF g).map F) [] := ⟨List.nodup_nil, by simp⟩
  have hin := meet_inS hcS t.nodes.length t.roots [] hrS hS'
  have hmt : metF t = (metF g).map F := by
    have h2 := meet_fuel hcS (g.nodes.length + t.nodes.length) g.nodes.length t.roots [] hrS hS' (by rw [hlen]; simp; omega) (by rw [hlen]; simp; omega)
    have hcT := met_arg ht
    have hST : In (metF t) [] := ⟨List.nodup_nil, by simp⟩
    have hmlt := (met_ok ht).le
    have h3 := meet_fuel hcT t.nodes.length (g.nodes.length + t.nodes.length) t.roots [] (met_root ht) hST (by simp; omega) (by simp; omega)
    have h4 : metF t = meetF t t.nodes.length t.roots [] := rfl
    rw [h4, h3, h2, hr]
    exact h1
  have hpos : ∀ x ∈ metF g, posF (metF t) (F x) = posF (metF g) x := fun x hx => by
    rw [hmt]
    unfold posF
    rw [if_pos hx, if_pos (List.mem_map.2 ⟨x, hx, rfl⟩), pos_map (fun y hy e => hF y hy x hx e)]
  have hnodes : (metF t).map (fun x => renum (posF (metF t)) (t.nodes.getD x.toNat nd0)) = (metF g).map (fun x => renum (posF (metF g)) (g.nodes.getD x.toNat nd0)) := by
    rw [show (metF t).map (fun x => renum (posF (metF t)) (t.nodes.getD x.toNat nd0)) = ((metF g).map F).map (fun x => renum (posF (metF t)) (t.nodes.getD x.toNat nd0)) from congrArg (fun m => m.map (fun x => renum (posF (metF t)) (t.nodes.getD x.toNat nd0))) hmt]
    rw [List.map_map]
    apply List.map_congr_left
    intro x hx
    show renum (posF (metF t)) (t.nd (F x)) = renum (posF (metF g)) (g.nd x)
    rw [hn x hx]
    unfold renum
    congr 1
    rw [List.map_map]
    apply List.map_congr_left
    intro y hy
    exact hpos y (hc x hx y hy)
  have hroots : t.roots.map (posF (metF t)) = g.roots.map (posF (metF g)) := by
    rw [hr, List.map_map]
    apply List.map_congr_left
    intro y hy
    exact hpos y (met_root hg y hy)
  unfold trimF
  rw [hnodes, hroots]
structure Pr (a b : Gf) (R : Int → Int → Prop) : Prop where
  rng : ∀ x y, R x y → isN a x ∧ isN b y
  lab : ∀ x y, R x y → (a.nd x).kind = (b.nd y).kind ∧ (a.nd x).name = (b.nd y).name ∧ (a.nd x).num = (b.nd y).num ∧ (a.nd x).args.length = (b.nd y).args.length
  arg : ∀ x y, R x y → ∀ k, k < (a.nd x).args.length → R (a.arg x k) (b.arg y k)
  v1 : ∀ x y y', R x y → R x y' → (a.nd x).kind = 1 → y = y'
  v2 : ∀ x x' y, R x y → R x' y → (b.nd y).kind = 1 → x = x'
  len : a.roots.length = b.roots.length
  root : ∀ i, i < a.roots.length → R (a.roots.getD i 0) (b.roots.getD i 0)
theorem Pr.symm {a b : Gf} {R : Int → Int → Prop} (h : Pr a b R) : Pr b a (fun y x => R x y) :=
  ⟨fun y x r => ⟨(h.rng x y r).2, (h.rng x y r).1⟩, fun y x r => by
    obtain ⟨h1, h2, h3, h4⟩ := h.lab x y r
    exact ⟨h1.symm, h2.symm, h3.symm, h4.symm⟩, fun y x r k hk => h.arg x y r k (by rw [(h.lab x y r).2.2.2]; exact hk), fun y x x' r r' hk => h.v2 x x' y r r' hk, fun y y' x r r' hk => h.v1 x y y' r r' hk, h.len.symm, fun i hi => h.root i (by rw [h.len]; exact hi)⟩
theorem Pr.al {a b : Gf} {R : Int → Int → Prop} (h : Pr a b R) {x x' y y' : Int} (h1 : R x y) (h2 : R x' y') (hal : Al a x x') : Al b y y' := by
  refine ⟨fun u v => ∃ s t, R s u ∧ R t v ∧ Al a s t, fun u v huv => ?_, x, x', h1, h2, hal⟩
  obtain ⟨s, t, hs, ht, hst⟩ := huv
  obtain ⟨_, _, hl, ha⟩ := al_sim a s t hst
  obtain ⟨l1, l2, l3, l4⟩ := h.lab s u hs
  obtain ⟨m1, m2, m3, m4⟩ := h.lab t v ht
  refine ⟨(h.rng s u hs).2, (h.rng t v ht).2, ⟨by rw [← l1, hl.1, m1], by rw [← l2, hl.2.1, m2], by rw [← l3, hl.2.2.1, m3], by rw [← l4, hl.2.2.2.1, m4], fun hk => ?_⟩, fun k hk => ?_⟩
  · have e : s = t := hl.2.2.2.2 (l1.trans hk)
    subst e
    exact h.v1 s u v hs ht (l1.trans hk)
  · have hk1 : k < (a.nd s).args.length := by rw [l4]; exact hk
    have hk2 : k < (a.nd t).args.length := by rw [← hl.2.2.2.1]; exact hk1
    exact ⟨_, _, h.arg s u hs k hk1, h.arg t v ht k hk2, ha k hk1⟩
theorem list_mem_getD {l : List Int} {x : Int} (h : x ∈ l) : ∃ i, i < l.length ∧ l.getD i 0 = x := by
  obtain ⟨i, hi, e⟩ := List.getElem_of_mem h
  exact ⟨i, hi, by simp [List.getD, hi, e]⟩
theorem Pr.least {a b : Gf} (ha : Good a) (hb : Good b) {ea eb : Nat → Nat → Bool} (hda : ∀ x y : Nat, (ea x y = true ↔ Al a (x : Int) (y : Int))) (hdb : ∀ x y : Nat, (eb x y = true ↔ Al b (x : Int) (y : Int))) {R : Int → Int → Prop} (h : Pr a b R) : trimF (quoF ea a) = trimF (quoF eb b) := by
  have hA := quo_good ha (al_eqv ha hda)
  have hB := quo_good hb (al_eqv hb hdb)
  let Q : Int → Int → Prop := fun c d => ∃ x y, R x y ∧ clsI ea a.nodes.length x = c ∧ clsI eb b.nodes.length y = d
  have hfun : ∀ c d d', Q c d → Q c d' → d = d' := by
    rintro c d d' ⟨x, y, r, rfl, rfl⟩ ⟨x', y', r', e, rfl⟩
    have h1 := h.rng x y r
    have h2 := h.rng x' y' r'
    exact (cls_al hb hdb h1.2 h2.2).2 (h.al r r' ((cls_al ha hda h1.1 h2.1).1 e.symm))
  have hinj : ∀ c c' d, Q c d → Q c' d → c = c' := by
    rintro c c' d ⟨x, y, r, rfl, rfl⟩ ⟨x', y', r', rfl, e⟩
    have h1 := h.rng x y r
    have h2 := h.rng x' y' r'
    exact (cls_al ha hda h1.1 h2.1).2 (h.symm.al r r' ((cls_al hb hdb h1.2 h2.2).1 e.symm))
  have hFex : ∃ F : Int → Int, ∀ c d, Q c d → F c = d := by
    refine ⟨fun c => @dite _ (∃ d, Q c d) (Classical.propDecidable _) (fun hx => Classical.choose hx) (fun _ => 0), fun c d hcd => ?_⟩
    have hx : ∃ d, Q c d := ⟨d, hcd⟩
    show @dite _ (∃ d, Q c d) (Classical.propDecidable _) (fun hx => Classical.choose hx) (fun _ => 0) = d
    rw [dif_pos hx]
    exact hfun c _ d (Classical.choose_spec hx) hcd
  obtain ⟨F, hF⟩ := hFex
  have hstep : ∀ c d, Q c d → (quoF eb b).nd (F c) = renum F ((quoF ea a).nd c) ∧ ∀ y ∈ (quoF ea a).argsOf c, ∃ d, Q y d := by
    rintro c d ⟨x, y, r, rfl, rfl⟩
    have hr := h.rng x y r
    have hl := h.lab x y r
    rw [hF _ _ ⟨x, y, r, rfl, rfl⟩, quo_nd hb hdb hr.2]
    have ea1 : (quoF ea a).argsOf (clsI ea a.nodes.length x) = (a.nd x).args.map (clsI ea a.nodes.length) := by
      show ((quoF ea a).nd _).args = _
      rw [quo_nd ha hda hr.1]
      rfl
    refine ⟨?_, fun z hz => ?_⟩
    · rw [quo_nd ha hda hr.1]
      unfold renum
      simp only
      rw [hl.1, hl.2.1, hl.2.2.1]
      congr 1
      apply list_ext0
      · simp [hl.2.2.2]
      · intro j hj
        have hj' : j < (b.nd y).args.length := by simpa using hj
        have hjx : j < (a.nd x).args.length := by rw [hl.2.2.2]; exact hj'
        have e2 : ((b.nd y).args.map (clsI eb b.nodes.length)).getD j 0 = clsI eb b.nodes.length (b.arg y j) := by simp [Gf.arg, List.getD, hj']
        have e3 : (((a.nd x).args.map (clsI ea a.nodes.length)).map F).getD j 0 = F (clsI ea a.nodes.length (a.arg x j)) := by simp [Gf.arg, List.getD, hjx]
        rw [e2, e3]
        exact (hF _ _ ⟨_, _, h.arg x y r j hjx, rfl, rfl⟩).symm
    · rw [ea1] at hz
      obtain ⟨u, hu, rfl⟩ := List.mem_map.1 hz
      obtain ⟨j, hj, rfl⟩ := list_mem_getD hu
      exact ⟨_, _, _, h.arg x y r j hj, rfl, rfl⟩
  have hmet : ∀ c ∈ metF (quoF ea a), ∃ d, Q c d := by
    refine meet_in (fun c => ∃ d, Q c d) (fun c hc y hy => ?_) _ _ _ (fun c hc => ?_) (by simp)
    · obtain ⟨d, hd⟩ := hc
      exact (hstep c d hd).2 y hy
    · obtain ⟨z, hz, rfl⟩ := List.mem_map.1 hc
      obtain ⟨i, hi, rfl⟩ := list_mem_getD hz
      exact ⟨_, _, _, h.root i hi, rfl, rfl⟩
  refine (trim_iso hA hB (F := F) (fun c hc c' hc' e => ?_) (fun c hc => ?_) ?_).symm
  · obtain ⟨d, hd⟩ := hmet c hc
    obtain ⟨d', hd'⟩ := hmet c' hc'
    rw [hF c d hd, hF c' d' hd'] at e
    subst e
    exact hinj c c' d hd hd'
  · obtain ⟨d, hd⟩ := hmet c hc
    exact (hstep c d hd).1
  · show b.roots.map _ = (a.roots.map _).map F
    apply list_ext0
    · simp [h.len]
    · intro j hj
      have hj' : j < b.roots.length := by simpa using hj
      have hja : j < a.roots.length := by rw [h.len]; exact hj'
      have e2 : (b.roots.map (clsI eb b.nodes.length)).getD j 0 = clsI eb b.nodes.length (b.roots.getD j 0) := by simp [List.getD, hj']
      have e3 : ((a.roots.map (clsI ea a.nodes.length)).map F).getD j 0 = F (clsI ea a.nodes.length (a.roots.getD j 0)) := by simp [List.getD, hja]
      rw [e2, e3]
      exact (hF _ _ ⟨_, _, h.root j hja, rfl, rfl⟩).symm
def lstI (e : Nat → Nat → Bool) (g : Gf) (x : Int) : Int := posF (metF (quoF e g)) (clsI e g.nodes.length x)
end Go.Proofs.Ytncileojdighnaa
