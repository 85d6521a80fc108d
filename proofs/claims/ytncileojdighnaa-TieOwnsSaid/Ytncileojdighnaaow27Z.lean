/- Classes of package bisim; the fixed fact of layer 5. -/
import Derived.Test.Ytncileojdighnaaow26Z
import Derived.Test.Ytncileojdighnaaow17Z
namespace Go.Proofs.Ytncileojdighnaa
set_option maxRecDepth 100000
open Go.RowKit
theorem al_dec (g : Gf) : ∃ e : Nat → Nat → Bool, ∀ x y : Nat, (e x y = true ↔ Al g (x : Int) (y : Int)) :=
  ⟨fun x y => @decide (Al g (x : Int) (y : Int)) (Classical.propDecidable _), fun _ _ => @decide_eq_true_iff _ (Classical.propDecidable _)⟩
theorem al_eqv {g : Gf} (hg : Good g) {e : Nat → Nat → Bool} (he : ∀ x y : Nat, (e x y = true ↔ Al g (x : Int) (y : Int))) : Eqv e g.nodes.length :=
  ⟨fun x hx => (he x x).2 (al_refl hg ⟨by omega, by omega⟩), fun x y _ _ h => (he y x).2 (al_symm ((he x y).1 h)), fun x y z _ _ _ h1 h2 => (he x z).2 (al_trans ((he x y).1 h1) ((he y z).1 h2))⟩
set_option maxHeartbeats 1000000 in
theorem classes_good {W : World} {nv rv : Value} {g : Gf} (hG : Gr W nv rv g) (hS : Sized g) (hb : one (chk g) = []) (ee : Nat → Nat → Bool) (he : ∀ x y, x < g.nodes.length → y < g.nodes.length → (ee x y = true ↔ Al g (x : Int) (y : Int))) :
    Calls Try.prog 54 #[.agg #[nv, rv]] W fun r w' => (∃ ca cc, r = .returned (.tuple #[.slice ca g.nodes.length cc, .nilIface]) ∧ w'.ownsRow W.heap.size 3 1 (.slice ca g.nodes.length cc) g.nodes.length ((ints (csF ee g.nodes.length)).map (Value.int .i64))) ∧ Below W.heap.size W w' := by
  have hal := alike_good (hG.below (below_alloc W (.cells #[nv, rv] 29))) hS hb ee he
  clear hG
  go_enter Try.func54, Try.ntmps54
  go_wp2_with (go_at_call 42; refine hal.mono ?_; rintro e w1 ⟨⟨t2, t3, rfl, hF⟩, hb1⟩)
  go_ret2
  have h0 := hF.own 0 (by simp)
  have hl : (ansC ee g.nodes.length 0).length = g.nodes.length := (ints_len _).trans (csF_len _ _)
  rw [hl] at h0
  have h1 : w1.ownsRow (W.alloc (.cells #[nv, rv] 29)).heap.size 3 1 t2 g.nodes.length ((ints (csF ee g.nodes.length)).map (Value.int .i64)) := h0
  obtain ⟨ca, cc, rfl⟩ := own_sl h1
  exact ⟨⟨ca, cc, rfl, own_base h1 (by simp)⟩, Below.next (below_alloc _ _) hb1⟩
def g4 : Gf := ⟨[⟨4, ⟨#[102]⟩, 0, [1]⟩, ⟨4, ⟨#[102]⟩, 0, [0]⟩, ⟨4, ⟨#[102]⟩, 0, [2]⟩, ⟨1, ⟨#[]⟩, 0, []⟩], []⟩
end Go.Proofs.Ytncileojdighnaa

namespace Go.Proofs.Ytncileojdighnaa
set_option maxRecDepth 100000
open Go.RowKit
def clsI (e : Nat → Nat → Bool) (N : Nat) (x : Int) : Int := (ints (csF e N)).getD x.toNat 0
def quoF (e : Nat → Nat → Bool) (g : Gf) : Gf := ⟨(lsF e g.nodes.length).map (fun n => renum (clsI e g.nodes.length) (g.nodes.getD n nd0)), g.roots.map (clsI e g.nodes.length)⟩
theorem clsI_eq (e : Nat → Nat → Bool) {N : Nat} {x : Int} (h0 : 0 ≤ x) (h1 : x < (N : Int)) : clsI e N x = (((csF e N).getD x.toNat 0 : Nat) : Int) := ints_get (by rw [csF_len]; omega)
theorem cls_rng {e : Nat → Nat → Bool} {N : Nat} (he : Eqv e N) {x : Int} (h0 : 0 ≤ x) (h1 : x < (N : Int)) : 0 ≤ clsI e N x ∧ clsI e N x < ((lsF e N).length : Int) := by
  have := ((numF_said he N (Nat.le_refl _)).hit x.toNat (by omega)).1
  rw [clsI_eq e h0 h1]
  omega
theorem quo_len (e : Nat → Nat → Bool) (g : Gf) : (quoF e g).nodes.length = (lsF e g.nodes.length).length := by simp [quoF]
theorem renum_good {N M : Nat} {F : Int → Int} {n : Nd} (h : goodNd N n = true) (hF : ∀ x ∈ n.args, 0 ≤ F x ∧ F x < (M : Int)) : goodNd M (renum F n) = true := by
  have hst : (n.args.map F).any (strange M) = false := by
    rw [List.any_eq_false]
    intro y hy
    obtain ⟨z, hz, rfl⟩ := List.mem_map.1 hy
    have := hF z hz
    simp [strange]
    omega
  unfold goodNd at h ⊢
  simp only [renum, List.length_map, hst]
  split
  · rename_i hk
    rw [if_pos hk] at h
    exact h
  · rename_i hk
    rw [if_neg hk] at h
    split
    · rename_i hk2
      rw [if_pos hk2] at h
      exact h
    · rename_i hk2
      rw [if_neg hk2] at h
      split
      · rename_i hk3
        rw [if_pos hk3] at h
        exact h
      · rename_i hk3
        rw [if_neg hk3] at h
        split
        · rename_i hk4
          rw [if_pos hk4] at h
          simp only [Bool.and_eq_true] at h ⊢
          exact ⟨h.1, rfl⟩
        · rename_i hk4
          rw [if_neg hk4] at h
          exact h
theorem quo_good {g : Gf} (hg : Good g) {e : Nat → Nat → Bool} (he : Eqv e g.nodes.length) : Good (quoF e g) := by
  have h1 := hg.nodes
  have h2 := hg.roots
  have h3 := lsF_le e g.nodes.length
  refine ⟨by rw [quo_len]; omega, by simp [quoF]; omega, fun n hn => ?_, fun x hx => ?_⟩
  · obtain ⟨m, hm, rfl⟩ := List.mem_map.1 hn
    have hlt := lsF_lt e _ m hm
    have hgd := hg.node (g.nodes.getD m nd0) (by simp [List.getD, hlt])
    rw [quo_len]
    exact renum_good hgd (fun x hx => by
      have := (good_args hgd).1 x hx
      exact cls_rng he this.1 this.2)
  · obtain ⟨z, hz, rfl⟩ := List.mem_map.1 hx
    rw [quo_len]
    have := hg.root z hz
    exact cls_rng he this.1 this.2
theorem cls_al {g : Gf} (hg : Good g) {e : Nat → Nat → Bool} (hd : ∀ x y : Nat, (e x y = true ↔ Al g (x : Int) (y : Int))) {x y : Int} (hx : isN g x) (hy : isN g y) : clsI e g.nodes.length x = clsI e g.nodes.length y ↔ Al g x y := by
  obtain ⟨hx0, hx1⟩ := hx
  obtain ⟨hy0, hy1⟩ := hy
  have he := al_eqv hg hd
  have h := (numF_said he g.nodes.length (Nat.le_refl _)).same he (x := x.toNat) (y := y.toNat) (by omega) (by omega)
  have k := hd x.toNat y.toNat
  have ex : ((x.toNat : Nat) : Int) = x := by omega
  have ey : ((y.toNat : Nat) : Int) = y := by omega
  rw [ex, ey] at k
  rw [clsI_eq e hx0 hx1, clsI_eq e hy0 hy1, ← k, ← h]
  omega
theorem quo_nd {g : Gf} (hg : Good g) {e : Nat → Nat → Bool} (hd : ∀ x y : Nat, (e x y = true ↔ Al g (x : Int) (y : Int))) {x : Int} (hx : isN g x) : (quoF e g).nd (clsI e g.nodes.length x) = renum (clsI e g.nodes.length) (g.nd x) := by
  have he := al_eqv hg hd
  have hx0 := hx.1
  have hx1 := hx.2
  have hh := (numF_said he g.nodes.length (Nat.le_refl _)).hit x.toNat (by omega)
  have hc := clsI_eq e hx0 hx1
  have hr : ((lsF e g.nodes.length).getD ((csF e g.nodes.length).getD x.toNat 0) 0) < g.nodes.length := lsF_lt e _ _ (nget_mem hh.1)
  have hal := (hd _ _).1 hh.2
  have ex : ((x.toNat : Nat) : Int) = x := by omega
  rw [ex] at hal
  have e1 : (quoF e g).nd (clsI e g.nodes.length x) = renum (clsI e g.nodes.length) (g.nd (((lsF e g.nodes.length).getD ((csF e g.nodes.length).getD x.toNat 0) 0 : Nat) : Int)) := by
    rw [hc]
    unfold Gf.nd
    have h1 := hh.1
    generalize (csF e g.nodes.length).getD x.toNat 0 = c at h1 ⊢
    simp only [Int.toNat_natCast, quoF]
    simp [List.getD, h1]
  rw [e1]
  generalize (((lsF e g.nodes.length).getD ((csF e g.nodes.length).getD x.toNat 0) 0 : Nat) : Int) = y at hal
  obtain ⟨_, hy, hl, ha⟩ := al_sim g x y hal
  obtain ⟨l1, l2, l3, l4, _⟩ := hl
  unfold renum
  rw [l1, l2, l3]
  congr 1
  apply list_ext0
  · simp [l4]
  · intro j hj
    have hj' : j < (g.nd y).args.length := by simpa using hj
    have hjx : j < (g.nd x).args.length := by omega
    have e2 : ((g.nd y).args.map (clsI e g.nodes.length)).getD j 0 = clsI e g.nodes.length (g.arg y j) := by simp [Gf.arg, List.getD, hj']
    have e3 : ((g.nd x).args.map (clsI e g.nodes.length)).getD j 0 = clsI e g.nodes.length (g.arg x j) := by simp [Gf.arg, List.getD, hjx]
    rw [e2, e3]
    exact (cls_al hg hd (arg_isN hg hy hj') (arg_isN hg hx hjx)).2 (al_symm (ha j hjx))
theorem list_mem_getD {l : List Int} {x : Int} (h : x ∈ l) : ∃ i, i < l.length ∧ l.getD i 0 = x := by
  obtain ⟨i, hi, e⟩ := List.getElem_of_mem h
  exact ⟨i, hi, by simp [List.getD, hi, e]⟩
end Go.Proofs.Ytncileojdighnaa
