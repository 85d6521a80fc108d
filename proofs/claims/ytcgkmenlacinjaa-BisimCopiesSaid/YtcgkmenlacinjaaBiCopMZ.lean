/- Copies, least graphs and trimmed graphs: what is alike to what, as plain mathematics. -/
import Derived.Test.YtcgkmenlacinjaaBiIZ
import Derived.Test.YtcgkmenlacinjaaGrSidesMZ
import Derived.Test.YtcgkmenlacinjaaGrVarM
namespace Go.Proofs.Ytcgkmenlacinjaa
open Go.RowKit

section
variable {g : Gf}
theorem two_left {x : Int} (hx : isN g x) : (joinS g g).nd x = g.nd x := by
  have h : x.toNat < g.nodes.length := by have := hx.1; have := hx.2; omega
  unfold Gf.nd
  rw [joinS_nodes]
  simp [List.getD, List.getElem?_append_left h]
theorem two_right {x : Int} (hx : isN g x) : (joinS g g).nd ((g.nodes.length : Int) + x) = renum (fun y => (g.nodes.length : Int) + y) (g.nd x) := by
  have h0 := hx.1
  have h : x.toNat < g.nodes.length := by have := hx.2; omega
  have e : ((g.nodes.length : Int) + x).toNat = g.nodes.length + x.toNat := by omega
  unfold Gf.nd
  rw [joinS_nodes, e]
  simp [List.getD, h]
theorem two_isN1 {x : Int} (hx : isN g x) : isN (joinS g g) x := ⟨hx.1, by rw [joinS_len]; have := hx.2; omega⟩
theorem two_isN2 {x : Int} (hx : isN g x) : isN (joinS g g) ((g.nodes.length : Int) + x) := ⟨by have := hx.1; omega, by rw [joinS_len]; have := hx.2; omega⟩
theorem two_arg1 {x : Int} (hx : isN g x) (k : Nat) : (joinS g g).arg x k = g.arg x k := by
  unfold Gf.arg
  rw [two_left hx]
theorem two_arg2 {x : Int} (hx : isN g x) {k : Nat} (hk : k < (g.nd x).args.length) : (joinS g g).arg ((g.nodes.length : Int) + x) k = (g.nodes.length : Int) + g.arg x k := by
  unfold Gf.arg
  rw [two_right hx]
  simp [renum, List.getD, hk]
/-- The graph with one root. -/
def rootAt (g : Gf) (i : Nat) : Gf := ⟨g.nodes, [(i : Int)]⟩
theorem rootAt_good (hg : Good g) {i : Nat} (hi : i < g.nodes.length) : Good (rootAt g i) :=
  ⟨hg.nodes, by simp [rootAt], hg.node, fun x hx => by
    have : x = (i : Int) := by simpa [rootAt] using hx
    subst this
    show 0 ≤ (i : Int) ∧ (i : Int) < (g.nodes.length : Int)
    omega⟩
theorem copy_al (hg : Good g) {i : Nat} (hi : i < g.nodes.length) : Al (joinS g g) (i : Int) ((g.nodes.length : Int) + (i : Int)) ↔ (metF (rootAt g i)).filter (isVar (rootAt g i)) = [] := by
  have ho := rootAt_good hg hi
  have hrng : ∀ x ∈ metF (rootAt g i), isN g x := fun x hx => (met_ok ho).rng x hx
  constructor
  · intro h
    have hall : ∀ x ∈ metF (rootAt g i), isN g x ∧ Al (joinS g g) x ((g.nodes.length : Int) + x) := by
      refine meet_in (fun x => isN g x ∧ Al (joinS g g) x ((g.nodes.length : Int) + x)) (fun x hx y hy => ?_) _ _ _ (fun x hx => ?_) (by simp)
      · obtain ⟨hn, hal⟩ := hx
        obtain ⟨k, hk, rfl⟩ := list_mem_getD hy
        have hk' : k < (g.nd x).args.length := hk
        have ha := (al_sim _ _ _ hal).2.2.2 k (by rw [two_left hn]; exact hk')
        rw [two_arg1 hn, two_arg2 hn hk'] at ha
        exact ⟨arg_isN hg hn hk', ha⟩
      · have e : x = (i : Int) := by simpa [rootAt] using hx
        subst e
        exact ⟨⟨by omega, by omega⟩, h⟩
    rw [List.filter_eq_nil_iff]
    intro x hx hv
    obtain ⟨hn, hal⟩ := hall x hx
    have hl := (al_sim _ _ _ hal).2.2.1
    have hk : ((joinS g g).nd x).kind = 1 := by
      rw [two_left hn]
      simpa [isVar, rootAt, Gf.nd] using hv
    have := hl.2.2.2.2 hk
    omega
  · intro h
    rw [List.filter_eq_nil_iff] at h
    refine ⟨fun x y => x ∈ metF (rootAt g i) ∧ y = (g.nodes.length : Int) + x, fun x y hxy => ?_, met_root ho _ (by simp [rootAt]), rfl⟩
    obtain ⟨hx, rfl⟩ := hxy
    have hn := hrng x hx
    refine ⟨two_isN1 hn, two_isN2 hn, ?_, fun k hk => ?_⟩
    · unfold labE
      rw [two_left hn, two_right hn]
      refine ⟨rfl, rfl, rfl, by simp [renum], fun e => ?_⟩
      have := h x hx
      exact absurd (by simpa [isVar, rootAt, Gf.nd] using e) this
    · rw [two_left hn] at hk
      rw [two_arg1 hn, two_arg2 hn hk]
      exact ⟨met_arg ho x hx _ (getD_mem hk), rfl⟩
/-- Each node of the least graph is the number of a node that is met. -/
theorem least_sur (hg : Good g) {e : Nat → Nat → Bool} (hd : ∀ x y : Nat, (e x y = true ↔ Al g (x : Int) (y : Int))) {u : Int} (hu : isN (trimF (quoF e g)) u) : ∃ x ∈ metF g, lstI e g x = u := by
  have hq := quo_good hg (al_eqv hg hd)
  have hl := trim_len hq
  have h0 := hu.1
  have h1 := hu.2
  rw [hl] at h1
  have hc : ∀ c ∈ metF (quoF e g), ∃ x, x ∈ metF g ∧ clsI e g.nodes.length x = c := by
    refine meet_in (fun c => ∃ x, x ∈ metF g ∧ clsI e g.nodes.length x = c) (fun c hx y hy => ?_) _ _ _ (fun c hx => ?_) (by simp)
    · obtain ⟨x, hx, rfl⟩ := hx
      have hn : isN g x := (met_ok hg).rng x hx
      have hy' : y ∈ ((quoF e g).nd (clsI e g.nodes.length x)).args := hy
      rw [quo_nd hg hd hn] at hy'
      obtain ⟨z, hz, rfl⟩ := List.mem_map.1 hy'
      exact ⟨z, met_arg hg x hx z hz, rfl⟩
    · obtain ⟨z, hz, rfl⟩ := List.mem_map.1 hx
      exact ⟨z, met_root hg z hz, rfl⟩
  have hm : u.toNat < (metF (quoF e g)).length := by omega
  obtain ⟨x, hx, ex⟩ := hc _ (getD_mem hm)
  refine ⟨x, hx, ?_⟩
  unfold lstI
  rw [ex]
  unfold posF
  rw [if_pos (getD_mem hm), pos_of_getD (met_ok hq).nodup hm]
  omega
theorem least_pair (hg : Good g) {e : Nat → Nat → Bool} (hd : ∀ x y : Nat, (e x y = true ↔ Al g (x : Int) (y : Int))) : Pr (trimF (quoF e g)) g (fun u x => x ∈ metF g ∧ u = lstI e g x) := by
  refine ⟨fun u x ⟨hx, hu⟩ => ⟨by rw [hu]; exact least_rng hg hd hx, (met_ok hg).rng x hx⟩, fun u x ⟨hx, hu⟩ => ?_, fun u x ⟨hx, hu⟩ k hk => ?_, fun u x x' ⟨hx, hu⟩ ⟨hx', hu'⟩ hk => ?_, fun u u' x ⟨_, hu⟩ ⟨_, hu'⟩ _ => hu.trans hu'.symm, ?_, fun i hi => ?_⟩
  · subst hu
    rw [least_nd hg hd hx]
    exact ⟨rfl, rfl, rfl, by simp [renum]⟩
  · subst hu
    rw [least_nd hg hd hx] at hk
    have hk' : k < (g.nd x).args.length := by simpa [renum] using hk
    refine ⟨met_argk hg hx hk', ?_⟩
    unfold Gf.arg
    rw [least_nd hg hd hx]
    simp [renum, List.getD, hk']
  · subst hu
    have hal := (least_al hg hd hx hx').1 hu'
    rw [least_nd hg hd hx] at hk
    exact (al_sim g x x' hal).2.2.1.2.2.2.2 hk
  · rw [least_root]
    simp
  · rw [least_root] at hi ⊢
    have hi' : i < g.roots.length := by simpa using hi
    exact ⟨metF_root hg hi', by simp [List.getD, hi']⟩
theorem least_own (hg : Good g) {e : Nat → Nat → Bool} (hd : ∀ x y : Nat, (e x y = true ↔ Al g (x : Int) (y : Int))) {u v : Int} (h : Al (trimF (quoF e g)) u v) : u = v := by
  obtain ⟨hu, hv, _⟩ := al_sim _ _ _ h
  obtain ⟨x, hx, rfl⟩ := least_sur hg hd hu
  obtain ⟨y, hy, rfl⟩ := least_sur hg hd hv
  exact (least_al hg hd hx hy).2 ((least_pair hg hd).al ⟨hx, rfl⟩ ⟨hy, rfl⟩ h)
theorem trim_pair (hg : Good g) : Pr (trimF g) g (fun u x => x ∈ metF g ∧ u = posF (metF g) x) := by
  refine ⟨fun u x ⟨hx, hu⟩ => ⟨?_, (met_ok hg).rng x hx⟩, fun u x ⟨hx, hu⟩ => ?_, fun u x ⟨hx, hu⟩ k hk => ?_, fun u x x' ⟨hx, hu⟩ ⟨hx', hu'⟩ _ => pos_inj hg x hx x' hx' (hu.symm.trans hu'), fun u u' x ⟨_, hu⟩ ⟨_, hu'⟩ _ => hu.trans hu'.symm, by simp [trimF], fun i hi => ?_⟩
  · subst hu
    have := pos_rng hg x hx
    exact ⟨this.1, by rw [trim_len hg]; exact this.2⟩
  · subst hu
    have := trim_node hg x hx
    show ((trimF g).nodes.getD _ nd0).kind = _ ∧ ((trimF g).nodes.getD _ nd0).name = _ ∧ ((trimF g).nodes.getD _ nd0).num = _ ∧ ((trimF g).nodes.getD _ nd0).args.length = _
    rw [this]
    exact ⟨rfl, rfl, rfl, by simp [renum]; rfl⟩
  · subst hu
    have hnd : (trimF g).nd (posF (metF g) x) = renum (posF (metF g)) (g.nd x) := trim_node hg x hx
    rw [hnd] at hk
    have hk' : k < (g.nd x).args.length := by simpa [renum] using hk
    refine ⟨met_argk hg hx hk', ?_⟩
    unfold Gf.arg
    rw [hnd]
    simp [renum, List.getD, hk']
  · have hi' : i < g.roots.length := by simpa [trimF] using hi
    exact ⟨metF_root hg hi', by simp [trimF, List.getD, hi']⟩
end
theorem own_num {e : Nat → Nat → Bool} {N : Nat} (he : ∀ x y, x < N → y < N → e x y = true → x = y) : ∀ m, m ≤ N → csF e m = List.range m ∧ lsF e m = List.range m
  | 0, _ => ⟨rfl, rfl⟩
  | m + 1, hm => by
    obtain ⟨h1, h2⟩ := own_num he m (by omega)
    have hf : fnd (e m) (lsF e m) = m := by
      rw [h2, fnd_miss (fun x hx => ?_), List.length_range]
      have hx' := List.mem_range.1 hx
      cases h : e m x
      · rfl
      · have := he m x (by omega) (by omega) h
        omega
    rw [csF_succ, lsF_succ, hf, h1, h2, List.length_range, if_pos rfl, List.range_succ]
    exact ⟨rfl, rfl⟩
end Go.Proofs.Ytcgkmenlacinjaa
