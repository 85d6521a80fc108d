/- SolveSound, walked: its short ways. -/
import Derived.Test.YtjenkpgoggmboaaSDZ
import Derived.Test.YtjenkpgoggmboaaSCZ
import Derived.Test.YtjenkpgoggmboaaSBZ
import Derived.Test.YtjenkpgoggmboaaBAZ
import Derived.Deep.QuietTactic
import Derived.BigQuiet
namespace Go.Proofs.Ytjenkpgoggmboaa
open Go.RowKit

/-- The graph's box, kept. -/
structure Ob (W : World) (nv rv : Value) (w : World) : Prop where
  b : Below W.heap.size W w
  x : w.heap[W.heap.size]? = some (.cells #[nv, rv] 25)
theorem Ob.start (W : World) (nv rv : Value) : Ob W nv rv (W.alloc (.cells #[nv, rv] 25)) := ⟨below_alloc W _, heap_alloc_new W _⟩
theorem Ob.next {W w w' : World} {nv rv : Value} (h : Ob W nv rv w) (hb : Below w.heap.size w w') : Ob W nv rv w' := ⟨h.b.trans (hb.mono h.b.size), (hb.block _ (lt_of_block h.x)).trans h.x⟩
theorem Ob.cells {W w : World} {nv rv : Value} (h : Ob W nv rv w) : (w.cell? ⟨W.heap.size, 0, none⟩ = some nv ∧ w.cell? ⟨W.heap.size, 1, none⟩ = some rv) ∧ W.heap.size < w.heap.size := by
  obtain ⟨a, _⟩ := blk2y h.x
  exact ⟨a, lt_of_block h.x⟩
section
variable {W : World} {a0 a1 a2 : Option Addr} {m0 m1 m2 c0 c1 c2 : Nat}
set_option maxRecDepth 100000 in
set_option maxHeartbeats 4000000 in
theorem ssound_short0 (hsm : ∀ w, Below W.heap.size W w → Calls Try.prog 22 #[.agg #[.slice a0 m0 c0, .slice a1 m1 c1], .int .i64 200] w fun e w' => e = .returned (.bool false) ∧ Below w.heap.size w w') :
    Calls Try.prog 5 #[.agg #[.slice a0 m0 c0, .slice a1 m1 c1], .slice a2 m2 c2] W fun e w' => e = .returned (.bool true) ∧ Below W.heap.size W w' := by
  have HB := hid (Ob.start W (.slice a0 m0 c0) (.slice a1 m1 c1))
  have Hsm := hid hsm
  clear hsm
  go_enter Try.func5, Try.ntmps5
  go_wp2_with (first
    | (go_at_call 9; refine (slives_any _).mono ?_; rintro e w1 ⟨rfl, hb1⟩; replace HB := hid (HB.out.next hb1); clear hb1; obtain ⟨⟨x0, x1⟩, x2⟩ := HB.out.cells)
    | (go_at_call 22; refine (Hsm.out _ HB.out.b).mono ?_; rintro e w1 ⟨rfl, hb1⟩; replace HB := hid (HB.out.next hb1); clear hb1; obtain ⟨⟨x0, x1⟩, x2⟩ := HB.out.cells))
  go_ret
  exact ⟨rfl, HB.out.b⟩
set_option maxRecDepth 100000 in
set_option maxHeartbeats 4000000 in
theorem ssound_short1 (hsm : ∀ w, Below W.heap.size W w → Calls Try.prog 22 #[.agg #[.slice a0 m0 c0, .slice a1 m1 c1], .int .i64 200] w fun e w' => e = .returned (.bool true) ∧ Below w.heap.size w w') (hm : 100 < m2) :
    Calls Try.prog 5 #[.agg #[.slice a0 m0 c0, .slice a1 m1 c1], .slice a2 m2 c2] W fun e w' => e = .returned (.bool true) ∧ Below W.heap.size W w' := by
  have HB := hid (Ob.start W (.slice a0 m0 c0) (.slice a1 m1 c1))
  have Hsm := hid hsm
  have hm' : (100 : Int) < (m2 : Int) := by omega
  clear hsm
  go_enter Try.func5, Try.ntmps5
  go_wp2_with (first
    | (go_at_call 9; refine (slives_any _).mono ?_; rintro e w1 ⟨rfl, hb1⟩; replace HB := hid (HB.out.next hb1); clear hb1; obtain ⟨⟨x0, x1⟩, x2⟩ := HB.out.cells)
    | (go_at_call 22; refine (Hsm.out _ HB.out.b).mono ?_; rintro e w1 ⟨rfl, hb1⟩; replace HB := hid (HB.out.next hb1); clear hb1; obtain ⟨⟨x0, x1⟩, x2⟩ := HB.out.cells))
  go_ret
  exact ⟨rfl, HB.out.b⟩
set_option maxRecDepth 100000 in
set_option maxHeartbeats 4000000 in
theorem ssound_bad (hsm : ∀ w, Below W.heap.size W w → Calls Try.prog 22 #[.agg #[.slice a0 m0 c0, .slice a1 m1 c1], .int .i64 200] w fun e w' => e = .returned (.bool true) ∧ Below w.heap.size w w') (hm : ¬ 100 < m2) (hve : ∀ w, Below W.heap.size W w → Calls Try.prog 15 #[.agg #[.slice a0 m0 c0, .slice a1 m1 c1], .slice a2 m2 c2] w fun e w' => (∃ b, e = .returned (.tuple #[.agg #[.int .i64 0, .slice none 0 0], .iface 75 (.pointer (some ⟨b, 0, none⟩))])) ∧ Below w.heap.size w w') :
    Calls Try.prog 5 #[.agg #[.slice a0 m0 c0, .slice a1 m1 c1], .slice a2 m2 c2] W fun e w' => e = .returned (.bool true) ∧ Below W.heap.size W w' := by
  have HB := hid (Ob.start W (.slice a0 m0 c0) (.slice a1 m1 c1))
  have Hsm := hid hsm
  have Hve := hid hve
  have hm' : ¬ ((100 : Int) < (m2 : Int)) := by omega
  clear hsm hve
  go_enter Try.func5, Try.ntmps5
  go_wp2_with (first
    | (go_at_call 9; refine (slives_any _).mono ?_; rintro e w1 ⟨rfl, hb1⟩; replace HB := hid (HB.out.next hb1); clear hb1; obtain ⟨⟨x0, x1⟩, x2⟩ := HB.out.cells)
    | (go_at_call 22; refine (Hsm.out _ HB.out.b).mono ?_; rintro e w1 ⟨rfl, hb1⟩; replace HB := hid (HB.out.next hb1); clear hb1; obtain ⟨⟨x0, x1⟩, x2⟩ := HB.out.cells)
    | (go_at_call 15; refine (Hve.out _ HB.out.b).mono ?_; rintro e w1 ⟨⟨q, rfl⟩, hb1⟩; replace HB := hid (HB.out.next hb1); clear hb1; have HB2 := hid (HB.out.next (below_alloc w1 (.cells #[.int .i64 0, .slice none 0 0] 41))); obtain ⟨⟨x0, x1⟩, x2⟩ := HB.out.cells))
  go_ret
  exact ⟨rfl, HB2.out.b⟩
end
end Go.Proofs.Ytjenkpgoggmboaa

/- The hanging variables and what unfolds alike: plain data. -/
namespace Go.Proofs.Ytjenkpgoggmboaa
open Go.RowKit

theorem cnt_zero {E : Nat → Nat} {m : Nat} : ∀ {j : Nat}, (∀ y, y < j → E y ≠ m) → cntN E m j = 0
  | 0, _ => rfl
  | j + 1, h => by
    unfold cntN
    rw [cnt_zero (fun y hy => h y (by omega)), if_neg (h j (by omega))]
theorem cnt_le1 {E : Nat → Nat} {m x : Nat} : ∀ {j : Nat}, (∀ y, y < j → E y = m → y = x) → cntN E m j ≤ 1
  | 0, _ => by simp [cntN]
  | j + 1, h => by
    unfold cntN
    by_cases e : E j = m
    · rw [if_pos e]
      have hx := h j (by omega) e
      have : cntN E m j = 0 := cnt_zero (fun y hy ey => by have := h y (by omega) ey; omega)
      omega
    · rw [if_neg e]
      have := cnt_le1 (x := x) (fun y (hy : y < j) => h y (by omega))
      omega
theorem cnt_ge1 {E : Nat → Nat} {m i : Nat} (he : E i = m) : ∀ {j : Nat}, i < j → 1 ≤ cntN E m j
  | 0, h => absurd h (Nat.not_lt_zero _)
  | j + 1, h => by
    unfold cntN
    by_cases e : i = j
    · subst e
      rw [if_pos he]; omega
    · have := cnt_ge1 he (j := j) (by omega)
      omega
theorem cnt_ge2 {E : Nat → Nat} {m i k : Nat} (hi : E i = m) (hk : E k = m) (hik : i < k) : ∀ {j : Nat}, k < j → 2 ≤ cntN E m j
  | 0, h => absurd h (Nat.not_lt_zero _)
  | j + 1, h => by
    unfold cntN
    by_cases e : k = j
    · subst e
      have := cnt_ge1 hi hik
      rw [if_pos hk]; omega
    · have := cnt_ge2 hi hk hik (j := j) (by omega)
      omega
theorem hangF_mem {ns : List Nd} {E : Nat → Nat} {v : Nat} : ∀ {j : Nat}, v ∈ hangF ns E j ↔ v < j ∧ (ndN ns v).kind = 1 ∧ 1 < cntN E (E v) ns.length
  | 0 => by simp [hangF]
  | j + 1 => by
    unfold hangF
    rw [List.mem_append, hangF_mem (j := j)]
    constructor
    · rintro (⟨h1, h2⟩ | h)
      · exact ⟨by omega, h2⟩
      · split at h
        · rename_i hc
          have : v = j := by simpa using h
          subst this
          exact ⟨by omega, hc⟩
        · simp at h
    · rintro ⟨h1, h2⟩
      by_cases e : v = j
      · subst e
        rw [if_pos h2]
        exact Or.inr (by simp)
      · exact Or.inl ⟨by omega, h2⟩
theorem hangF_nil {ns : List Nd} {E : Nat → Nat} : hangF ns E ns.length = [] ↔ ∀ v, v < ns.length → (ndN ns v).kind = 1 → ∀ y, y < ns.length → E y = E v → y = v := by
  constructor
  · intro h v hv hk y hy he
    apply Classical.byContradiction
    intro hne
    have h2 : 2 ≤ cntN E (E v) ns.length := by
      rcases Nat.lt_or_gt_of_ne hne with hl | hl
      · exact cnt_ge2 he rfl hl hv
      · exact cnt_ge2 rfl he hl hy
    have : v ∈ hangF ns E ns.length := hangF_mem.2 ⟨hv, hk, by omega⟩
    rw [h] at this
    simp at this
  · intro h
    apply List.eq_nil_iff_forall_not_mem.2
    intro v hv
    obtain ⟨h1, h2, h3⟩ := hangF_mem.1 hv
    have := cnt_le1 (E := E) (m := E v) (x := v) (j := ns.length) (fun y hy he => h v h1 h2 y hy he)
    omega
/-- What unfolds alike is a unifier of nothing. -/
theorem al_cg {g : Gf} (hg : Good g) : Cg g.nodes (fun x y => x = y ∨ (x < g.nodes.length ∧ y < g.nodes.length ∧ Al g (x : Int) (y : Int))) := by
  refine ⟨⟨fun _ => Or.inl rfl, fun x y h => ?_, fun x y z h k => ?_⟩, fun x y hx hy h hkx _ => ?_⟩
  · rcases h with rfl | ⟨h1, h2, h3⟩
    · exact Or.inl rfl
    · exact Or.inr ⟨h2, h1, al_symm h3⟩
  · rcases h with rfl | ⟨h1, h2, h3⟩
    · exact k
    · rcases k with rfl | ⟨_, k2, k3⟩
      · exact Or.inr ⟨h1, h2, h3⟩
      · exact Or.inr ⟨h1, k2, al_trans h3 k3⟩
  · rcases h with rfl | ⟨_, _, h3⟩
    · exact ⟨labS.refl _, fun _ _ => Or.inl rfl⟩
    · obtain ⟨i1, i2, l, ar⟩ := al_sim g _ _ h3
      unfold labE at l
      rw [nd_int, nd_int] at l
      refine ⟨⟨l.1, l.2.1, l.2.2.1, l.2.2.2.1⟩, fun k hk => Or.inr ?_⟩
      have hA := goodA_of hg
      have a1 := hA.arg x hx k hk
      have a2 := hA.arg y hy k (by rw [← l.2.2.2.1]; exact hk)
      have e1 : g.arg (x : Int) k = ((argN g.nodes x k : Nat) : Int) := by
        unfold Gf.arg argN
        rw [nd_int]
        omega
      have e2 : g.arg (y : Int) k = ((argN g.nodes y k : Nat) : Int) := by
        unfold Gf.arg argN
        rw [nd_int]
        omega
      have := ar k (by rw [nd_int]; exact hk)
      rw [e1, e2] at this
      exact ⟨a1.2, a2.2, this⟩
/-- No variable hangs just if all pairs unfold alike without a solution. -/
theorem hang_iff {g : Gf} (hg : Good g) {P : List (Nat × Nat)} {E : Nat → Nat} (hU : Un g.nodes P E []) (hP : ∀ p ∈ P, p.1 < g.nodes.length ∧ p.2 < g.nodes.length) : hangF g.nodes E g.nodes.length = [] ↔ ∀ p ∈ P, Al g (p.1 : Int) (p.2 : Int) := by
  obtain ⟨hc, hp, hmin⟩ := hU.done
  rw [hangF_nil]
  constructor
  · intro h p hpm
    refine ⟨fun a b => isN g a ∧ isN g b ∧ E a.toNat = E b.toNat, fun a b ⟨ha, hb, he⟩ => ?_, ⟨by omega, by have := (hP p hpm).1; omega⟩, ⟨by omega, by have := (hP p hpm).2; omega⟩, by simpa using hp p hpm⟩
    have ha0 := ha.1
    have ha1 := ha.2
    have hb0 := hb.1
    have hb1 := hb.2
    have ea : ((a.toNat : Nat) : Int) = a := by omega
    have eb : ((b.toNat : Nat) : Int) = b := by omega
    have na : ndN g.nodes a.toNat = g.nd a := by rw [← nd_int, ea]
    have nb : ndN g.nodes b.toNat = g.nd b := by rw [← nd_int, eb]
    by_cases ka : (g.nd a).kind = 1
    · have := h a.toNat (by omega) (by rw [na]; exact ka) b.toNat (by omega) he.symm
      have e : a = b := by omega
      subst e
      exact ⟨ha, ha, labE_refl g a, fun k hk => by rw [good_varA hg ha ka] at hk; omega⟩
    · by_cases kb : (g.nd b).kind = 1
      · have := h b.toNat (by omega) (by rw [nb]; exact kb) a.toNat (by omega) he
        have e : a = b := by omega
        subst e
        exact absurd kb ka
      · obtain ⟨l, ar⟩ := hc.lab a.toNat b.toNat (by omega) (by omega) he (by rw [na]; exact ka) (by rw [nb]; exact kb)
        rw [na] at l ar
        rw [nb] at l
        refine ⟨ha, hb, ⟨l.1, l.2.1, l.2.2.1, l.2.2.2, fun e => absurd e ka⟩, fun k hk => ⟨arg_isN hg ha hk, arg_isN hg hb (by rw [← l.2.2.2]; exact hk), ?_⟩⟩
        have := ar k hk
        unfold argN at this
        rw [na, nb] at this
        exact this
  · intro h v hv hk y hy he
    have hr := hmin _ (al_cg hg) (fun p hpm => Or.inr ⟨(hP p hpm).1, (hP p hpm).2, h p hpm⟩) y v he
    rcases hr with rfl | ⟨_, _, h3⟩
    · rfl
    · have h4 := al_symm h3
      have h5 := (al_sim g _ _ h4).2.2.1.2.2.2.2 (by rw [nd_int]; exact hk)
      omega
end Go.Proofs.Ytjenkpgoggmboaa

/- Solving step by step: plain data. -/
namespace Go.Proofs.Ytjenkpgoggmboaa
open Go.RowKit

section
variable {ns : List Nd}
/-- Two nodes are one, or compounds of one label whose arguments are so. -/
def Bs (ns : List Nd) (R Q : Nat → Nat → Prop) : Prop := ∀ u v, Q u v → R u v ∨ ∃ u1 v1, u1 < ns.length ∧ v1 < ns.length ∧ R u u1 ∧ R v v1 ∧ (ndN ns u1).kind ≠ 1 ∧ (ndN ns v1).kind ≠ 1 ∧ labS (ndN ns u1) (ndN ns v1) ∧ ∀ k, k < (ndN ns u1).args.length → Q (argN ns u1 k) (argN ns v1 k)
def Rst (ns : List Nd) (R : Nat → Nat → Prop) (u v : Nat) : Prop := ∃ Q, Bs ns R Q ∧ Q u v
theorem Rst.of {R : Nat → Nat → Prop} {u v : Nat} (h : R u v) : Rst ns R u v := ⟨R, fun _ _ h => Or.inl h, h⟩
theorem rst_bs (ns : List Nd) (R : Nat → Nat → Prop) : Bs ns R (Rst ns R) := fun u v ⟨Q, hQ, h⟩ => by
  rcases hQ u v h with h1 | ⟨u1, v1, a1, a2, a3, a4, a5, a6, a7, a8⟩
  · exact Or.inl h1
  · exact Or.inr ⟨u1, v1, a1, a2, a3, a4, a5, a6, a7, fun k hk => ⟨Q, hQ, a8 k hk⟩⟩
theorem rst_cg {R : Nat → Nat → Prop} (hR : Cg ns R) : Cg ns (Rst ns R) := by
  have hsym : ∀ u v, Rst ns R u v → Rst ns R v u := fun u v h => by
    refine ⟨fun x y => Rst ns R y x, fun x y hxy => ?_, h⟩
    rcases rst_bs ns R y x hxy with h1 | ⟨u1, v1, a1, a2, a3, a4, a5, a6, a7, a8⟩
    · exact Or.inl (hR.symm _ _ h1)
    · exact Or.inr ⟨v1, u1, a2, a1, a4, a3, a6, a5, a7.symm, fun k hk => a8 k (by rw [a7.2.2.2]; exact hk)⟩
  have hl : ∀ u v w, R u v → Rst ns R v w → Rst ns R u w := fun u v w h1 h2 => by
    refine ⟨fun x y => ∃ z, R x z ∧ Rst ns R z y, fun x y ⟨z, hx, hz⟩ => ?_, v, h1, h2⟩
    rcases rst_bs ns R z y hz with h3 | ⟨u1, v1, a1, a2, a3, a4, a5, a6, a7, a8⟩
    · exact Or.inl (hR.trans _ _ _ hx h3)
    · exact Or.inr ⟨u1, v1, a1, a2, hR.trans _ _ _ hx a3, a4, a5, a6, a7, fun k hk => ⟨_, hR.refl _, a8 k hk⟩⟩
  have htr : ∀ u v w, Rst ns R u v → Rst ns R v w → Rst ns R u w := fun u v w h1 h2 => by
    refine ⟨fun x y => ∃ z, Rst ns R x z ∧ Rst ns R z y, fun x y ⟨z, hx, hz⟩ => ?_, v, h1, h2⟩
    rcases rst_bs ns R x z hx with h3 | ⟨u1, v1, a1, a2, a3, a4, a5, a6, a7, a8⟩
    · rcases rst_bs ns R z y hz with h4 | ⟨u2, v2, b1, b2, b3, b4, b5, b6, b7, b8⟩
      · exact Or.inl (hR.trans _ _ _ h3 h4)
      · exact Or.inr ⟨u2, v2, b1, b2, hR.trans _ _ _ h3 b3, b4, b5, b6, b7, fun k hk => ⟨_, Rst.of (hR.refl _), b8 k hk⟩⟩
    · rcases rst_bs ns R z y hz with h4 | ⟨u2, v2, b1, b2, b3, b4, b5, b6, b7, b8⟩
      · exact Or.inr ⟨u1, v1, a1, a2, a3, hR.trans _ _ _ (hR.symm _ _ h4) a4, a5, a6, a7, fun k hk => ⟨_, a8 k hk, Rst.of (hR.refl _)⟩⟩
      · have hvu : R v1 u2 := hR.trans _ _ _ (hR.symm _ _ a4) b3
        obtain ⟨c1, c2⟩ := hR.lab v1 u2 a2 b1 hvu a6 b5
        exact Or.inr ⟨u1, v2, a1, b2, a3, b4, a5, b6, (a7.trans c1).trans b7, fun k hk => ⟨argN ns v1 k, a8 k hk, hl _ _ _ (c2 k (by rw [← a7.2.2.2]; exact hk)) (b8 k (by rw [← c1.2.2.2, ← a7.2.2.2]; exact hk))⟩⟩
  refine ⟨⟨fun x => Rst.of (hR.refl x), hsym, htr⟩, fun x y hx hy h hkx hky => ?_⟩
  rcases rst_bs ns R x y h with h1 | ⟨u1, v1, a1, a2, a3, a4, a5, a6, a7, a8⟩
  · obtain ⟨c1, c2⟩ := hR.lab x y hx hy h1 hkx hky
    exact ⟨c1, fun k hk => Rst.of (c2 k hk)⟩
  · obtain ⟨c1, c2⟩ := hR.lab x u1 hx a1 a3 hkx a5
    obtain ⟨d1, d2⟩ := hR.lab y v1 hy a2 a4 hky a6
    refine ⟨(c1.trans a7).trans d1.symm, fun k hk => ?_⟩
    have hk1 : k < (ndN ns u1).args.length := by rw [← c1.2.2.2]; exact hk
    have hk2 : k < (ndN ns y).args.length := by rw [d1.2.2.2, ← a7.2.2.2]; exact hk1
    exact hl _ _ _ (c2 k hk) (htr _ _ _ (a8 k hk1) (Rst.of (hR.symm _ _ (d2 k hk2))))
end
/-- A graph tells what the nodes have become. -/
structure Hm (ns : List Nd) (E : Nat → Nat) (A : Gf) (r : Nat → Nat) : Prop where
  rng : ∀ x, x < ns.length → r x < A.nodes.length
  ker : ∀ x y, x < ns.length → y < ns.length → E x = E y → r x = r y
  lab : ∀ x, x < ns.length → labS (ndN ns (E x)) (ndN A.nodes (r x))
  arg : ∀ x, x < ns.length → ∀ k, k < (ndN ns (E x)).args.length → argN A.nodes (r x) k = r (argN ns (E x) k)
  var : ∀ x y, x < ns.length → y < ns.length → (ndN ns (E x)).kind = 1 → r x = r y → E x = E y
/-- What is one in the graph is one by each solution, or unfolds so. -/
theorem Hm.rst {ns : List Nd} (hA : GoodA ns) {P : List (Nat × Nat)} {E : Nat → Nat} (hU : Un ns P E []) {A : Gf} {r : Nat → Nat} (h : Hm ns E A r) {R : Nat → Nat → Prop} (hR : Cg ns R) (hP : ∀ p ∈ P, R p.1 p.2) {x y : Nat} (hx : x < ns.length) (hy : y < ns.length) (e : r x = r y) : Rst ns R x y := by
  have hE := hU.done.2.2 R hR hP
  refine ⟨fun u v => u < ns.length ∧ v < ns.length ∧ r u = r v, fun u v ⟨hu, hv, e⟩ => ?_, hx, hy, e⟩
  have lu := h.lab u hu
  have lv := h.lab v hv
  by_cases hk : (ndN ns (E u)).kind = 1
  · exact Or.inl (hE u v (h.var u v hu hv hk e))
  · have hl : labS (ndN ns (E u)) (ndN ns (E v)) := lu.trans (by rw [e]; exact lv.symm)
    have hEu := hU.rng u hu
    have hEv := hU.rng v hv
    refine Or.inr ⟨E u, E v, hEu, hEv, hE u (E u) (hU.idem u).symm, hE v (E v) (hU.idem v).symm, hk, by rw [← hl.1]; exact hk, hl, fun k hk => ?_⟩
    have hkv : k < (ndN ns (E v)).args.length := by rw [← hl.2.2.2]; exact hk
    refine ⟨(hA.arg _ hEu k hk).2, (hA.arg _ hEv k hkv).2, ?_⟩
    rw [← h.arg u hu k hk, ← h.arg v hv k hkv, e]
/-- A solution of the nodes is one of the graph. -/
def upR (ns : List Nd) (R : Nat → Nat → Prop) (r : Nat → Nat) (y z : Nat) : Prop := y = z ∨ ∃ x x', x < ns.length ∧ x' < ns.length ∧ y = r x ∧ z = r x' ∧ Rst ns R x x'
theorem Hm.up {ns : List Nd} (hA : GoodA ns) {P : List (Nat × Nat)} {E : Nat → Nat} (hU : Un ns P E []) {A : Gf} {r : Nat → Nat} (h : Hm ns E A r) {R : Nat → Nat → Prop} (hR : Cg ns R) (hP : ∀ p ∈ P, R p.1 p.2) : Cg A.nodes (upR ns R r) := by
  have hS := rst_cg hR
  have hE := hU.done.2.2 R hR hP
  refine ⟨⟨fun x => Or.inl rfl, fun y z hyz => ?_, fun y z w hyz hzw => ?_⟩, fun y z hy hz hyz hky hkz => ?_⟩
  · rcases hyz with e | ⟨x, x', a1, a2, a3, a4, a5⟩
    · exact Or.inl e.symm
    · exact Or.inr ⟨x', x, a2, a1, a4, a3, hS.symm _ _ a5⟩
  · rcases hyz with e | ⟨x, x', a1, a2, a3, a4, a5⟩
    · rw [e]; exact hzw
    · rcases hzw with e | ⟨u, u', b1, b2, b3, b4, b5⟩
      · exact Or.inr ⟨x, x', a1, a2, a3, e ▸ a4, a5⟩
      · exact Or.inr ⟨x, u', a1, b2, a3, b4, hS.trans _ _ _ a5 (hS.trans _ _ _ (h.rst hA hU hR hP a2 b1 (a4.symm.trans b3)) b5)⟩
  · rcases hyz with e | ⟨x, x', a1, a2, a3, a4, a5⟩
    · subst e
      exact ⟨labS.refl _, fun k _ => Or.inl rfl⟩
    · have lx := h.lab x a1
      have lx' := h.lab x' a2
      rw [a3] at hky
      rw [a4] at hkz
      have k1 : (ndN ns (E x)).kind ≠ 1 := by rw [lx.1]; exact hky
      have k2 : (ndN ns (E x')).kind ≠ 1 := by rw [lx'.1]; exact hkz
      have hEE : Rst ns R (E x) (E x') := hS.trans _ _ _ (Rst.of (hE (E x) x (hU.idem x))) (hS.trans _ _ _ a5 (Rst.of (hE x' (E x') (hU.idem x').symm)))
      obtain ⟨c1, c2⟩ := hS.lab (E x) (E x') (hU.rng x a1) (hU.rng x' a2) hEE k1 k2
      rw [a3, a4]
      refine ⟨(lx.symm.trans c1).trans lx', fun k hk => ?_⟩
      have hk1 : k < (ndN ns (E x)).args.length := by rw [lx.2.2.2]; exact hk
      have hk2 : k < (ndN ns (E x')).args.length := by rw [← c1.2.2.2]; exact hk1
      rw [h.arg x a1 k hk1, h.arg x' a2 k hk2]
      exact Or.inr ⟨_, _, (hA.arg _ (hU.rng x a1) k hk1).2, (hA.arg _ (hU.rng x' a2) k hk2).2, rfl, rfl, c2 k hk1⟩
/-- A solution of the graph is one of the nodes. -/
def dnR (ns : List Nd) (R : Nat → Nat → Prop) (r : Nat → Nat) (x y : Nat) : Prop := x = y ∨ (x < ns.length ∧ y < ns.length ∧ R (r x) (r y))
theorem Hm.dn {ns : List Nd} (hA : GoodA ns) {P : List (Nat × Nat)} {E : Nat → Nat} (hU : Un ns P E []) {A : Gf} {r : Nat → Nat} (h : Hm ns E A r) {R : Nat → Nat → Prop} (hR : Cg A.nodes R) (hPn : ∀ p ∈ P, p.1 < ns.length ∧ p.2 < ns.length) : Cg ns (dnR ns R r) ∧ ∀ p ∈ P, dnR ns R r p.1 p.2 := by
  obtain ⟨hC, hP, _⟩ := hU.done
  refine ⟨⟨⟨fun x => Or.inl rfl, fun x y hxy => ?_, fun x y z hxy hyz => ?_⟩, fun x y hx hy hxy hkx hky => ?_⟩, fun p hp => Or.inr ⟨(hPn p hp).1, (hPn p hp).2, by rw [h.ker _ _ (hPn p hp).1 (hPn p hp).2 (hP p hp)]; exact hR.refl _⟩⟩
  · rcases hxy with e | ⟨a, b, c⟩
    · exact Or.inl e.symm
    · exact Or.inr ⟨b, a, hR.symm _ _ c⟩
  · rcases hxy with e | ⟨a, b, c⟩
    · rw [e]; exact hyz
    · rcases hyz with e | ⟨a', b', c'⟩
      · exact Or.inr (e ▸ ⟨a, b, c⟩)
      · exact Or.inr ⟨a, b', hR.trans _ _ _ c c'⟩
  · have hr : R (r x) (r y) := by
      rcases hxy with e | ⟨_, _, c⟩
      · rw [e]; exact hR.refl _
      · exact c
    obtain ⟨ex, lx, _⟩ := hU.rep x hx hkx
    obtain ⟨ey, ly, _⟩ := hU.rep y hy hky
    have mx := h.lab x hx
    have my := h.lab y hy
    obtain ⟨c1, c2⟩ := hR.lab (r x) (r y) (h.rng x hx) (h.rng y hy) hr (by rw [← mx.1]; exact ex) (by rw [← my.1]; exact ey)
    refine ⟨(lx.trans mx).trans (c1.trans (my.symm.trans ly.symm)), fun k hk => ?_⟩
    have hkE : k < (ndN ns (E x)).args.length := by rw [← lx.2.2.2]; exact hk
    have hkr : k < (ndN A.nodes (r x)).args.length := by rw [← mx.2.2.2]; exact hkE
    have hkEy : k < (ndN ns (E y)).args.length := by rw [my.2.2.2, ← c1.2.2.2]; exact hkr
    have hky' : k < (ndN ns y).args.length := by rw [ly.2.2.2]; exact hkEy
    have ax := (hA.arg x hx k hk).2
    have ay := (hA.arg y hy k hky').2
    have bx := (hA.arg _ (hU.rng x hx) k hkE).2
    have by' := (hA.arg _ (hU.rng y hy) k hkEy).2
    have e1 : r (argN ns x k) = r (argN ns (E x) k) := h.ker _ _ ax bx ((hC.lab x (E x) hx (hU.rng x hx) (hU.idem x).symm hkx ex).2 k hk)
    have e2 : r (argN ns y k) = r (argN ns (E y) k) := h.ker _ _ ay by' ((hC.lab y (E y) hy (hU.rng y hy) (hU.idem y).symm hky ey).2 k hky')
    refine Or.inr ⟨ax, ay, ?_⟩
    rw [e1, e2, ← h.arg x hx k hkE, ← h.arg y hy k hkEy]
    exact c2 k hkr
/-- Whether there is a solution is told by the graph. -/
theorem Hm.nosol {ns : List Nd} (hA : GoodA ns) {P : List (Nat × Nat)} {E : Nat → Nat} (hU : Un ns P E []) {A : Gf} {r : Nat → Nat} (h : Hm ns E A r) (hPn : ∀ p ∈ P, p.1 < ns.length ∧ p.2 < ns.length) {a b : Nat} (ha : a < ns.length) (hb : b < ns.length) : NoSol A.nodes [(r a, r b)] ↔ NoSol ns (P ++ [(a, b)]) := by
  constructor
  · intro hn R hR hp
    refine hn _ (h.up hA hU hR (fun p hq => hp p (by simp [hq]))) (fun p hq => ?_)
    have e : p = (r a, r b) := by simpa using hq
    subst e
    exact Or.inr ⟨a, b, ha, hb, rfl, rfl, Rst.of (hp (a, b) (by simp))⟩
  · intro hn R hR hp
    obtain ⟨h1, h2⟩ := h.dn hA hU hR hPn
    refine hn _ h1 (fun p hq => ?_)
    rcases List.mem_append.1 hq with e | e
    · exact h2 p e
    · have e1 : p = (a, b) := by simpa using e
      subst e1
      exact Or.inr ⟨ha, hb, hp (r a, r b) (by simp)⟩
end Go.Proofs.Ytjenkpgoggmboaa

/- Solving step by step: the step. -/
namespace Go.Proofs.Ytjenkpgoggmboaa
open Go.RowKit

/-- What is to be done is done, or cannot be. -/
theorem un_run {ns : List Nd} (hA : GoodA ns) {P : List (Nat × Nat)} : ∀ (n : Nat) (E : Nat → Nat) (todo : List (Nat × Nat)), Un ns P E todo → 9 * fixN E ns.length + todo.length ≤ n → (∃ E', Un ns P E' []) ∨ NoSol ns P
  | n, E, todo, hU, hn => by
    rcases List.eq_nil_or_concat todo with e | ⟨rest, p, e⟩
    · subst e
      exact Or.inl ⟨E, hU⟩
    · rw [List.concat_eq_append] at e
      subst e
      obtain ⟨a, b⟩ := p
      have hlen : (rest ++ [(a, b)]).length = rest.length + 1 := by simp
      rw [hlen] at hn
      have hab := hU.tr (a, b) (by simp)
      have hEa := hU.rng a hab.1
      have hEb := hU.rng b hab.2
      match n, hn with
      | 0, hn => exact absurd hn (by omega)
      | n + 1, hn =>
        by_cases he : E a = E b
        · exact un_run hA n E rest (hU.skip he) (by omega)
        · by_cases hva : (ndN ns (E a)).kind = 1
          · have hb := hU.bind hA (keep := E b) (drop := E a) (Or.inr ⟨rfl, rfl⟩) (fun h => he h.symm) (Or.inl hva)
            have hf := fixN_bind (n := ns.length) (hU.idem b) (hU.idem a) (fun h => he h.symm) hEa
            refine un_run hA n _ _ hb ?_
            rw [List.length_append, newsF_len, hA.var _ hva]
            simp
            omega
          · by_cases hvb : (ndN ns (E b)).kind = 1
            · have hb := hU.bind hA (keep := E a) (drop := E b) (Or.inl ⟨rfl, rfl⟩) he (Or.inl hvb)
              have hf := fixN_bind (n := ns.length) (hU.idem a) (hU.idem b) he hEb
              refine un_run hA n _ _ hb ?_
              rw [List.length_append, newsF_len, hA.var _ hvb]
              simp
              omega
            · by_cases hl : labS (ndN ns (E a)) (ndN ns (E b))
              · have hb := hU.bind hA (keep := E a) (drop := E b) (Or.inl ⟨rfl, rfl⟩) he (Or.inr ⟨hvb, hva, hl⟩)
                have hf := fixN_bind (n := ns.length) (hU.idem a) (hU.idem b) he hEb
                refine un_run hA n _ _ hb ?_
                have h8 := hA.few (E b)
                rw [List.length_append, newsF_len]
                omega
              · exact Or.inr (hU.fail (keep := E a) (drop := E b) (Or.inl ⟨rfl, rfl⟩) hvb hva hl)
theorem un_more {ns : List Nd} (hA : GoodA ns) {P : List (Nat × Nat)} {E : Nat → Nat} (hU : Un ns P E []) {a b : Nat} (ha : a < ns.length) (hb : b < ns.length) : (∃ E', Un ns (P ++ [(a, b)]) E' []) ∨ NoSol ns (P ++ [(a, b)]) := un_run hA _ E _ (hU.pair ha hb) (Nat.le_refl _)
/-- Another writing of the pairs. -/
theorem Un.other {ns : List Nd} {P Q : List (Nat × Nat)} {E : Nat → Nat} (h : Un ns P E []) (hPQ : ∀ R, Cg ns R → ((∀ p ∈ P, R p.1 p.2) ↔ ∀ p ∈ Q, R p.1 p.2)) : Un ns Q E [] := by
  obtain ⟨h1, h2, h3⟩ := h.done
  exact ⟨h.rng, h.idem, fun R hR hq => h.min R hR ((hPQ R hR).2 hq), h.tr, h.rep, fun p hp R hR hk _ => hk _ _ ((hPQ _ h1).1 h2 p hp)⟩
theorem gE_nd {ns : List Nd} {rs : List Int} {E : Nat → Nat} {x : Nat} (hx : x < ns.length) : (gE ns rs E).nd (x : Int) = renum (EI E) (ndN ns x) := by
  simp [gE, Gf.nd, ndN, List.getD, hx]
theorem nd_N (A : Gf) (z : Nat) : A.nd (z : Int) = ndN A.nodes z := by simp [Gf.nd, ndN]
/-- Two ways to choose have one least graph. -/
theorem leastS_uniq {g : Gf} (hg : Good g) {ps qs : List (Int × Int)} {t u : Gf} (hPQ : ∀ R, Cg g.nodes R → ((∀ p ∈ ps.map natP, R p.1 p.2) ↔ ∀ p ∈ qs.map natP, R p.1 p.2)) (ht : LeastS g ps t) (hu : LeastS g qs u) : t = u := by
  obtain ⟨E, e1, hU, hd, rfl⟩ := ht
  obtain ⟨F, e2, hV0, hk, rfl⟩ := hu
  have hV := hV0.other (fun R hR => (hPQ R hR).symm)
  have hA := goodA_of hg
  obtain ⟨hC, hp, hm⟩ := hU.done
  obtain ⟨hC', hp', hm'⟩ := hV.done
  have hEF : ∀ x y, E x = E y → F x = F y := fun x y e => hm _ hC' hp' x y e
  have hFE : ∀ x y, F x = F y → E x = E y := fun x y e => hm' _ hC hp x y e
  have hgE := gE_good hg hU.rng
  have hgF := gE_good hg hV.rng
  have hlE : (gE g.nodes g.roots E).nodes.length = g.nodes.length := by simp [gE]
  have hlF : (gE g.nodes g.roots F).nodes.length = g.nodes.length := by simp [gE]
  have hkind : ∀ x, x < g.nodes.length → labS (ndN g.nodes (E x)) (ndN g.nodes (F x)) ∧ ((ndN g.nodes (E x)).kind ≠ 1 → ∀ k, k < (ndN g.nodes (E x)).args.length → E (argN g.nodes (E x) k) = E (argN g.nodes (F x) k)) := fun x hx => by
    have hEx := hU.rng x hx
    have hFx := hV.rng x hx
    have hEF' : E (E x) = E (F x) := hFE _ _ (by rw [hV.idem]; exact hEF _ _ (hU.idem x))
    by_cases h1 : (ndN g.nodes (E x)).kind = 1
    · by_cases h2 : (ndN g.nodes (F x)).kind = 1
      · refine ⟨?_, fun h => absurd h1 h⟩
        have a1 := hg.node (ndN g.nodes (E x)) (by simp [ndN, List.getD, hEx])
        have a2 := hg.node (ndN g.nodes (F x)) (by simp [ndN, List.getD, hFx])
        unfold goodNd at a1 a2
        rw [if_pos h1] at a1
        rw [if_pos h2] at a2
        simp only [Bool.and_eq_true, decide_eq_true_eq] at a1 a2
        exact ⟨h1.trans h2.symm, str_eq (a1.1.1.trans a2.1.1.symm), a1.1.2.trans a2.1.2.symm, a1.2.trans a2.2.symm⟩
      · obtain ⟨b1, _⟩ := hU.rep (F x) hFx h2
        rw [← hEF', hU.idem] at b1
        exact absurd h1 b1
    · by_cases h2 : (ndN g.nodes (F x)).kind = 1
      · obtain ⟨b1, _⟩ := hV.rep (E x) hEx h1
        have : F (E x) = F x := hEF _ _ (hU.idem x)
        rw [this] at b1
        exact absurd h2 b1
      · obtain ⟨c1, c2⟩ := hC.lab (E x) (F x) hEx hFx hEF' h1 h2
        exact ⟨c1, fun _ k hk => c2 k hk⟩
  refine Pr.least hgE hgF hd hk (R := fun u v => ∃ x, x < g.nodes.length ∧ u = ((E x : Nat) : Int) ∧ v = ((F x : Nat) : Int)) ⟨?_, ?_, ?_, ?_, ?_, by simp [gE], ?_⟩
  · rintro u v ⟨x, hx, rfl, rfl⟩
    have := hU.rng x hx
    have := hV.rng x hx
    exact ⟨⟨by omega, by rw [hlE]; omega⟩, by omega, by rw [hlF]; omega⟩
  · rintro u v ⟨x, hx, rfl, rfl⟩
    rw [gE_nd (hU.rng x hx), gE_nd (hV.rng x hx)]
    obtain ⟨l1, l2, l3, l4⟩ := (hkind x hx).1
    exact ⟨l1, l2, l3, by simpa [renum] using l4⟩
  · rintro u v ⟨x, hx, rfl, rfl⟩ k hk
    have hEx := hU.rng x hx
    have hFx := hV.rng x hx
    rw [gE_nd hEx] at hk
    have hk1 : k < (ndN g.nodes (E x)).args.length := by simpa [renum] using hk
    obtain ⟨l, la⟩ := hkind x hx
    have hk2 : k < (ndN g.nodes (F x)).args.length := by rw [← l.2.2.2]; exact hk1
    have hnv : (ndN g.nodes (E x)).kind ≠ 1 := fun h => by rw [hA.var _ h] at hk1; simp at hk1
    refine ⟨argN g.nodes (E x) k, (hA.arg _ hEx k hk1).2, ?_, ?_⟩
    · unfold Gf.arg
      rw [gE_nd hEx]
      simp [renum, List.getD, hk1, EI, argN]
    · unfold Gf.arg
      rw [gE_nd hFx]
      have := hEF _ _ (la hnv k hk1)
      rw [this]
      simp [renum, List.getD, hk2, EI, argN]
  · rintro u v v' ⟨x, hx, rfl, rfl⟩ ⟨x', hx', e, rfl⟩ _
    have e1 : E x = E x' := by omega
    rw [hEF _ _ e1]
  · rintro u u' v ⟨x, hx, rfl, rfl⟩ ⟨x', hx', rfl, e⟩ _
    have e1 : F x = F x' := by omega
    rw [hFE _ _ e1]
  · intro i hi
    have hi' : i < g.roots.length := by simpa [gE] using hi
    have hr := hg.root (g.roots.getD i 0) (getD_mem hi')
    refine ⟨(g.roots.getD i 0).toNat, by omega, ?_, ?_⟩
    · simp [gE, List.getD, hi', EI]
    · simp [gE, List.getD, hi', EI]
end Go.Proofs.Ytjenkpgoggmboaa

/- Solving step by step: a graph solved by one pair more. -/
namespace Go.Proofs.Ytjenkpgoggmboaa
open Go.RowKit

/-- The roots of a graph tell where the nodes are; behind them come the roots. -/
structure Rts (N : Nat) (rs : List Int) (A : Gf) (r : Nat → Nat) : Prop where
  len : A.roots.length = N + rs.length
  nd : ∀ x, x < N → A.roots.getD x 0 = ((r x : Nat) : Int)
  rt : ∀ i, i < rs.length → A.roots.getD (N + i) 0 = ((r (rs.getD i 0).toNat : Nat) : Int)
theorem var_lab {N : Nat} {m n : Nd} (hm : goodNd N m = true) {M : Nat} (hn : goodNd M n = true) (h1 : m.kind = 1) (h2 : n.kind = 1) : labS m n := by
  unfold goodNd at hm hn
  rw [if_pos h1] at hm
  rw [if_pos h2] at hn
  simp only [Bool.and_eq_true, decide_eq_true_eq] at hm hn
  exact ⟨h1.trans h2.symm, str_eq (hm.1.1.trans hn.1.1.symm), hm.1.2.trans hn.1.2.symm, hm.2.trans hn.2.symm⟩
theorem good_nd {g : Gf} (hg : Good g) {x : Nat} (hx : x < g.nodes.length) : goodNd g.nodes.length (ndN g.nodes x) = true := hg.node _ (by simp [ndN, List.getD, hx])
theorem rst_var {ns : List Nd} {P : List (Nat × Nat)} {E : Nat → Nat} (hU : Un ns P E []) {x y : Nat} (hv : (ndN ns (E x)).kind = 1) (h : Rst ns (fun x y => E x = E y) x y) : E x = E y := by
  rcases rst_bs ns _ x y h with h1 | ⟨u1, v1, a1, a2, a3, a4, a5, a6, _⟩
  · exact h1
  · obtain ⟨b, _⟩ := hU.rep u1 a1 a5
    have a3' : E x = E u1 := a3
    rw [← a3'] at b
    exact absurd hv b
/-- The step. -/
theorem Hm.step {g : Gf} (hg : Good g) {P : List (Nat × Nat)} {E E' : Nat → Nat} (hU : Un g.nodes P E []) {A : Gf} (hAg : Good A) {r : Nat → Nat} (h : Hm g.nodes E A r) (hPn : ∀ p ∈ P, p.1 < g.nodes.length ∧ p.2 < g.nodes.length) {rs : List Int} (hrs : ∀ z ∈ rs, 0 ≤ z ∧ z < (g.nodes.length : Int)) (hR : Rts g.nodes.length rs A r) {a b : Nat} (ha : a < g.nodes.length) (hb : b < g.nodes.length)
    (hU' : Un g.nodes (P ++ [(a, b)]) E' []) {F : Nat → Nat} (hF : Un A.nodes [(r a, r b)] F []) {ee : Nat → Nat → Bool} (hd : ∀ x y : Nat, (ee x y = true ↔ Al (gE A.nodes A.roots F) (x : Int) (y : Int))) :
    ∃ r', Hm g.nodes E' (trimF (quoF ee (gE A.nodes A.roots F))) r' ∧ Rts g.nodes.length rs (trimF (quoF ee (gE A.nodes A.roots F))) r' := by
  have hA := goodA_of hg
  have hAA := goodA_of hAg
  have hB := gE_good hAg hF.rng
  have hlB : (gE A.nodes A.roots F).nodes.length = A.nodes.length := by simp [gE]
  obtain ⟨hC', hp', hm'⟩ := hU'.done
  obtain ⟨hCF, hpF, hmF⟩ := hF.done
  -- what is one by E' is one by F
  have M2 : ∀ x y, x < g.nodes.length → y < g.nodes.length → E' x = E' y → F (r x) = F (r y) := fun x y hx hy e => by
    obtain ⟨c1, c2⟩ := h.dn hA hU hCF hPn
    have h3 := hm' _ c1 (fun p hq => by
      rcases List.mem_append.1 hq with e | e
      · exact c2 p e
      · have e1 : p = (a, b) := by simpa using e
        subst e1
        exact Or.inr ⟨ha, hb, hpF (r a, r b) (by simp)⟩) x y e
    rcases h3 with e | ⟨_, _, e⟩
    · rw [e]
    · exact e
  -- what is one by F is so by E'
  have hup := h.up hA hU hC' (fun p hq => hp' p (by simp [hq]))
  have M1 : ∀ y z, F y = F z → upR g.nodes (fun x y => E' x = E' y) r y z := fun y z e => hmF _ hup (fun p hq => by
    have e1 : p = (r a, r b) := by simpa using hq
    subst e1
    exact Or.inr ⟨a, b, ha, hb, rfl, rfl, Rst.of (hp' (a, b) (by simp))⟩) y z e
  have hEE : ∀ x y, E x = E y → E' x = E' y := fun x y e => hU.done.2.2 _ hC' (fun p hq => hp' p (by simp [hq])) x y e
  -- variables stay variables
  have hvar : ∀ x, x < g.nodes.length → (ndN g.nodes (E' x)).kind = 1 → (ndN A.nodes (F (r x))).kind = 1 := fun x hx hv => by
    apply Classical.byContradiction
    intro hnv
    have hFr := hF.rng _ (h.rng x hx)
    have hz : ∃ w, w < g.nodes.length ∧ F (r x) = r w ∧ Rst g.nodes (fun x y => E' x = E' y) x w := by
      rcases M1 (r x) (F (r x)) (hF.idem _).symm with e | ⟨x1, x2, b1, b2, b3, b4, b5⟩
      · exact ⟨x, hx, e.symm, Rst.of rfl⟩
      · exact ⟨x2, b2, b4, (rst_cg hC').trans _ _ _ (h.rst hA hU hC' (fun p hq => hp' p (by simp [hq])) hx b1 b3) b5⟩
    obtain ⟨w, hw, e, hst⟩ := hz
    have e1 := rst_var hU' hv hst
    have lw := h.lab w hw
    rw [e, ← lw.1] at hnv
    obtain ⟨c, _⟩ := hU'.rep (E w) (hU.rng w hw) hnv
    have e2 : E' (E w) = E' w := hEE _ _ (hU.idem w)
    rw [e2, ← e1] at c
    exact c hv
  -- labels and arguments
  have hnon : ∀ x, x < g.nodes.length → (ndN g.nodes (E' x)).kind ≠ 1 → labS (ndN g.nodes (E' x)) (ndN A.nodes (F (r x))) ∧ ∀ k, k < (ndN g.nodes (E' x)).args.length → F (argN A.nodes (F (r x)) k) = F (r (argN g.nodes (E' x) k)) := fun x hx hnv => by
    have hX := hU'.rng x hx
    have e1 : F (r x) = F (r (E' x)) := M2 x (E' x) hx hX (hU'.idem x).symm
    obtain ⟨c1, c2, _⟩ := hU.rep (E' x) hX hnv
    have l1 := h.lab (E' x) hX
    have hrX := h.rng (E' x) hX
    have k1 : (ndN A.nodes (r (E' x))).kind ≠ 1 := by rw [← l1.1]; exact c1
    obtain ⟨d1, d2, _⟩ := hF.rep (r (E' x)) hrX k1
    refine ⟨(c2.trans l1).trans (by rw [e1]; exact d2), fun k hk => ?_⟩
    have hk1 : k < (ndN g.nodes (E (E' x))).args.length := by rw [← c2.2.2.2]; exact hk
    have hk2 : k < (ndN A.nodes (r (E' x))).args.length := by rw [← l1.2.2.2]; exact hk1
    have s1 := (hCF.lab (r (E' x)) (F (r (E' x))) hrX (hF.rng _ hrX) (hF.idem _).symm k1 d1).2 k hk2
    rw [e1, ← s1, h.arg (E' x) hX k hk1]
    have hEX := hU.rng _ hX
    refine M2 _ _ (hA.arg _ hEX k hk1).2 (hA.arg _ hX k hk).2 ?_
    exact (hC'.lab (E (E' x)) (E' x) hEX hX (hEE _ _ (hU.idem _)) c1 hnv).2 k hk1
  have hroot : ∀ x, x < g.nodes.length → ((F (r x) : Nat) : Int) ∈ metF (gE A.nodes A.roots F) := fun x hx => by
    have hi : x < (gE A.nodes A.roots F).roots.length := by simp [gE]; rw [hR.len]; omega
    have := metF_root hB hi
    have e : (gE A.nodes A.roots F).roots.getD x 0 = ((F (r x) : Nat) : Int) := by
      have hi' : x < A.roots.length := by rw [hR.len]; omega
      have h2 := hR.nd x hx
      simp [gE, List.getD, hi'] at h2 ⊢
      rw [h2]
      simp [EI]
    rw [e] at this
    exact this
  have hnn : ∀ x, x < g.nodes.length → 0 ≤ lstI ee (gE A.nodes A.roots F) ((F (r x) : Nat) : Int) ∧ lstI ee (gE A.nodes A.roots F) ((F (r x) : Nat) : Int) < ((trimF (quoF ee (gE A.nodes A.roots F))).nodes.length : Int) := fun x hx => least_rng hB hd (hroot x hx)
  have hcast : ∀ x, x < g.nodes.length → (((lstI ee (gE A.nodes A.roots F) ((F (r x) : Nat) : Int)).toNat : Nat) : Int) = lstI ee (gE A.nodes A.roots F) ((F (r x) : Nat) : Int) := fun x hx => by have := (hnn x hx).1; omega
  have hnd : ∀ x, x < g.nodes.length → ndN (trimF (quoF ee (gE A.nodes A.roots F))).nodes (lstI ee (gE A.nodes A.roots F) ((F (r x) : Nat) : Int)).toNat = renum (lstI ee (gE A.nodes A.roots F)) (renum (EI F) (ndN A.nodes (F (r x)))) := fun x hx => by
    rw [← nd_N, hcast x hx, least_nd hB hd (hroot x hx), gE_nd (hF.rng _ (h.rng x hx))]
  have hlab : ∀ x, x < g.nodes.length → labS (ndN g.nodes (E' x)) (ndN A.nodes (F (r x))) := fun x hx => by
    by_cases hv : (ndN g.nodes (E' x)).kind = 1
    · exact var_lab (good_nd hg (hU'.rng x hx)) (good_nd hAg (hF.rng _ (h.rng x hx))) hv (hvar x hx hv)
    · exact (hnon x hx hv).1
  refine ⟨fun x => (lstI ee (gE A.nodes A.roots F) ((F (r x) : Nat) : Int)).toNat, ⟨fun x hx => ?_, fun x y hx hy e => ?_, fun x hx => ?_, fun x hx k hk => ?_, fun x y hx hy hv e => ?_⟩, ⟨?_, fun x hx => ?_, fun i hi => ?_⟩⟩
  · have := hnn x hx
    show (lstI ee (gE A.nodes A.roots F) ((F (r x) : Nat) : Int)).toNat < _
    omega
  · show Int.toNat _ = Int.toNat _
    rw [M2 x y hx hy e]
  · show labS _ (ndN _ (Int.toNat _))
    rw [hnd x hx]
    obtain ⟨l1, l2, l3, l4⟩ := hlab x hx
    exact ⟨l1, l2, l3, by simpa [renum] using l4⟩
  · show argN _ (Int.toNat _) k = Int.toNat _
    have hnv : (ndN g.nodes (E' x)).kind ≠ 1 := fun hv => by rw [hA.var _ hv] at hk; simp at hk
    have hk2 : k < (ndN A.nodes (F (r x))).args.length := by rw [← (hlab x hx).2.2.2]; exact hk
    have h2 := (hnon x hx hnv).2 k hk
    have h3 := (hAA.arg _ (hF.rng _ (h.rng x hx)) k hk2)
    unfold argN at h2 ⊢
    rw [hnd x hx]
    simp [renum, List.getD, hk2, EI] at h2 ⊢
    rw [h2]
  · have e1 : lstI ee (gE A.nodes A.roots F) ((F (r x) : Nat) : Int) = lstI ee (gE A.nodes A.roots F) ((F (r y) : Nat) : Int) := by
      have e' : (lstI ee (gE A.nodes A.roots F) ((F (r x) : Nat) : Int)).toNat = (lstI ee (gE A.nodes A.roots F) ((F (r y) : Nat) : Int)).toNat := e
      have := (hnn x hx).1
      have := (hnn y hy).1
      omega
    have hal := (least_al hB hd (hroot x hx) (hroot y hy)).1 e1
    have hkv : ((gE A.nodes A.roots F).nd ((F (r x) : Nat) : Int)).kind = 1 := by
      rw [gE_nd (hF.rng _ (h.rng x hx))]
      exact hvar x hx hv
    have e2 := (al_sim _ _ _ hal).2.2.1.2.2.2.2 hkv
    have e3 : F (r x) = F (r y) := by omega
    rcases M1 (r x) (r y) e3 with e4 | ⟨x1, x2, b1, b2, b3, b4, b5⟩
    · exact rst_var hU' hv (h.rst hA hU hC' (fun p hq => hp' p (by simp [hq])) hx hy e4)
    · have q1 := h.rst hA hU hC' (fun p hq => hp' p (by simp [hq])) hx b1 b3
      have q2 := h.rst hA hU hC' (fun p hq => hp' p (by simp [hq])) b2 hy b4.symm
      exact rst_var hU' hv ((rst_cg hC').trans _ _ _ q1 ((rst_cg hC').trans _ _ _ b5 q2))
  · rw [least_root]
    simp [gE]
    exact hR.len
  · have hi' : x < A.roots.length := by rw [hR.len]; omega
    have h2 := hR.nd x hx
    rw [hcast x hx, least_root]
    simp [gE, List.getD, hi'] at h2 ⊢
    rw [h2]
    simp [EI]
  · have hi' : g.nodes.length + i < A.roots.length := by rw [hR.len]; omega
    have h2 := hR.rt i hi
    have hz := hrs (rs.getD i 0) (getD_mem hi)
    rw [hcast _ (by omega), least_root]
    simp [gE, List.getD, hi'] at h2 ⊢
    rw [h2]
    simp [EI]
/-- The start. -/
theorem Hm.start {g : Gf} (hg : Good g) : Hm g.nodes id ⟨g.nodes, (List.range g.nodes.length).map (fun n : Nat => (n : Int)) ++ g.roots⟩ id ∧ Rts g.nodes.length g.roots ⟨g.nodes, (List.range g.nodes.length).map (fun n : Nat => (n : Int)) ++ g.roots⟩ id := by
  refine ⟨⟨fun x hx => hx, fun x y _ _ e => e, fun x _ => labS.refl _, fun x _ k _ => rfl, fun x y _ _ _ e => e⟩, ⟨by simp, fun x hx => ?_, fun i hi => ?_⟩⟩
  · simp [List.getD, List.getElem?_append_left, hx]
  · have hz := hg.root (g.roots.getD i 0) (getD_mem hi)
    have e : ((List.range g.nodes.length).map (fun n : Nat => (n : Int)) ++ g.roots).getD (g.nodes.length + i) 0 = g.roots.getD i 0 := by
      rw [List.getD, List.getD, List.getElem?_append_right (by simp)]
      simp
    rw [e]
    show _ = (((g.roots.getD i 0).toNat : Nat) : Int)
    omega
/-- The end: the least graph of the roots alone. -/
theorem Hm.fin {g : Gf} (hg : Good g) {ps : List (Int × Int)} {E : Nat → Nat} (hU : Un g.nodes (ps.map natP) E []) {A : Gf} (hAg : Good A) {r : Nat → Nat} (h : Hm g.nodes E A r) (hR : Rts g.nodes.length g.roots A r) {t : Gf} (ht : LeastS g ps t) {e2 : Nat → Nat → Bool} (hd2 : ∀ x y : Nat, (e2 x y = true ↔ Al ⟨A.nodes, A.roots.drop g.nodes.length⟩ (x : Int) (y : Int))) : trimF (quoF e2 ⟨A.nodes, A.roots.drop g.nodes.length⟩) = t := by
  obtain ⟨ee, hd⟩ := al_dec (gE g.nodes g.roots E)
  have hu := leastS_uniq hg (qs := ps) (fun R hR => Iff.rfl) ht ⟨E, ee, hU, hd, rfl⟩
  rw [hu]
  have hA := goodA_of hg
  have hgE := gE_good hg hU.rng
  have hlE : (gE g.nodes g.roots E).nodes.length = g.nodes.length := by simp [gE]
  have hgD : Good ⟨A.nodes, A.roots.drop g.nodes.length⟩ := ⟨hAg.nodes, by have := hAg.roots; simp; omega, hAg.node, fun z hz => hAg.root z (List.mem_of_mem_drop hz)⟩
  refine (Pr.least hgE hgD hd hd2 (R := fun u v => ∃ x, x < g.nodes.length ∧ u = ((E x : Nat) : Int) ∧ v = ((r x : Nat) : Int)) ⟨?_, ?_, ?_, ?_, ?_, ?_, ?_⟩).symm
  · rintro u v ⟨x, hx, rfl, rfl⟩
    have := hU.rng x hx
    have := h.rng x hx
    exact ⟨⟨by omega, by rw [hlE]; omega⟩, by omega, by show _ < (A.nodes.length : Int); omega⟩
  · rintro u v ⟨x, hx, rfl, rfl⟩
    rw [gE_nd (hU.rng x hx), nd_N]
    obtain ⟨l1, l2, l3, l4⟩ := h.lab x hx
    exact ⟨l1, l2, l3, by simpa [renum] using l4⟩
  · rintro u v ⟨x, hx, rfl, rfl⟩ k hk
    have hEx := hU.rng x hx
    rw [gE_nd hEx] at hk
    have hk1 : k < (ndN g.nodes (E x)).args.length := by simpa [renum] using hk
    have hk2 : k < (ndN A.nodes (r x)).args.length := by rw [← (h.lab x hx).2.2.2]; exact hk1
    refine ⟨argN g.nodes (E x) k, (hA.arg _ hEx k hk1).2, ?_, ?_⟩
    · unfold Gf.arg
      rw [gE_nd hEx]
      simp [renum, List.getD, hk1, EI, argN]
    · rw [← h.arg x hx k hk1]
      unfold Gf.arg argN
      rw [nd_N]
      have := ((goodA_of hAg).arg _ (h.rng x hx) k hk2).1
      show (ndN A.nodes (r x)).args.getD k 0 = _
      omega
  · rintro u v v' ⟨x, hx, rfl, rfl⟩ ⟨x', hx', e, rfl⟩ _
    rw [h.ker x x' hx hx' (by omega)]
  · rintro u u' v ⟨x, hx, rfl, rfl⟩ ⟨x', hx', rfl, e⟩ hk
    have e1 : r x = r x' := by omega
    rw [nd_N] at hk
    have hkv : (ndN g.nodes (E x)).kind = 1 := by rw [(h.lab x hx).1]; exact hk
    rw [h.var x x' hx hx' hkv e1]
  · have := hR.len
    simp [gE]
    omega
  · intro i hi
    have hi' : i < g.roots.length := by simpa [gE] using hi
    have hr := hg.root (g.roots.getD i 0) (getD_mem hi')
    refine ⟨(g.roots.getD i 0).toNat, by omega, ?_, ?_⟩
    · simp [gE, List.getD, hi', EI]
    · rw [← hR.rt i hi']
      simp [List.getD]
end Go.Proofs.Ytjenkpgoggmboaa

/- The least graph of a solution is an instance: plain data. -/
namespace Go.Proofs.Ytjenkpgoggmboaa
open Go.RowKit

theorem map_getD {F : Int → Int} {l : List Int} {k : Nat} (h : k < l.length) : (l.map F).getD k 0 = F (l.getD k 0) := by simp [List.getD, h]
theorem least_ins {a : Gf} (ha : Good a) {ee : Nat → Nat → Bool} (hd : ∀ x y : Nat, (ee x y = true ↔ Al a (x : Int) (y : Int))) : Ins a (trimF (quoF ee a)) (fun x y => x ∈ metF a ∧ y = lstI ee a x) := by
  have hnd : ∀ x, x ∈ metF a → (trimF (quoF ee a)).nd (lstI ee a x) = renum (lstI ee a) (a.nd x) := fun x hx => least_nd ha hd hx
  have hlen : ∀ x, x ∈ metF a → ((trimF (quoF ee a)).nd (lstI ee a x)).args.length = (a.nd x).args.length := fun x hx => by rw [hnd x hx]; simp [renum]
  have harg : ∀ x, x ∈ metF a → ∀ k, k < (a.nd x).args.length → (trimF (quoF ee a)).arg (lstI ee a x) k = lstI ee a (a.arg x k) := fun x hx k hk => by
    unfold Gf.arg
    rw [hnd x hx]
    exact map_getD hk
  refine ⟨fun x y ⟨hx, e⟩ => ⟨(met_cls ha hd x hx).1, by rw [e]; exact least_rng ha hd hx⟩, fun x y ⟨hx, e⟩ _ => ?_, fun x y ⟨hx, e⟩ _ k hk => ?_, fun x y y' ⟨hx, e⟩ ⟨_, e'⟩ hk => ?_, by rw [least_root]; simp, fun i hi => ⟨metF_root ha hi, ?_⟩⟩
  · rw [e, hnd x hx]
    exact ⟨rfl, rfl, rfl, by simp [renum]⟩
  · rw [e, harg x hx k hk]
    exact ⟨met_argk ha hx hk, rfl⟩
  · rw [e, e']
    have hr := least_rng ha hd hx
    have hv := good_varA ha (met_cls ha hd x hx).1 hk
    refine ⟨fun u v => u = lstI ee a x ∧ v = lstI ee a x, fun u v ⟨eu, ev⟩ => ?_, rfl, rfl⟩
    rw [eu, ev]
    exact ⟨hr, hr, labE_refl _ _, fun k hkk => by rw [hlen x hx, hv] at hkk; omega⟩
  · rw [least_root]
    exact map_getD hi
theorem gE_ins {g : Gf} (hg : Good g) {P : List (Nat × Nat)} {E : Nat → Nat} (hU : Un g.nodes P E []) : Ins g (gE g.nodes g.roots E) (fun x y => isN g x ∧ y = EI E x) := by
  obtain ⟨hc, _, _⟩ := hU.done
  have hgg := gE_good hg hU.rng
  have hl : (gE g.nodes g.roots E).nodes.length = g.nodes.length := by simp [gE]
  have hin : ∀ x, isN g x → isN (gE g.nodes g.roots E) (EI E x) := fun x hx => by
    have h0 := hx.1
    have h1 := hx.2
    have := hU.rng x.toNat (by omega)
    refine ⟨by unfold EI; omega, ?_⟩
    rw [hl]
    unfold EI
    omega
  have hnd : ∀ x, isN g x → (gE g.nodes g.roots E).nd (EI E x) = renum (EI E) (ndN g.nodes (E x.toNat)) := fun x hx => by
    have h0 := hx.1
    have h1 := hx.2
    exact gE_nd (hU.rng x.toNat (by omega))
  have hN : ∀ x, isN g x → ndN g.nodes x.toNat = g.nd x := fun x hx => by
    have h0 := hx.1
    rw [← nd_int, show ((x.toNat : Nat) : Int) = x by omega]
  refine ⟨fun x y ⟨hx, e⟩ => ⟨hx, by rw [e]; exact hin x hx⟩, fun x y ⟨hx, e⟩ hk => ?_, fun x y ⟨hx, e⟩ hk k hkk => ?_, fun x y y' ⟨hx, e⟩ ⟨_, e'⟩ _ => ?_, by simp [gE], fun i hi => ⟨hg.root _ (getD_mem hi), map_getD hi⟩⟩
  · have h0 := hx.1
    have h1 := hx.2
    obtain ⟨_, l, _⟩ := hU.rep x.toNat (by omega) (by rw [hN x hx]; exact hk)
    rw [hN x hx] at l
    rw [e, hnd x hx]
    exact ⟨l.1, l.2.1, l.2.2.1, by rw [l.2.2.2]; simp [renum]⟩
  · have h0 := hx.1
    have h1 := hx.2
    obtain ⟨k2, l, _⟩ := hU.rep x.toNat (by omega) (by rw [hN x hx]; exact hk)
    have ha := (hc.lab x.toNat (E x.toNat) (by omega) (hU.rng _ (by omega)) (hU.idem _).symm (by rw [hN x hx]; exact hk) k2).2 k (by rw [hN x hx]; exact hkk)
    rw [hN x hx] at l
    refine ⟨arg_isN hg hx hkk, ?_⟩
    rw [e]
    show ((gE g.nodes g.roots E).nd (EI E x)).args.getD k 0 = _
    rw [hnd x hx]
    have hkl : k < (ndN g.nodes (E x.toNat)).args.length := by rw [← l.2.2.2]; exact hkk
    have h2 : (renum (EI E) (ndN g.nodes (E x.toNat))).args.getD k 0 = EI E ((ndN g.nodes (E x.toNat)).args.getD k 0) := map_getD hkl
    rw [h2]
    have h3 : E (((ndN g.nodes x.toNat).args.getD k 0).toNat) = E (((ndN g.nodes (E x.toNat)).args.getD k 0).toNat) := ha
    rw [hN x hx] at h3
    unfold EI Gf.arg
    rw [h3]
  · rw [e, e']
    exact al_refl hgg (hin x hx)
/-- What is solved is an instance of what it was solved from. -/
theorem sol_ins {g : Gf} (hg : Good g) {ps : List (Int × Int)} {t : Gf} (h : LeastS g ps t) : ∃ S, Ins g t S := by
  obtain ⟨E, ee, hU, hd, rfl⟩ := h
  exact (gE_ins hg hU).trans (least_ins (gE_good hg hU.rng) hd)
/-- The roots of a pair become one. -/
theorem sol_roots {g : Gf} {ps : List (Int × Int)} {t : Gf} (h : LeastS g ps t) : t.roots.length = g.roots.length ∧ ∀ i j, i < g.roots.length → j < g.roots.length → (g.roots.getD i 0, g.roots.getD j 0) ∈ ps → t.roots.getD i 0 = t.roots.getD j 0 := by
  obtain ⟨E, ee, hU, hd, rfl⟩ := h
  obtain ⟨_, hp, _⟩ := hU.done
  refine ⟨by rw [least_root]; simp [gE], fun i j hi hj hm => ?_⟩
  rw [least_root, map_getD (by simpa [gE] using hi), map_getD (by simpa [gE] using hj)]
  have e1 : (gE g.nodes g.roots E).roots.getD i 0 = EI E (g.roots.getD i 0) := map_getD hi
  have e2 : (gE g.nodes g.roots E).roots.getD j 0 = EI E (g.roots.getD j 0) := map_getD hj
  rw [e1, e2]
  have := hp (natP (g.roots.getD i 0, g.roots.getD j 0)) (List.mem_map.2 ⟨_, hm, rfl⟩)
  have h3 : E (g.roots.getD i 0).toNat = E (g.roots.getD j 0).toNat := this
  unfold EI
  rw [h3]
end Go.Proofs.Ytjenkpgoggmboaa

/- Solve of package solve: one contract over the answer. -/
namespace Go.Proofs.Ytjenkpgoggmboaa
open Go.RowKit

/-- What Solve's answer tells. -/
def SolR (g : Gf) (ps : List (Int × Int)) (ok : Bool) (h : Gf) : Prop := (chkS g ps = [] → (ok = true ↔ ¬ NoSol g.nodes (ps.map natP))) ∧ (ok = true → chkS g ps = [] ∧ LeastS g ps h) ∧ (ok = false → h = ⟨[], []⟩)
theorem gr_none (w : World) : Gr w (.slice none 0 0) (.slice none 0 0) ⟨[], []⟩ := ⟨⟨none, 0, rfl, fun _ h => absurd h (Nat.not_lt_zero _)⟩, Ri.nil w⟩
theorem solve_all {W : World} {nv rv pv : Value} {g : Gf} {ps : List (Int × Int)} (hG : Gr W nv rv g) (hS : Sized g) (hP : Rp W pv ps) (hl : ps.length ≤ 5000) :
    Calls Try.prog 11 #[.agg #[nv, rv], pv] W fun e w' => (∃ na nc ra rc ok ev h, e = .returned (.tuple #[.agg #[.slice na h.nodes.length nc, .slice ra h.roots.length rc], .bool ok, ev]) ∧ Gr w' (.slice na h.nodes.length nc) (.slice ra h.roots.length rc) h ∧ Er w' ev (chkS g ps) ∧ SolR g ps ok h) ∧ Below W.heap.size W w' := by
  by_cases hc : chkS g ps = []
  · by_cases hn : NoSol g.nodes (ps.map natP)
    · refine (solve_no hG hS hP hl hc hn).mono (fun e w' ⟨h1, h2⟩ => ⟨⟨none, 0, none, 0, false, .nilIface, ⟨[], []⟩, h1, gr_none w', by rw [hc]; rfl, fun _ => ⟨fun h => absurd h (by decide), fun h => absurd hn h⟩, fun h => absurd h (by decide), fun _ => rfl⟩, h2⟩)
    · refine (solve_yes hG hS hP hl hc hn).mono (fun e w' ⟨⟨t, na, nc, ra, rc, avs, h1, h3, h4⟩, h2⟩ => ⟨⟨na, nc, ra, rc, true, .nilIface, t, h1, h4.gr, by rw [hc]; rfl, fun _ => ⟨fun _ => hn, fun _ => rfl⟩, fun _ => ⟨hc, h3⟩, fun h => absurd h (by decide)⟩, h2⟩)
  · refine (solve_bad hG hS hP hl hc).mono (fun e w' ⟨⟨ev, h1, h3⟩, h2⟩ => ⟨⟨none, 0, none, 0, false, ev, ⟨[], []⟩, h1, gr_none w', h3, fun h => absurd h hc, fun h => absurd h (by decide), fun _ => rfl⟩, h2⟩)
end Go.Proofs.Ytjenkpgoggmboaa

/- Same of package bisim at a good graph and two of its nodes. -/
namespace Go.Proofs.Ytjenkpgoggmboaa
open Go.RowKit

set_option maxRecDepth 100000 in
set_option maxHeartbeats 2000000 in
theorem bsame_in {W : World} {nv rv : Value} {g : Gf} (hG : Gr W nv rv g) (hS : Sized g) (hb : one (chk g) = []) (ee : Nat → Nat → Bool) (he : ∀ x y, x < g.nodes.length → y < g.nodes.length → (ee x y = true ↔ Al g (x : Int) (y : Int))) {a b : Nat} (ha : a < g.nodes.length) (hbn : b < g.nodes.length) :
    Calls Try.prog 24 #[.agg #[nv, rv], .int .i64 (a : Int), .int .i64 (b : Int)] W fun r w' => r = .returned (.tuple #[.bool (decide (((csF ee g.nodes.length).getD a 0 : Int) = ((csF ee g.nodes.length).getD b 0 : Int))), .nilIface]) ∧ Below W.heap.size W w' := by
  have hal := alike_good (hG.below (below_alloc W (.cells #[nv, rv] 25))) hS hb ee he
  have hl : (ansC ee g.nodes.length 0).length = g.nodes.length := (ints_len _).trans (csF_len _ _)
  have hN := (chk_good hb).nodes
  clear hG
  generalize hNN : g.nodes.length = N at *
  go_enter Try.func24, Try.ntmps24
  go_wp2_with (go_at_call 51; refine hal.mono ?_; rintro e w1 ⟨⟨t2, t3, rfl, hF⟩, hb1⟩; have h0 := hF.own 0 (by simp); rw [hl] at h0; obtain ⟨ca, cc, rfl⟩ : ∃ ca cc, t2 = .slice ca N cc := own_sl h0)
  have hbb := hid (Below.next (below_alloc _ _) hb1)
  have hR : Ri w1 (.slice ca N cc) (ints (csF ee N)) := by
    have := Ri.ofOwn (l := ints (csF ee N)) (by rw [ints_len, csF_len]; exact h0)
    rw [ints_len, csF_len] at this
    exact this
  clear hal hF h0
  obtain ⟨cb, co, rfl, _⟩ := hR.at (j := a) (by rw [ints_len, csF_len]; exact ha)
  have hcls : ∀ n : Nat, n < N → w1.cell? ⟨cb, co + n, none⟩ = some (.int .i64 (((csF ee N).getD n 0 : Nat) : Int)) := fun n hn => by
    obtain ⟨q, o, h1, h2⟩ := hR.at (j := n) (by rw [ints_len, csF_len]; exact hn)
    injection h1 with h1
    injection h1 with e1 e2 _
    subst e1 e2
    rw [ints_get (by rw [csF_len]; exact hn)] at h2
    exact h2
  have c1 := hcls a ha
  have c2 := hcls b hbn
  clear hcls hR
  have ha' : (a : Int) < (N : Int) := by omega
  have hb' : (b : Int) < (N : Int) := by omega
  go_loopw [26] (fun i wr => ∃ k : Nat, k ≤ 2 ∧ i = .int .i64 k ∧ Hid (wr = w1.alloc (.cells #[.int .i64 (a : Int), .int .i64 (b : Int)] 3))) (fun i _ => 2 - (intOf i).toNat)
  case atStart => exact ⟨0, Nat.zero_le _, rfl, rfl⟩
  case round =>
    obtain ⟨k, hk, rfl, hw⟩ := hrel
    obtain ⟨w2, hw2⟩ : ∃ w2, w2 = w1.alloc (.cells #[.int .i64 (a : Int), .int .i64 (b : Int)] 3) := ⟨_, rfl⟩
    have hw' := hw.out
    rw [← hw2] at hw'
    subst hw'
    have hbw := hid (Below.next hbb.out (below_alloc w1 (.cells #[.int .i64 (a : Int), .int .i64 (b : Int)] 3)))
    have k0 := heap_alloc_new w1 (.cells #[.int .i64 (a : Int), .int .i64 (b : Int)] 3)
    have d1 := ((below_alloc w1 (.cells #[.int .i64 (a : Int), .int .i64 (b : Int)] 3)).cell (p := ⟨cb, co + a, none⟩) (lt_of_cell c1)).trans c1
    have d2 := ((below_alloc w1 (.cells #[.int .i64 (a : Int), .int .i64 (b : Int)] 3)).cell (p := ⟨cb, co + b, none⟩) (lt_of_cell c2)).trans c2
    have n1 : decide ((a : Int) < 0) = false := by simp
    have n2 : decide ((b : Int) < 0) = false := by simp
    have n3 : decide ((N : Int) ≤ (a : Int)) = false := by simpa using ha
    have n4 : decide ((N : Int) ≤ (b : Int)) = false := by simpa using hbn
    rw [← hw2] at hbw k0 d1 d2
    have hw3 := hid hw2
    clear hw hw2
    have e0 : wr.cell? ⟨w1.heap.size, 0, none⟩ = some (.int .i64 (a : Int)) := by simp [World.cell?, k0]
    have e1 : wr.cell? ⟨w1.heap.size, 1, none⟩ = some (.int .i64 (b : Int)) := by simp [World.cell?, k0]
    clear k0 c1 c2
    rcases (by omega : k = 0 ∨ k = 1 ∨ k = 2) with rfl | rfl | rfl
    · go_wp2
      go_roundw
      case rel => exact ⟨1, by omega, rfl, by first | exact hw3.out | exact trivial⟩
      case measure => simp [intOf]
    · go_wp2
      go_roundw
      case rel => exact ⟨2, by omega, rfl, by first | exact hw3.out | exact trivial⟩
      case measure => simp [intOf]
    · generalize hx : (csF ee N).getD a 0 = x at *
      generalize hy : (csF ee N).getD b 0 = y at *
      have hxy : ((x : Int) == (y : Int)) = decide ((x : Int) = (y : Int)) := by
        rw [Bool.eq_iff_iff]
        simp
      replace hxy := hid hxy
      go_wp2
      go_quiet (fail)
      go_wp2
      go_ret2
      refine ⟨?_, below_drewN hbw.out _⟩
      show Ending.returned (.tuple #[.bool ((x : Int) == (y : Int)), .nilIface]) = _
      rw [hxy.out, hx, hy]
end Go.Proofs.Ytjenkpgoggmboaa

/- SolveSound: the graph with the pairs among its roots: plain data. -/
namespace Go.Proofs.Ytjenkpgoggmboaa
open Go.RowKit

theorem withR_pre : ∀ (rs : List Int) (ps : List (Int × Int)) (k : Nat), k < rs.length → (withR rs ps).getD k 0 = rs.getD k 0
  | _, [], _, _ => rfl
  | rs, q :: r, k, h => by
    unfold withR
    rw [withR_pre (rs ++ [q.1, q.2]) r k (by simp; omega)]
    simp [List.getD, List.getElem?_append_left h]
theorem withR_get : ∀ (rs : List Int) (ps : List (Int × Int)) (i : Nat), i < ps.length → (withR rs ps).getD (rs.length + 2 * i) 0 = (ps.getD i (0, 0)).1 ∧ (withR rs ps).getD (rs.length + 2 * i + 1) 0 = (ps.getD i (0, 0)).2
  | _, [], _, h => absurd h (Nat.not_lt_zero _)
  | rs, q :: r, 0, _ => by
    unfold withR
    rw [withR_pre _ r _ (by simp), withR_pre _ r _ (by simp)]
    simp [List.getD]
  | rs, q :: r, i + 1, h => by
    unfold withR
    have := withR_get (rs ++ [q.1, q.2]) r i (by simpa using h)
    rw [List.length_append, show rs.length + [q.1, q.2].length + 2 * i = rs.length + 2 * (i + 1) by simp; omega] at this
    simpa [List.getD] using this
theorem withR_mem : ∀ (rs : List Int) (ps : List (Int × Int)) (x : Int), x ∈ withR rs ps → x ∈ rs ∨ ∃ p ∈ ps, x = p.1 ∨ x = p.2
  | _, [], _, h => Or.inl h
  | rs, q :: r, x, h => by
    unfold withR at h
    rcases withR_mem _ r x h with h | ⟨p, hp, e⟩
    · rcases List.mem_append.1 h with h | h
      · exact Or.inl h
      · exact Or.inr ⟨q, by simp, by simpa using h⟩
    · exact Or.inr ⟨p, by simp [hp], e⟩
/-- Pairs can be made one, or there is no solution. -/
theorem un_all {ns : List Nd} (hA : GoodA ns) : ∀ (n : Nat) (P : List (Nat × Nat)), P.length = n → (∀ p ∈ P, p.1 < ns.length ∧ p.2 < ns.length) → (∃ E, Un ns P E []) ∨ NoSol ns P
  | 0, P, h, _ => Or.inl ⟨id, by rw [List.eq_nil_of_length_eq_zero h]; exact Un.init ns⟩
  | n + 1, P, h, hr => by
    rcases List.eq_nil_or_concat P with e | ⟨Q, p, e⟩
    · subst e; simp at h
    · subst e
      rcases un_all hA n Q (by simpa using h) (fun q hq => hr q (by simp [hq])) with ⟨E, hU⟩ | hn
      · rw [List.concat_eq_append]
        exact un_more hA hU (hr p (by simp)).1 (hr p (by simp)).2
      · exact Or.inr (hn.more (fun q hq => by simp [hq]))
theorem pairD_mem {ps : List (Int × Int)} {i : Nat} (h : i < ps.length) : ps.getD i (0, 0) ∈ ps := by simp [List.getD, h]
/-- With the pairs among the roots a good graph is good, and the pairs are. -/
theorem with_good {g : Gf} {ps : List (Int × Int)} (hc : chkS g ps = []) (hr : g.roots.length ≤ 200) (hl : ps.length ≤ 100) : Good ⟨g.nodes, withR g.roots ps⟩ ∧ chkS ⟨g.nodes, withR g.roots ps⟩ ps = [] := by
  obtain ⟨hg, hp⟩ := chkS_good hc
  have hw : Good ⟨g.nodes, withR g.roots ps⟩ := by
    refine ⟨hg.nodes, by rw [withR_len]; omega, hg.node, fun x hx => ?_⟩
    rcases withR_mem _ _ _ hx with h | ⟨p, hm, e⟩
    · exact hg.root x h
    · obtain ⟨h1, h2⟩ := hp p hm
      rcases e with rfl | rfl
      · exact h1
      · exact h2
  refine ⟨hw, ?_⟩
  unfold chkS at hc ⊢
  rw [chk_of_good hg] at hc
  rw [chk_of_good hw]
  exact hc
/-- What is solved is good. -/
theorem sol_good {g : Gf} (hg : Good g) {ps : List (Int × Int)} {t : Gf} (h : LeastS g ps t) : Good t := by
  obtain ⟨E, ee, hU, hd, rfl⟩ := h
  have h1 := gE_good hg hU.rng
  exact trim_good0 (quo_good h1 (al_eqv h1 hd))
/-- The pairs' roots are one. -/
theorem sol_pairs {g : Gf} {ps : List (Int × Int)} {t : Gf} (h : LeastS ⟨g.nodes, withR g.roots ps⟩ ps t) : t.roots.length = (withR g.roots ps).length ∧ ∀ i, i < ps.length → t.roots.getD (g.roots.length + 2 * i) 0 = t.roots.getD (g.roots.length + 2 * i + 1) 0 := by
  obtain ⟨h1, h2⟩ := sol_roots h
  refine ⟨h1, fun i hi => ?_⟩
  obtain ⟨e1, e2⟩ := withR_get g.roots ps i hi
  have hl := withR_len g.roots ps
  have hm := pairD_mem hi
  refine h2 _ _ (by show _ < (withR g.roots ps).length; omega) (by show _ < (withR g.roots ps).length; omega) ?_
  show ((withR g.roots ps).getD _ 0, (withR g.roots ps).getD _ 0) ∈ ps
  rw [e1, e2]
  exact hm
/-- Do the first pairs unfold alike? -/
def alP (ee : Nat → Nat → Bool) (ps : List (Int × Int)) : Nat → Bool
  | 0 => true
  | j + 1 => alP ee ps j && ee (ps.getD j (0, 0)).1.toNat (ps.getD j (0, 0)).2.toNat
theorem alP_iff {ee : Nat → Nat → Bool} {ps : List (Int × Int)} : ∀ {j : Nat}, alP ee ps j = true ↔ ∀ i, i < j → ee (ps.getD i (0, 0)).1.toNat (ps.getD i (0, 0)).2.toNat = true
  | 0 => ⟨fun _ i h => absurd h (Nat.not_lt_zero _), fun _ => rfl⟩
  | j + 1 => by
    unfold alP
    rw [Bool.and_eq_true, alP_iff]
    constructor
    · rintro ⟨h1, h2⟩ i hi
      by_cases e : i = j
      · subst e; exact h2
      · exact h1 i (by omega)
    · exact fun h => ⟨fun i hi => h i (by omega), h j (by omega)⟩
theorem alP_hang {g : Gf} {ps : List (Int × Int)} (hc : chkS g ps = []) {E : Nat → Nat} (hU : Un g.nodes (ps.map natP) E []) {ee : Nat → Nat → Bool} (he : ∀ x y : Nat, (ee x y = true ↔ Al g (x : Int) (y : Int))) : alP ee ps ps.length = true ↔ hangF g.nodes E g.nodes.length = [] := by
  obtain ⟨hg, hp⟩ := chkS_good hc
  rw [hang_iff hg hU (fun p hm => by
    obtain ⟨q, hq, rfl⟩ := List.mem_map.1 hm
    obtain ⟨h1, h2⟩ := hp q hq
    simp only [natP]
    omega), alP_iff]
  constructor
  · intro h p hm
    obtain ⟨q, hq, rfl⟩ := List.mem_map.1 hm
    obtain ⟨i, hi, rfl⟩ := List.getElem_of_mem hq
    have := h i hi
    rw [he] at this
    simpa [natP, List.getD, hi] using this
  · intro h i hi
    rw [he]
    exact h (natP (ps.getD i (0, 0))) (List.mem_map.2 ⟨_, pairD_mem hi, rfl⟩)
/-- Same of a pair. -/
theorem same_pair {w : World} {nv rv : Value} {g : Gf} (hG : Gr w nv rv g) (hg : Good g) {ee : Nat → Nat → Bool} (he : ∀ x y : Nat, (ee x y = true ↔ Al g (x : Int) (y : Int))) {x y : Int} (hx : 0 ≤ x ∧ x < (g.nodes.length : Int)) (hy : 0 ≤ y ∧ y < (g.nodes.length : Int)) :
    Calls Try.prog 24 #[.agg #[nv, rv], .int .i64 x, .int .i64 y] w fun r w' => r = .returned (.tuple #[.bool (ee x.toNat y.toNat), .nilIface]) ∧ Below w.heap.size w w' := by
  have h := bsame_in hG (good_sized hg) (chk_of_good hg) ee (fun x y _ _ => he x y) (a := x.toNat) (b := y.toNat) (by omega) (by omega)
  rw [show ((x.toNat : Nat) : Int) = x by omega, show ((y.toNat : Nat) : Int) = y by omega] at h
  have hb : decide (((csF ee g.nodes.length).getD x.toNat 0 : Int) = ((csF ee g.nodes.length).getD y.toNat 0 : Int)) = ee x.toNat y.toNat := by
    have hs := Nmd.same (al_eqv hg he) (numF_said (al_eqv hg he) _ (Nat.le_refl _)) (x := x.toNat) (y := y.toNat) (by omega) (by omega)
    rw [Bool.eq_iff_iff, decide_eq_true_iff, ← hs]
    omega
  rw [hb] at h
  exact h
end Go.Proofs.Ytjenkpgoggmboaa

/- SolveSound, walked: no solution. -/
namespace Go.Proofs.Ytjenkpgoggmboaa
open Go.RowKit

theorem blk_next {w w' : World} {q : Nat} {o : Obj} (h : w.heap[q]? = some o) (hb : Below w.heap.size w w') : w'.heap[q]? = some o := (hb.block _ (lt_of_block h)).trans h
set_option maxRecDepth 100000 in
set_option maxHeartbeats 4000000 in
theorem ssound_no {W : World} {a0 a1 a2 : Option Addr} {m0 m1 m2 c0 c1 c2 : Nat} {Q : World → Value → Prop} (hQ : ∀ w w' v, Q w v → Below w.heap.size w w' → Q w' v)
    (hsm : ∀ w, Below W.heap.size W w → Calls Try.prog 22 #[.agg #[.slice a0 m0 c0, .slice a1 m1 c1], .int .i64 200] w fun e w' => e = .returned (.bool true) ∧ Below w.heap.size w w') (hm : ¬ 100 < m2) (hve : ∀ w, Below W.heap.size W w → Calls Try.prog 15 #[.agg #[.slice a0 m0 c0, .slice a1 m1 c1], .slice a2 m2 c2] w fun e w' => e = .returned (.tuple #[.agg #[.int .i64 1, .slice none 0 0], .nilIface]) ∧ Below w.heap.size w w')
    (hwi : ∀ w, Below W.heap.size W w → Calls Try.prog 23 #[.agg #[.slice a0 m0 c0, .slice a1 m1 c1], .slice a2 m2 c2] w fun e w' => (∃ ao n c, e = .returned (.agg #[.slice a0 m0 c0, .slice ao n c]) ∧ Q w' (.slice ao n c)) ∧ Below w.heap.size w w')
    (hso : ∀ w ao n c, Below W.heap.size W w → Q w (.slice ao n c) → Calls Try.prog 11 #[.agg #[.slice a0 m0 c0, .slice ao n c], .slice a2 m2 c2] w fun e w' => e = .returned (.tuple #[.agg #[.slice none 0 0, .slice none 0 0], .bool false, .nilIface]) ∧ Below w.heap.size w w') :
    Calls Try.prog 5 #[.agg #[.slice a0 m0 c0, .slice a1 m1 c1], .slice a2 m2 c2] W fun e w' => e = .returned (.bool true) ∧ Below W.heap.size W w' := by
  have HB := hid (Ob.start W (.slice a0 m0 c0) (.slice a1 m1 c1))
  have Hsm := hid hsm
  have Hve := hid hve
  have Hwi := hid hwi
  have Hso := hid hso
  have HQ := hid hQ
  have hm' : ¬ ((100 : Int) < (m2 : Int)) := by omega
  clear hsm hve hwi hso hQ
  go_enter Try.func5, Try.ntmps5
  go_wp2_with (first
    | (go_at_call 9; refine (slives_any _).mono ?_; rintro e w1 ⟨rfl, hb1⟩; replace HB := hid (HB.out.next hb1); clear hb1; obtain ⟨⟨x0, x1⟩, x2⟩ := HB.out.cells)
    | (go_at_call 22; refine (Hsm.out _ HB.out.b).mono ?_; rintro e w1 ⟨rfl, hb1⟩; replace HB := hid (HB.out.next hb1); clear hb1; obtain ⟨⟨x0, x1⟩, x2⟩ := HB.out.cells)
    | (go_at_call 15; refine (Hve.out _ HB.out.b).mono ?_; rintro e w2 ⟨rfl, hb1⟩; replace HB := hid ((HB.out.next hb1).next (below_alloc w2 (.cells #[.int .i64 1, .slice none 0 0] 41))); have x20 := (hb1.cell (p := ⟨W.heap.size, 0, none⟩) x2).trans x0; have x21 := (hb1.cell (p := ⟨W.heap.size, 1, none⟩) x2).trans x1; have x22 := lt_of_cell x20; have HV := hid (heap_alloc_new w2 (.cells #[.int .i64 1, .slice none 0 0] 41)); clear hb1)
    | (go_at_call 23; refine (Hwi.out _ HB.out.b).mono ?_; rintro e w3 ⟨⟨wo, wn, wc, rfl, hq3⟩, hb3⟩; replace HB := hid ((HB.out.next hb3).next (below_alloc w3 (.cells #[.slice a0 m0 c0, .slice wo wn wc] 25))); replace HV := hid (blk_next (blk_next HV.out hb3) (below_alloc w3 (.cells #[.slice a0 m0 c0, .slice wo wn wc] 25))); have hcs := hid (Hso.out _ wo wn wc HB.out.b (HQ.out _ _ _ hq3 (below_alloc w3 (.cells #[.slice a0 m0 c0, .slice wo wn wc] 25)))); clear hq3 hb3)
    | (go_at_call 11; refine hcs.out.mono ?_; rintro e w4 ⟨rfl, hb4⟩; replace HB := hid ((HB.out.next hb4).next (below_alloc w4 grZ)); have HV4 := blk_next HV.out hb4; obtain ⟨⟨v0, v1⟩, _⟩ := blk2y HV4; have zv := lt_of_block HV4; clear hb4 HV4))
  go_ret
  exact ⟨rfl, HB.out.b⟩
end Go.Proofs.Ytjenkpgoggmboaa
