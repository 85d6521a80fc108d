/- SolveGeneral, walked. -/
import Derived.Test.YtjenkpgoggmboaaSEZ
import Derived.Test.YtjenkpgoggmboaaSGZ
import Derived.Test.YtjenkpgoggmboaaSCZ
import Derived.Test.YtjenkpgoggmboaaSBZ
import Derived.Test.YtjenkpgoggmboaaGrLaw
namespace Go.Proofs.Ytjenkpgoggmboaa
open Go.RowKit

section
variable {W : World} {a0 a1 a2 a3 : Option Addr} {m0 m1 m2 m3 c0 c1 c2 c3 : Nat}
set_option maxRecDepth 100000 in
set_option maxHeartbeats 4000000 in
theorem sgen_short0 (hsm : ∀ w, Below W.heap.size W w → Calls Try.prog 22 #[.agg #[.slice a0 m0 c0, .slice a1 m1 c1], .int .i64 120] w fun e w' => e = .returned (.bool false) ∧ Below w.heap.size w w') :
    Calls Try.prog 6 #[.agg #[.slice a0 m0 c0, .slice a1 m1 c1], .slice a2 m2 c2, .slice a3 m3 c3] W fun e w' => e = .returned (.bool true) ∧ Below W.heap.size W w' := by
  have HB := hid (Ob.start W (.slice a0 m0 c0) (.slice a1 m1 c1))
  have Hsm := hid hsm
  clear hsm
  go_enter Try.func6, Try.ntmps6
  go_wp2_with (first
    | (go_at_call 9; refine (slives_any _).mono ?_; rintro e w1 ⟨rfl, hb1⟩; replace HB := hid (HB.out.next hb1); clear hb1; obtain ⟨⟨x0, x1⟩, x2⟩ := HB.out.cells)
    | (go_at_call 22; refine (Hsm.out _ HB.out.b).mono ?_; rintro e w1 ⟨rfl, hb1⟩; replace HB := hid (HB.out.next hb1); clear hb1; obtain ⟨⟨x0, x1⟩, x2⟩ := HB.out.cells))
  go_ret
  exact ⟨rfl, HB.out.b⟩
set_option maxRecDepth 100000 in
set_option maxHeartbeats 4000000 in
theorem sgen_short1 (hsm : ∀ w, Below W.heap.size W w → Calls Try.prog 22 #[.agg #[.slice a0 m0 c0, .slice a1 m1 c1], .int .i64 120] w fun e w' => e = .returned (.bool true) ∧ Below w.heap.size w w') (hm : 60 < m2) :
    Calls Try.prog 6 #[.agg #[.slice a0 m0 c0, .slice a1 m1 c1], .slice a2 m2 c2, .slice a3 m3 c3] W fun e w' => e = .returned (.bool true) ∧ Below W.heap.size W w' := by
  have HB := hid (Ob.start W (.slice a0 m0 c0) (.slice a1 m1 c1))
  have Hsm := hid hsm
  have hm' : (60 : Int) < (m2 : Int) := by omega
  clear hsm
  go_enter Try.func6, Try.ntmps6
  go_wp2_with (first
    | (go_at_call 9; refine (slives_any _).mono ?_; rintro e w1 ⟨rfl, hb1⟩; replace HB := hid (HB.out.next hb1); clear hb1; obtain ⟨⟨x0, x1⟩, x2⟩ := HB.out.cells)
    | (go_at_call 22; refine (Hsm.out _ HB.out.b).mono ?_; rintro e w1 ⟨rfl, hb1⟩; replace HB := hid (HB.out.next hb1); clear hb1; obtain ⟨⟨x0, x1⟩, x2⟩ := HB.out.cells))
  go_ret
  exact ⟨rfl, HB.out.b⟩
set_option maxRecDepth 100000 in
set_option maxHeartbeats 4000000 in
theorem sgen_bad (hsm : ∀ w, Below W.heap.size W w → Calls Try.prog 22 #[.agg #[.slice a0 m0 c0, .slice a1 m1 c1], .int .i64 120] w fun e w' => e = .returned (.bool true) ∧ Below w.heap.size w w') (hm : ¬ 60 < m2) (hck : ∀ w, Below W.heap.size W w → Calls Try.prog 25 #[.agg #[.slice a0 m0 c0, .slice a1 m1 c1]] w fun e w' => (∃ b, e = .returned (.iface 75 (.pointer (some ⟨b, 0, none⟩)))) ∧ Below w.heap.size w w') :
    Calls Try.prog 6 #[.agg #[.slice a0 m0 c0, .slice a1 m1 c1], .slice a2 m2 c2, .slice a3 m3 c3] W fun e w' => e = .returned (.bool true) ∧ Below W.heap.size W w' := by
  have HB := hid (Ob.start W (.slice a0 m0 c0) (.slice a1 m1 c1))
  have Hsm := hid hsm
  have Hck := hid hck
  have hm' : ¬ ((60 : Int) < (m2 : Int)) := by omega
  clear hsm hck
  go_enter Try.func6, Try.ntmps6
  go_wp2_with (first
    | (go_at_call 9; refine (slives_any _).mono ?_; rintro e w1 ⟨rfl, hb1⟩; replace HB := hid (HB.out.next hb1); clear hb1; obtain ⟨⟨x0, x1⟩, x2⟩ := HB.out.cells)
    | (go_at_call 22; refine (Hsm.out _ HB.out.b).mono ?_; rintro e w1 ⟨rfl, hb1⟩; replace HB := hid (HB.out.next hb1); clear hb1; obtain ⟨⟨x0, x1⟩, x2⟩ := HB.out.cells)
    | (go_at_call 25; refine (Hck.out _ HB.out.b).mono ?_; rintro e w1 ⟨⟨q, rfl⟩, hb1⟩; replace HB := hid (HB.out.next hb1); clear hb1; obtain ⟨⟨x0, x1⟩, x2⟩ := HB.out.cells))
  go_ret
  exact ⟨rfl, HB.out.b⟩
end
/-- The boxes of SolveGeneral, kept. -/
structure Sg (W : World) (nv rv : Value) (hb : Nat) (nh rh : Value) (tg : Gf) (w : World) : Prop where
  b : Below W.heap.size W w
  g : w.heap[W.heap.size]? = some (.cells #[nv, rv] 25)
  h : w.heap[hb]? = some (.cells #[nh, rh] 25)
  q : Gr w nh rh tg
theorem Sg.next {W w w' : World} {nv rv nh rh : Value} {hb : Nat} {tg : Gf} (x : Sg W nv rv hb nh rh tg w) (k : Below w.heap.size w w') : Sg W nv rv hb nh rh tg w' :=
  ⟨x.b.trans (k.mono x.b.size), (k.block _ (lt_of_block x.g)).trans x.g, (k.block _ (lt_of_block x.h)).trans x.h, x.q.below k⟩
set_option maxRecDepth 100000 in
set_option maxHeartbeats 16000000 in
theorem sgen_main {W : World} {a0 a1 a2 a3 : Option Addr} {m0 m1 m2 m3 c0 c1 c2 c3 : Nat} {h : Gf} {ok : Nat → Nat}
    (hsm : ∀ w, Below W.heap.size W w → Calls Try.prog 22 #[.agg #[.slice a0 m0 c0, .slice a1 m1 c1], .int .i64 120] w fun e w' => e = .returned (.bool true) ∧ Below w.heap.size w w') (hm : ¬ 60 < m2)
    (hck : ∀ w, Below W.heap.size W w → Calls Try.prog 25 #[.agg #[.slice a0 m0 c0, .slice a1 m1 c1]] w fun e w' => e = .returned .nilIface ∧ Below w.heap.size w w')
    (hgi : ∀ w, Below W.heap.size W w → Calls Try.prog 26 #[.agg #[.slice a0 m0 c0, .slice a1 m1 c1], .slice a3 m3 c3] w fun e w' => (∃ na nc ra rc, e = .returned (.agg #[.slice na h.nodes.length nc, .slice ra h.roots.length rc]) ∧ Gr w' (.slice na h.nodes.length nc) (.slice ra h.roots.length rc) h) ∧ Below w.heap.size w w')
    {xs ys : Nat → Int} (hpa : ∀ w, Below W.heap.size W w → ∀ j, j < m2 → ∃ b o, a2 = some ⟨b, o, none⟩ ∧ w.cell? ⟨b, o + j * 2, none⟩ = some (.int .i64 (xs j)) ∧ w.cell? ⟨b, o + j * 2 + 1, none⟩ = some (.int .i64 (ys j)))
    (hok : ∀ j, ok j = 0 ∨ ok j = 1 ∨ ok j = 2)
    (hs0 : ∀ w nv rv, Gr w nv rv h → ∀ j, j < m2 → ok j = 0 → Calls Try.prog 24 #[.agg #[nv, rv], .int .i64 (xs j), .int .i64 (ys j)] w fun e w' => e = .returned (.tuple #[.bool true, .nilIface]) ∧ Below w.heap.size w w')
    (hs1 : ∀ w nv rv, Gr w nv rv h → ∀ j, j < m2 → ok j = 1 → Calls Try.prog 24 #[.agg #[nv, rv], .int .i64 (xs j), .int .i64 (ys j)] w fun e w' => e = .returned (.tuple #[.bool false, .nilIface]) ∧ Below w.heap.size w w')
    (hs2 : ∀ w nv rv, Gr w nv rv h → ∀ j, j < m2 → ok j = 2 → Calls Try.prog 24 #[.agg #[nv, rv], .int .i64 (xs j), .int .i64 (ys j)] w fun e w' => (∃ b, e = .returned (.tuple #[.bool false, .iface 75 (.pointer (some ⟨b, 0, none⟩))])) ∧ Below w.heap.size w w')
    (hso : (∀ j, j < m2 → ok j = 0) → ∀ w, Below W.heap.size W w → Calls Try.prog 11 #[.agg #[.slice a0 m0 c0, .slice a1 m1 c1], .slice a2 m2 c2] w fun e w' => (∃ na nn nc ra rn rc, e = .returned (.tuple #[.agg #[.slice na nn nc, .slice ra rn rc], .bool true, .nilIface]) ∧
      ∀ w'' nv rv, Below w'.heap.size w' w'' → Gr w'' nv rv h → Calls Try.prog 18 #[.agg #[.slice na nn nc, .slice ra rn rc], .agg #[nv, rv]] w'' fun e w3 => e = .returned (.tuple #[.bool true, .nilIface]) ∧ Below w''.heap.size w'' w3) ∧ Below w.heap.size w w') :
    Calls Try.prog 6 #[.agg #[.slice a0 m0 c0, .slice a1 m1 c1], .slice a2 m2 c2, .slice a3 m3 c3] W fun e w' => e = .returned (.bool true) ∧ Below W.heap.size W w' := by
  have HB := hid (Ob.start W (.slice a0 m0 c0) (.slice a1 m1 c1))
  have Hsm := hid hsm
  have Hck := hid hck
  have Hgi := hid hgi
  have Hpa := hid hpa
  have Hok := hid hok
  have Hs0 := hid hs0
  have Hs1 := hid hs1
  have Hs2 := hid hs2
  have Hso := hid hso
  have hm' : ¬ ((60 : Int) < (m2 : Int)) := by omega
  clear hsm hck hgi hpa hok hs0 hs1 hs2 hso
  go_enter Try.func6, Try.ntmps6
  go_wp2_with (first
    | (go_at_call 9; refine (slives_any _).mono ?_; rintro e w1 ⟨rfl, hb1⟩; replace HB := hid (HB.out.next hb1); clear hb1; obtain ⟨⟨x0, x1⟩, x2⟩ := HB.out.cells)
    | (go_at_call 22; refine (Hsm.out _ HB.out.b).mono ?_; rintro e w1 ⟨rfl, hb1⟩; replace HB := hid (HB.out.next hb1); clear hb1; obtain ⟨⟨x0, x1⟩, x2⟩ := HB.out.cells)
    | (go_at_call 25; refine (Hck.out _ HB.out.b).mono ?_; rintro e w1 ⟨rfl, hb1⟩; replace HB := hid (HB.out.next hb1); clear hb1; obtain ⟨⟨x0, x1⟩, x2⟩ := HB.out.cells)
    | (go_at_call 26; refine (Hgi.out _ HB.out.b).mono ?_; rintro e w2 ⟨⟨na, nc, ra, rc, rfl, hq2⟩, hb2⟩; have HX := hid (Sg.mk ((HB.out.next hb2).next (below_alloc w2 (.cells #[.slice na h.nodes.length nc, .slice ra h.roots.length rc] 25))).b ((HB.out.next hb2).next (below_alloc w2 (.cells #[.slice na h.nodes.length nc, .slice ra h.roots.length rc] 25))).x (heap_alloc_new w2 (.cells #[.slice na h.nodes.length nc, .slice ra h.roots.length rc] 25)) (hq2.below (below_alloc w2 (.cells #[.slice na h.nodes.length nc, .slice ra h.roots.length rc] 25)))); clear hb2 hq2 x0 x1 x2 HB))
  go_loopw [39] (fun i wr => ∃ j : Nat, j ≤ m2 ∧ i = .int .i64 (j : Int) ∧ Hid (∀ i, i < j → ok i = 0) ∧ Hid (Sg W (.slice a0 m0 c0) (.slice a1 m1 c1) w2.heap.size (.slice na h.nodes.length nc) (.slice ra h.roots.length rc) h wr)) (fun i _ => m2 - (intOf i).toNat)
  case atStart => exact ⟨0, Nat.zero_le _, rfl, fun i hi => absurd hi (Nat.not_lt_zero _), HX⟩
  case round =>
    clear HX
    obtain ⟨j, hj, rfl, hall, hX⟩ := hrel
    obtain ⟨⟨q0, q1⟩, _⟩ := blk2y hX.out.h
    have zq := lt_of_block hX.out.h
    obtain ⟨⟨g0, g1⟩, _⟩ := blk2y hX.out.g
    have zg := lt_of_block hX.out.g
    by_cases hlt : j < m2
    · have hji : (j : Int) < (m2 : Int) := by omega
      obtain ⟨b, o, hao, p0, p1⟩ := Hpa.out wr hX.out.b j hlt
      subst hao
      have zb := lt_of_cell p0
      have hX1 := hid (hX.out.next (below_alloc wr (.cells #[.int .i64 (xs j), .int .i64 (ys j)] 52)))
      rcases Hok.out j with ho | ho | ho
      · have hcs := hid (Hs0.out _ _ _ hX1.out.q j hlt ho)
        have hall2 : Hid (∀ i, i < j + 1 → ok i = 0) := fun i hi => by
          by_cases e : i = j
          · subst e; exact ho
          · exact hall.out i (by omega)
        clear ho hall g0 g1
        generalize xs j = xj at *
        generalize ys j = yj at *
        go_wp2_with (go_at_call 24; refine hcs.out.mono ?_; rintro e w6 ⟨rfl, hb6⟩; have hX6 := hid (hX1.out.next hb6); clear hb6)
        go_roundw
        case rel => exact ⟨j + 1, by omega, by go_num, hall2, hX6⟩
        case measure => simp [intOf]; omega
      · have hcs := hid (Hs1.out _ _ _ hX1.out.q j hlt ho)
        clear ho hall g0 g1
        generalize xs j = xj at *
        generalize ys j = yj at *
        go_wp2_with (go_at_call 24; refine hcs.out.mono ?_; rintro e w6 ⟨rfl, hb6⟩; have hX6 := hid (hX1.out.next hb6); clear hb6)
        go_ret
        exact ⟨rfl, hX6.out.b⟩
      · have hcs := hid (Hs2.out _ _ _ hX1.out.q j hlt ho)
        clear ho hall g0 g1
        generalize xs j = xj at *
        generalize ys j = yj at *
        go_wp2_with (go_at_call 24; refine hcs.out.mono ?_; rintro e w6 ⟨⟨fb, rfl⟩, hb6⟩; have hX6 := hid (hX1.out.next hb6); clear hb6)
        go_ret
        exact ⟨rfl, hX6.out.b⟩
    · obtain rfl : j = m2 := by omega
      have hcs := hid (Hso.out (fun i hi => hall.out i hi) _ hX.out.b)
      go_wp2_with (first
        | (go_at_call 11; refine hcs.out.mono ?_; rintro e w4 ⟨⟨ma, mn, mc, ka, kn, kc, rfl, hin⟩, hb4⟩; have hX4 := hX.out.next hb4; have hX5 := hid (hX4.next (below_alloc w4 (.cells #[.slice ma mn mc, .slice ka kn kc] 25))); obtain ⟨⟨s0, s1⟩, _⟩ := blk2y hX4.h; have zs := lt_of_block hX4.h; have hci := hid (hin _ _ _ (below_alloc w4 (.cells #[.slice ma mn mc, .slice ka kn kc] 25)) hX5.out.q); clear hb4 hin hX4)
        | (go_at_call 18; refine hci.out.mono ?_; rintro e w5 ⟨rfl, hb5⟩; have hX6 := hid (hX5.out.next hb5); clear hb5))
      go_ret
      exact ⟨rfl, hX6.out.b⟩
end Go.Proofs.Ytjenkpgoggmboaa

/- SolveGeneral, at any graph, pairs and nodes. -/
namespace Go.Proofs.Ytjenkpgoggmboaa
open Go.RowKit

theorem smG {W : World} {n r : Value} {g : Gf} (hG : Gr W n r g) {b : Bool} (h : smallK 120 g = b) (w : World) (hb : Below W.heap.size W w) :
    Calls Try.prog 22 #[.agg #[n, r], .int .i64 120] w fun e w' => e = .returned (.bool b) ∧ Below w.heap.size w w' := by
  rw [← h]
  exact smallK_any (K := 120) (by omega) (hG.below hb)
theorem rpG {w : World} {a : Option Addr} {n c : Nat} {l : List (Int × Int)} (h : Rp w (.slice a n c) l) {j : Nat} (hj : j < l.length) : ∃ b o, a = some ⟨b, o, none⟩ ∧ w.cell? ⟨b, o + j * 2, none⟩ = some (.int .i64 (l.getD j (0, 0)).1) ∧ w.cell? ⟨b, o + j * 2 + 1, none⟩ = some (.int .i64 (l.getD j (0, 0)).2) := by
  obtain ⟨a', c', e, hc⟩ := h
  injection e with e1 _ _
  subst e1
  exact hc j hj
/-- A pair: 0 alike, 1 unlike, 2 no nodes. -/
def okG (ee : Nat → Nat → Bool) (N : Nat) (p : Int × Int) : Nat := if (0 ≤ p.1 ∧ p.1 < (N : Int)) ∧ 0 ≤ p.2 ∧ p.2 < (N : Int) then (if ee p.1.toNat p.2.toNat = true then 0 else 1) else 2
theorem okG_0 {ee : Nat → Nat → Bool} {N : Nat} {p : Int × Int} (h : okG ee N p = 0) : ((0 ≤ p.1 ∧ p.1 < (N : Int)) ∧ 0 ≤ p.2 ∧ p.2 < (N : Int)) ∧ ee p.1.toNat p.2.toNat = true := by
  unfold okG at h
  split at h
  · rename_i h1
    split at h
    · rename_i h2
      exact ⟨h1, h2⟩
    · omega
  · omega
theorem okG_1 {ee : Nat → Nat → Bool} {N : Nat} {p : Int × Int} (h : okG ee N p = 1) : ((0 ≤ p.1 ∧ p.1 < (N : Int)) ∧ 0 ≤ p.2 ∧ p.2 < (N : Int)) ∧ ee p.1.toNat p.2.toNat = false := by
  unfold okG at h
  split at h
  · rename_i h1
    split at h
    · omega
    · rename_i h2
      exact ⟨h1, by simpa using h2⟩
  · omega
theorem okG_2 {ee : Nat → Nat → Bool} {N : Nat} {p : Int × Int} (h : okG ee N p = 2) : ¬ ((0 ≤ p.1 ∧ p.1 < (N : Int)) ∧ 0 ≤ p.2 ∧ p.2 < (N : Int)) := by
  unfold okG at h
  split at h
  · split at h <;> omega
  · rename_i h1
    exact h1
theorem okG_all (ee : Nat → Nat → Bool) (N : Nat) (p : Int × Int) : okG ee N p = 0 ∨ okG ee N p = 1 ∨ okG ee N p = 2 := by
  unfold okG
  split
  · split <;> omega
  · omega
theorem chkS_of {g : Gf} {ps : List (Int × Int)} (hg : Good g) (hp : PsG g ps) : chkS g ps = [] := by
  have h : ixOf (badP g.nodes.length) ps = -1 := ixOf_none _ _ (by
    rw [List.any_eq_false]
    intro p hm
    have := hp p hm
    simp [badP, strange]
    omega)
  unfold chkS
  rw [chk_of_good hg, h]
  simp
theorem solveGeneral_walk {W : World} (nv rv : Value) (g : Gf) (hG : Gr W nv rv g) (hS : Sized g) (pv : Value) (ps : List (Int × Int)) (hP : Rp W pv ps) (_zP : ps.length ≤ 9223372036854775807) (tv : Value) (tos : List Int) (hT : Ri W tv tos) (_zT : tos.length ≤ 9223372036854775807) :
    Calls Try.prog 6 #[.agg #[nv, rv], pv, tv] W fun e w' => e = .returned (.bool true) ∧ Below W.heap.size W w' := by
  obtain ⟨na, nc, rfl, _⟩ := hG.1
  obtain ⟨ra, rc, rfl, _⟩ := hG.2
  have hP0 := hP
  obtain ⟨pa, pc, rfl, _⟩ := hP0
  have hT0 := hT
  obtain ⟨ta, tc, rfl, _⟩ := hT0
  by_cases sa : smallK 120 g = true
  · have hsm := smG hG sa
    by_cases hl : 60 < ps.length
    · exact sgen_short1 hsm hl
    · by_cases hc : one (chk g) = []
      · have hg := chk_good hc
        have hh := given_good hg tos
        obtain ⟨ee, hee⟩ := al_dec (givenF g tos)
        have hN := given_len g tos
        have hck : ∀ w, Below W.heap.size W w → Calls Try.prog 25 #[.agg #[.slice na g.nodes.length nc, .slice ra g.roots.length rc]] w fun e w' => e = .returned .nilIface ∧ Below w.heap.size w w' := fun w hb => (check_any (hG.below hb) hS).mono (fun e w' ⟨⟨ev, h1, h2⟩, h3⟩ => by
          rw [hc] at h2
          have h2' : ev = .nilIface := h2
          subst h2'
          exact ⟨h1, h3⟩)
        refine sgen_main (h := givenF g tos) (ok := fun j => okG ee g.nodes.length (ps.getD j (0, 0))) (xs := fun j => (ps.getD j (0, 0)).1) (ys := fun j => (ps.getD j (0, 0)).2) hsm hl hck (fun w hb => ?_) (fun w hb j hj => rpG (hP.below hb) hj) (fun j => okG_all _ _ _) (fun w n r hq j hj ho => ?_) (fun w n r hq j hj ho => ?_) (fun w n r hq j hj ho => ?_) (fun hall w hb => ?_)
        · rw [hN, show (givenF g tos).roots.length = g.roots.length by simp [givenF]]
          exact given_any (hG.below hb) (hT.below hb) hg
        · obtain ⟨h1, h2⟩ := okG_0 ho
          have := same_pair hq hh hee (by rw [hN]; exact h1.1) (by rw [hN]; exact h1.2)
          rw [h2] at this
          exact this
        · obtain ⟨h1, h2⟩ := okG_1 ho
          have := same_pair hq hh hee (by rw [hN]; exact h1.1) (by rw [hN]; exact h1.2)
          rw [h2] at this
          exact this
        · have h1 := okG_2 ho
          by_cases h2 : 0 ≤ (ps.getD j (0, 0)).1 ∧ (ps.getD j (0, 0)).1 < (g.nodes.length : Int)
          · refine (bsame_out2 hq (good_sized hh) (chk_of_good hh) h2.1 (by rw [hN]; exact h2.2) (by rw [hN]; omega)).mono ?_
            rintro e w' ⟨⟨b, h3, _⟩, h4⟩
            exact ⟨⟨b, h3⟩, h4⟩
          · refine (bsame_out1 hq (good_sized hh) (chk_of_good hh) (by rw [hN]; omega)).mono ?_
            rintro e w' ⟨⟨b, h3, _⟩, h4⟩
            exact ⟨⟨b, h3⟩, h4⟩
        · have hgp : ∀ p ∈ ps, okG ee g.nodes.length p = 0 := fun p hm => by
            obtain ⟨i, hi, rfl⟩ := List.getElem_of_mem hm
            have := hall i hi
            simpa [List.getD, hi] using this
          have hpg : PsG g ps := fun p hm => (okG_0 (hgp p hm)).1
          have hcs := chkS_of hg hpg
          have hR : ∀ p ∈ ps.map natP, GvR g tos p.1 p.2 := fun p hm => by
            obtain ⟨q, hq, rfl⟩ := List.mem_map.1 hm
            obtain ⟨h1, h2⟩ := okG_0 (hgp q hq)
            exact gv_pair hg (by simp only [natP]; omega) (by simp only [natP]; omega) ((hee _ _).1 h2)
          refine (solve_yes (hG.below hb) hS (hP.below hb) (by omega) hcs (gv_sol hg hR)).mono ?_
          rintro e w' ⟨⟨t, na', nc', ra', rc', avs, rfl, h3, h4⟩, h2⟩
          have htg := sol_good hg h3
          refine ⟨⟨na', _, nc', ra', _, rc', rfl, fun w'' n r hb'' hq => ?_⟩, h2⟩
          exact instance_any (h4.gr.below hb'') hq (good_sized htg) (good_sized hh) (chk_of_good htg) (chk_of_good hh) true (iff_of_true rfl (gv_least hg h3 hR))
      · refine sgen_bad hsm hl (fun w hb => (check_any (hG.below hb) hS).mono ?_)
        rintro e w' ⟨⟨ev, rfl, hev⟩, h2⟩
        rcases hev.isNil with ⟨e0, _⟩ | ⟨_, b, rfl⟩
        · exact absurd e0 hc
        · exact ⟨⟨b, rfl⟩, h2⟩
  · exact sgen_short0 (smG hG (by simpa using sa))
end Go.Proofs.Ytjenkpgoggmboaa

/- Pairs of numbers among what came in. -/
namespace Go.Proofs.Ytjenkpgoggmboaa
open Go.ChangeShapes Go.WideShapes Go.ChangeAt Go.RowKit Go.Deep

theorem cellsP : Try.prog.cellsOf 52 = 2 := by kernel_rfl
theorem undP : Try.prog.underlying 52 = some (.array 2 3) := by kernel_rfl
/-- An array of two numbers, taken apart. -/
theorem pair_of_cells {H : Type} {enc : TypeId × Value → H} {W : World} {fuel : Nat} {c0 c1 : Value} {x : DataW H × List MemPlace} (h : DataW.trod enc Try.prog W 0 (fun _ => true) true fuel 52 [c0, c1] = some x) :
    ∃ a b : Int, c0 = .int .i64 a ∧ c1 = .int .i64 b := by
  cases fuel with
  | zero => simp [DataW.trod] at h
  | succ n =>
    unfold DataW.trod at h
    rw [undP] at h
    have r2 : List.range 2 = [0, 1] := rfl
    simp only [r2, cellsI] at h
    cases h0 : DataW.trod enc Try.prog W 0 (fun _ => true) true n 3 [c0] with
    | none => simp [h0] at h
    | some y0 =>
      cases h1 : DataW.trod enc Try.prog W 0 (fun _ => true) true n 3 [c1] with
      | none => simp [h0, h1] at h
      | some y1 =>
        obtain ⟨a, e0, _, _⟩ := DataW.trod_int Try.underlying3 h0
        obtain ⟨b, e1, _, _⟩ := DataW.trod_int Try.underlying3 h1
        simp at e0 e1
        exact ⟨a, b, e0, e1⟩
theorem pairs_of_cells {H : Type} {enc : TypeId × Value → H} {W : World} {fuel : Nat} {u : Value} {x : DataW H × List MemPlace} (h : DataW.trod enc Try.prog W 0 (fun _ => true) true fuel 26 [u] = some x) :
    ∃ l : List (Int × Int), Rp W u l ∧ l.length ≤ 9223372036854775807 := by
  rcases Go.Deep.open_slice Try.underlying26 h with ⟨hcs, _⟩ | ⟨ad, len, cap, m, n, D, Pl, hcs, _, hl, hm, hmm, _, hel⟩
  · simp at hcs
    subst hcs
    exact ⟨[], ⟨none, 0, rfl, fun _ h => absurd h (Nat.not_lt_zero _)⟩, by simp⟩
  · simp at hcs
    subst hcs
    simp only [if_true] at hmm
    rw [cellsP] at hel
    have each : ∀ i, ∃ p : Int × Int, i < len → W.cells? 0 (ad.add (i * 2)) 2 = some [.int .i64 p.1, .int .i64 p.2] := fun i => by
      by_cases hi : i < len
      · obtain ⟨cs', hc, ht⟩ := hel i (by omega)
        have hlen := (World.cells?_some hc).2.1
        match cs', hlen with
        | [c0, c1], _ =>
          obtain ⟨a, b, rfl, rfl⟩ := pair_of_cells ht
          exact ⟨(a, b), fun _ => hc⟩
      · exact ⟨(0, 0), fun h => absurd h hi⟩
    obtain ⟨ps, hps⟩ := Classical.axiomOfChoice each
    refine ⟨(List.range len).map ps, ⟨some ad, cap, by simp, fun j hj => ?_⟩, by simp; unfold maxLen at hm; omega⟩
    have hj' : j < len := by simpa using hj
    obtain ⟨b, off, spot⟩ := ad
    have hcj := (World.cells?_some (hps j hj')).2.2
    have hspot : spot = none := by
      have := (World.cells?_some (hps 0 (by omega))).2.2 0 (by omega)
      simp at this
      simpa [Addr.add] using World.cell?_spot this
    subst hspot
    have e : ∀ i, ((⟨b, off, none⟩ : Addr).add (j * 2)).add i = ⟨b, off + j * 2 + i, none⟩ := fun i => by rw [add_plain, add_plain]
    have hg : ((List.range len).map ps).getD j (0, 0) = ps j := by simp [List.getD, hj']
    refine ⟨b, off, rfl, ?_⟩
    rw [hg]
    constructor
    · have := hcj 0 (by omega); rw [e] at this; simpa using this
    · have := hcj 1 (by omega); rw [e] at this; simpa using this
set_option maxRecDepth 100000 in
theorem pairs_of {H : Type} {enc : TypeId × Value → H} {W : World} {base : Nat} {u : Value} {d : DataW H} {p : List MemPlace} (hv : Value.okWide Try.prog W .any base 26 u) (h : DataW.Trod enc Try.prog W 0 (fun _ => true) true 26 u d p) :
    ∃ l : List (Int × Int), Rp W u l ∧ l.length ≤ 9223372036854775807 := by
  obtain ⟨a, len, cap, rfl⟩ := okWide_slice Try.underlying26 hv
  obtain ⟨fuel, hf⟩ := h
  have hf' : DataW.trod enc Try.prog W 0 (fun _ => true) true fuel 26 [.slice a len cap] = some (d, p) := by simpa [Value.cells] using hf
  exact pairs_of_cells hf'
end Go.Proofs.Ytjenkpgoggmboaa
