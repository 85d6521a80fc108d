/- SolveSound, walked: with a solution. -/
import Derived.Test.YtjenkpgoggmboaaSEZ
import Derived.Test.YtjenkpgoggmboaaSCZ
import Derived.Test.YtjenkpgoggmboaaSBZ
import Derived.Test.YtjenkpgoggmboaaGrLaw
namespace Go.Proofs.Ytjenkpgoggmboaa
open Go.RowKit

/-- The boxes of SolveSound, kept. -/
structure Sx (W : World) (nv rv : Value) (vb : Nat) (K : Int) (vv : Value) (hb : Nat) (nh rh : Value) (t : Gf) (w : World) : Prop where
  b : Below W.heap.size W w
  g : w.heap[W.heap.size]? = some (.cells #[nv, rv] 25)
  v : w.heap[vb]? = some (.cells #[.int .i64 K, vv] 41)
  h : w.heap[hb]? = some (.cells #[nh, rh] 25)
  r : Ri w rh t.roots
theorem Sx.next {W w w' : World} {nv rv vv nh rh : Value} {vb hb : Nat} {K : Int} {t : Gf} (x : Sx W nv rv vb K vv hb nh rh t w) (k : Below w.heap.size w w') : Sx W nv rv vb K vv hb nh rh t w' :=
  ⟨x.b.trans (k.mono x.b.size), blk_next x.g k, blk_next x.v k, blk_next x.h k, x.r.below k⟩
set_option maxRecDepth 100000 in
set_option maxHeartbeats 16000000 in
theorem ssound_yes2 {W : World} {a0 a1 a2 : Option Addr} {m0 m1 m2 c0 c1 c2 : Nat} {sm ed : Nat → Bool} {t : Gf}
    (hsm : ∀ w, Below W.heap.size W w → Calls Try.prog 22 #[.agg #[.slice a0 m0 c0, .slice a1 m1 c1], .int .i64 200] w fun e w' => e = .returned (.bool true) ∧ Below w.heap.size w w') (hm : ¬ 100 < m2) (hm1 : m1 ≤ 200)
    (hve : ∀ w, Below W.heap.size W w → Calls Try.prog 15 #[.agg #[.slice a0 m0 c0, .slice a1 m1 c1], .slice a2 m2 c2] w fun e w' => (∃ va vn vc, e = .returned (.tuple #[.agg #[.int .i64 2, .slice va vn vc], .nilIface]) ∧ decide ((0 : Int) < (vn : Int)) = false) ∧ Below w.heap.size w w')
    {Q : World → Value → Prop} (hQ : ∀ w w' v, Q w v → Below w.heap.size w w' → Q w' v)
    (hwi : ∀ w, Below W.heap.size W w → Calls Try.prog 23 #[.agg #[.slice a0 m0 c0, .slice a1 m1 c1], .slice a2 m2 c2] w fun e w' => (∃ ao c, e = .returned (.agg #[.slice a0 m0 c0, .slice ao t.roots.length c]) ∧ Q w' (.slice ao t.roots.length c)) ∧ Below w.heap.size w w')
    (hso : ∀ w ao c, Below W.heap.size W w → Q w (.slice ao t.roots.length c) → Calls Try.prog 11 #[.agg #[.slice a0 m0 c0, .slice ao t.roots.length c], .slice a2 m2 c2] w fun e w' => (∃ na nn nc ra rc, e = .returned (.tuple #[.agg #[.slice na nn nc, .slice ra t.roots.length rc], .bool true, .nilIface]) ∧ Ri w' (.slice ra t.roots.length rc) t.roots ∧
      ∀ w'', Below w'.heap.size w' w'' → Calls Try.prog 18 #[.agg #[.slice a0 m0 c0, .slice ao t.roots.length c], .agg #[.slice na nn nc, .slice ra t.roots.length rc]] w'' fun e w3 => e = .returned (.tuple #[.bool true, .nilIface]) ∧ Below w''.heap.size w'' w3) ∧ Below w.heap.size w w')
    (hlen : t.roots.length = m1 + 2 * m2) (hrt : ∀ i, i < m2 → t.roots.getD (m1 + 2 * i) 0 = t.roots.getD (m1 + 2 * i + 1) 0)
    {xs ys : Nat → Int} (hpa : ∀ w, Below W.heap.size W w → ∀ j, j < m2 → ∃ b o, a2 = some ⟨b, o, none⟩ ∧ w.cell? ⟨b, o + j * 2, none⟩ = some (.int .i64 (xs j)) ∧ w.cell? ⟨b, o + j * 2 + 1, none⟩ = some (.int .i64 (ys j)))
    (hsa : ∀ w, Below W.heap.size W w → ∀ j, j < m2 → Calls Try.prog 24 #[.agg #[.slice a0 m0 c0, .slice a1 m1 c1], .int .i64 (xs j), .int .i64 (ys j)] w fun e w' => e = .returned (.tuple #[.bool (ed j), .nilIface]) ∧ Below w.heap.size w w')
    (hs0 : sm 0 = true) (hs1 : ∀ j, j < m2 → sm (j + 1) = (sm j && ed j)) (hs2 : sm m2 = true) :
    Calls Try.prog 5 #[.agg #[.slice a0 m0 c0, .slice a1 m1 c1], .slice a2 m2 c2] W fun e w' => e = .returned (.bool true) ∧ Below W.heap.size W w' := by
  have HB := hid (Ob.start W (.slice a0 m0 c0) (.slice a1 m1 c1))
  have Hsm := hid hsm
  have Hwi := hid hwi
  have Hso := hid hso
  have HQ := hid hQ
  have Hlen := hid hlen
  have Hrt := hid hrt
  have Hpa := hid hpa
  have Hsa := hid hsa
  have Hs0 := hid hs0
  have Hs1 := hid hs1
  have hm' : ¬ ((100 : Int) < (m2 : Int)) := by omega
  generalize hTR : t.roots.length = tn at *
  replace hTR := hid hTR
  have hte : ((tn : Int) == (tn : Int)) = true := by simp
  clear hsm hwi hso hQ hlen hrt hpa hsa hs0 hs1
  have Hve := hid hve
  have Hs2 := hid hs2
  clear hve hs2
  go_enter Try.func5, Try.ntmps5
  go_wp2_with (first
    | (go_at_call 9; refine (slives_any _).mono ?_; rintro e w1 ⟨rfl, hb1⟩; replace HB := hid (HB.out.next hb1); clear hb1; obtain ⟨⟨x0, x1⟩, x2⟩ := HB.out.cells)
    | (go_at_call 22; refine (Hsm.out _ HB.out.b).mono ?_; rintro e w1 ⟨rfl, hb1⟩; replace HB := hid (HB.out.next hb1); clear hb1; obtain ⟨⟨x0, x1⟩, x2⟩ := HB.out.cells)
    | (go_at_call 15; refine (Hve.out _ HB.out.b).mono ?_; rintro e w2 ⟨⟨va, vn, vc, rfl, hvn⟩, hb1⟩; replace HB := hid ((HB.out.next hb1).next (below_alloc w2 (.cells #[.int .i64 2, .slice va vn vc] 41))); have x20 := (hb1.cell (p := ⟨W.heap.size, 0, none⟩) x2).trans x0; have x21 := (hb1.cell (p := ⟨W.heap.size, 1, none⟩) x2).trans x1; have x22 := lt_of_cell x20; have HV := hid (heap_alloc_new w2 (.cells #[.int .i64 2, .slice va vn vc] 41)); clear hb1 Hve)
    | (go_at_call 23; refine (Hwi.out _ HB.out.b).mono ?_; rintro e w3 ⟨⟨wo, wc, rfl, hq3⟩, hb3⟩; replace HB := hid ((HB.out.next hb3).next (below_alloc w3 (.cells #[.slice a0 m0 c0, .slice wo tn wc] 25))); replace HV := hid (blk_next (blk_next HV.out hb3) (below_alloc w3 (.cells #[.slice a0 m0 c0, .slice wo tn wc] 25))); have HW := hid (heap_alloc_new w3 (.cells #[.slice a0 m0 c0, .slice wo tn wc] 25)); have hcs := hid (Hso.out _ wo wc HB.out.b (HQ.out _ _ _ hq3 (below_alloc w3 (.cells #[.slice a0 m0 c0, .slice wo tn wc] 25)))); clear hq3 hb3)
    | (go_at_call 11; refine hcs.out.mono ?_; rintro e w4 ⟨⟨na, nn, nc, ra, rc, rfl, hri, hin⟩, hb4⟩; replace HB := hid ((HB.out.next hb4).next (below_alloc w4 (.cells #[.slice na nn nc, .slice ra tn rc] 25))); have HV4 := blk_next HV.out hb4; obtain ⟨⟨v0, v1⟩, _⟩ := blk2y HV4; have zv := lt_of_block HV4; have HW4 := blk_next HW.out hb4; obtain ⟨⟨y0, y1⟩, _⟩ := blk2y HW4; have zw := lt_of_block HW4; have HX := hid (Sx.mk HB.out.b HB.out.x (blk_next HV4 (below_alloc w4 (.cells #[.slice na nn nc, .slice ra tn rc] 25))) (heap_alloc_new w4 (.cells #[.slice na nn nc, .slice ra tn rc] 25)) (hri.below (below_alloc w4 (.cells #[.slice na nn nc, .slice ra tn rc] 25)))); have HW5 := hid (blk_next HW4 (below_alloc w4 (.cells #[.slice na nn nc, .slice ra tn rc] 25))); have hci := hid (hin _ (below_alloc w4 (.cells #[.slice na nn nc, .slice ra tn rc] 25))); clear hb4 HV4 HW4 hri hin HV HW hcs HB)
    | (go_at_call 18; refine hci.out.mono ?_; rintro e w5 ⟨rfl, hb5⟩; replace HX := hid (HX.out.next hb5); have hw5 := blk_next HW5.out hb5; obtain ⟨⟨y2, y3⟩, _⟩ := blk2y hw5; have zw5 := lt_of_block hw5; obtain ⟨⟨u2, u3⟩, _⟩ := blk2y HX.out.h; have zh5 := lt_of_block HX.out.h; clear hb5 hw5 hci HW5))
  go_loopw [11, 95] (fun s i wr => ∃ j : Nat, j ≤ m2 ∧ i = .int .i64 (j : Int) ∧ s = .bool (sm j) ∧ Hid (Sx W (.slice a0 m0 c0) (.slice a1 m1 c1) w2.heap.size 2 (.slice va vn vc) w4.heap.size (.slice na nn nc) (.slice ra tn rc) t wr)) (fun _ i _ => m2 - (intOf i).toNat)
  case atStart => exact ⟨0, Nat.zero_le _, rfl, by rw [Hs0.out], HX⟩
  case round =>
    clear HX u2 u3 y0 y1 y2 y3 v0 v1 x0 x1 x2 x20 x21 x22 zv zw zw5 zh5
    obtain ⟨j, hj, rfl, rfl, hX⟩ := hrel
    by_cases hlt : j < m2
    · have hji : (j : Int) < (m2 : Int) := by omega
      obtain ⟨b, o, hao, p0, p1⟩ := Hpa.out wr hX.out.b j hlt
      subst hao
      have zb := lt_of_cell p0
      have hX1 := hid (hX.out.next (below_alloc wr (.cells #[.int .i64 (xs j), .int .i64 (ys j)] 52)))
      obtain ⟨⟨g0, g1⟩, _⟩ := blk2y hX.out.g
      have zg := lt_of_block hX.out.g
      obtain ⟨⟨q0, q1⟩, _⟩ := blk2y hX.out.h
      have zq := lt_of_block hX.out.h
      have hl := Hlen.out
      have htr := hTR.out
      obtain ⟨k, hk⟩ : ∃ k : Nat, k = m1 + 2 * j := ⟨_, rfl⟩
      obtain ⟨rb, ro, hra, r0⟩ := hX.out.r.at (j := k) (by omega)
      obtain ⟨rb', ro', hra', r1⟩ := hX.out.r.at (j := k + 1) (by omega)
      rw [hra] at hra'
      injection hra' with hra'
      injection hra' with e1 e2
      subst e1 e2 hra
      have hrj := Hrt.out j hlt
      rw [← hk] at hrj
      rw [← hrj] at r1
      have zr := lt_of_cell r0
      have hw1 : IntKind.i64.wrap (2 * (j : Int)) = 2 * (j : Int) := by rw [IntKind.wrap_i64]; omega
      have hw2 : IntKind.i64.wrap ((m1 : Int) + 2 * (j : Int)) = (k : Int) := by rw [IntKind.wrap_i64]; omega
      have hw3 : IntKind.i64.wrap ((k : Int) + 1) = ((k + 1 : Nat) : Int) := by rw [IntKind.wrap_i64]; omega
      have hk1 : (k : Int) < (tn : Int) := by omega
      have hk2 : ((k + 1 : Nat) : Int) < (tn : Int) := by omega
      have Hst := hid (Hs1.out j hlt)
      have Hsj := hid (fun w hw => Hsa.out w hw j hlt)
      generalize t.roots.getD k 0 = rk at *
      generalize xs j = xj at *
      generalize ys j = yj at *
      have Hk := hid hk
      clear hrj hl htr hk
      cases hsj : sm j <;> cases hej : ed j
      all_goals (
        rw [hej] at Hsj
        rw [hsj, hej] at Hst
        go_wp2
        go_quiet (fail)
        go_wp2_with (go_at_call 24; refine (Hsj.out _ (below_drewN hX1.out.b _)).mono ?_; rintro e w6 ⟨rfl, hb6⟩; have hX6 := hid ((hX1.out.next (below_drewN (Below.refl _ _) _)).next hb6); clear hb6)
        go_roundw
        case rel => exact ⟨j + 1, by omega, by go_num, by rw [Hst.out]; rfl, hX6⟩
        case measure => simp [intOf]; omega)
    · obtain rfl : j = m2 := by omega
      obtain ⟨⟨v0, v1⟩, _⟩ := blk2y hX.out.v
      have zv := lt_of_block hX.out.v
      have hsf := Hs2.out
      rw [hsf]
      clear hsf
      have hvq : decide (0 < vn) = false := by rw [← hvn]; exact decide_eq_decide.2 (by omega)
      replace hvq := hid hvq
      clear hvn
      go_wp2
      go_ret
      refine ⟨?_, hX.out.b⟩
      show Ending.returned (.bool (!decide (0 < vn))) = _
      rw [hvq.out]
      all_goals rfl
set_option maxRecDepth 100000 in
set_option maxHeartbeats 16000000 in
theorem ssound_yes3 {W : World} {a0 a1 a2 : Option Addr} {m0 m1 m2 c0 c1 c2 : Nat} {sm ed : Nat → Bool} {t : Gf}
    (hsm : ∀ w, Below W.heap.size W w → Calls Try.prog 22 #[.agg #[.slice a0 m0 c0, .slice a1 m1 c1], .int .i64 200] w fun e w' => e = .returned (.bool true) ∧ Below w.heap.size w w') (hm : ¬ 100 < m2) (hm1 : m1 ≤ 200)
    (hve : ∀ w, Below W.heap.size W w → Calls Try.prog 15 #[.agg #[.slice a0 m0 c0, .slice a1 m1 c1], .slice a2 m2 c2] w fun e w' => (∃ va vn vc, e = .returned (.tuple #[.agg #[.int .i64 3, .slice va vn vc], .nilIface]) ∧ decide ((0 : Int) < (vn : Int)) = true) ∧ Below w.heap.size w w')
    {Q : World → Value → Prop} (hQ : ∀ w w' v, Q w v → Below w.heap.size w w' → Q w' v)
    (hwi : ∀ w, Below W.heap.size W w → Calls Try.prog 23 #[.agg #[.slice a0 m0 c0, .slice a1 m1 c1], .slice a2 m2 c2] w fun e w' => (∃ ao c, e = .returned (.agg #[.slice a0 m0 c0, .slice ao t.roots.length c]) ∧ Q w' (.slice ao t.roots.length c)) ∧ Below w.heap.size w w')
    (hso : ∀ w ao c, Below W.heap.size W w → Q w (.slice ao t.roots.length c) → Calls Try.prog 11 #[.agg #[.slice a0 m0 c0, .slice ao t.roots.length c], .slice a2 m2 c2] w fun e w' => (∃ na nn nc ra rc, e = .returned (.tuple #[.agg #[.slice na nn nc, .slice ra t.roots.length rc], .bool true, .nilIface]) ∧ Ri w' (.slice ra t.roots.length rc) t.roots ∧
      ∀ w'', Below w'.heap.size w' w'' → Calls Try.prog 18 #[.agg #[.slice a0 m0 c0, .slice ao t.roots.length c], .agg #[.slice na nn nc, .slice ra t.roots.length rc]] w'' fun e w3 => e = .returned (.tuple #[.bool true, .nilIface]) ∧ Below w''.heap.size w'' w3) ∧ Below w.heap.size w w')
    (hlen : t.roots.length = m1 + 2 * m2) (hrt : ∀ i, i < m2 → t.roots.getD (m1 + 2 * i) 0 = t.roots.getD (m1 + 2 * i + 1) 0)
    {xs ys : Nat → Int} (hpa : ∀ w, Below W.heap.size W w → ∀ j, j < m2 → ∃ b o, a2 = some ⟨b, o, none⟩ ∧ w.cell? ⟨b, o + j * 2, none⟩ = some (.int .i64 (xs j)) ∧ w.cell? ⟨b, o + j * 2 + 1, none⟩ = some (.int .i64 (ys j)))
    (hsa : ∀ w, Below W.heap.size W w → ∀ j, j < m2 → Calls Try.prog 24 #[.agg #[.slice a0 m0 c0, .slice a1 m1 c1], .int .i64 (xs j), .int .i64 (ys j)] w fun e w' => e = .returned (.tuple #[.bool (ed j), .nilIface]) ∧ Below w.heap.size w w')
    (hs0 : sm 0 = true) (hs1 : ∀ j, j < m2 → sm (j + 1) = (sm j && ed j)) (hs2 : sm m2 = false) :
    Calls Try.prog 5 #[.agg #[.slice a0 m0 c0, .slice a1 m1 c1], .slice a2 m2 c2] W fun e w' => e = .returned (.bool true) ∧ Below W.heap.size W w' := by
  have HB := hid (Ob.start W (.slice a0 m0 c0) (.slice a1 m1 c1))
  have Hsm := hid hsm
  have Hwi := hid hwi
  have Hso := hid hso
  have HQ := hid hQ
  have Hlen := hid hlen
  have Hrt := hid hrt
  have Hpa := hid hpa
  have Hsa := hid hsa
  have Hs0 := hid hs0
  have Hs1 := hid hs1
  have hm' : ¬ ((100 : Int) < (m2 : Int)) := by omega
  generalize hTR : t.roots.length = tn at *
  replace hTR := hid hTR
  have hte : ((tn : Int) == (tn : Int)) = true := by simp
  clear hsm hwi hso hQ hlen hrt hpa hsa hs0 hs1
  have Hve := hid hve
  have Hs2 := hid hs2
  clear hve hs2
  go_enter Try.func5, Try.ntmps5
  go_wp2_with (first
    | (go_at_call 9; refine (slives_any _).mono ?_; rintro e w1 ⟨rfl, hb1⟩; replace HB := hid (HB.out.next hb1); clear hb1; obtain ⟨⟨x0, x1⟩, x2⟩ := HB.out.cells)
    | (go_at_call 22; refine (Hsm.out _ HB.out.b).mono ?_; rintro e w1 ⟨rfl, hb1⟩; replace HB := hid (HB.out.next hb1); clear hb1; obtain ⟨⟨x0, x1⟩, x2⟩ := HB.out.cells)
    | (go_at_call 15; refine (Hve.out _ HB.out.b).mono ?_; rintro e w2 ⟨⟨va, vn, vc, rfl, hvn⟩, hb1⟩; replace HB := hid ((HB.out.next hb1).next (below_alloc w2 (.cells #[.int .i64 3, .slice va vn vc] 41))); have x20 := (hb1.cell (p := ⟨W.heap.size, 0, none⟩) x2).trans x0; have x21 := (hb1.cell (p := ⟨W.heap.size, 1, none⟩) x2).trans x1; have x22 := lt_of_cell x20; have HV := hid (heap_alloc_new w2 (.cells #[.int .i64 3, .slice va vn vc] 41)); clear hb1 Hve)
    | (go_at_call 23; refine (Hwi.out _ HB.out.b).mono ?_; rintro e w3 ⟨⟨wo, wc, rfl, hq3⟩, hb3⟩; replace HB := hid ((HB.out.next hb3).next (below_alloc w3 (.cells #[.slice a0 m0 c0, .slice wo tn wc] 25))); replace HV := hid (blk_next (blk_next HV.out hb3) (below_alloc w3 (.cells #[.slice a0 m0 c0, .slice wo tn wc] 25))); have HW := hid (heap_alloc_new w3 (.cells #[.slice a0 m0 c0, .slice wo tn wc] 25)); have hcs := hid (Hso.out _ wo wc HB.out.b (HQ.out _ _ _ hq3 (below_alloc w3 (.cells #[.slice a0 m0 c0, .slice wo tn wc] 25)))); clear hq3 hb3)
    | (go_at_call 11; refine hcs.out.mono ?_; rintro e w4 ⟨⟨na, nn, nc, ra, rc, rfl, hri, hin⟩, hb4⟩; replace HB := hid ((HB.out.next hb4).next (below_alloc w4 (.cells #[.slice na nn nc, .slice ra tn rc] 25))); have HV4 := blk_next HV.out hb4; obtain ⟨⟨v0, v1⟩, _⟩ := blk2y HV4; have zv := lt_of_block HV4; have HW4 := blk_next HW.out hb4; obtain ⟨⟨y0, y1⟩, _⟩ := blk2y HW4; have zw := lt_of_block HW4; have HX := hid (Sx.mk HB.out.b HB.out.x (blk_next HV4 (below_alloc w4 (.cells #[.slice na nn nc, .slice ra tn rc] 25))) (heap_alloc_new w4 (.cells #[.slice na nn nc, .slice ra tn rc] 25)) (hri.below (below_alloc w4 (.cells #[.slice na nn nc, .slice ra tn rc] 25)))); have HW5 := hid (blk_next HW4 (below_alloc w4 (.cells #[.slice na nn nc, .slice ra tn rc] 25))); have hci := hid (hin _ (below_alloc w4 (.cells #[.slice na nn nc, .slice ra tn rc] 25))); clear hb4 HV4 HW4 hri hin HV HW hcs HB)
    | (go_at_call 18; refine hci.out.mono ?_; rintro e w5 ⟨rfl, hb5⟩; replace HX := hid (HX.out.next hb5); have hw5 := blk_next HW5.out hb5; obtain ⟨⟨y2, y3⟩, _⟩ := blk2y hw5; have zw5 := lt_of_block hw5; obtain ⟨⟨u2, u3⟩, _⟩ := blk2y HX.out.h; have zh5 := lt_of_block HX.out.h; clear hb5 hw5 hci HW5))
  go_loopw [11, 95] (fun s i wr => ∃ j : Nat, j ≤ m2 ∧ i = .int .i64 (j : Int) ∧ s = .bool (sm j) ∧ Hid (Sx W (.slice a0 m0 c0) (.slice a1 m1 c1) w2.heap.size 3 (.slice va vn vc) w4.heap.size (.slice na nn nc) (.slice ra tn rc) t wr)) (fun _ i _ => m2 - (intOf i).toNat)
  case atStart => exact ⟨0, Nat.zero_le _, rfl, by rw [Hs0.out], HX⟩
  case round =>
    clear HX u2 u3 y0 y1 y2 y3 v0 v1 x0 x1 x2 x20 x21 x22 zv zw zw5 zh5
    obtain ⟨j, hj, rfl, rfl, hX⟩ := hrel
    by_cases hlt : j < m2
    · have hji : (j : Int) < (m2 : Int) := by omega
      obtain ⟨b, o, hao, p0, p1⟩ := Hpa.out wr hX.out.b j hlt
      subst hao
      have zb := lt_of_cell p0
      have hX1 := hid (hX.out.next (below_alloc wr (.cells #[.int .i64 (xs j), .int .i64 (ys j)] 52)))
      obtain ⟨⟨g0, g1⟩, _⟩ := blk2y hX.out.g
      have zg := lt_of_block hX.out.g
      obtain ⟨⟨q0, q1⟩, _⟩ := blk2y hX.out.h
      have zq := lt_of_block hX.out.h
      have hl := Hlen.out
      have htr := hTR.out
      obtain ⟨k, hk⟩ : ∃ k : Nat, k = m1 + 2 * j := ⟨_, rfl⟩
      obtain ⟨rb, ro, hra, r0⟩ := hX.out.r.at (j := k) (by omega)
      obtain ⟨rb', ro', hra', r1⟩ := hX.out.r.at (j := k + 1) (by omega)
      rw [hra] at hra'
      injection hra' with hra'
      injection hra' with e1 e2
      subst e1 e2 hra
      have hrj := Hrt.out j hlt
      rw [← hk] at hrj
      rw [← hrj] at r1
      have zr := lt_of_cell r0
      have hw1 : IntKind.i64.wrap (2 * (j : Int)) = 2 * (j : Int) := by rw [IntKind.wrap_i64]; omega
      have hw2 : IntKind.i64.wrap ((m1 : Int) + 2 * (j : Int)) = (k : Int) := by rw [IntKind.wrap_i64]; omega
      have hw3 : IntKind.i64.wrap ((k : Int) + 1) = ((k + 1 : Nat) : Int) := by rw [IntKind.wrap_i64]; omega
      have hk1 : (k : Int) < (tn : Int) := by omega
      have hk2 : ((k + 1 : Nat) : Int) < (tn : Int) := by omega
      have Hst := hid (Hs1.out j hlt)
      have Hsj := hid (fun w hw => Hsa.out w hw j hlt)
      generalize t.roots.getD k 0 = rk at *
      generalize xs j = xj at *
      generalize ys j = yj at *
      have Hk := hid hk
      clear hrj hl htr hk
      cases hsj : sm j <;> cases hej : ed j
      all_goals (
        rw [hej] at Hsj
        rw [hsj, hej] at Hst
        go_wp2
        go_quiet (fail)
        go_wp2_with (go_at_call 24; refine (Hsj.out _ (below_drewN hX1.out.b _)).mono ?_; rintro e w6 ⟨rfl, hb6⟩; have hX6 := hid ((hX1.out.next (below_drewN (Below.refl _ _) _)).next hb6); clear hb6)
        go_roundw
        case rel => exact ⟨j + 1, by omega, by go_num, by rw [Hst.out]; rfl, hX6⟩
        case measure => simp [intOf]; omega)
    · obtain rfl : j = m2 := by omega
      obtain ⟨⟨v0, v1⟩, _⟩ := blk2y hX.out.v
      have zv := lt_of_block hX.out.v
      have hsf := Hs2.out
      rw [hsf]
      clear hsf
      have hvq : decide (0 < vn) = true := by rw [← hvn]; exact decide_eq_decide.2 (by omega)
      replace hvq := hid hvq
      clear hvn
      go_wp2
      go_ret
      refine ⟨?_, hX.out.b⟩
      show Ending.returned (.bool (decide (0 < vn))) = _
      rw [hvq.out]
      all_goals rfl
end Go.Proofs.Ytjenkpgoggmboaa

/- SolveSound, at any graph and pairs. -/
namespace Go.Proofs.Ytjenkpgoggmboaa
open Go.RowKit

theorem smA {W : World} {K : Nat} (hK : K ≤ 5000) {n r : Value} {g : Gf} (hG : Gr W n r g) {b : Bool} (h : smallK K g = b) (w : World) (hb : Below W.heap.size W w) :
    Calls Try.prog 22 #[.agg #[n, r], .int .i64 (K : Int)] w fun e w' => e = .returned (.bool b) ∧ Below w.heap.size w w' := by
  rw [← h]
  exact smallK_any hK (hG.below hb)
theorem rp_cells {w : World} {a : Option Addr} {n c : Nat} {l : List (Int × Int)} (h : Rp w (.slice a n c) l) {j : Nat} (hj : j < l.length) : ∃ b o, a = some ⟨b, o, none⟩ ∧ w.cell? ⟨b, o + j * 2, none⟩ = some (.int .i64 (l.getD j (0, 0)).1) ∧ w.cell? ⟨b, o + j * 2 + 1, none⟩ = some (.int .i64 (l.getD j (0, 0)).2) := by
  obtain ⟨a', c', e, hc⟩ := h
  injection e with e1 _ _
  subst e1
  exact hc j hj
theorem leastS_of {g : Gf} {ps : List (Int × Int)} {E : Nat → Nat} (hU : Un g.nodes (ps.map natP) E []) : ∃ t, LeastS g ps t := by
  obtain ⟨ee, hd⟩ := al_dec (gE g.nodes g.roots E)
  exact ⟨_, E, ee, hU, hd, rfl⟩
theorem solveSound_walk {W : World} (nv rv : Value) (g : Gf) (hG : Gr W nv rv g) (hS : Sized g) (pv : Value) (ps : List (Int × Int)) (hP : Rp W pv ps) (_zP : ps.length ≤ 9223372036854775807) :
    Calls Try.prog 5 #[.agg #[nv, rv], pv] W fun e w' => e = .returned (.bool true) ∧ Below W.heap.size W w' := by
  obtain ⟨na, nc, rfl, _⟩ := hG.1
  obtain ⟨ra, rc, rfl, _⟩ := hG.2
  have hP0 := hP
  obtain ⟨pa, pc, rfl, _⟩ := hP0
  by_cases sa : smallK 200 g = true
  · have hsm := smA (K := 200) (by omega) hG sa
    obtain ⟨_, _, hr⟩ := smallK_fits sa
    by_cases hl : 100 < ps.length
    · exact ssound_short1 hsm hl
    · by_cases hc : chkS g ps = []
      · obtain ⟨hgd, hpg⟩ := chkS_good hc
        obtain ⟨hwg, hwc⟩ := with_good hc hr (by omega)
        have hwi : ∀ w, Below W.heap.size W w → _ := fun w hb => with_any (hG.below hb) (hP.below hb) (by omega) (by omega)
        by_cases hn : NoSol g.nodes (ps.map natP)
        · refine ssound_no (Q := fun w v => Ri w v (withR g.roots ps)) (fun w w' v h hb => h.below hb) hsm hl (fun w hb => verdict_no (hG.below hb) hS (hP.below hb) (by omega) hc hn) (fun w hb => (hwi w hb).mono (fun e w' ⟨⟨ao, c, h1, h2⟩, h3⟩ => ⟨⟨ao, _, c, h1, h2⟩, h3⟩)) (fun w ao n c hb hq => ?_)
          exact solve_no (g := ⟨g.nodes, withR g.roots ps⟩) ⟨(hG.below hb).1, hq⟩ (good_sized hwg) (hP.below hb) (by omega) hwc hn
        · obtain ⟨ee, hee⟩ := al_dec g
          obtain ⟨E0, hU0⟩ : ∃ E, Un g.nodes (ps.map natP) E [] := by
            rcases un_all (goodA_of hgd) _ (ps.map natP) rfl (fun p hm => by
              obtain ⟨q, hq, rfl⟩ := List.mem_map.1 hm
              obtain ⟨h1, h2⟩ := hpg q hq
              simp only [natP]
              omega) with h | h
            · exact h
            · exact absurd h hn
          obtain ⟨t, ht⟩ := leastS_of (g := ⟨g.nodes, withR g.roots ps⟩) hU0
          obtain ⟨hrl, hrp⟩ := sol_pairs (g := g) ht
          have hin := sol_ins hwg ht
          have htg := sol_good hwg ht
          have hlen : t.roots.length = g.roots.length + 2 * ps.length := by rw [hrl, withR_len]
          have hwi2 : ∀ w, Below W.heap.size W w → Calls Try.prog 23 #[.agg #[.slice na g.nodes.length nc, .slice ra g.roots.length rc], .slice pa ps.length pc] w fun e w' => (∃ ao c, e = .returned (.agg #[.slice na g.nodes.length nc, .slice ao t.roots.length c]) ∧ Ri w' (.slice ao t.roots.length c) (withR g.roots ps)) ∧ Below w.heap.size w w' := fun w hb => by
            rw [hrl]
            exact hwi w hb
          have hso : ∀ w ao c, Below W.heap.size W w → Ri w (.slice ao t.roots.length c) (withR g.roots ps) → Calls Try.prog 11 #[.agg #[.slice na g.nodes.length nc, .slice ao t.roots.length c], .slice pa ps.length pc] w fun e w' => (∃ na' nn nc' ra' rc', e = .returned (.tuple #[.agg #[.slice na' nn nc', .slice ra' t.roots.length rc'], .bool true, .nilIface]) ∧ Ri w' (.slice ra' t.roots.length rc') t.roots ∧ ∀ w'', Below w'.heap.size w' w'' → Calls Try.prog 18 #[.agg #[.slice na g.nodes.length nc, .slice ao t.roots.length c], .agg #[.slice na' nn nc', .slice ra' t.roots.length rc']] w'' fun e w3 => e = .returned (.tuple #[.bool true, .nilIface]) ∧ Below w''.heap.size w'' w3) ∧ Below w.heap.size w w' := fun w ao c hb hq => by
            refine (solve_yes (g := ⟨g.nodes, withR g.roots ps⟩) ⟨(hG.below hb).1, hq⟩ (good_sized hwg) (hP.below hb) (by omega) hwc hn).mono ?_
            rintro e w' ⟨⟨t', na', nc', ra', rc', avs, rfl, h3, h4⟩, h2⟩
            obtain rfl : t' = t := leastS_uniq hwg (fun R _ => Iff.rfl) h3 ht
            refine ⟨⟨na', _, nc', ra', rc', rfl, h4.gr.2, fun w'' hb'' => ?_⟩, h2⟩
            exact instance_any (p := ⟨g.nodes, withR g.roots ps⟩) ⟨((hG.below hb).1.below h2).below hb'', (hq.below h2).below hb''⟩ (h4.gr.below hb'') (good_sized hwg) (good_sized htg) (chk_of_good hwg) (chk_of_good htg) true (iff_of_true rfl hin)
          have hpa : ∀ w, Below W.heap.size W w → ∀ j, j < ps.length → ∃ b o, pa = some ⟨b, o, none⟩ ∧ w.cell? ⟨b, o + j * 2, none⟩ = some (.int .i64 (ps.getD j (0, 0)).1) ∧ w.cell? ⟨b, o + j * 2 + 1, none⟩ = some (.int .i64 (ps.getD j (0, 0)).2) := fun w hb j hj => rp_cells (hP.below hb) hj
          have hsa : ∀ w, Below W.heap.size W w → ∀ j, j < ps.length → Calls Try.prog 24 #[.agg #[.slice na g.nodes.length nc, .slice ra g.roots.length rc], .int .i64 (ps.getD j (0, 0)).1, .int .i64 (ps.getD j (0, 0)).2] w fun e w' => e = .returned (.tuple #[.bool (ee (ps.getD j (0, 0)).1.toNat (ps.getD j (0, 0)).2.toNat), .nilIface]) ∧ Below w.heap.size w w' := fun w hb j hj => by
            obtain ⟨h1, h2⟩ := hpg _ (pairD_mem hj)
            exact same_pair (hG.below hb) hgd hee h1 h2
          have hve : ∀ w, Below W.heap.size W w → _ := fun w hb => verdict_yes (hG.below hb) hS (hP.below hb) (by omega) hc hn
          cases hal : alP ee ps ps.length with
          | true =>
            refine ssound_yes2 (t := t) (sm := alP ee ps) (ed := fun j => ee (ps.getD j (0, 0)).1.toNat (ps.getD j (0, 0)).2.toNat) (xs := fun j => (ps.getD j (0, 0)).1) (ys := fun j => (ps.getD j (0, 0)).2) (Q := fun w v => Ri w v (withR g.roots ps)) hsm hl hr (fun w hb => ?_) (fun w w' v h hb => h.below hb) hwi2 hso hlen hrp hpa hsa rfl (fun j _ => rfl) hal
            refine (hve w hb).mono ?_
            rintro e w' ⟨⟨E, ao, c, hU, rfl, _⟩, h2⟩
            have h0 := (alP_hang hc hU hee).1 hal
            rw [h0]
            exact ⟨⟨ao, _, c, rfl, rfl⟩, h2⟩
          | false =>
            refine ssound_yes3 (t := t) (sm := alP ee ps) (ed := fun j => ee (ps.getD j (0, 0)).1.toNat (ps.getD j (0, 0)).2.toNat) (xs := fun j => (ps.getD j (0, 0)).1) (ys := fun j => (ps.getD j (0, 0)).2) (Q := fun w v => Ri w v (withR g.roots ps)) hsm hl hr (fun w hb => ?_) (fun w w' v h hb => h.below hb) hwi2 hso hlen hrp hpa hsa rfl (fun j _ => rfl) hal
            refine (hve w hb).mono ?_
            rintro e w' ⟨⟨E, ao, c, hU, rfl, _⟩, h2⟩
            have h0 : ¬ (hangF g.nodes E g.nodes.length).length = 0 := fun h => by
              have := (alP_hang hc hU hee).2 (List.eq_nil_of_length_eq_zero h)
              rw [hal] at this
              exact absurd this (by decide)
            rw [if_neg h0]
            exact ⟨⟨ao, _, c, rfl, by rw [decide_eq_true_iff]; omega⟩, h2⟩
      · refine ssound_bad hsm hl (fun w hb => (verdict_bad (hG.below hb) hS (hP.below hb) (by omega) hc).mono ?_)
        rintro e w' ⟨⟨ev, rfl, hev⟩, h2⟩
        rcases hev.isNil with ⟨e0, _⟩ | ⟨_, b, rfl⟩
        · exact absurd e0 hc
        · exact ⟨⟨b, rfl⟩, h2⟩
  · exact ssound_short0 (smA (K := 200) (by omega) hG (by simpa using sa))
end Go.Proofs.Ytjenkpgoggmboaa

/- Pairs of numbers among what came in. -/
namespace Go.Proofs.Ytjenkpgoggmboaa
open Go.ChangeShapes Go.WideShapes Go.ChangeAt Go.RowKit Go.Deep

theorem cellsP : Try.prog.cellsOf 52 = 2 := by kernel_rfl
theorem undP : Try.prog.underlying 52 = some (.array 2 3) := by kernel_rfl
/-- An array of two numbers, taken apart. -/
theorem pair_of_cells {H : Type} {enc : TypeId × Value → H} {W : World} {fuel : Nat} {c0 c1 : Value} {x : DataW H × List MemPlace} (h : DataW.trod enc Try.prog W 0 (fun _ => true) true fuel 52 [c0, c1] = some x) :
    ∃ a b : Int, c0 = .int .i64 a ∧ c1 = .int .i64 b := by
  cases fuel with
  | zero => simp [DataW.trod] at h
  | succ n =>
    unfold DataW.trod at h
    rw [undP] at h
    have r2 : List.range 2 = [0, 1] := rfl
    simp only [r2, cellsI] at h
    cases h0 : DataW.trod enc Try.prog W 0 (fun _ => true) true n 3 [c0] with
    | none => simp [h0] at h
    | some y0 =>
      cases h1 : DataW.trod enc Try.prog W 0 (fun _ => true) true n 3 [c1] with
      | none => simp [h0, h1] at h
      | some y1 =>
        obtain ⟨a, e0, _, _⟩ := DataW.trod_int Try.underlying3 h0
        obtain ⟨b, e1, _, _⟩ := DataW.trod_int Try.underlying3 h1
        simp at e0 e1
        exact ⟨a, b, e0, e1⟩
theorem pairs_of_cells {H : Type} {enc : TypeId × Value → H} {W : World} {fuel : Nat} {u : Value} {x : DataW H × List MemPlace} (h : DataW.trod enc Try.prog W 0 (fun _ => true) true fuel 26 [u] = some x) :
    ∃ l : List (Int × Int), Rp W u l ∧ l.length ≤ 9223372036854775807 := by
  rcases Go.Deep.open_slice Try.underlying26 h with ⟨hcs, _⟩ | ⟨ad, len, cap, m, n, D, Pl, hcs, _, hl, hm, hmm, _, hel⟩
  · simp at hcs
    subst hcs
    exact ⟨[], ⟨none, 0, rfl, fun _ h => absurd h (Nat.not_lt_zero _)⟩, by simp⟩
  · simp at hcs
    subst hcs
    simp only [if_true] at hmm
    rw [cellsP] at hel
    have each : ∀ i, ∃ p : Int × Int, i < len → W.cells? 0 (ad.add (i * 2)) 2 = some [.int .i64 p.1, .int .i64 p.2] := fun i => by
      by_cases hi : i < len
      · obtain ⟨cs', hc, ht⟩ := hel i (by omega)
        have hlen := (World.cells?_some hc).2.1
        match cs', hlen with
        | [c0, c1], _ =>
          obtain ⟨a, b, rfl, rfl⟩ := pair_of_cells ht
          exact ⟨(a, b), fun _ => hc⟩
      · exact ⟨(0, 0), fun h => absurd h hi⟩
    obtain ⟨ps, hps⟩ := Classical.axiomOfChoice each
    refine ⟨(List.range len).map ps, ⟨some ad, cap, by simp, fun j hj => ?_⟩, by simp; unfold maxLen at hm; omega⟩
    have hj' : j < len := by simpa using hj
    obtain ⟨b, off, spot⟩ := ad
    have hcj := (World.cells?_some (hps j hj')).2.2
    have hspot : spot = none := by
      have := (World.cells?_some (hps 0 (by omega))).2.2 0 (by omega)
      simp at this
      simpa [Addr.add] using World.cell?_spot this
    subst hspot
    have e : ∀ i, ((⟨b, off, none⟩ : Addr).add (j * 2)).add i = ⟨b, off + j * 2 + i, none⟩ := fun i => by rw [add_plain, add_plain]
    have hg : ((List.range len).map ps).getD j (0, 0) = ps j := by simp [List.getD, hj']
    refine ⟨b, off, rfl, ?_⟩
    rw [hg]
    constructor
    · have := hcj 0 (by omega); rw [e] at this; simpa using this
    · have := hcj 1 (by omega); rw [e] at this; simpa using this
set_option maxRecDepth 100000 in
theorem pairs_of {H : Type} {enc : TypeId × Value → H} {W : World} {base : Nat} {u : Value} {d : DataW H} {p : List MemPlace} (hv : Value.okWide Try.prog W .any base 26 u) (h : DataW.Trod enc Try.prog W 0 (fun _ => true) true 26 u d p) :
    ∃ l : List (Int × Int), Rp W u l ∧ l.length ≤ 9223372036854775807 := by
  obtain ⟨a, len, cap, rfl⟩ := okWide_slice Try.underlying26 hv
  obtain ⟨fuel, hf⟩ := h
  have hf' : DataW.trod enc Try.prog W 0 (fun _ => true) true fuel 26 [.slice a len cap] = some (d, p) := by simpa [Value.cells] using hf
  exact pairs_of_cells hf'
end Go.Proofs.Ytjenkpgoggmboaa
