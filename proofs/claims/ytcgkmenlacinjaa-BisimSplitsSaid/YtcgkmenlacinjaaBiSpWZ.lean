/- BisimSplits, inside. -/
import Derived.Test.YtcgkmenlacinjaaBiSpCZ
import Derived.Deep.AppendLies
import Derived.Deep.QuietTactic
import Derived.BigQuiet
namespace Go.Proofs.Ytcgkmenlacinjaa
open Go.RowKit

/-- The other name. -/
abbrev quiteN : ByteArray := ⟨#[113, 117, 105, 116, 101, 45, 97, 110, 111, 116, 104, 101, 114, 45, 110, 97, 109, 101]⟩
set_option maxRecDepth 100000 in
set_option maxHeartbeats 8000000 in
theorem splits_in {W : World} {nv rv : Value} {g : Gf} (x : Nat) (hG : Gr W nv rv g) (hS : Sized g) (hs : smallK 150 g = true) (hb : one (chk g) = []) (hx : x < (metF g).length) (nc rc : List Value) (N R nb no ncap rb ro rcap : Nat) (env : nv = .slice (some ⟨nb, no, none⟩) N ncap) (erv : rv = .slice (some ⟨rb, ro, none⟩) R rcap)
    (hnb : nb < W.heap.size) (hrb : rb < W.heap.size) (hncl : nc.length = N * 4) (hrcl : rc.length = R * 1) (hncc : ∀ j u, nc[j]? = some u → W.cell? ⟨nb, no + j, none⟩ = some u) (hrcc : ∀ j u, rc[j]? = some u → W.cell? ⟨rb, ro + j, none⟩ = some u) (hnc1 : ∀ u ∈ nc, u.oneCell' = true) (hrc1 : ∀ u ∈ rc, u.oneCell' = true) (hN0 : 0 < N) (hR0 : 0 < R) (hN : N ≤ 150) (hR : R ≤ 150) (k : Nat) (kd : Int) (hk : (metF g).getD x 0 = (k : Int)) (hkN : k < N) (hNg : N = g.nodes.length) (hRg : R = g.roots.length) (hcu : Cu W (fun k => nc[k]?) g.nodes) (hrc : rc = g.roots.map (Value.int .i64)) (hkd : (g.nodes.getD k nd0).kind = kd) (hsz : Hid ((g.nodes.getD k nd0).name.size ≤ 9223372036854775807))
    (hA : Hid (∀ (n : Nd) (w : World) (mv sv : Value), n.args = (g.nodes.getD k nd0).args → n.name.size ≤ 9223372036854775807 → Below W.heap.size W w → Gr w mv sv (setNd g k n) → Calls Try.prog 20 #[.agg #[nv, rv], .agg #[mv, sv]] w fun e w' => e = .returned (.bool (eqG g (setNd g k n))) ∧ Below w.heap.size w w'))
    (hE : Hid (∀ (n : Nd) (w : World) (mv sv : Value), Below W.heap.size W w → Gr w mv sv (setNd g k n) → Calls Try.prog 26 #[.agg #[nv, rv], .agg #[mv, sv]] w fun e w' => e = .returned (.bool (eqG g (setNd g k n))) ∧ Below w.heap.size w w')) :
    Calls Try.prog 6 #[.agg #[nv, rv], .int .i64 (x : Int)] W fun e w' => e = .returned (.bool true) ∧ Below W.heap.size W w' := by
  have hb0 := below_alloc W (.cells #[nv, rv] 25)
  have hsm := hid (fun w1 (h : Below W.heap.size W w1) => smallK_any (K := 150) (by omega) (hG.below h))
  rw [hs] at hsm
  have hck := hid (fun w2 (h : Below W.heap.size W w2) => reach_good (hG.below h) hS hb)
  have hbx := heap_alloc_new W (.cells #[nv, rv] 25)
  have hlm : (metF g).length ≤ 4096 := by
    have h1 := (met_ok (chk_good hb)).le
    have h2 := (chk_good hb).nodes
    omega
  clear hG hb
  generalize metF g = L at *
  have hM : ∃ M, L.length = M := ⟨_, rfl⟩
  obtain ⟨M, hM⟩ := hM
  rw [hM] at hck hx hlm
  have hzi : ((M : Int) == 0) = false := beq_eq_false_iff_ne.2 (by omega)
  have d1 : decide ((x : Int) < 0) = false := decide_eq_false (by omega)
  have d2 : decide (M ≤ x) = false := decide_eq_false (by omega)
  replace hM := hid hM
  replace env := hid env
  replace hk := hid hk
  replace hNg := hid hNg
  replace hRg := hid hRg
  replace hcu := hid hcu
  replace hrc := hid hrc
  replace hkd := hid hkd
  replace erv := hid erv
  replace hncl := hid hncl
  replace hrcl := hid hrcl
  go_enter Try.func6, Try.ntmps6
  go_wp2_with (first
    | (go_at_call 8; refine (lives_any (W.alloc _)).mono ?_; rintro e w1 ⟨rfl, hb1⟩; have hB := Below.next hb0 hb1; have k1 := (hb1.block W.heap.size (by simp)).trans hbx; obtain ⟨⟨x0, x1⟩, _⟩ := blk2 k1)
    | (go_at_call 21; refine (hsm.out w1 hB).mono ?_; rintro e w2 ⟨rfl, hb2⟩; have hB2 := Below.next hB hb2; have k2 := (hb2.block W.heap.size (lt_of_block k1)).trans k1; obtain ⟨⟨x0, x1⟩, _⟩ := blk2 k2)
    | (go_at_call 28; refine (hck.out w2 hB2).mono ?_; rintro e w3 ⟨⟨ao, c, rfl, hO⟩, hb3⟩; have hB3 := Below.next hB2 hb3; have k3 := (hb3.block W.heap.size (lt_of_block k2)).trans k2; obtain ⟨⟨x0, x1⟩, _⟩ := blk2 k3))
  have zw := hB3.size
  replace hncc : ∀ j u, nc[j]? = some u → w3.cell? ⟨nb, no + j, none⟩ = some u := fun j u hu => (hB3.cell (p := ⟨nb, no + j, none⟩) hnb).trans (hncc j u hu)
  replace hrcc : ∀ j u, rc[j]? = some u → w3.cell? ⟨rb, ro + j, none⟩ = some u := fun j u hu => (hB3.cell (p := ⟨rb, ro + j, none⟩) hrb).trans (hrcc j u hu)
  replace hnb : nb < w3.heap.size := by omega
  replace hrb : rb < w3.heap.size := by omega
  obtain ⟨in1, hn1, hny0, hny1, hny2⟩ := info_parts infoN
  obtain ⟨ii1, hi1, hiy0, hiy1, hiy2⟩ := info_parts infoI
  replace hncl := hncl.out
  replace hrcl := hrcl.out
  refine wp_region_any (by kernel_rfl) ?_
  refine wpAny_inv (fun l a w => l.size = 11 ∧ ∃ x39 x40 x41 x42 x43 x44 x45 x46 x47 x7, a = (⟨#[.agg #[nv, rv], .int .i64 (x : Int), .pointer (some ⟨W.heap.size, 0, none⟩), undef, .bool false, .slice ao M c, .nilIface, x7, undef, .bool true, .bool false, .bool false, .agg #[nv, rv], .bool true, .bool false, .bool false, undef, .tuple #[.slice ao M c, .nilIface], .agg #[nv, rv], .tuple #[.slice ao M c, .nilIface], .slice ao M c, .nilIface, .nilIface, .bool false, .bool false, .slice ao M c, .int .i64 M, .bool false, .bool false, .bool false, .int .i64 (x : Int), .bool false, .bool false, .bool false, .int .i64 (x : Int), .slice ao M c, .int .i64 M, .bool false, .bool false, x39, x40, x41, x42, x43, x44, x45, x46, x47, undef, undef, undef, undef, undef, undef, undef, undef, undef, undef, undef, undef, undef, undef, undef, undef, undef, undef, undef, undef, undef, undef, undef, undef, undef, undef, undef, undef], []⟩ : Act) ∧ Spl { w3 with drawn := w3.drawn + 1 } W.heap.size nv rv nc rc N R (l.getD 0 false) (l.getD 1 false) (l.getD 2 false) (l.getD 3 false) (l.getD 4 false) (l.getD 5 false) (l.getD 6 false) (l.getD 7 false) (l.getD 8 false) (l.getD 9 false) (l.getD 10 false) x39 x40 x41 x42 x43 x44 x45 x46 x47 x7 w) ?_ ?_ _ _ _ _ (by decide) ?_
  case refine_3 =>
    refine ⟨by simp, undef, undef, undef, undef, undef, undef, undef, undef, undef, undef, ?_, ?_⟩
    · rfl
    · exact ⟨Below.refl _ _, nofun, nofun, nofun, nofun, nofun, nofun, nofun, nofun, nofun, nofun, nofun⟩
  case refine_1 =>
    rintro l a w ⟨hl, x39, x40, x41, x42, x43, x44, x45, x46, x47, x7, rfl, hsp⟩ i hi
    obtain ⟨i1, i2, i3⟩ := ready_spec hi
    have hi11 : i < 11 := i1
    have zq : W.heap.size < w3.heap.size := lt_of_block k3
    have y0 : w.cell? ⟨W.heap.size, 0, none⟩ = some nv := (hsp.b.cell (p := ⟨W.heap.size, 0, none⟩) zq).trans x0
    have y1 : w.cell? ⟨W.heap.size, 1, none⟩ = some rv := (hsp.b.cell (p := ⟨W.heap.size, 1, none⟩) zq).trans x1
    rw [← gopp hl hi11] at i2
    clear hi i1
    have hcs : i = 0 ∨ i = 1 ∨ i = 2 ∨ i = 3 ∨ i = 4 ∨ i = 5 ∨ i = 6 ∨ i = 7 ∨ i = 8 ∨ i = 9 ∨ i = 10 := by omega
    rcases hcs with rfl | rfl | rfl | rfl | rfl | rfl | rfl | rfl | rfl | rfl | rfl
    · rw [i2] at hsp
      refine wpOp_step rfl (fun K hK => ?_)
      go_simp
      refine hK _ _ ⟨by simpa using hl, _, _, _, _, _, _, _, _, _, _, rfl, ?_⟩
      simp only [gset l 0 _ hl (by decide)]
      exact hsp.s0 (below_alloc w _) (own_empty w hsp.b.size)
    · rw [i2] at hsp
      refine wpOp_step rfl (fun K hK => ?_)
      go_simp
      refine hK _ _ ⟨by simpa using hl, _, _, _, _, _, _, _, _, _, _, rfl, ?_⟩
      simp only [gset l 1 _ hl (by decide)]
      exact hsp.s1
    · have i4 : l.getD 1 false = true := by simpa [Region.binds] using i3
      have e1 := hsp.e1 i4
      subst e1
      rw [i2] at hsp
      refine wpOp_step rfl (fun K hK => ?_)
      go_simp
      refine hK _ _ ⟨by simpa using hl, _, _, _, _, _, _, _, _, _, _, rfl, ?_⟩
      simp only [gset l 2 _ hl (by decide)]
      exact hsp.s2
    · have i4 : l.getD 0 false = true ∧ l.getD 2 false = true := by simpa [Region.binds] using i3
      have e2 := (hsp.e2 i4.2).trans env.out
      subst e2
      rw [i2, i4.1] at hsp
      refine wpOp_step rfl (fun K hK => ?_)
      refine step_append_lies _ (by rfl) _ _ _ (by rfl) w3.heap.size 48 in1 (.agg #[.int .i64 0, .string ⟨#[]⟩, .int .i64 0, .slice none 0 0]) 4 56 Try.underlying22 hn1 hny0 hny1 hny2 rfl (by omega) _ 0 [] (by rfl) (hsp.e0 rfl rfl) ⟨nb, no, none⟩ N ncap nc (by rfl) hncl (fun j u hu => by rw [Addr.add_lit, hsp.b.cell (p := ⟨nb, no + j, none⟩) hnb]; exact hncc j u hu) hnc1 hN0 (by unfold maxLen; omega) (by omega) hsp.b.size _ rfl ?_
      intro gg cap w5 hown5 hgr _ _
      rw [Nat.zero_add] at hown5 ⊢
      rw [List.nil_append] at hown5
      refine hK _ _ ⟨by simpa using hl, _, _, _, _, _, _, _, _, _, _, rfl, ?_⟩
      simp only [gset l 3 _ hl (by decide), i4.1]
      exact hsp.s3 hgr hown5
    · rw [i2] at hsp
      refine wpOp_step rfl (fun K hK => ?_)
      go_simp
      refine hK _ _ ⟨by simpa using hl, _, _, _, _, _, _, _, _, _, _, rfl, ?_⟩
      simp only [gset l 4 _ hl (by decide)]
      exact hsp.s4 (below_alloc w _) (own_empty w hsp.b.size)
    · rw [i2] at hsp
      refine wpOp_step rfl (fun K hK => ?_)
      go_simp
      refine hK _ _ ⟨by simpa using hl, _, _, _, _, _, _, _, _, _, _, rfl, ?_⟩
      simp only [gset l 5 _ hl (by decide)]
      exact hsp.s5
    · have i4 : l.getD 5 false = true := by simpa [Region.binds] using i3
      have e1 := hsp.e5 i4
      subst e1
      rw [i2] at hsp
      refine wpOp_step rfl (fun K hK => ?_)
      go_simp
      refine hK _ _ ⟨by simpa using hl, _, _, _, _, _, _, _, _, _, _, rfl, ?_⟩
      simp only [gset l 6 _ hl (by decide)]
      exact hsp.s6
    · have i4 : l.getD 4 false = true ∧ l.getD 6 false = true := by
        simp [Region.binds] at i3
        exact ⟨by simpa using i3.1, by simpa using i3.2.1⟩
      have e2 := (hsp.e6 i4.2).trans erv.out
      subst e2
      rw [i2, i4.1] at hsp
      refine wpOp_step rfl (fun K hK => ?_)
      refine step_append_lies _ (by rfl) _ _ _ (by rfl) w3.heap.size 3 ii1 (.int .i64 0) 1 8 Try.underlying23 hi1 hiy0 hiy1 hiy2 rfl (by omega) _ 0 [] (by rfl) (hsp.e4 rfl rfl) ⟨rb, ro, none⟩ R rcap rc (by rfl) hrcl (fun j u hu => by rw [Addr.add_lit, hsp.b.cell (p := ⟨rb, ro + j, none⟩) hrb]; exact hrcc j u hu) hrc1 hR0 (by unfold maxLen; omega) (by omega) hsp.b.size _ rfl ?_
      intro gg cap w5 hown5 hgr _ _
      rw [Nat.zero_add] at hown5 ⊢
      rw [List.nil_append] at hown5
      refine hK _ _ ⟨by simpa using hl, _, _, _, _, _, _, _, _, _, _, rfl, ?_⟩
      simp only [gset l 7 _ hl (by decide), i4.1]
      exact hsp.s7 hgr hown5
    · have i4 : l.getD 3 false = true ∧ l.getD 7 false = true := by simpa [Region.binds] using i3
      rw [i2, i4.1, i4.2] at hsp
      obtain ⟨⟨g1, cap1, rfl⟩, _⟩ := hsp.e3 rfl
      obtain ⟨⟨g2, cap2, rfl⟩, _⟩ := hsp.e7 rfl
      refine wpOp_step rfl (fun K hK => ?_)
      go_simp
      refine hK _ _ ⟨by simpa using hl, _, _, _, _, _, _, _, _, _, _, rfl, ?_⟩
      simp only [gset l 8 _ hl (by decide), i4.1, i4.2]
      exact hsp.s8
    · rw [i2] at hsp
      refine wpOp_step rfl (fun K hK => ?_)
      go_simp
      refine hK _ _ ⟨by simpa using hl, _, _, _, _, _, _, _, _, _, _, rfl, ?_⟩
      simp only [gset l 9 _ hl (by decide)]
      exact hsp.s9 _ _
    · have i4 : l.getD 9 false = true ∧ l.getD 8 false = true := by
        simp [Region.binds] at i3
        exact ⟨by simpa using i3.1, by simpa using i3.2.1⟩
      rw [i2, i4.1, i4.2] at hsp
      obtain ⟨e1, j3, j7⟩ := hsp.e8 rfl
      obtain ⟨⟨g1, cap1, rfl⟩, _⟩ := hsp.e3 j3
      obtain ⟨⟨g2, cap2, rfl⟩, _⟩ := hsp.e7 j7
      subst e1
      obtain ⟨q, u0, u1, e1, hq, hu, _⟩ := hsp.e9 rfl
      subst e1
      obtain ⟨⟨c0, c1⟩, f0, f1⟩ := blk2 hu
      refine wpOp_step rfl (fun K hK => ?_)
      go_simp
      refine hK _ _ ⟨by simpa using hl, _, _, _, _, _, _, _, _, _, _, rfl, ?_⟩
      simp only [gset l 10 _ hl (by decide), i4.1, i4.2]
      exact hsp.s10 hq hu
  case refine_2 =>
    rintro l a w ⟨hl, x39, x40, x41, x42, x43, x44, x45, x46, x47, x7, rfl, hsp⟩ hr
    have n0 : l.getD 0 false = true := by
      rw [gopp hl (by omega)]
      exact ready_none hr (i := 0) (by decide) (by simp [Region.binds])
    have m0 : l[0]?.getD false = true := by simpa using n0
    have n1 : l.getD 1 false = true := by
      rw [gopp hl (by omega)]
      exact ready_none hr (i := 1) (by decide) (by simp [Region.binds])
    have m1 : l[1]?.getD false = true := by simpa using n1
    have n2 : l.getD 2 false = true := by
      rw [gopp hl (by omega)]
      exact ready_none hr (i := 2) (by decide) (by simp [Region.binds, m1])
    have m2 : l[2]?.getD false = true := by simpa using n2
    have n3 : l.getD 3 false = true := by
      rw [gopp hl (by omega)]
      exact ready_none hr (i := 3) (by decide) (by simp [Region.binds, m0, m2])
    have m3 : l[3]?.getD false = true := by simpa using n3
    have n4 : l.getD 4 false = true := by
      rw [gopp hl (by omega)]
      exact ready_none hr (i := 4) (by decide) (by simp [Region.binds])
    have m4 : l[4]?.getD false = true := by simpa using n4
    have n5 : l.getD 5 false = true := by
      rw [gopp hl (by omega)]
      exact ready_none hr (i := 5) (by decide) (by simp [Region.binds])
    have m5 : l[5]?.getD false = true := by simpa using n5
    have n6 : l.getD 6 false = true := by
      rw [gopp hl (by omega)]
      exact ready_none hr (i := 6) (by decide) (by simp [Region.binds, m5])
    have m6 : l[6]?.getD false = true := by simpa using n6
    have n7 : l.getD 7 false = true := by
      rw [gopp hl (by omega)]
      exact ready_none hr (i := 7) (by decide) (by simp [Region.binds, m4, m6, m3])
    have m7 : l[7]?.getD false = true := by simpa using n7
    have n8 : l.getD 8 false = true := by
      rw [gopp hl (by omega)]
      exact ready_none hr (i := 8) (by decide) (by simp [Region.binds, m3, m7])
    have m8 : l[8]?.getD false = true := by simpa using n8
    have n9 : l.getD 9 false = true := by
      rw [gopp hl (by omega)]
      exact ready_none hr (i := 9) (by decide) (by simp [Region.binds])
    have m9 : l[9]?.getD false = true := by simpa using n9
    have n10 : l.getD 10 false = true := by
      rw [gopp hl (by omega)]
      exact ready_none hr (i := 10) (by decide) (by simp [Region.binds, m0, m1, m2, m3, m4, m5, m6, m7, m8, m9])
    have m10 : l[10]?.getD false = true := by simpa using n10
    rw [n0, n1, n2, n3, n4, n5, n6, n7, n8, n9, n10] at hsp
    clear n0 n1 n2 n3 n4 n5 n6 n7 n8 n9 n10 m0 m1 m2 m3 m4 m5 m6 m7 m8 m9 m10 hr hl
    obtain ⟨⟨gb, gcap, rfl⟩, hO1⟩ := hsp.e3 rfl
    obtain ⟨⟨sb, scap, rfl⟩, hO2⟩ := hsp.e7 rfl
    obtain ⟨q, u0, u1, rfl, hq, hu, hh⟩ := hsp.e9 rfl
    obtain ⟨rfl, rfl⟩ := hh rfl
    have zq : W.heap.size < w3.heap.size := lt_of_block k3
    have hbW : Below W.heap.size W w := Below.next hB3.drew hsp.b
    have kb : w.heap[W.heap.size]? = some (.cells #[nv, rv] 25) := (hsp.b.block W.heap.size zq).trans k3
    have hmw := own_below hO (Below.next (Below.refl _ w3).drew hsp.b)
    obtain ⟨cur, hgb, hcw, hgB⟩ := Cu.own hcu.out hNg.out hN0 hO1
    rw [hrc.out] at hO2
    have hqg : q ≠ gb := fun e => by
      rw [e, hgb] at hu
      injection hu with hu
      injection hu with _ hu
      exact absurd hu (by decide)
    replace hgB : w3.heap.size ≤ gb := hgB
    have hkg : k < g.nodes.length := by rw [← hNg.out]; exact hkN
    clear hsp hO1 hh
    obtain ⟨av, t0, t1, t2, t3, _⟩ := hcw k (by rw [← hNg.out]; exact hkN)
    have w0 : w.cell? ⟨gb, k * 4, none⟩ = some (.int .i64 kd) := by rw [cell_of_row w gb _ cur _ _ hgb]; rw [← hkd.out]; exact t0
    have w1' : ∃ u, w.cell? ⟨gb, k * 4 + 1, none⟩ = some u := ⟨_, by rw [cell_of_row w gb _ cur _ _ hgb]; exact t1⟩
    have w2' : ∃ u, w.cell? ⟨gb, k * 4 + 2, none⟩ = some u := ⟨_, by rw [cell_of_row w gb _ cur _ _ hgb]; exact t2⟩
    obtain ⟨u1, w1c⟩ := w1'
    obtain ⟨u2, w2c⟩ := w2'
    have f1 : w.frozen? ⟨gb, k * 4 + 1, none⟩ = false := by simp [World.frozen?, hgb]
    have f2 : w.frozen? ⟨gb, k * 4 + 2, none⟩ = false := by simp [World.frozen?, hgb]
    obtain ⟨⟨z0, z1⟩, _⟩ := blk2 hu
    obtain ⟨⟨y0, y1⟩, _⟩ := blk2 kb
    obtain ⟨mb, mo, hao, hmc⟩ : ∃ b o, ao = some ⟨b, o, none⟩ ∧ w.cell? ⟨b, o + x, none⟩ = some (.int .i64 (k : Int)) := by
      have h1 := Ri.ofOwn (by rw [hM.out]; exact hmw : w.ownsRow w2.heap.size 3 1 (.slice ao L.length c) L.length (L.map (Value.int .i64)))
      obtain ⟨ao', c', e1, h2⟩ := h1
      injection e1 with e1 _ _
      subst e1
      obtain ⟨b, o, h3, h4⟩ := h2 x (by rw [hM.out]; exact hx)
      rw [hk.out] at h4
      exact ⟨b, o, h3, h4⟩
    subst hao
    clear hmw hO t0 t1 t2 t3 hnb hrb hncc hrcc hncl hrcl hnc1 hrc1 hn1 hi1 hny0 hny1 hny2 hiy0 hiy1 hiy2
    have hx1 : decide ((x : Int) < (M : Int)) = true := decide_eq_true (by omega)
    have hk1 : decide ((k : Int) < (N : Int)) = true := decide_eq_true (by omega)
    have hk2 : (k : Int) < (N : Int) := by omega
    have hx2 : (x : Int) < (M : Int) := by omega
    go_wp2
    clear hsm hck hbx hb0 hb1 hb2 hb3 hB hB2 hB3 hM hcu
    refine wp_region_quiet_lit (by kernel_rfl) (by kernel_rfl) ?_
    iterate 8 (go_big_quiet_step (fail))
    refine wpQuiet_nil ?_
    rintro wq ⟨nq, hwq⟩
    subst hwq
    by_cases e1 : kd = 1
    · subst e1
      go_wp2
      go_ret
      exact ⟨rfl, below_drewN hbW _⟩
    · have e1' : (kd == 1) = false := beq_eq_false_iff_ne.2 e1
      by_cases e3 : kd = 3
      · subst e3
        go_wp2
        have hn : ((⟨(g.nodes.getD k nd0).kind, (g.nodes.getD k nd0).name, 1234567, (g.nodes.getD k nd0).args⟩ : Nd).args = (g.nodes.getD k nd0).args) ∧ (⟨(g.nodes.getD k nd0).kind, (g.nodes.getD k nd0).name, 1234567, (g.nodes.getD k nd0).args⟩ : Nd).name.size ≤ 9223372036854775807 := ⟨rfl, by first | exact hsz.out | decide⟩
        have hbD : Below w.heap.size w (w.drewN nq) := below_drewN (Below.refl _ w) _
        have hgD : (w.drewN nq).heap[gb]? = some (.cells cur 48 (0, 0)) := hgb
        have hbE : Below W.heap.size W ((w.drewN nq).setCell ⟨gb, k * 4 + 2, none⟩ (Value.int .i64 1234567)) := (below_drewN hbW nq).setCell (by show W.heap.size ≤ gb; omega) _
        have kE : ((w.drewN nq).setCell ⟨gb, k * 4 + 2, none⟩ (Value.int .i64 1234567)).heap[W.heap.size]? = some (.cells #[nv, rv] 25) := (Below.heap_setCell _ _ _ _ (by show W.heap.size ≠ gb; omega)).trans kb
        have uE : ((w.drewN nq).setCell ⟨gb, k * 4 + 2, none⟩ (Value.int .i64 1234567)).heap[q]? = some (.cells #[.slice (some ⟨gb, 0, none⟩) N gcap, .slice (some ⟨sb, 0, none⟩) R scap] 25) := (Below.heap_setCell _ _ _ _ (by show q ≠ gb; exact hqg)).trans hu
        have hGE : Gr ((w.drewN nq).setCell ⟨gb, k * 4 + 2, none⟩ (Value.int .i64 1234567)) (.slice (some ⟨gb, 0, none⟩) N gcap) (.slice (some ⟨sb, 0, none⟩) R scap) (setNd g k ⟨(g.nodes.getD k nd0).kind, (g.nodes.getD k nd0).name, 1234567, (g.nodes.getD k nd0).args⟩) := by
          refine ⟨?_, ?_⟩
          · have h1 := Cu.rn (cap := gcap) (hcw.num hkg 1234567) hbE (heap_setCell_same (w.drewN nq) gb (k * 4 + 2) cur _ (Value.int .i64 1234567) hgD)
            rw [List.length_set, ← hNg.out] at h1
            exact h1
          · have h1 := own_setCell (i := k * 4 + 2) (own_below hO2 hbD) hgD (by decide) (Value.int .i64 1234567)
            rw [hRg.out] at h1 ⊢
            exact Ri.ofOwn h1
        generalize (w.drewN nq).setCell ⟨gb, k * 4 + 2, none⟩ (Value.int .i64 1234567) = wE at *
        have hA' := hid (fun w1 (h : Below wE.heap.size wE w1) => hA.out _ w1 _ _ hn.1 hn.2 (Below.next hbE h) (hGE.below h))
        have hE' := hid (fun w1 (h : Below wE.heap.size wE w1) => hE.out _ w1 _ _ (Below.next hbE h) (hGE.below h))
        generalize eqG g (setNd g k ⟨(g.nodes.getD k nd0).kind, (g.nodes.getD k nd0).name, 1234567, (g.nodes.getD k nd0).args⟩) = B at *
        obtain ⟨⟨y0, y1⟩, _⟩ := blk2 kE
        obtain ⟨⟨z0, z1⟩, _⟩ := blk2 uE
        have q0 := cell_q y0
        have q1 := cell_q y1
        have q2 := cell_q z0
        have q3 := cell_q z1
        have hwd : Nonempty (Wq wE) := ⟨⟨wE, Below.refl _ _⟩⟩
        have HBB := hid hbE
        clear hA hE hGE hbD hgD kE uE hbE hn y0 y1 z0 z1 w0 w1c w2c f1 f2 hgb hu kb hmc hcw hO2
        refine quiet_q (by kernel_rfl) (by kernel_rfl) ?_
        repeat (go_big_quiet_step (first
          | (go_at_call 20; rename_i X; refine (hA'.out X.x X.h).mono ?_; rintro e wb ⟨rfl, hbb⟩; exact ⟨rfl, ⟨wb, Below.next X.h hbb⟩, rfl⟩)
          | (go_at_call 26; rename_i X; refine (hE'.out X.x X.h).mono ?_; rintro e wb ⟨rfl, hbb⟩; exact ⟨rfl, ⟨wb, Below.next X.h hbb⟩, rfl⟩)))
        refine wpQuiet_nil ?_
        rintro w9 ⟨X, hX⟩
        have hb9 : Below wE.heap.size wE w9 := by rw [hX]; exact X.h
        clear hX X hwd q0 q1 q2 q3
        go_wp2
        go_ret
        exact ⟨by simp, Below.next HBB.out hb9⟩
      · have e3' : (kd == 3) = false := beq_eq_false_iff_ne.2 e3
        go_wp2
        have hn : ((⟨(g.nodes.getD k nd0).kind, quiteN, (g.nodes.getD k nd0).num, (g.nodes.getD k nd0).args⟩ : Nd).args = (g.nodes.getD k nd0).args) ∧ (⟨(g.nodes.getD k nd0).kind, quiteN, (g.nodes.getD k nd0).num, (g.nodes.getD k nd0).args⟩ : Nd).name.size ≤ 9223372036854775807 := ⟨rfl, by show quiteN.size ≤ 9223372036854775807; decide⟩
        have hbD : Below w.heap.size w (w.drewN nq) := below_drewN (Below.refl _ w) _
        have hgD : (w.drewN nq).heap[gb]? = some (.cells cur 48 (0, 0)) := hgb
        have hbE : Below W.heap.size W ((w.drewN nq).setCell ⟨gb, k * 4 + 1, none⟩ (Value.string quiteN)) := (below_drewN hbW nq).setCell (by show W.heap.size ≤ gb; omega) _
        have kE : ((w.drewN nq).setCell ⟨gb, k * 4 + 1, none⟩ (Value.string quiteN)).heap[W.heap.size]? = some (.cells #[nv, rv] 25) := (Below.heap_setCell _ _ _ _ (by show W.heap.size ≠ gb; omega)).trans kb
        have uE : ((w.drewN nq).setCell ⟨gb, k * 4 + 1, none⟩ (Value.string quiteN)).heap[q]? = some (.cells #[.slice (some ⟨gb, 0, none⟩) N gcap, .slice (some ⟨sb, 0, none⟩) R scap] 25) := (Below.heap_setCell _ _ _ _ (by show q ≠ gb; exact hqg)).trans hu
        have hGE : Gr ((w.drewN nq).setCell ⟨gb, k * 4 + 1, none⟩ (Value.string quiteN)) (.slice (some ⟨gb, 0, none⟩) N gcap) (.slice (some ⟨sb, 0, none⟩) R scap) (setNd g k ⟨(g.nodes.getD k nd0).kind, quiteN, (g.nodes.getD k nd0).num, (g.nodes.getD k nd0).args⟩) := by
          refine ⟨?_, ?_⟩
          · have h1 := Cu.rn (cap := gcap) (hcw.name hkg quiteN) hbE (heap_setCell_same (w.drewN nq) gb (k * 4 + 1) cur _ (Value.string quiteN) hgD)
            rw [List.length_set, ← hNg.out] at h1
            exact h1
          · have h1 := own_setCell (i := k * 4 + 1) (own_below hO2 hbD) hgD (by decide) (Value.string quiteN)
            rw [hRg.out] at h1 ⊢
            exact Ri.ofOwn h1
        generalize (w.drewN nq).setCell ⟨gb, k * 4 + 1, none⟩ (Value.string quiteN) = wE at *
        have hA' := hid (fun w1 (h : Below wE.heap.size wE w1) => hA.out _ w1 _ _ hn.1 hn.2 (Below.next hbE h) (hGE.below h))
        have hE' := hid (fun w1 (h : Below wE.heap.size wE w1) => hE.out _ w1 _ _ (Below.next hbE h) (hGE.below h))
        generalize eqG g (setNd g k ⟨(g.nodes.getD k nd0).kind, quiteN, (g.nodes.getD k nd0).num, (g.nodes.getD k nd0).args⟩) = B at *
        obtain ⟨⟨y0, y1⟩, _⟩ := blk2 kE
        obtain ⟨⟨z0, z1⟩, _⟩ := blk2 uE
        have q0 := cell_q y0
        have q1 := cell_q y1
        have q2 := cell_q z0
        have q3 := cell_q z1
        have hwd : Nonempty (Wq wE) := ⟨⟨wE, Below.refl _ _⟩⟩
        have HBB := hid hbE
        clear hA hE hGE hbD hgD kE uE hbE hn y0 y1 z0 z1 w0 w1c w2c f1 f2 hgb hu kb hmc hcw hO2
        refine quiet_q (by kernel_rfl) (by kernel_rfl) ?_
        repeat (go_big_quiet_step (first
          | (go_at_call 20; rename_i X; refine (hA'.out X.x X.h).mono ?_; rintro e wb ⟨rfl, hbb⟩; exact ⟨rfl, ⟨wb, Below.next X.h hbb⟩, rfl⟩)
          | (go_at_call 26; rename_i X; refine (hE'.out X.x X.h).mono ?_; rintro e wb ⟨rfl, hbb⟩; exact ⟨rfl, ⟨wb, Below.next X.h hbb⟩, rfl⟩)))
        refine wpQuiet_nil ?_
        rintro w9 ⟨X, hX⟩
        have hb9 : Below wE.heap.size wE w9 := by rw [hX]; exact X.h
        clear hX X hwd q0 q1 q2 q3
        go_wp2
        go_ret
        exact ⟨by simp, Below.next HBB.out hb9⟩
end Go.Proofs.Ytcgkmenlacinjaa
