/- Pairs are compared. -/
import Derived.Test.YtllafbghomohhaaOSZ
import Derived.Test.YtllafbghomohhaaGrReach2
import Derived.ChangeKeysEq
import Derived.BigQuiet
import Derived.Deep.RegionHeldLaw
namespace Go.Proofs.Ytllafbghomohhaa
open Go.RowKit

theorem pair_eq (x y : Int) (w : World) : (Op.equalIn 10000 48 (.agg #[.int .i64 x, .int .i64 y]) (.agg #[.int .i64 x, .int .i64 y])).run Try.prog w = .ok true w := by
  obtain ⟨i0, hi, hz0, hz1, hz2⟩ := info_parts infoI
  have u3 := Try.underlying3
  have a3 := Try.isAgg3
  have z3 := Try.sizeOf3
  rw [show (10000 : Nat) = 9999 + 1 from rfl, run_equalIn_array w 9999 _ _ undP hi, show Try.prog.cellsOf 3 = 1 by kernel_rfl, show List.range 2 = [0, 1] from rfl]
  simp only [Op.eqItems]
  go_simp
theorem pair_neq (x y : Int) (w : World) : (binOp .neq 48 (.agg #[.int .i64 x, .int .i64 y]) (.agg #[.int .i64 x, .int .i64 y])).run Try.prog w = .ok (.bool false) w := by
  rw [run_neq_struct, pair_eq]
  rfl
end Go.Proofs.Ytllafbghomohhaa

/- SolveOwns, walked. -/
namespace Go.Proofs.Ytllafbghomohhaa
open Go.RowKit

set_option maxRecDepth 100000 in
set_option maxHeartbeats 16000000 in
theorem sowns_main {W : World} {nv rv pv : Value} {g : Gf} {ps : List (Int × Int)} (hG : Gr W nv rv g) (hS : Sized g) (hP : Rp W pv ps) (hsm : smallK 40 g = true) (hl : ps.length ≤ 40) (ok : Bool) (T : Gf) (hT : Fits T ∧ T.nodes.length ≤ 2000 ∧ T.roots.length ≤ 4900 ∧ ∀ n ∈ T.nodes, n.args.length ≤ 4900) (kd : Int) (H : List Nat) (hH : H.length ≤ 4900)
    (hla : ∀ w, Below W.heap.size W w → Calls Try.prog 6 #[.agg #[nv, rv], pv] w fun e w' => e = .returned (.bool false) ∧ Below w.heap.size w w')
    (hso : ∀ w n r p, Gr w n r g → Rp w p ps → Calls Try.prog 7 #[.agg #[n, r], p] w fun e w' => (∃ a k r d av, e = .returned (.tuple #[.agg #[.slice a T.nodes.length k, .slice r T.roots.length d], .bool ok, .nilIface]) ∧ Og w' w.heap.size (.slice a T.nodes.length k) (.slice r T.roots.length d) av T) ∧ Below w.heap.size w w')
    (hrs : ∀ w, Below W.heap.size W w → Calls Try.prog 8 #[.agg #[nv, rv], pv] w fun e w' => (∃ a k r d, e = .returned (.tuple #[.agg #[.slice a T.nodes.length k, .slice r T.roots.length d], .bool ok, .agg #[.int .i64 0, .int .i64 0, .string ⟨#[]⟩, .slice none 0 0]]) ∧ Gr w' (.slice a T.nodes.length k) (.slice r T.roots.length d) T) ∧ Below w.heap.size w w')
    (hve : ∀ w n r p, Gr w n r g → Rp w p ps → Calls Try.prog 11 #[.agg #[n, r], p] w fun e w' => (∃ a c, e = .returned (.tuple #[.agg #[.int .i64 kd, .slice a H.length c], .nilIface]) ∧ w'.ownsRow w.heap.size 3 1 (.slice a H.length c) H.length ((ints H).map (Value.int .i64))) ∧ Below w.heap.size w w')
    (hrv : ∀ w, Below W.heap.size W w → Calls Try.prog 12 #[.agg #[nv, rv], pv] w fun e w' => (∃ a c, e = .returned (.tuple #[.agg #[.int .i64 kd, .slice a H.length c], .agg #[.int .i64 0, .int .i64 0, .string ⟨#[]⟩, .slice none 0 0]]) ∧ w'.ownsRow w.heap.size 3 1 (.slice a H.length c) H.length ((ints H).map (Value.int .i64))) ∧ Below w.heap.size w w') :
    Calls Try.prog 4 #[.agg #[nv, rv], pv] W fun e w' => e = .returned (.bool true) ∧ Below W.heap.size W w' := by
  obtain ⟨i2, hi2, hp0, hp1, hp2⟩ := info_parts infoPr
  obtain ⟨ha, hn0, hr0⟩ := smallK_fits hsm
  have hn : g.nodes.length ≤ 300 := by omega
  have hr : g.roots.length ≤ 300 := by omega
  have hgr := hid (fun (w : World) (hb : Below W.heap.size W w) => hgraph_any (hG.below hb) hn hr ha)
  have hke := hid (fun (w : World) (B gb cap : Nat) (mrv : Value) (avs : List Value) (hm : Hg w B gb cap mrv avs g) (hb : Below W.heap.size W w) => hKept_any hm (hG.below hb) hn hr ha)
  have hov := hid (fun (w : World) (B gb cap : Nat) (mrv : Value) (avs : List Value) (hm : Hg w B gb cap mrv avs g) => hOver_any hm hn hr ha)
  have hin := hid (fun (w : World) (n r : Value) (h : Gr w n r g) => inst_self h hS)
  have hlf := hid (fun (w : World) (s : Nat) (hb : Below W.heap.size W w) (hs : w.heap.size = s) => list_first (B := w.heap.size) (n := ps.length) (hP.below hb) (by omega) rfl (Nat.le_refl _) hs)
  have hmk := make_pairs ps.length (by omega)
  have HP := hid hP
  have Hla := hid hla
  have Hso := hid hso
  have Hrs := hid hrs
  have Hve := hid hve
  have Hrv := hid hrv
  have HTT := hid hT
  obtain ⟨na, nc, rfl, _⟩ := hG.1
  obtain ⟨ra, rc, rfl, _⟩ := hG.2
  obtain ⟨pa, pc, rfl, _⟩ := hP
  have HB : Hid (Below W.heap.size W (W.alloc (.cells #[.slice na g.nodes.length nc, .slice ra g.roots.length rc] 25)) ∧ (W.alloc (.cells #[.slice na g.nodes.length nc, .slice ra g.roots.length rc] 25)).heap[W.heap.size]? = some (.cells #[.slice na g.nodes.length nc, .slice ra g.roots.length rc] 25)) := ⟨below_alloc W _, heap_alloc_new W _⟩
  clear hG hS hsm hla hso hrs hve hrv hT ha
  generalize hmc : madeCells #[.int .i64 0, .int .i64 0] ((ps.length + 1) * 2) = mcs at *
  clear hmc
  have hne7 := pair_neq (-7) (-7)
  go_enter Try.func4, Try.ntmps4
  go_wp2_with (first
    | (go_at_call 5; refine (slives_any _).mono ?_; rintro e w1 ⟨rfl, hb1⟩; replace HB := hid (And.intro (Below.next HB.out.1 hb1) ((hb1.block _ (lt_of_block HB.out.2)).trans HB.out.2)); clear hb1; obtain ⟨⟨g0, g1⟩, _⟩ := blk2y HB.out.2; have g2 := lt_of_block HB.out.2)
    | (go_at_call 6; refine (Hla.out _ HB.out.1).mono ?_; rintro e w2 ⟨rfl, hb1⟩; replace HB := hid (And.intro (Below.next HB.out.1 hb1) ((hb1.block _ (lt_of_block HB.out.2)).trans HB.out.2)); clear hb1 g0 g1 g2; obtain ⟨⟨g0, g1⟩, _⟩ := blk2y HB.out.2; have g2 := lt_of_block HB.out.2)
    | (go_at_call 14; go_must (refine (hgr.out _ HB.out.1).mono ?_; clear hgr; have hB0 := hid (Nat.le_of_lt (lt_of_block HB.out.2)); rintro e w3 ⟨⟨gb, cap, mrv, avs, rfl, hM⟩, hb1⟩; obtain ⟨mq, mc, hmr⟩ : ∃ mq mc, mrv = .slice (some ⟨mq, 0, none⟩) g.roots.length mc := (by obtain ⟨q, c, h, _⟩ := hM.r; exact ⟨q, c, h⟩); subst hmr; have HM := hid hM; replace HB := hid (And.intro (Below.next HB.out.1 hb1) ((hb1.block _ (lt_of_block HB.out.2)).trans HB.out.2)); clear hb1 hM g0 g1 g2; obtain ⟨ao4, c4, w4, hr4, ho4, hb4, hk4⟩ := hlf.out _ (w3.heap.size + 1) (Below.next HB.out.1 (below_alloc w3 (.cells #[.slice (some ⟨gb, 0, none⟩) g.nodes.length cap, .slice (some ⟨mq, 0, none⟩) g.roots.length mc] 25))) (by simp : _ = w3.heap.size + 1); rw [show (w3.alloc (.cells #[.slice (some ⟨gb, 0, none⟩) g.nodes.length cap, .slice (some ⟨mq, 0, none⟩) g.roots.length mc] 25)).heap.size = w3.heap.size + 1 by simp] at ho4; have Ho4 := hid ho4; have Hb4 := hid hb4; have Hk4 := hid hk4; have hz4 := hb4.size; clear ho4 hb4 hk4))
    | (at_builtin; refine Lib.wpList_append_run _ rfl _ _ _ _ rfl _ _ rfl rfl _ _ (hr4 _) ?_; clear hr4; have hoz := World.ownsRow.alloc Ho4.out (.cells #[.int .i64 (-7), .int .i64 (-7)] 48))
    | (at_builtin; go_must (refine wpList_append_lies _ rfl _ _ 26 rfl (w3.heap.size + 1) 48 i2 (.agg #[.int .i64 0, .int .i64 0]) 2 16 Try.underlying26 hi2 hp0 hp1 hp2 rfl (by decide) _ ps.length _ rfl hoz ⟨w4.heap.size, 0, none⟩ 1 1 m77 rfl rfl (World.news_of_block (cs := #[.int .i64 (-7), .int .i64 (-7)]) (t := 48) (fr := (0, 0)) (heap_alloc_new w4 _)) (by simp [Value.oneCell']) (by decide) (by unfold maxLen; omega) (by omega) (by simp at hz4 ⊢; have := HB.out.1.size; omega) _ rfl ?_; clear hoz; intro lb lc w5 hown5 hgr5 hat5 hlt5; have hcap5 := own_cap hown5; have HBs := hid (bs_start HB.out.1 HB.out.2 hB0.out HM.out (row := (Value.slice ao4 ps.length c4).ownBlock) (fun k e => by have := Hk4.out k e; simp at this; omega) Hb4.out hgr5 hown5); have HPh := hid (Ph.nil w5.heap.size w5); have u1 : True := trivial; have u2 : True := trivial; clear hown5 hgr5 hat5 hlt5 Ho4 Hb4 Hk4 HB HM hz4 hB0 hlf hmk; obtain ⟨⟨⟨g0, g1⟩, g2⟩, ⟨m0, m1⟩, m2⟩ := HBs.out.cells))
    | (go_at_call 7; have _u := u1; clear u1 _u; refine (Hso.out _ _ _ _ HBs.out.hm.gr HBs.out.rp).mono ?_; rintro e w6 ⟨⟨a1, k1, r1, d1, av1, rfl, ho⟩, hb⟩; replace HPh := hid (Ph.addX HPh.out HBs.out.e0 hb ho ⟨HTT.out.2.2.1, HTT.out.2.2.2⟩); replace HBs := hid (HBs.out.next (Below.next hb (below_alloc w6 (.cells #[.slice a1 T.nodes.length k1, .slice r1 T.roots.length d1] 25)))); clear ho hb; clear g0 g1 g2 m0 m1 m2; obtain ⟨⟨⟨g0, g1⟩, g2⟩, ⟨m0, m1⟩, m2⟩ := HBs.out.cells)
    | (go_at_call 7; go_must (refine (Hso.out _ _ _ _ HBs.out.hm.gr HBs.out.rp).mono ?_; rintro e w7 ⟨⟨a2, k2, r2, d2, av2, rfl, ho⟩, hb⟩; replace HPh := hid (Ph.addX HPh.out HBs.out.e0 hb ho ⟨HTT.out.2.2.1, HTT.out.2.2.2⟩); replace HBs := hid (HBs.out.next (Below.next hb (below_alloc w7 (.cells #[.slice a2 T.nodes.length k2, .slice r2 T.roots.length d2] 25)))); clear ho hb; clear g0 g1 g2 m0 m1 m2; obtain ⟨⟨⟨g0, g1⟩, g2⟩, ⟨m0, m1⟩, m2⟩ := HBs.out.cells))
    | (go_at_call 11; have _u := u2; clear u2 _u; refine (Hve.out _ _ _ _ HBs.out.hm.gr HBs.out.rp).mono ?_; rintro e w8 ⟨⟨a3, c3, rfl, ho⟩, hb⟩; replace HPh := hid (Ph.addY (kd := kd) HPh.out HBs.out.e0 hb ho hH); replace HBs := hid (HBs.out.next (Below.next hb (below_alloc w8 (vbo kd (.slice a3 H.length c3))))); clear ho hb; clear g0 g1 g2 m0 m1 m2; obtain ⟨⟨⟨g0, g1⟩, g2⟩, ⟨m0, m1⟩, m2⟩ := HBs.out.cells)
    | (go_at_call 11; go_must (refine (Hve.out _ _ _ _ HBs.out.hm.gr HBs.out.rp).mono ?_; rintro e w9 ⟨⟨a4, c4', rfl, ho⟩, hb⟩; replace HPh := hid (Ph.addY (kd := kd) HPh.out HBs.out.e0 hb ho hH); replace HBs := hid (HBs.out.next (Below.next hb (below_alloc w9 (vbo kd (.slice a4 H.length c4'))))); clear ho hb; clear g0 g1 g2 m0 m1 m2; obtain ⟨⟨⟨g0, g1⟩, g2⟩, ⟨m0, m1⟩, m2⟩ := HBs.out.cells))
    | (go_at_call 15; go_must (refine (hin.out _ _ _ HBs.out.hm.gr).mono ?_; rintro e w10 ⟨⟨xx, yy, rfl⟩, hb⟩; replace HPh := hid (HPh.out.keep (sblB hb)); replace HBs := hid (HBs.out.next hb); clear hb; clear g0 g1 g2 m0 m1 m2; obtain ⟨⟨⟨g0, g1⟩, g2⟩, ⟨m0, m1⟩, m2⟩ := HBs.out.cells))
    | (go_at_call 16; go_must (refine (hke.out _ _ _ _ _ _ HBs.out.hm HBs.out.b).mono ?_; rintro e w11 ⟨rfl, hb⟩; replace HPh := hid (HPh.out.keep (sblB hb)); replace HBs := hid (HBs.out.next hb); clear hb; clear g0 g1 g2 m0 m1 m2; obtain ⟨⟨⟨g0, g1⟩, g2⟩, ⟨m0, m1⟩, m2⟩ := HBs.out.cells; obtain ⟨⟨l0, l1⟩, l2, l3⟩ := HBs.out.last)))
  clear hne7 l0 l1
  obtain ⟨wk, rfl⟩ : ∃ wk : World, wk = w11 := ⟨_, rfl⟩
  clear g0 g1 g2 m0 m1 m2
  go_loopw [17, 94] (fun _ i wr => ∃ j : Nat, j ≤ ps.length ∧ i = .int .i64 (j : Int) ∧ Hid (Bos W (.slice na g.nodes.length nc) (.slice ra g.roots.length rc) w5.heap.size w3.heap.size w2.heap.size gb cap mq mc avs lb lc g ps wr) ∧ Hid (Below wk.heap.size wk wr)) (fun _ i _ => ps.length - (intOf i).toNat)
  case atStart => exact ⟨0, Nat.zero_le _, rfl, HBs, Below.refl _ _⟩
  case round =>
    clear HBs
    obtain ⟨j, hj, rfl, HBs, Hbk⟩ := hrel
    by_cases hlt : j < ps.length
    · have hji : (j : Int) < (ps.length : Int) := by omega
      obtain ⟨p0, p1⟩ := HBs.out.at_ hlt
      obtain ⟨b2, o2, e3, q0, q1⟩ := rp_at (HP.out.below HBs.out.b) hlt
      subst e3
      have zp := lt_of_cell p0
      have zq := lt_of_cell q0
      have hnej := pair_neq (ps.getD j (0, 0)).1 (ps.getD j (0, 0)).2
      generalize (ps.getD j (0, 0)).1 = x at *
      generalize (ps.getD j (0, 0)).2 = y at *
      go_wp2
      go_quiet (fail)
      go_wp2
      go_roundw
      case rel => exact ⟨j + 1, by omega, by go_num, hid (HBs.out.next (below_drewN (Below.refl _ _) _)), hid (below_drewN Hbk.out _)⟩
      case measure => simp [intOf]; omega
    · obtain rfl : j = ps.length := by omega
      replace HPh := hid (HPh.out.keep (sblB Hbk.out))
      obtain ⟨⟨⟨g0, g1⟩, g2⟩, ⟨m0, m1⟩, m2⟩ := HBs.out.cells
      go_wp2_with (go_at_call 17; go_must (refine (hov.out _ _ _ _ _ _ HBs.out.hm).mono ?_; clear hov; rintro e z1 ⟨rfl, hO⟩; have HL := hid (over_lst HBs.out hO); replace HPh := hid (HPh.out.keep (over_sbl HBs.out hO)); clear HBs hO g0 g1 g2 m0 m1 m2))
      obtain ⟨F, VS, HQ, HF, HV⟩ : ∃ (F : World → Prop) (VS : List Value), Hid (Ph w5.heap.size F VS z1) ∧ Hid (∀ w, F w → Xg w5.heap.size T w6.heap.size a1 r1 k1 d1 av1 w ∧ Xg w5.heap.size T w7.heap.size a2 r2 k2 d2 av2 w ∧ Yv w5.heap.size kd H w8.heap.size a3 c3 w ∧ Yv w5.heap.size kd H w9.heap.size a4 c4' w) ∧ Hid (VS = ((([] ++ (Value.slice r1 T.roots.length d1 :: av1)) ++ (Value.slice r2 T.roots.length d2 :: av2)) ++ [Value.slice a3 H.length c3]) ++ [Value.slice a4 H.length c4']) := ⟨_, _, HPh, fun w h => ⟨h.1.1.1.2, h.1.1.2, h.1.2, h.2⟩, hid rfl⟩
      clear HPh Hbk
      go_loopw [18, 113] (fun _ i wr => ∃ j : Nat, j ≤ ps.length ∧ i = .int .i64 (j : Int) ∧ Hid (Lst W (.slice na g.nodes.length nc) (.slice ra g.roots.length rc) w5.heap.size lb lc ps.length wr) ∧ Hid (Ph w5.heap.size F VS wr)) (fun _ i _ => ps.length - (intOf i).toNat)
      case atStart => exact ⟨0, Nat.zero_le _, rfl, HL, HQ⟩
      case round =>
        clear HL HQ hlt hj
        obtain ⟨j, hj, rfl, HL, HQ⟩ := hrel
        by_cases hlt : j < ps.length
        · have hji : (j : Int) < (ps.length : Int) := by omega
          obtain ⟨v0, v1, ⟨p0, p1⟩, ⟨p2, p3⟩, p4⟩ := HL.out.cell hlt
          have hset := hid (HL.out.set (j * 2) (j * 2 + 1) (.int .i64 (-9)) (.int .i64 (-9)))
          go_wp2
          go_roundw
          case rel => exact ⟨j + 1, by omega, by go_num, hid hset.out.1, hid (HQ.out.keep hset.out.2)⟩
          case measure => simp [intOf]; omega
        · obtain rfl : j = ps.length := by omega
          obtain ⟨⟨g0, g1⟩, _⟩ := blk2y HL.out.g0
          have g2 := lt_of_block HL.out.g0
          have hsm := hid (fun (w : World) (n r m s : Value) (h1 : Gr w n r T) (h2 : Gr w m s T) => rsame_any h1 h2 HTT.out.1)
          rw [eqG_yes] at hsm
          have hil : (ints H).length ≤ 5000 := by simp [ints]; omega
          have hvs := hid (fun (w : World) (ao bo : Option Addr) (n m c d : Nat) (h1 : Ri w (.slice ao n c) (ints H)) (h2 : Ri w (.slice bo m d) (ints H)) => rvsame_any (k := kd) h1 h2 hil)
          go_wp2_with (first
            | (go_at_call 8; go_must (refine (Hrs.out _ HL.out.b).mono ?_; rintro e x1 ⟨⟨b1, j1, s1, e1, rfl, hg1⟩, hb1⟩; have HZ := hid (Zs.mk2 (c := 0) (d := 0) HL.out HQ.out hb1 hg1); clear hb1 hg1 g0 g1 g2 HL HQ; obtain ⟨⟨⟨g0, g1⟩, g2⟩, ⟨z0, z1'⟩, z2⟩ := HZ.out.cells))
            | (go_at_call 12; go_must (refine (Hrv.out _ HZ.out.b).mono ?_; rintro e x2 ⟨⟨b2', s2, rfl, ho2⟩, hb2⟩; have HY := hid (Zt.mk2 (k := kd) (d := 0) (e := 0) HZ.out hb2 ho2); clear hb2 ho2 g0 g1 g2 z0 z1' z2 HZ; obtain ⟨⟨⟨⟨z0, z1'⟩, z2⟩, ⟨⟨y0, y1⟩, y2⟩⟩, ⟨⟨s0, s1'⟩, s2'⟩, ⟨⟨t0, t1⟩, t2⟩, ⟨⟨u0, u1⟩, u2⟩, ⟨⟨v0, v1⟩, v2⟩⟩ := HY.out.cells HF.out))
            | (go_at_call 9; go_must (refine (hsm.out _ _ _ _ _ (by first | exact (HF.out _ HY.out.s.ph.f).1.gr | exact (HF.out _ HY.out.s.ph.f).2.1.gr) HY.out.s.hx).mono ?_; rintro e x3 ⟨rfl, hb3⟩; replace HY := hid (HY.out.next hb3); clear hb3; clear z0 z1' z2 y0 y1 y2 s0 s1' s2' t0 t1 t2 u0 u1 u2 v0 v1 v2; obtain ⟨⟨⟨⟨z0, z1'⟩, z2⟩, ⟨⟨y0, y1⟩, y2⟩⟩, ⟨⟨s0, s1'⟩, s2'⟩, ⟨⟨t0, t1⟩, t2⟩, ⟨⟨u0, u1⟩, u2⟩, ⟨⟨v0, v1⟩, v2⟩⟩ := HY.out.cells HF.out))
            | (go_at_call 13; go_must (refine (hvs.out _ _ _ _ _ _ _ (by first | exact (HF.out _ HY.out.s.ph.f).2.2.1.ri | exact (HF.out _ HY.out.s.ph.f).2.2.2.ri) HY.out.hy).mono ?_; rintro e x3 ⟨rfl, hb3⟩; replace HY := hid (HY.out.next hb3); clear hb3; clear z0 z1' z2 y0 y1 y2 s0 s1' s2' t0 t1 t2 u0 u1 u2 v0 v1 v2; obtain ⟨⟨⟨⟨z0, z1'⟩, z2⟩, ⟨⟨y0, y1⟩, y2⟩⟩, ⟨⟨s0, s1'⟩, s2'⟩, ⟨⟨t0, t1⟩, t2⟩, ⟨⟨u0, u1⟩, u2⟩, ⟨⟨v0, v1⟩, v2⟩⟩ := HY.out.cells HF.out)))
          clear z0 z1' z2 y0 y1 y2 s0 s1' s2' t0 t1 t2 u0 u1 u2 v0 v1 v2
          obtain ⟨i1, hi1, hy0, hy1, hy2⟩ := info_parts infoL
          obtain ⟨f1, f2, f3, f4⟩ := HF.out _ HY.out.s.ph.f
          have HB0 : Hid (Bx4 T kd H w6.heap.size w7.heap.size w8.heap.size w9.heap.size a1 r1 a2 r2 a3 a4 k1 d1 k2 d2 c3 c4' x3) := ⟨f1.2.1, f2.2.1, f3.2.1, f4.2.1⟩
          obtain ⟨FL, hFL⟩ : ∃ FL, FL = flat [(Value.slice r1 T.roots.length d1, av1), (Value.slice r2 T.roots.length d2, av2)] := ⟨_, rfl⟩
          have hVS : Hid (VS = FL ++ [.slice a3 H.length c3, .slice a4 H.length c4']) := show _ = _ by
            rw [HV.out, hFL]
            simp [flat]
          have hfl : FL.length ≤ 4900 := by
            have h1 := f1.2.2
            have h2 := f2.2.2
            obtain ⟨_, _, _, o1⟩ := h1
            obtain ⟨_, _, _, o2⟩ := h2
            have e1 := o1.on.len
            have e2 := o2.on.len
            have h3 := HTT.out.2.1
            rw [hFL]
            simp [flat]
            omega
          have bA : Below x3.heap.size x3 (x3.alloc (.cells #[.slice a1 T.nodes.length k1, .slice r1 T.roots.length d1, .slice a2 T.nodes.length k2, .slice r2 T.roots.length d2] 25)).drew := (below_alloc x3 _).drew
          have bB : Below x3.heap.size x3 ((x3.alloc (.cells #[.slice a1 T.nodes.length k1, .slice r1 T.roots.length d1, .slice a2 T.nodes.length k2, .slice r2 T.roots.length d2] 25)).alloc (.cells #[.slice a3 H.length c3, .slice a4 H.length c4'] 23)).drew := ((below_alloc x3 _).alloc (by simp) _).drew
          have bC : Below x3.heap.size x3 ((x3.alloc (.cells #[.slice a3 H.length c3, .slice a4 H.length c4'] 23)).alloc (.cells #[.slice a1 T.nodes.length k1, .slice r1 T.roots.length d1, .slice a2 T.nodes.length k2, .slice r2 T.roots.length d2] 25)).drew := ((below_alloc x3 _).alloc (by simp) _).drew
          have sA : (x3.alloc (.cells #[.slice a1 T.nodes.length k1, .slice r1 T.roots.length d1, .slice a2 T.nodes.length k2, .slice r2 T.roots.length d2] 25)).drew.heap[x3.heap.size]? = some (.cells #[.slice a1 T.nodes.length k1, .slice r1 T.roots.length d1, .slice a2 T.nodes.length k2, .slice r2 T.roots.length d2] 25) := heap_alloc_new x3 _
          have sB : ((x3.alloc (.cells #[.slice a1 T.nodes.length k1, .slice r1 T.roots.length d1, .slice a2 T.nodes.length k2, .slice r2 T.roots.length d2] 25)).alloc (.cells #[.slice a3 H.length c3, .slice a4 H.length c4'] 23)).drew.heap[x3.heap.size]? = some (.cells #[.slice a1 T.nodes.length k1, .slice r1 T.roots.length d1, .slice a2 T.nodes.length k2, .slice r2 T.roots.length d2] 25) := (Below.heap_alloc _ _ _ (by simp)).trans (heap_alloc_new x3 _)
          have sC : ((x3.alloc (.cells #[.slice a3 H.length c3, .slice a4 H.length c4'] 23)).alloc (.cells #[.slice a1 T.nodes.length k1, .slice r1 T.roots.length d1, .slice a2 T.nodes.length k2, .slice r2 T.roots.length d2] 25)).drew.heap[x3.heap.size + 1]? = some (.cells #[.slice a1 T.nodes.length k1, .slice r1 T.roots.length d1, .slice a2 T.nodes.length k2, .slice r2 T.roots.length d2] 25) := by
            have h := heap_alloc_new (x3.alloc (.cells #[.slice a3 H.length c3, .slice a4 H.length c4'] 23)) (.cells #[.slice a1 T.nodes.length k1, .slice r1 T.roots.length d1, .slice a2 T.nodes.length k2, .slice r2 T.roots.length d2] 25)
            rw [show (x3.alloc (.cells #[.slice a3 H.length c3, .slice a4 H.length c4'] 23)).heap.size = x3.heap.size + 1 by simp] at h
            exact h
          have nB : Hid (((x3.alloc (.cells #[.slice a1 T.nodes.length k1, .slice r1 T.roots.length d1, .slice a2 T.nodes.length k2, .slice r2 T.roots.length d2] 25)).alloc (.cells #[.slice a3 H.length c3, .slice a4 H.length c4'] 23)).drew.heap[x3.heap.size + 1]? = some (.cells #[.slice a3 H.length c3, .slice a4 H.length c4'] 23)) := show _ = _ by
            have h := heap_alloc_new (x3.alloc (.cells #[.slice a1 T.nodes.length k1, .slice r1 T.roots.length d1, .slice a2 T.nodes.length k2, .slice r2 T.roots.length d2] 25)) (.cells #[.slice a3 H.length c3, .slice a4 H.length c4'] 23)
            rw [show (x3.alloc (.cells #[.slice a1 T.nodes.length k1, .slice r1 T.roots.length d1, .slice a2 T.nodes.length k2, .slice r2 T.roots.length d2] 25)).heap.size = x3.heap.size + 1 by simp] at h
            exact h
          have nC : Hid (((x3.alloc (.cells #[.slice a3 H.length c3, .slice a4 H.length c4'] 23)).alloc (.cells #[.slice a1 T.nodes.length k1, .slice r1 T.roots.length d1, .slice a2 T.nodes.length k2, .slice r2 T.roots.length d2] 25)).drew.heap[x3.heap.size]? = some (.cells #[.slice a3 H.length c3, .slice a4 H.length c4'] 23)) := (Below.heap_alloc _ _ _ (by simp)).trans (heap_alloc_new x3 _)
          have hcA := hid (listsAt hFL bA HY.out.s.e0 sA f1 f2 HTT.out.2.1)
          have hcB := hid (listsAt hFL bB HY.out.s.e0 sB f1 f2 HTT.out.2.1)
          have hcC := hid (listsAt hFL bC HY.out.s.e0 sC f1 f2 HTT.out.2.1)
          have HOb := hid (fun (z : World) (row : Option Nat) (z4 : World) (hbz : Below x3.heap.size x3 z) (hrow : ∀ k, row = some k → x3.heap.size ≤ k) (hg : z.grownBy z4 row) => Ob.grown HY.out.s.ph.ob HY.out.s.b ⟨HY.out.s.lE, HY.out.s.e0⟩ hbz hrow hg)
          rw [hVS.out] at HOb
          have HlE := hid HY.out.s.lE
          have He0 := HY.out.s.e0
          obtain ⟨t0, t1, t2, t3, t4, t5⟩ := HB0.out.cells
          have zz1 := lt_of_block HB0.out.x1
          have zz2 := lt_of_block HB0.out.x2
          have zz3 := lt_of_block HB0.out.y3
          have zz4 := lt_of_block HB0.out.y4
          clear f1 f2 f3 f4 bA bB bC sA sB sC hFL HV HY HF hVS
          go_region_held_law (fun w' => w'.cell? ⟨w6.heap.size, 0, none⟩ = some (.slice a1 T.nodes.length k1) ∧ w'.cell? ⟨w6.heap.size, 1, none⟩ = some (.slice r1 T.roots.length d1) ∧ w'.cell? ⟨w7.heap.size, 0, none⟩ = some (.slice a2 T.nodes.length k2) ∧ w'.cell? ⟨w7.heap.size, 1, none⟩ = some (.slice r2 T.roots.length d2) ∧ w'.cell? ⟨w8.heap.size, 1, none⟩ = some (.slice a3 H.length c3) ∧ w'.cell? ⟨w9.heap.size, 1, none⟩ = some (.slice a4 H.length c4')) (first | exact ⟨t0, t1, t2, t3, t4, t5⟩ | go_keep)
            (first
              | (refine step_append_lies _ (by rfl) _ _ _ (by rfl) w5.heap.size 23 i1 (.slice none 0 0) 1 24 Try.underlying53 hi1 hy0 hy1 hy2 rfl (by omega) _ FL.length FL (by rfl) (HRA.out) ⟨z3.heap.size, 0, none⟩ 2 2 [.slice a3 H.length c3, .slice a4 H.length c4'] (by rfl) (by rfl) (World.news_of_block (cs := #[.slice a3 H.length c3, .slice a4 H.length c4']) (t := 23) (fr := (0, 0)) (heap_alloc_new z3 _)) (by simp [Value.oneCell']) (by omega) (by unfold maxLen; omega) (by omega) (by simp; omega) _ (by rfl) ?_; intro g9 cap9 z4 hown9 hgr9 hat9 hlt9; obtain ⟨ro4, nd4, bk4, bx4, bw4, e4⟩ := HOb.out _ _ z4 HbA.out Hk3.out hgr9; have HRo := hid ro4; have HNd := hid nd4; have HBk := hid bk4; have HBw := hid bw4; have HE4 := hid e4; have HOw := hid hown9; have HB4 := hid (HB0.out.next bx4); clear ro4 nd4 bk4 bx4 bw4 e4 hown9 hgr9 hat9 hlt9 t0 t1 t2 t3 t4 t5; obtain ⟨t0, t1, t2, t3, t4, t5⟩ := HB4.out.cells)
              | (refine step_append_lies _ (by rfl) _ _ _ (by rfl) w5.heap.size 23 i1 (.slice none 0 0) 1 24 Try.underlying53 hi1 hy0 hy1 hy2 rfl (by omega) _ FL.length FL (by rfl) (HRB.out) ⟨x3.heap.size + 1, 0, none⟩ 2 2 [.slice a3 H.length c3, .slice a4 H.length c4'] (by rfl) (by rfl) (World.news_of_block (cs := #[.slice a3 H.length c3, .slice a4 H.length c4']) (t := 23) (fr := (0, 0)) HNB.out) (by simp [Value.oneCell']) (by omega) (by unfold maxLen; omega) (by omega) (by omega) _ (by rfl) ?_; intro g9 cap9 z4 hown9 hgr9 hat9 hlt9; obtain ⟨ro4, nd4, bk4, bx4, bw4, e4⟩ := HOb.out _ _ z4 Hbx.out Hk3.out hgr9; have HRo := hid ro4; have HNd := hid nd4; have HBk := hid bk4; have HBw := hid bw4; have HE4 := hid e4; have HOw := hid hown9; have HB4 := hid (HB0.out.next bx4); clear ro4 nd4 bk4 bx4 bw4 e4 hown9 hgr9 hat9 hlt9 t0 t1 t2 t3 t4 t5; obtain ⟨t0, t1, t2, t3, t4, t5⟩ := HB4.out.cells)
              | (refine step_append_lies _ (by rfl) _ _ _ (by rfl) w5.heap.size 23 i1 (.slice none 0 0) 1 24 Try.underlying53 hi1 hy0 hy1 hy2 rfl (by omega) _ FL.length FL (by rfl) (HRC.out) ⟨x3.heap.size, 0, none⟩ 2 2 [.slice a3 H.length c3, .slice a4 H.length c4'] (by rfl) (by rfl) (World.news_of_block (cs := #[.slice a3 H.length c3, .slice a4 H.length c4']) (t := 23) (fr := (0, 0)) HNC.out) (by simp [Value.oneCell']) (by omega) (by unfold maxLen; omega) (by omega) (by omega) _ (by rfl) ?_; intro g9 cap9 z4 hown9 hgr9 hat9 hlt9; obtain ⟨ro4, nd4, bk4, bx4, bw4, e4⟩ := HOb.out _ _ z4 Hbx.out Hk3.out hgr9; have HRo := hid ro4; have HNd := hid nd4; have HBk := hid bk4; have HBw := hid bw4; have HE4 := hid e4; have HOw := hid hown9; have HB4 := hid (HB0.out.next bx4); clear ro4 nd4 bk4 bx4 bw4 e4 hown9 hgr9 hat9 hlt9 t0 t1 t2 t3 t4 t5; obtain ⟨t0, t1, t2, t3, t4, t5⟩ := HB4.out.cells)
              | (go_at_call 19; with_reducible refine hcA.out.mono ?_; rintro e z3 ⟨⟨lo, lk, rfl, hL, hk⟩, hbx, hbw⟩; have Hk3 := hid hk; have Hbx := hid hbx; have HbA := hid (hbx.alloc hbx.size (.cells #[.slice a3 H.length c3, .slice a4 H.length c4'] 23)); have HRA := hid (World.ownsRow.alloc hL (.cells #[.slice a3 H.length c3, .slice a4 H.length c4'] 23)); have hz3 := hbx.size; have HB3 := hid (HB0.out.next hbx); clear hL hk hbx hbw t0 t1 t2 t3 t4 t5; obtain ⟨t0, t1, t2, t3, t4, t5⟩ := HB3.out.cells)
              | (go_at_call 19; with_reducible refine hcB.out.mono ?_; rintro e z3 ⟨⟨lo, lk, rfl, hL, hk⟩, hbx, hbw⟩; have Hk3 := hid hk; have Hbx := hid hbx; have HRB := hid hL; have HNB := hid ((hbw.block _ (lt_of_block nB.out)).trans nB.out); have hz3 := hbx.size; have HB3 := hid (HB0.out.next hbx); clear hL hk hbx hbw t0 t1 t2 t3 t4 t5; obtain ⟨t0, t1, t2, t3, t4, t5⟩ := HB3.out.cells)
              | (go_at_call 19; with_reducible refine hcC.out.mono ?_; rintro e z3 ⟨⟨lo, lk, rfl, hL, hk⟩, hbx, hbw⟩; have Hk3 := hid hk; have Hbx := hid hbx; have HRC := hid hL; have HNC := hid ((hbw.block _ (lt_of_block nC.out)).trans nC.out); have hz3 := hbx.size; have HB3 := hid (HB0.out.next hbx); clear hL hk hbx hbw t0 t1 t2 t3 t4 t5; obtain ⟨t0, t1, t2, t3, t4, t5⟩ := HB3.out.cells)
              | (go_at_call 18; refine (apart_own (B := w5.heap.size) (vs := FL ++ [.slice a3 H.length c3, .slice a4 H.length c4']) (by simp) HOw.out HRo.out HNd.out (by simp; omega) HE4.out).mono ?_; rintro e z5 ⟨rfl, hAf⟩; have HAf := hid hAf; have HB5 := hid (HB4.out.fin HRo.out hAf); clear hAf t0 t1 t2 t3 t4 t5; obtain ⟨t0, t1, t2, t3, t4, t5⟩ := HB5.out.cells))
          all_goals go_wp2
          all_goals go_ret
          all_goals exact ⟨rfl, own_done HBw.out HlE.out HBk.out HAf.out⟩
end Go.Proofs.Ytllafbghomohhaa

/- SolveOwns, walked: a fault. -/
namespace Go.Proofs.Ytllafbghomohhaa
open Go.RowKit

set_option maxRecDepth 100000 in
set_option maxHeartbeats 8000000 in
theorem sowns_short {W : World} {na ra pa : Option Addr} {n r p nc rc pc : Nat} (hla : ∀ w, Below W.heap.size W w → Calls Try.prog 6 #[.agg #[.slice na n nc, .slice ra r rc], .slice pa p pc] w fun e w' => e = .returned (.bool true) ∧ Below w.heap.size w w') :
    Calls Try.prog 4 #[.agg #[.slice na n nc, .slice ra r rc], .slice pa p pc] W fun e w' => e = .returned (.bool true) ∧ Below W.heap.size W w' := by
  have HB : Hid (Below W.heap.size W (W.alloc (.cells #[.slice na n nc, .slice ra r rc] 25)) ∧ (W.alloc (.cells #[.slice na n nc, .slice ra r rc] 25)).heap[W.heap.size]? = some (.cells #[.slice na n nc, .slice ra r rc] 25)) := ⟨below_alloc W _, heap_alloc_new W _⟩
  have Hla := hid hla
  clear hla
  go_enter Try.func4, Try.ntmps4
  go_wp2_with (first
    | (go_at_call 5; refine (slives_any _).mono ?_; rintro e w1 ⟨rfl, hb1⟩; replace HB := hid (And.intro (Below.next HB.out.1 hb1) ((hb1.block _ (lt_of_block HB.out.2)).trans HB.out.2)); clear hb1; obtain ⟨⟨g0, g1⟩, _⟩ := blk2y HB.out.2; have g2 := lt_of_block HB.out.2)
    | (go_at_call 6; refine (Hla.out _ HB.out.1).mono ?_; rintro e w1 ⟨rfl, hb1⟩; replace HB := hid (And.intro (Below.next HB.out.1 hb1) ((hb1.block _ (lt_of_block HB.out.2)).trans HB.out.2)); clear hb1))
  go_ret
  exact ⟨rfl, HB.out.1⟩
set_option maxRecDepth 100000 in
set_option maxHeartbeats 16000000 in
theorem sowns_bad {W : World} {nv rv pv : Value} {g : Gf} {ps : List (Int × Int)} (hG : Gr W nv rv g) (hS : Sized g) (hP : Rp W pv ps) (hsm : smallK 40 g = true) (hl : ps.length ≤ 40)
    (hla : ∀ w, Below W.heap.size W w → Calls Try.prog 6 #[.agg #[nv, rv], pv] w fun e w' => e = .returned (.bool false) ∧ Below w.heap.size w w')
    (hso : ∀ w n r p, Gr w n r g → Rp w p ps → Calls Try.prog 7 #[.agg #[n, r], p] w fun e w' => (∃ b, e = .returned (.tuple #[.agg #[.slice none 0 0, .slice none 0 0], .bool false, .iface 70 (.pointer (some ⟨b, 0, none⟩))])) ∧ Below w.heap.size w w')
    (hve : ∀ w n r p, Gr w n r g → Rp w p ps → Calls Try.prog 11 #[.agg #[n, r], p] w fun e w' => (∃ b, e = .returned (.tuple #[.agg #[.int .i64 0, .slice none 0 0], .iface 70 (.pointer (some ⟨b, 0, none⟩))])) ∧ Below w.heap.size w w') :
    Calls Try.prog 4 #[.agg #[nv, rv], pv] W fun e w' => e = .returned (.bool true) ∧ Below W.heap.size W w' := by
  obtain ⟨i2, hi2, hp0, hp1, hp2⟩ := info_parts infoPr
  obtain ⟨ha, hn0, hr0⟩ := smallK_fits hsm
  have hn : g.nodes.length ≤ 300 := by omega
  have hr : g.roots.length ≤ 300 := by omega
  have hgr := hid (fun (w : World) (hb : Below W.heap.size W w) => hgraph_any (hG.below hb) hn hr ha)
  have hke := hid (fun (w : World) (B gb cap : Nat) (mrv : Value) (avs : List Value) (hm : Hg w B gb cap mrv avs g) (hb : Below W.heap.size W w) => hKept_any hm (hG.below hb) hn hr ha)
  have hin := hid (fun (w : World) (n r : Value) (h : Gr w n r g) => inst_self h hS)
  have hlf := hid (fun (w : World) (s : Nat) (hb : Below W.heap.size W w) (hs : w.heap.size = s) => list_first (B := w.heap.size) (n := ps.length) (hP.below hb) (by omega) rfl (Nat.le_refl _) hs)
  have hmk := make_pairs ps.length (by omega)
  have HP := hid hP
  have Hla := hid hla
  have Hso := hid hso
  have Hve := hid hve
  obtain ⟨na, nc, rfl, _⟩ := hG.1
  obtain ⟨ra, rc, rfl, _⟩ := hG.2
  obtain ⟨pa, pc, rfl, _⟩ := hP
  have HB : Hid (Below W.heap.size W (W.alloc (.cells #[.slice na g.nodes.length nc, .slice ra g.roots.length rc] 25)) ∧ (W.alloc (.cells #[.slice na g.nodes.length nc, .slice ra g.roots.length rc] 25)).heap[W.heap.size]? = some (.cells #[.slice na g.nodes.length nc, .slice ra g.roots.length rc] 25)) := ⟨below_alloc W _, heap_alloc_new W _⟩
  clear hG hS hsm hla hso hve ha
  generalize hmc : madeCells #[.int .i64 0, .int .i64 0] ((ps.length + 1) * 2) = mcs at *
  clear hmc
  have hne7 := pair_neq (-7) (-7)
  go_enter Try.func4, Try.ntmps4
  go_wp2_with (first
    | (go_at_call 5; refine (slives_any _).mono ?_; rintro e w1 ⟨rfl, hb1⟩; replace HB := hid (And.intro (Below.next HB.out.1 hb1) ((hb1.block _ (lt_of_block HB.out.2)).trans HB.out.2)); clear hb1; obtain ⟨⟨g0, g1⟩, _⟩ := blk2y HB.out.2; have g2 := lt_of_block HB.out.2)
    | (go_at_call 6; refine (Hla.out _ HB.out.1).mono ?_; rintro e w2 ⟨rfl, hb1⟩; replace HB := hid (And.intro (Below.next HB.out.1 hb1) ((hb1.block _ (lt_of_block HB.out.2)).trans HB.out.2)); clear hb1 g0 g1 g2; obtain ⟨⟨g0, g1⟩, _⟩ := blk2y HB.out.2; have g2 := lt_of_block HB.out.2)
    | (go_at_call 14; go_must (refine (hgr.out _ HB.out.1).mono ?_; clear hgr; have hB0 := hid (Nat.le_of_lt (lt_of_block HB.out.2)); rintro e w3 ⟨⟨gb, cap, mrv, avs, rfl, hM⟩, hb1⟩; obtain ⟨mq, mc, hmr⟩ : ∃ mq mc, mrv = .slice (some ⟨mq, 0, none⟩) g.roots.length mc := (by obtain ⟨q, c, h, _⟩ := hM.r; exact ⟨q, c, h⟩); subst hmr; have HM := hid hM; replace HB := hid (And.intro (Below.next HB.out.1 hb1) ((hb1.block _ (lt_of_block HB.out.2)).trans HB.out.2)); clear hb1 hM g0 g1 g2; obtain ⟨ao4, c4, w4, hr4, ho4, hb4, hk4⟩ := hlf.out _ (w3.heap.size + 1) (Below.next HB.out.1 (below_alloc w3 (.cells #[.slice (some ⟨gb, 0, none⟩) g.nodes.length cap, .slice (some ⟨mq, 0, none⟩) g.roots.length mc] 25))) (by simp : _ = w3.heap.size + 1); rw [show (w3.alloc (.cells #[.slice (some ⟨gb, 0, none⟩) g.nodes.length cap, .slice (some ⟨mq, 0, none⟩) g.roots.length mc] 25)).heap.size = w3.heap.size + 1 by simp] at ho4; have Ho4 := hid ho4; have Hb4 := hid hb4; have Hk4 := hid hk4; have hz4 := hb4.size; clear ho4 hb4 hk4))
    | (at_builtin; refine Lib.wpList_append_run _ rfl _ _ _ _ rfl _ _ rfl rfl _ _ (hr4 _) ?_; clear hr4; have hoz := World.ownsRow.alloc Ho4.out (.cells #[.int .i64 (-7), .int .i64 (-7)] 48))
    | (at_builtin; go_must (refine wpList_append_lies _ rfl _ _ 26 rfl (w3.heap.size + 1) 48 i2 (.agg #[.int .i64 0, .int .i64 0]) 2 16 Try.underlying26 hi2 hp0 hp1 hp2 rfl (by decide) _ ps.length _ rfl hoz ⟨w4.heap.size, 0, none⟩ 1 1 m77 rfl rfl (World.news_of_block (cs := #[.int .i64 (-7), .int .i64 (-7)]) (t := 48) (fr := (0, 0)) (heap_alloc_new w4 _)) (by simp [Value.oneCell']) (by decide) (by unfold maxLen; omega) (by omega) (by simp at hz4 ⊢; have := HB.out.1.size; omega) _ rfl ?_; clear hoz; intro lb lc w5 hown5 hgr5 hat5 hlt5; have hcap5 := own_cap hown5; have HBs := hid (bs_start HB.out.1 HB.out.2 hB0.out HM.out (row := (Value.slice ao4 ps.length c4).ownBlock) (fun k e => by have := Hk4.out k e; simp at this; omega) Hb4.out hgr5 hown5); have u1 : True := trivial; have u2 : True := trivial; clear hown5 hgr5 hat5 hlt5 Ho4 Hb4 Hk4 HB HM hz4 hB0 hlf hmk; obtain ⟨⟨⟨g0, g1⟩, g2⟩, ⟨m0, m1⟩, m2⟩ := HBs.out.cells))
    | (go_at_call 7; have _u := u1; clear u1 _u; refine (Hso.out _ _ _ _ HBs.out.hm.gr HBs.out.rp).mono ?_; rintro e w6 ⟨⟨fb, rfl⟩, hb⟩; replace HBs := hid (HBs.out.next (Below.next hb (below_alloc w6 (.cells #[.slice none 0 0, .slice none 0 0] 25)))); clear hb; clear g0 g1 g2 m0 m1 m2; obtain ⟨⟨⟨g0, g1⟩, g2⟩, ⟨m0, m1⟩, m2⟩ := HBs.out.cells)
    | (go_at_call 7; go_must (refine (Hso.out _ _ _ _ HBs.out.hm.gr HBs.out.rp).mono ?_; rintro e w7 ⟨⟨fb2, rfl⟩, hb⟩; replace HBs := hid (HBs.out.next (Below.next hb (below_alloc w7 (.cells #[.slice none 0 0, .slice none 0 0] 25)))); clear hb; clear g0 g1 g2 m0 m1 m2; obtain ⟨⟨⟨g0, g1⟩, g2⟩, ⟨m0, m1⟩, m2⟩ := HBs.out.cells))
    | (go_at_call 11; have _u := u2; clear u2 _u; refine (Hve.out _ _ _ _ HBs.out.hm.gr HBs.out.rp).mono ?_; rintro e w8 ⟨⟨fb3, rfl⟩, hb⟩; replace HBs := hid (HBs.out.next (Below.next hb (below_alloc w8 (vbo 0 (.slice none 0 0))))); clear hb; clear g0 g1 g2 m0 m1 m2; obtain ⟨⟨⟨g0, g1⟩, g2⟩, ⟨m0, m1⟩, m2⟩ := HBs.out.cells)
    | (go_at_call 11; go_must (refine (Hve.out _ _ _ _ HBs.out.hm.gr HBs.out.rp).mono ?_; rintro e w9 ⟨⟨fb4, rfl⟩, hb⟩; replace HBs := hid (HBs.out.next (Below.next hb (below_alloc w9 (vbo 0 (.slice none 0 0))))); clear hb; clear g0 g1 g2 m0 m1 m2; obtain ⟨⟨⟨g0, g1⟩, g2⟩, ⟨m0, m1⟩, m2⟩ := HBs.out.cells))
    | (go_at_call 15; go_must (refine (hin.out _ _ _ HBs.out.hm.gr).mono ?_; rintro e w10 ⟨⟨xx, yy, rfl⟩, hb⟩; replace HBs := hid (HBs.out.next hb); clear hb; clear g0 g1 g2 m0 m1 m2; obtain ⟨⟨⟨g0, g1⟩, g2⟩, ⟨m0, m1⟩, m2⟩ := HBs.out.cells))
    | (go_at_call 16; go_must (refine (hke.out _ _ _ _ _ _ HBs.out.hm HBs.out.b).mono ?_; rintro e w11 ⟨rfl, hb⟩; replace HBs := hid (HBs.out.next hb); clear hb; clear g0 g1 g2 m0 m1 m2; obtain ⟨⟨⟨g0, g1⟩, g2⟩, ⟨m0, m1⟩, m2⟩ := HBs.out.cells; obtain ⟨⟨l0, l1⟩, l2, l3⟩ := HBs.out.last)))
  clear hne7 l0 l1
  obtain ⟨wk, rfl⟩ : ∃ wk : World, wk = w11 := ⟨_, rfl⟩
  clear g0 g1 g2 m0 m1 m2
  go_loopw [17, 94] (fun _ i wr => ∃ j : Nat, j ≤ ps.length ∧ i = .int .i64 (j : Int) ∧ Hid (Bos W (.slice na g.nodes.length nc) (.slice ra g.roots.length rc) w5.heap.size w3.heap.size w2.heap.size gb cap mq mc avs lb lc g ps wr) ∧ Hid (Below wk.heap.size wk wr)) (fun _ i _ => ps.length - (intOf i).toNat)
  case atStart => exact ⟨0, Nat.zero_le _, rfl, HBs, Below.refl _ _⟩
  case round =>
    clear HBs
    obtain ⟨j, hj, rfl, HBs, Hbk⟩ := hrel
    by_cases hlt : j < ps.length
    · have hji : (j : Int) < (ps.length : Int) := by omega
      obtain ⟨p0, p1⟩ := HBs.out.at_ hlt
      obtain ⟨b2, o2, e3, q0, q1⟩ := rp_at (HP.out.below HBs.out.b) hlt
      subst e3
      have zp := lt_of_cell p0
      have zq := lt_of_cell q0
      have hnej := pair_neq (ps.getD j (0, 0)).1 (ps.getD j (0, 0)).2
      generalize (ps.getD j (0, 0)).1 = x at *
      generalize (ps.getD j (0, 0)).2 = y at *
      go_wp2
      go_quiet (fail)
      go_wp2
      go_roundw
      case rel => exact ⟨j + 1, by omega, by go_num, hid (HBs.out.next (below_drewN (Below.refl _ _) _)), hid (below_drewN Hbk.out _)⟩
      case measure => simp [intOf]; omega
    · obtain rfl : j = ps.length := by omega
      go_wp2
      go_ret
      exact ⟨rfl, HBs.out.b⟩
end Go.Proofs.Ytllafbghomohhaa

/- SolveOwns, at any graph and pairs. -/
namespace Go.Proofs.Ytllafbghomohhaa
open Go.RowKit

theorem fits_noneO : Fits ⟨[], []⟩ := ⟨by simp, by simp, fun n hn => by simp at hn⟩
theorem og_none (w : World) (B : Nat) : Og w B (.slice none 0 0) (.slice none 0 0) [] ⟨[], []⟩ := by
  refine ⟨⟨World.ownsRow_nil _ _ _ _, rfl, fun j hj => absurd hj (Nat.not_lt_zero _), nd_one _⟩, ⟨none, 0, rfl⟩, ⟨none, 0, rfl, World.ownsRow_nil _ _ _ _⟩, fun k hk => by cases hk⟩
theorem least_small {g : Gf} (hg : Good g) {E : Nat → Nat} {ee : Nat → Nat → Bool} (hE : ∀ x, x < g.nodes.length → E x < g.nodes.length) (he : ∀ x y : Nat, (ee x y = true ↔ Al (gE g.nodes g.roots E) (x : Int) (y : Int))) : (trimF (quoF ee (gE g.nodes g.roots E))).nodes.length ≤ g.nodes.length ∧ (trimF (quoF ee (gE g.nodes g.roots E))).roots.length = g.roots.length := by
  have h0 := gE_good hg hE
  have hl : (gE g.nodes g.roots E).nodes.length = g.nodes.length := by simp [gE]
  have h1 := trim_len (quo_good h0 (al_eqv h0 he))
  have h2 := (met_ok (quo_good h0 (al_eqv h0 he))).le
  have h3 := quo_len ee (gE g.nodes g.roots E)
  have h4 := lsF_le ee (gE g.nodes g.roots E).nodes.length
  refine ⟨by omega, ?_⟩
  rw [least_root]
  simp [gE]
theorem solveOwns_walk {W : World} (n1 r1 : Value) (g : Gf) (hG : Gr W n1 r1 g) (zG : Sized g) (pv : Value) (ps : List (Int × Int)) (hP : Rp W pv ps) (zP : ps.length ≤ 9223372036854775807) :
    Calls Try.prog 4 #[.agg #[n1, r1], pv] W fun e w' => e = .returned (.bool true) ∧ Below W.heap.size W w' := by
  by_cases sg : (!smallK 40 g || decide (40 < ps.length)) = true
  · obtain ⟨na, nc, rfl, _⟩ := hG.1
    obtain ⟨ra, rc, rfl, _⟩ := hG.2
    have hP0 := hP
    obtain ⟨pa, pc, rfl, _⟩ := hP0
    exact sowns_short (fun w hb => slarge_any (hG.below hb) (hP.below hb) sg.symm zP)
  · have sg' : false = (!smallK 40 g || decide (40 < ps.length)) := by simpa using sg
    have hsm : smallK 40 g = true := by
      simp at sg
      exact sg.1
    have hl40 : ps.length ≤ 40 := by
      simp at sg
      omega
    have hl : ps.length ≤ 5000 := by omega
    have hla := fun w (hb : Below W.heap.size W w) => slarge_any (hG.below hb) (hP.below hb) sg' zP
    by_cases hc : chkS g ps = []
    · obtain ⟨hg, hpg⟩ := chkS_good hc
      obtain ⟨_, hn40, hr40⟩ := smallK_fits hsm
      by_cases hn : NoSol g.nodes (ps.map natP)
      · refine sowns_main hG zG hP hsm hl40 false ⟨[], []⟩ ⟨fits_noneO, by simp, by simp, fun n hn => by simp at hn⟩ 1 [] (by simp) hla (fun w n r p h1 h2 => ?_) (fun w hb => ?_) (fun w n r p h1 h2 => ?_) (fun w hb => ?_)
        · refine (solve_no h1 zG h2 hl hc hn).mono ?_
          rintro e w' ⟨rfl, h2⟩
          exact ⟨⟨none, 0, none, 0, [], rfl, og_none w' _⟩, h2⟩
        · refine (rsol_no (hG.below hb) zG (hP.below hb) hl hc hn).mono ?_
          rintro e w' ⟨rfl, h2⟩
          exact ⟨⟨none, 0, none, 0, rfl, gr_none w'⟩, h2⟩
        · refine (verdict_no h1 zG h2 hl hc hn).mono ?_
          rintro e w' ⟨rfl, h2⟩
          exact ⟨⟨none, 0, rfl, World.ownsRow_nil _ _ _ _⟩, h2⟩
        · refine (rver_no (hG.below hb) zG (hP.below hb) hl hc hn).mono ?_
          rintro e w' ⟨rfl, h2⟩
          exact ⟨⟨none, 0, rfl, World.ownsRow_nil _ _ _ _⟩, h2⟩
      · have hA := goodA_of hg
        have hex : ∃ E, Un g.nodes (ps.map natP) E [] := by
          rcases un_all hA _ (ps.map natP) rfl (psg_nat hpg) with h | h
          · exact h
          · exact absurd h hn
        obtain ⟨E, hU⟩ := hex
        obtain ⟨ee, he⟩ := al_dec (gE g.nodes g.roots E)
        have hLT : LeastS g ps (trimF (quoF ee (gE g.nodes g.roots E))) := ⟨E, ee, hU, he, rfl⟩
        obtain ⟨hT1, hT2⟩ := least_small hg hU.rng he
        have hTg := sol_good hg hLT
        have huq := fun t (h : LeastS g ps t) => leastS_uniq hg (fun R _ => Iff.rfl) h hLT
        generalize trimF (quoF ee (gE g.nodes g.roots E)) = T at *
        refine sowns_main hG zG hP hsm hl40 true T ⟨fits_good hTg, by omega, by omega, fun n hn => by have := (good_args (hTg.node n hn)).2; omega⟩ (if (hangF g.nodes E g.nodes.length).length = 0 then 2 else 3) (hangF g.nodes E g.nodes.length) (by have h1 := hangF_le g.nodes E g.nodes.length; omega) hla (fun w n r p h1 h2 => ?_) (fun w hb => ?_) (fun w n r p h1 h2 => ?_) (fun w hb => ?_)
        · refine (solve_yes h1 zG h2 hl hc hn).mono ?_
          rintro e w' ⟨⟨t, na, nc, ra, rc, avs, h1, h3, h4⟩, h2⟩
          have e0 := huq t h3
          subst e0
          exact ⟨⟨na, nc, ra, rc, avs, h1, h4⟩, h2⟩
        · refine (rsol_yes (hG.below hb) zG (hP.below hb) hl hc hn).mono ?_
          rintro e w' ⟨⟨na, nc, ra, rc, t, h1, h3, h4⟩, h2⟩
          have e0 := huq t h4
          subst e0
          exact ⟨⟨na, nc, ra, rc, h1, h3⟩, h2⟩
        · refine (verdict_yes h1 zG h2 hl hc hn).mono ?_
          rintro e w' ⟨⟨F, ao, c, hV, h1, h3⟩, h2⟩
          rw [hang_uniq hV hU] at h1 h3
          exact ⟨⟨ao, c, h1, h3⟩, h2⟩
        · refine (rver_yes (hG.below hb) zG (hP.below hb) hl hc hn).mono ?_
          rintro e w' ⟨⟨F, ao, c, hV, h1, h3⟩, h2⟩
          rw [hang_uniq hV hU] at h1 h3
          exact ⟨⟨ao, c, h1, h3⟩, h2⟩
    · refine sowns_bad hG zG hP hsm hl40 hla (fun w n r p h1 h2 => ?_) (fun w n r p h1 h2 => ?_)
      · refine (solve_bad h1 zG h2 hl hc).mono ?_
        rintro e w' ⟨⟨ev, rfl, he⟩, h2⟩
        rcases he.isNil with ⟨e0, _⟩ | ⟨_, b, rfl⟩
        · exact absurd e0 hc
        · exact ⟨⟨b, rfl⟩, h2⟩
      · refine (verdict_bad h1 zG h2 hl hc).mono ?_
        rintro e w' ⟨⟨ev, rfl, he⟩, h2⟩
        rcases he.isNil with ⟨e0, _⟩ | ⟨_, b, rfl⟩
        · exact absurd e0 hc
        · exact ⟨⟨b, rfl⟩, h2⟩
end Go.Proofs.Ytllafbghomohhaa
