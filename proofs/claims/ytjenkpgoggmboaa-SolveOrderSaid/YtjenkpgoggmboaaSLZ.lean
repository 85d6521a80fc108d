/- SolveOrder, walked: the short ways. -/
import Derived.Test.YtjenkpgoggmboaaSEZ
import Derived.Test.YtjenkpgoggmboaaSKZ
import Derived.Test.YtjenkpgoggmboaaBAZ
import Derived.Test.YtjenkpgoggmboaaSBZ
import Derived.Test.YtjenkpgoggmboaaGrLaw
namespace Go.Proofs.Ytjenkpgoggmboaa
open Go.RowKit

section
variable {W : World} {a0 a1 a2 : Option Addr} {m0 m1 m2 c0 c1 c2 : Nat}
set_option maxRecDepth 100000 in
set_option maxHeartbeats 4000000 in
theorem sord_short0 (hsm : ∀ w, Below W.heap.size W w → Calls Try.prog 22 #[.agg #[.slice a0 m0 c0, .slice a1 m1 c1], .int .i64 120] w fun e w' => e = .returned (.bool false) ∧ Below w.heap.size w w') :
    Calls Try.prog 7 #[.agg #[.slice a0 m0 c0, .slice a1 m1 c1], .slice a2 m2 c2] W fun e w' => e = .returned (.bool true) ∧ Below W.heap.size W w' := by
  have HB := hid (Ob.start W (.slice a0 m0 c0) (.slice a1 m1 c1))
  have Hsm := hid hsm
  clear hsm
  go_enter Try.func7, Try.ntmps7
  go_wp2_with (first
    | (go_at_call 9; refine (slives_any _).mono ?_; rintro e w1 ⟨rfl, hb1⟩; replace HB := hid (HB.out.next hb1); clear hb1; obtain ⟨⟨x0, x1⟩, x2⟩ := HB.out.cells)
    | (go_at_call 22; refine (Hsm.out _ HB.out.b).mono ?_; rintro e w1 ⟨rfl, hb1⟩; replace HB := hid (HB.out.next hb1); clear hb1; obtain ⟨⟨x0, x1⟩, x2⟩ := HB.out.cells))
  go_ret
  exact ⟨rfl, HB.out.b⟩
set_option maxRecDepth 100000 in
set_option maxHeartbeats 4000000 in
theorem sord_short1 (hsm : ∀ w, Below W.heap.size W w → Calls Try.prog 22 #[.agg #[.slice a0 m0 c0, .slice a1 m1 c1], .int .i64 120] w fun e w' => e = .returned (.bool true) ∧ Below w.heap.size w w') (hm : 60 < m2) :
    Calls Try.prog 7 #[.agg #[.slice a0 m0 c0, .slice a1 m1 c1], .slice a2 m2 c2] W fun e w' => e = .returned (.bool true) ∧ Below W.heap.size W w' := by
  have HB := hid (Ob.start W (.slice a0 m0 c0) (.slice a1 m1 c1))
  have Hsm := hid hsm
  have hm' : (60 : Int) < (m2 : Int) := by omega
  clear hsm
  go_enter Try.func7, Try.ntmps7
  go_wp2_with (first
    | (go_at_call 9; refine (slives_any _).mono ?_; rintro e w1 ⟨rfl, hb1⟩; replace HB := hid (HB.out.next hb1); clear hb1; obtain ⟨⟨x0, x1⟩, x2⟩ := HB.out.cells)
    | (go_at_call 22; refine (Hsm.out _ HB.out.b).mono ?_; rintro e w1 ⟨rfl, hb1⟩; replace HB := hid (HB.out.next hb1); clear hb1; obtain ⟨⟨x0, x1⟩, x2⟩ := HB.out.cells))
  go_ret
  exact ⟨rfl, HB.out.b⟩
set_option maxRecDepth 100000 in
set_option maxHeartbeats 4000000 in
theorem sord_bad (hsm : ∀ w, Below W.heap.size W w → Calls Try.prog 22 #[.agg #[.slice a0 m0 c0, .slice a1 m1 c1], .int .i64 120] w fun e w' => e = .returned (.bool true) ∧ Below w.heap.size w w') (hm : ¬ 60 < m2) (hso : ∀ w, Below W.heap.size W w → Calls Try.prog 11 #[.agg #[.slice a0 m0 c0, .slice a1 m1 c1], .slice a2 m2 c2] w fun e w' => (∃ b, e = .returned (.tuple #[.agg #[.slice none 0 0, .slice none 0 0], .bool false, .iface 75 (.pointer (some ⟨b, 0, none⟩))])) ∧ Below w.heap.size w w') :
    Calls Try.prog 7 #[.agg #[.slice a0 m0 c0, .slice a1 m1 c1], .slice a2 m2 c2] W fun e w' => e = .returned (.bool true) ∧ Below W.heap.size W w' := by
  have HB := hid (Ob.start W (.slice a0 m0 c0) (.slice a1 m1 c1))
  have Hsm := hid hsm
  have Hso := hid hso
  have hm' : ¬ ((60 : Int) < (m2 : Int)) := by omega
  clear hsm hso
  go_enter Try.func7, Try.ntmps7
  go_wp2_with (first
    | (go_at_call 9; refine (slives_any _).mono ?_; rintro e w1 ⟨rfl, hb1⟩; replace HB := hid (HB.out.next hb1); clear hb1; obtain ⟨⟨x0, x1⟩, x2⟩ := HB.out.cells)
    | (go_at_call 22; refine (Hsm.out _ HB.out.b).mono ?_; rintro e w1 ⟨rfl, hb1⟩; replace HB := hid (HB.out.next hb1); clear hb1; obtain ⟨⟨x0, x1⟩, x2⟩ := HB.out.cells)
    | (go_at_call 11; refine (Hso.out _ HB.out.b).mono ?_; rintro e w1 ⟨⟨q, rfl⟩, hb1⟩; replace HB := hid (HB.out.next hb1); clear hb1; have HB2 := hid (HB.out.next (below_alloc w1 grZ))))
  go_ret
  exact ⟨rfl, HB2.out.b⟩
end
end Go.Proofs.Ytjenkpgoggmboaa

/- SolveOrder, walked: a solution. -/
namespace Go.Proofs.Ytjenkpgoggmboaa
open Go.RowKit

set_option maxRecDepth 100000 in
set_option maxHeartbeats 32000000 in
theorem sord_yes {W : World} {a0 a1 a2 : Option Addr} {c0 c1 c2 : Nat} {g : Gf} {ps : List (Int × Int)} {t : Gf}
    (hG : Gr W (.slice a0 g.nodes.length c0) (.slice a1 g.roots.length c1) g) (hP : Rp W (.slice a2 ps.length c2) ps) (hg : Good g) (hN : g.nodes.length ≤ 120) (hR : g.roots.length ≤ 120) (hm : ps.length ≤ 60) (hpg : PsG g ps)
    (hsm : ∀ w, Below W.heap.size W w → Calls Try.prog 22 #[.agg #[.slice a0 g.nodes.length c0, .slice a1 g.roots.length c1], .int .i64 120] w fun e w' => e = .returned (.bool true) ∧ Below w.heap.size w w')
    (hso : ∀ w pv qs, Below W.heap.size W w → Rp w pv qs → (qs = ps ∨ qs = othJ ps ps.length) → Calls Try.prog 11 #[.agg #[.slice a0 g.nodes.length c0, .slice a1 g.roots.length c1], pv] w fun e w' => (∃ na nc ra rc, e = .returned (.tuple #[.agg #[.slice na t.nodes.length nc, .slice ra t.roots.length rc], .bool true, .nilIface]) ∧ Gr w' (.slice na t.nodes.length nc) (.slice ra t.roots.length rc) t) ∧ Below w.heap.size w w')
    (htf : Fits t) (hsol : LeastS g ps t) :
    Calls Try.prog 7 #[.agg #[.slice a0 g.nodes.length c0, .slice a1 g.roots.length c1], .slice a2 ps.length c2] W fun e w' => e = .returned (.bool true) ∧ Below W.heap.size W w' := by
  obtain ⟨i0, hi, hz0, hz1, hz2⟩ := info_parts infoI
  obtain ⟨i2, hi2, hp0, hp1, hp2⟩ := info_parts infoPr
  have HB := hid (Ob.start W (.slice a0 g.nodes.length c0) (.slice a1 g.roots.length c1))
  have HG := hid hG
  have HP := hid hP
  have Hg := hid hg
  have Hpg := hid hpg
  have Hsm := hid hsm
  have Hso := hid hso
  have Hsol := hid hsol
  have Hsame : Hid (∀ w n1 r1 n2 r2, Gr w n1 r1 t → Gr w n2 r2 t → Calls Try.prog 27 #[.agg #[n1, r1], .agg #[n2, r2]] w fun e w' => e = .returned (.bool true) ∧ Below w.heap.size w w') := fun w n1 r1 n2 r2 h1 h2 => by
    have := same_any h1 h2 htf
    rw [eqG_yes] at this
    exact this
  have hm' : ¬ ((60 : Int) < (ps.length : Int)) := by omega
  clear hG hP hg hpg hsm hso hsol htf
  go_enter Try.func7, Try.ntmps7
  go_wp2_with (first
    | (go_at_call 9; refine (slives_any _).mono ?_; rintro e w1 ⟨rfl, hb1⟩; replace HB := hid (HB.out.next hb1); clear hb1; obtain ⟨⟨x0, x1⟩, x2⟩ := HB.out.cells)
    | (go_at_call 22; refine (Hsm.out _ HB.out.b).mono ?_; rintro e w1 ⟨rfl, hb1⟩; replace HB := hid (HB.out.next hb1); clear hb1; obtain ⟨⟨x0, x1⟩, x2⟩ := HB.out.cells)
    | (go_at_call 11; refine (Hso.out _ _ _ HB.out.b (HP.out.below HB.out.b) (Or.inl rfl)).mono ?_; rintro e w2 ⟨⟨na, nc, ra, rc, rfl, hq2⟩, hb2⟩; have HX := hid (Sg.mk ((HB.out.next hb2).next (below_alloc w2 (.cells #[.slice na t.nodes.length nc, .slice ra t.roots.length rc] 25))).b ((HB.out.next hb2).next (below_alloc w2 (.cells #[.slice na t.nodes.length nc, .slice ra t.roots.length rc] 25))).x (heap_alloc_new w2 (.cells #[.slice na t.nodes.length nc, .slice ra t.roots.length rc] 25)) (hq2.below (below_alloc w2 (.cells #[.slice na t.nodes.length nc, .slice ra t.roots.length rc] 25)))); clear hb2 hq2 x0 x1 x2 HB))
  have hlit : Hid (World.ownsRow ((w2.alloc (.cells #[.slice na t.nodes.length nc, .slice ra t.roots.length rc] 25)).alloc (.cells #[] 52)) (w2.heap.size + 1) 52 2 (.slice (some ⟨w2.heap.size + 1, 0, none⟩) (0 + 0) 0) (0 + 0) (pcI (othJ ps 0))) := by
    have h := World.ownsRow_lit (base := w2.heap.size + 1) (e := 52) (size := 2) (w2.alloc (.cells #[.slice na t.nodes.length nc, .slice ra t.roots.length rc] 25)) #[] 0 (by simp) (by unfold maxLen; omega) (by simp)
    rw [show (w2.alloc (.cells #[.slice na t.nodes.length nc, .slice ra t.roots.length rc] 25)).heap.size = w2.heap.size + 1 by simp] at h
    exact h
  have hbl : Hid (Below (w2.heap.size + 1) (w2.alloc (.cells #[.slice na t.nodes.length nc, .slice ra t.roots.length rc] 25)) ((w2.alloc (.cells #[.slice na t.nodes.length nc, .slice ra t.roots.length rc] 25)).alloc (.cells #[] 52))) := (Below.refl _ _).alloc (by simp) _
  go_loopw [8, 9] (fun s i wr => ∃ (k : Nat) (ao : Option Addr) (c : Nat), k ≤ ps.length ∧ i = .int .i64 (((ps.length - k : Nat) : Int) - 1) ∧ s = .slice ao (k + k) c ∧ Hid (Below (w2.heap.size + 1) (w2.alloc (.cells #[.slice na t.nodes.length nc, .slice ra t.roots.length rc] 25)) wr) ∧ Hid (wr.ownsRow (w2.heap.size + 1) 52 2 (.slice ao (k + k) c) (k + k) (pcI (othJ ps k)))) (fun _ i _ => (intOf i + 1).toNat)
  case atStart => exact ⟨0, some ⟨w2.heap.size + 1, 0, none⟩, 0, Nat.zero_le _, by go_num, rfl, hbl, hlit⟩
  case round =>
    clear hbl hlit
    obtain ⟨k, ao, c, hk, rfl, rfl, hbe, hown⟩ := hrel
    have hsz : (w2.alloc (.cells #[.slice na t.nodes.length nc, .slice ra t.roots.length rc] 25)).heap.size = w2.heap.size + 1 := by simp
    have hX := hid (HX.out.next (show Below (w2.alloc (.cells #[.slice na t.nodes.length nc, .slice ra t.roots.length rc] 25)).heap.size (w2.alloc (.cells #[.slice na t.nodes.length nc, .slice ra t.roots.length rc] 25)) wr by rw [hsz]; exact hbe.out))
    have hzr := hbe.out.size
    rw [hsz] at hzr
    by_cases hlt : k < ps.length
    · obtain ⟨q, hq⟩ : ∃ q, ps.length - k = q + 1 := ⟨ps.length - k - 1, by omega⟩
      rw [show (((ps.length - k : Nat) : Int) - 1) = (q : Int) by omega]
      have hqi : (q : Int) < (ps.length : Int) := by omega
      obtain ⟨pa', pc', e, hpc⟩ := HP.out.below hX.out.b
      injection e with e1 _ e3
      subst e1 e3
      obtain ⟨b, o, hao, p0, p1⟩ := hpc q (by omega)
      subst hao
      have zb := lt_of_cell p0
      have hst : Hid (pcI (othJ ps (k + 1)) = pcI (othJ ps k) ++ [.int .i64 (ps.getD q (0, 0)).2, .int .i64 (ps.getD q (0, 0)).1, .int .i64 (ps.getD q (0, 0)).1, .int .i64 (ps.getD q (0, 0)).2]) := show _ = _ by
        rw [show othJ ps (k + 1) = othJ ps k ++ [((ps.getD (ps.length - 1 - k) (0, 0)).2, (ps.getD (ps.length - 1 - k) (0, 0)).1), ps.getD (ps.length - 1 - k) (0, 0)] from rfl, show ps.length - 1 - k = q by omega, pcI_app]
        rfl
      generalize ps.getD q (0, 0) = pr at *
      obtain ⟨x, y⟩ := pr
      dsimp only at p0 p1 hst
      have hO1 := World.ownsRow.alloc hown.out (.cells #[.int .i64 y, .int .i64 x, .int .i64 x, .int .i64 y] 52)
      have hlo : Hid (∀ m, (Value.slice ao (k + k) c).ownBlock = some m → w2.heap.size + 1 ≤ m) := fun m hm => (hown.out.lt m hm).1
      have Hq := hid hq
      clear hpc hown hsz hq
      generalize pcI (othJ ps k) = PC at *
      go_wp2
      go_region_law
        (first
          | (refine step_append_lies _ (by rfl) _ _ _ (by rfl) (w2.heap.size + 1) 52 i2 (.agg #[.int .i64 0, .int .i64 0]) 2 16 Try.underlying26 hi2 hp0 hp1 hp2 rfl (by omega) _ (k + k) PC (by rfl) (hO1.drew) ⟨wr.heap.size, 0, none⟩ 2 2 [.int .i64 y, .int .i64 x, .int .i64 x, .int .i64 y] (by rfl) (by rfl) (World.news_of_block (cs := #[.int .i64 y, .int .i64 x, .int .i64 x, .int .i64 y]) (t := 52) (fr := (0, 0)) (heap_alloc_new wr _)) (by simp [Value.oneCell']) (by omega) (by unfold maxLen; omega) (by omega) (by simp; omega) (wr.heap.size + 1) (by simp) ?_; intro g6 cap w6 hown6 hgr6 hat hlt6; have hb6 : Hid (Below (w2.heap.size + 1) (w2.alloc (.cells #[.slice na t.nodes.length nc, .slice ra t.roots.length rc] 25)) w6) := hbe.out.trans ((((Below.refl _ _).alloc hzr _).drew).grown hgr6 (by simp; omega) (fun m hm => hlo.out m hm))))
      all_goals go_wp2
      all_goals
        go_roundw
        case rel => exact ⟨k + 1, some ⟨g6, 0, none⟩, cap, by omega, congrArg (Value.int .i64) (by have := Hq.out; omega), by congr 1; omega, hb6, (show World.ownsRow _ _ _ _ _ _ _ by rw [hst.out, show k + 1 + (k + 1) = k + k + 2 by omega]; exact hown6)⟩
        case measure => first | (simp [intOf]; omega) | simp [intOf]
    · obtain rfl : k = ps.length := by omega
      have hrp := hid (rp_own (othJ_len ps ps.length) hown.out)
      have hbx := hX.out.g
      obtain ⟨⟨g0, g1⟩, _⟩ := blk2y hbx
      have zg := lt_of_block hbx
      have hi1 : (((ps.length - ps.length : Nat) : Int) - 1) = -1 := by omega
      rw [hi1]
      clear hown hbx hsz hi1
      go_wp2_with (first
        | (go_at_call 11; refine (Hso.out _ _ _ hX.out.b hrp.out (Or.inr rfl)).mono ?_; rintro e w5 ⟨⟨ka, kc, la, lc, rfl, hq5⟩, hb5⟩; have hX4 := hX.out.next hb5; have hX5 := hid (hX4.next (below_alloc w5 (.cells #[.slice ka t.nodes.length kc, .slice la t.roots.length lc] 25))); have hq6 := hid (hq5.below (below_alloc w5 (.cells #[.slice ka t.nodes.length kc, .slice la t.roots.length lc] 25))); obtain ⟨⟨s0, s1⟩, _⟩ := blk2y hX4.h; have zs := lt_of_block hX4.h; clear hb5 hq5 hX4 g0 g1 zg)
        | (go_at_call 27; refine (Hsame.out _ _ _ _ _ hX5.out.q hq6.out).mono ?_; rintro e w6 ⟨rfl, hb6⟩; have hX6 := hid (hX5.out.next hb6); have hbx6 := hX6.out.g; obtain ⟨⟨g0, g1⟩, _⟩ := blk2y hbx6; have zg := lt_of_block hbx6; clear hb6 hbx6 s0 s1 zs hX5 hq6))
      have h50 : Hid (Gr5 (w6.alloc (.cells #[.slice a0 g.nodes.length c0, .slice none 0 0] 25)) w6.heap.size (.slice a0 g.nodes.length c0) (.slice none 0 0) 0 (((List.range 0).map (fun n : Nat => (n : Int))).map (Value.int .i64)) (w6.alloc (.cells #[.slice a0 g.nodes.length c0, .slice none 0 0] 25))) := ⟨Mo.refl _ _, heap_alloc_new w6 _, World.ownsRow_nil _ _ _ _⟩
      clear g0 g1 zg
      go_loopw [97] (fun i wr => ∃ (k : Nat) (ao : Option Addr) (c : Nat), k ≤ g.nodes.length ∧ i = .int .i64 (k : Int) ∧ Hid (Gr5 (w6.alloc (.cells #[.slice a0 g.nodes.length c0, .slice none 0 0] 25)) w6.heap.size (.slice a0 g.nodes.length c0) (.slice ao k c) k (((List.range k).map (fun n : Nat => (n : Int))).map (Value.int .i64)) wr)) (fun i _ => g.nodes.length - (intOf i).toNat)
      case atStart => exact ⟨0, none, 0, Nat.zero_le _, rfl, h50⟩
      case round =>
        clear h50
        obtain ⟨k, ao, c, hk, rfl, h5⟩ := hrel
        have hbx := h5.out.b
        obtain ⟨⟨g0, g1⟩, g2, g3⟩ := blk2y hbx
        have zg := lt_of_block hbx
        have hz7 := h5.out.m.size
        have hs7 : (w6.alloc (.cells #[.slice a0 g.nodes.length c0, .slice none 0 0] 25)).heap.size = w6.heap.size + 1 := by simp
        rw [hs7] at hz7
        by_cases hkl : k < g.nodes.length
        · have hki : (k : Int) < (g.nodes.length : Int) := by omega
          have hO1 := World.ownsRow.alloc h5.out.o (.cells #[.int .i64 (k : Int)] 3)
          rw [hs7] at hO1
          have H5 : Hid (∀ (w5 : World) (gg cap : Nat), w5.ownsRow (w6.heap.size + 1) 3 1 (.slice (some ⟨gg, 0, none⟩) (k + 1) cap) (k + 1) (((List.range k).map (fun n : Nat => (n : Int))).map (Value.int .i64) ++ [.int .i64 (k : Int)]) → (wr.alloc (.cells #[.int .i64 (k : Int)] 3)).grownBy w5 (Value.slice ao k c).ownBlock → w5.heap[w6.heap.size]? = some (.cells #[.slice a0 g.nodes.length c0, .slice ao k c] 25) ∧ Gr5 (w6.alloc (.cells #[.slice a0 g.nodes.length c0, .slice none 0 0] 25)) w6.heap.size (.slice a0 g.nodes.length c0) (.slice (some ⟨gg, 0, none⟩) (k + 1) cap) (k + 1) (((List.range (k + 1)).map (fun n : Nat => (n : Int))).map (Value.int .i64)) (w5.setCell ⟨w6.heap.size, 1, none⟩ (.slice (some ⟨gg, 0, none⟩) (k + 1) cap))) := fun w5 gg cap h1 h2 => by
            rw [ranges_snoc]
            exact Gr5.more (Or.inr ⟨_, rfl⟩) h5.out (by simp) (by rw [hs7]; exact h1) h2
          clear hbx h5 hs7
          generalize ((List.range k).map (fun n : Nat => (n : Int))).map (Value.int .i64) = RS at *
          go_wp2_with (at_builtin; go_must (refine wpList_append_lies _ rfl _ _ 23 rfl (w6.heap.size + 1) 3 i0 (.int .i64 0) 1 8 Try.underlying23 hi hz0 hz1 hz2 rfl (by decide) _ k _ rfl hO1 ⟨wr.heap.size, 0, none⟩ 1 1 [.int .i64 (k : Int)] rfl rfl (World.news_of_block (cs := #[.int .i64 (k : Int)]) (t := 3) (fr := (0, 0)) (heap_alloc_new wr _)) (by simp [Value.oneCell']) (by decide) (by unfold maxLen; omega) (by omega) (by simp; omega) _ rfl ?_; intro gg cap w8 hown8 hg8 hat8 hlt8; obtain ⟨d8, H8⟩ := H5.out w8 gg cap hown8 hg8; obtain ⟨⟨_, r0⟩, _, r1⟩ := blk2y d8; have zr := lt_of_block d8))
          go_roundw
          case rel => exact ⟨k + 1, some ⟨gg, 0, none⟩, cap, by omega, by go_num, H8⟩
          case measure => simp [intOf]; omega
        · obtain rfl : k = g.nodes.length := by omega
          have hbe6 : Below w6.heap.size w6 wr := (below_alloc w6 (.cells #[.slice a0 g.nodes.length c0, .slice none 0 0] 25)).trans (h5.out.m.below (fun q hq => by omega) (by simp))
          have hX7 := hX6.out.next hbe6
          have hbg := hX7.g
          obtain ⟨⟨b0, b1⟩, _⟩ := blk2y hbg
          have zb := lt_of_block hbg
          have ho7 := h5.out.o
          rw [hs7] at ho7
          obtain ⟨ra7, rc7, w8, hrun, ho8, hg8⟩ := iapp ho7 hz7 (HG.out.2.below hX7.b) (by omega) (by omega)
          obtain ⟨d8, H8⟩ := Gr5.more (Or.inl rfl) h5.out (by simp) (by rw [hs7]; exact ho8) hg8
          rw [← List.map_append] at H8
          have hO0 := hid (o3_start (ps := ps) HG.out hX6.out.b H8 (alls_start Hg.out ps hN hR))
          have hlo7 := fun q hq => (ho7.lt q hq).1
          have hb8 : Below w6.heap.size w6 w8 := hbe6.trans ((Below.refl _ _).grown hg8 (by omega) (fun q hq => by have := hlo7 q hq; omega))
          have hX8 := hX6.out.next hb8
          have hbg8 := hX8.g
          obtain ⟨⟨e0, e1⟩, _⟩ := blk2y hbg8
          have ze := lt_of_block hbg8
          obtain ⟨⟨_, r0⟩, _, r1⟩ := blk2y d8
          have zr := lt_of_block d8
          have zW := lt_of_block hX6.out.g
          have hne : W.heap.size ≠ w6.heap.size := by omega
          have hne2 : w6.heap.size ≠ W.heap.size := by omega
          clear hbx hbg hbg8 hX7 hX8 ho7 ho8 hg8 d8 H8 hlo7 h5 hs7 hbe6
          go_wp2_with (at_builtin; refine Lib.wpList_append_run _ rfl _ _ _ _ rfl _ _ rfl rfl _ _ (hrun _) ?_)
          clear hrun b0 b1 zb e0 e1 ze r0 r1 zr g0 g1 g2 g3 zg
          go_loopw [118] (fun i wr => ∃ (j : Nat) (na3 : Option Addr) (nc3 : Nat) (ra3 : Option Addr) (rc3 : Nat) (A : Gf), j ≤ ps.length ∧ i = .int .i64 (j : Int) ∧ Hid (O3 w6 g ps j na3 nc3 ra3 rc3 A wr)) (fun i _ => ps.length - (intOf i).toNat)
          case atStart => exact ⟨0, _, _, _, _, _, Nat.zero_le _, rfl, hO0⟩
          case round =>
            clear hO0 hb8
            obtain ⟨j, na3, nc3, ra3, rc3, A, hj, rfl, hO⟩ := hrel
            have hX := hid (hX6.out.next hO.out.b)
            obtain ⟨hAl, hAg⟩ := alls_len hO.out.s
            have hbx := hO.out.x
            obtain ⟨⟨y0, y1⟩, y2, y3⟩ := blk2y hbx
            have zy := lt_of_block hbx
            by_cases hlt : j < ps.length
            · have hji : (j : Int) < (ps.length : Int) := by omega
              obtain ⟨pa', pc', e, hpc⟩ := HP.out.below hX.out.b
              injection e with e1 _ e3
              subst e1 e3
              obtain ⟨b, o, hao, p0, p1⟩ := hpc j hlt
              subst hao
              have zb := lt_of_cell p0
              obtain ⟨q1, q2⟩ := Hpg.out _ (pairD_mem hlt)
              obtain ⟨hck, hns, hls⟩ := alls_step Hg.out Hpg.out hlt hO.out.s
              unfold rtQ at hck hns hls
              generalize ps.getD j (0, 0) = pr at *
              obtain ⟨x, y⟩ := pr
              dsimp only at p0 p1 q1 q2 hck hns hls
              obtain ⟨xn, rfl⟩ : ∃ xn : Nat, x = (xn : Int) := ⟨x.toNat, by omega⟩
              obtain ⟨yn, rfl⟩ : ∃ yn : Nat, y = (yn : Int) := ⟨y.toNat, by omega⟩
              rw [Int.toNat_natCast, Int.toNat_natCast] at hck hns hls
              obtain ⟨rb, ro, hra, r0⟩ := hO.out.q.gr.2.at (j := xn) (by omega)
              obtain ⟨rb', ro', hra', r1⟩ := hO.out.q.gr.2.at (j := yn) (by omega)
              rw [hra] at hra'
              injection hra' with hra'
              injection hra' with e1 e2
              subst e1 e2 hra
              have zr := lt_of_cell r0
              have hxi : (xn : Int) < (A.roots.length : Int) := by omega
              have hyi : (yn : Int) < (A.roots.length : Int) := by omega
              generalize A.roots.getD xn 0 = u at *
              generalize A.roots.getD yn 0 = v at *
              have hwq := hid (below_alloc wr (.cells #[.int .i64 (xn : Int), .int .i64 (yn : Int)] 52))
              clear hpc q1 q2
              have hn : ¬ NoSol A.nodes ([(u, v)].map natP) := fun h => by
                obtain ⟨E, ee, hU, _⟩ := Hsol.out
                exact hns h _ hU.done.1 hU.done.2.1
              have hcs : Hid (∀ (w' : World) (pb : Nat), Below wr.heap.size wr w' → w'.heap[pb]? = some (.cells #[.int .i64 u, .int .i64 v] 52) → Calls Try.prog 11 #[.agg #[.slice na3 A.nodes.length nc3, .slice (some ⟨rb, ro, none⟩) A.roots.length rc3], .slice (some ⟨pb, 0, none⟩) 1 1] w' fun e w'' => (∃ na4 nc4 ra4 rc4 t4 avs, e = .returned (.tuple #[.agg #[.slice na4 (Gf.nodes t4).length nc4, .slice ra4 A.roots.length rc4], .bool true, .nilIface]) ∧ Hid (Og w'' w'.heap.size (.slice na4 t4.nodes.length nc4) (.slice ra4 A.roots.length rc4) avs t4 ∧ t4.roots.length = A.roots.length ∧ t4.roots.length ≤ rc4 ∧ AllS g ps (j + 1) t4)) ∧ Below w'.heap.size w' w'') := fun w' pb hb hp => by
                refine (solve_yes (hO.out.q w' (Mo.ofBelow hb)) (good_sized hAg) (rp_lit1 hp) (by simp) hck hn).mono ?_
                rintro e w'' ⟨⟨t4, na4, nc4, ra4, rc4, avs, rfl, h3, h4⟩, h2⟩
                have hs4 := hls t4 h3
                have hl4 : t4.roots.length = A.roots.length := (alls_len hs4).1.trans hAl.symm
                have hc4 := og_cap h4
                rw [hl4] at h4
                refine ⟨⟨na4, nc4, ra4, rc4, t4, avs, by rw [hl4], h4, hl4, hc4, hs4⟩, h2⟩
              have hcA : Hid (Calls Try.prog 11 #[.agg #[.slice na3 A.nodes.length nc3, .slice (some ⟨rb, ro, none⟩) A.roots.length rc3], .slice (some ⟨wr.heap.size + 1, 0, none⟩) 1 1] ((wr.alloc (.cells #[.int .i64 (xn : Int), .int .i64 (yn : Int)] 52)).alloc (.cells #[.int .i64 u, .int .i64 v] 52)).drew fun e w'' => ∃ na4 nc4 ra4 rc4 t4, e = .returned (.tuple #[.agg #[.slice na4 (Gf.nodes t4).length nc4, .slice ra4 A.roots.length rc4], .bool true, .nilIface]) ∧ Hid (t4.roots.length = A.roots.length ∧ t4.roots.length ≤ rc4 ∧ AllS g ps (j + 1) t4) ∧ Hid (Six w6.heap.size wr.heap.size rb ro xn yn (.slice na3 A.nodes.length nc3) (.slice (some ⟨rb, ro, none⟩) A.roots.length rc3) u v w'') ∧ Hid (Fin3 wr w6.heap.size (.slice na4 t4.nodes.length nc4) (.slice ra4 A.roots.length rc4) t4 w''.heap.size (w''.alloc (.cells #[.slice na4 t4.nodes.length nc4, .slice ra4 A.roots.length rc4] 25)))) := (hcs.out _ _ (ord_a wr (.cells #[.int .i64 (xn : Int), .int .i64 (yn : Int)] 52) (.cells #[.int .i64 u, .int .i64 v] 52)).1 (ord_a wr (.cells #[.int .i64 (xn : Int), .int .i64 (yn : Int)] 52) (.cells #[.int .i64 u, .int .i64 v] 52)).2).mono (fun e w'' ⟨⟨na4, nc4, ra4, rc4, t4, avs, h1, h2⟩, h3⟩ => ⟨na4, nc4, ra4, rc4, t4, h1, h2.out.2, six6 (ord_a wr (.cells #[.int .i64 (xn : Int), .int .i64 (yn : Int)] 52) (.cells #[.int .i64 u, .int .i64 v] 52)).1 (pa_2 wr (.cells #[.int .i64 (xn : Int), .int .i64 (yn : Int)] 52) (.cells #[.int .i64 u, .int .i64 v] 52)) h3 y0 y1 r0 r1, fin_a (ord_a wr (.cells #[.int .i64 (xn : Int), .int .i64 (yn : Int)] 52) (.cells #[.int .i64 u, .int .i64 v] 52)).1 h3 h2.out.1 zy⟩)
              have hcB : Hid (Calls Try.prog 11 #[.agg #[.slice na3 A.nodes.length nc3, .slice (some ⟨rb, ro, none⟩) A.roots.length rc3], .slice (some ⟨wr.heap.size + 1 + 1, 0, none⟩) 1 1] (((wr.alloc (.cells #[.int .i64 (xn : Int), .int .i64 (yn : Int)] 52)).alloc (.cells #[.slice none 0 0, .slice none 0 0] 25)).alloc (.cells #[.int .i64 u, .int .i64 v] 52)).drew fun e w'' => ∃ na4 nc4 ra4 rc4 t4, e = .returned (.tuple #[.agg #[.slice na4 (Gf.nodes t4).length nc4, .slice ra4 A.roots.length rc4], .bool true, .nilIface]) ∧ Hid (t4.roots.length = A.roots.length ∧ t4.roots.length ≤ rc4 ∧ AllS g ps (j + 1) t4) ∧ Hid (Six w6.heap.size wr.heap.size rb ro xn yn (.slice na3 A.nodes.length nc3) (.slice (some ⟨rb, ro, none⟩) A.roots.length rc3) u v w'') ∧ w''.heap[wr.heap.size + 1]? = some (.cells #[.slice none 0 0, .slice none 0 0] 25) ∧ Hid (Fin3 wr w6.heap.size (.slice na4 t4.nodes.length nc4) (.slice ra4 A.roots.length rc4) t4 (wr.heap.size + 1) ((w''.setCell ⟨wr.heap.size + 1, 0, none⟩ (.slice na4 t4.nodes.length nc4)).setCell ⟨wr.heap.size + 1, 1, none⟩ (.slice ra4 A.roots.length rc4)))) := (hcs.out _ _ (ord_b wr (.cells #[.int .i64 (xn : Int), .int .i64 (yn : Int)] 52) (.cells #[.slice none 0 0, .slice none 0 0] 25) (.cells #[.int .i64 u, .int .i64 v] 52)).1 (ord_b wr (.cells #[.int .i64 (xn : Int), .int .i64 (yn : Int)] 52) (.cells #[.slice none 0 0, .slice none 0 0] 25) (.cells #[.int .i64 u, .int .i64 v] 52)).2.1).mono (fun e w'' ⟨⟨na4, nc4, ra4, rc4, t4, avs, h1, h2⟩, h3⟩ => by
                have hz := blk_nx (ord_b wr (.cells #[.int .i64 (xn : Int), .int .i64 (yn : Int)] 52) (.cells #[.slice none 0 0, .slice none 0 0] 25) (.cells #[.int .i64 u, .int .i64 v] 52)).2.2 h3
                exact ⟨na4, nc4, ra4, rc4, t4, h1, h2.out.2, six6 (ord_b wr (.cells #[.int .i64 (xn : Int), .int .i64 (yn : Int)] 52) (.cells #[.slice none 0 0, .slice none 0 0] 25) (.cells #[.int .i64 u, .int .i64 v] 52)).1 (pa_3 wr (.cells #[.int .i64 (xn : Int), .int .i64 (yn : Int)] 52) (.cells #[.slice none 0 0, .slice none 0 0] 25) (.cells #[.int .i64 u, .int .i64 v] 52)) h3 y0 y1 r0 r1, hz, fin_b (ord_b wr (.cells #[.int .i64 (xn : Int), .int .i64 (yn : Int)] 52) (.cells #[.slice none 0 0, .slice none 0 0] 25) (.cells #[.int .i64 u, .int .i64 v] 52)).1 h3 h2.out.1 zy hz (by omega) (lt_of_block (ord_b wr (.cells #[.int .i64 (xn : Int), .int .i64 (yn : Int)] 52) (.cells #[.slice none 0 0, .slice none 0 0] 25) (.cells #[.int .i64 u, .int .i64 v] 52)).2.2)⟩)
              have hcC : Hid (Calls Try.prog 11 #[.agg #[.slice na3 A.nodes.length nc3, .slice (some ⟨rb, ro, none⟩) A.roots.length rc3], .slice (some ⟨wr.heap.size + 1, 0, none⟩) 1 1] (((wr.alloc (.cells #[.int .i64 (xn : Int), .int .i64 (yn : Int)] 52)).alloc (.cells #[.int .i64 u, .int .i64 v] 52)).alloc (.cells #[.slice none 0 0, .slice none 0 0] 25)).drew fun e w'' => ∃ na4 nc4 ra4 rc4 t4, e = .returned (.tuple #[.agg #[.slice na4 (Gf.nodes t4).length nc4, .slice ra4 A.roots.length rc4], .bool true, .nilIface]) ∧ Hid (t4.roots.length = A.roots.length ∧ t4.roots.length ≤ rc4 ∧ AllS g ps (j + 1) t4) ∧ Hid (Six w6.heap.size wr.heap.size rb ro xn yn (.slice na3 A.nodes.length nc3) (.slice (some ⟨rb, ro, none⟩) A.roots.length rc3) u v w'') ∧ w''.heap[wr.heap.size + 1 + 1]? = some (.cells #[.slice none 0 0, .slice none 0 0] 25) ∧ Hid (Fin3 wr w6.heap.size (.slice na4 t4.nodes.length nc4) (.slice ra4 A.roots.length rc4) t4 (wr.heap.size + 1 + 1) ((w''.setCell ⟨wr.heap.size + 1 + 1, 0, none⟩ (.slice na4 t4.nodes.length nc4)).setCell ⟨wr.heap.size + 1 + 1, 1, none⟩ (.slice ra4 A.roots.length rc4)))) := (hcs.out _ _ (ord_c wr (.cells #[.int .i64 (xn : Int), .int .i64 (yn : Int)] 52) (.cells #[.int .i64 u, .int .i64 v] 52) (.cells #[.slice none 0 0, .slice none 0 0] 25)).1 (ord_c wr (.cells #[.int .i64 (xn : Int), .int .i64 (yn : Int)] 52) (.cells #[.int .i64 u, .int .i64 v] 52) (.cells #[.slice none 0 0, .slice none 0 0] 25)).2.1).mono (fun e w'' ⟨⟨na4, nc4, ra4, rc4, t4, avs, h1, h2⟩, h3⟩ => by
                have hz := blk_nx (ord_c wr (.cells #[.int .i64 (xn : Int), .int .i64 (yn : Int)] 52) (.cells #[.int .i64 u, .int .i64 v] 52) (.cells #[.slice none 0 0, .slice none 0 0] 25)).2.2 h3
                exact ⟨na4, nc4, ra4, rc4, t4, h1, h2.out.2, six6 (ord_c wr (.cells #[.int .i64 (xn : Int), .int .i64 (yn : Int)] 52) (.cells #[.int .i64 u, .int .i64 v] 52) (.cells #[.slice none 0 0, .slice none 0 0] 25)).1 (pa_3 wr (.cells #[.int .i64 (xn : Int), .int .i64 (yn : Int)] 52) (.cells #[.int .i64 u, .int .i64 v] 52) (.cells #[.slice none 0 0, .slice none 0 0] 25)) h3 y0 y1 r0 r1, hz, fin_b (ord_c wr (.cells #[.int .i64 (xn : Int), .int .i64 (yn : Int)] 52) (.cells #[.int .i64 u, .int .i64 v] 52) (.cells #[.slice none 0 0, .slice none 0 0] 25)).1 h3 h2.out.1 zy hz (by omega) (lt_of_block (ord_c wr (.cells #[.int .i64 (xn : Int), .int .i64 (yn : Int)] 52) (.cells #[.int .i64 u, .int .i64 v] 52) (.cells #[.slice none 0 0, .slice none 0 0] 25)).2.2)⟩)
              have HO := hid hO.out
              have HAl := hid hAl
              clear hck hns hls hn hbx hO hAg hAl hcs
              go_wp2
              go_cut [17, 18, 19] from 122 to 141 (fun s17 s18 s19 wc => ∃ (qb : Nat) (na4 : Option Addr) (nc4 : Nat) (ra4 : Option Addr) (rc4 : Nat) (t4 : Gf), s17 = .pointer (some ⟨qb, 0, none⟩) ∧ s18 = .bool true ∧ s19 = .nilIface ∧ Hid (Fin3 wr w6.heap.size (.slice na4 t4.nodes.length nc4) (.slice ra4 A.roots.length rc4) t4 qb wc ∧ t4.roots.length = A.roots.length ∧ t4.roots.length ≤ rc4 ∧ AllS g ps (j + 1) t4))
              case first =>
                have h60 : Hid (Six w6.heap.size wr.heap.size rb ro xn yn (.slice na3 A.nodes.length nc3) (.slice (some ⟨rb, ro, none⟩) A.roots.length rc3) u v (wr.alloc (.cells #[.int .i64 (xn : Int), .int .i64 (yn : Int)] 52))) := six6 (below_alloc wr (.cells #[.int .i64 (xn : Int), .int .i64 (yn : Int)] 52)) (heap_alloc_new wr (.cells #[.int .i64 (xn : Int), .int .i64 (yn : Int)] 52)) (Below.refl _ _) y0 y1 r0 r1
                clear HX HP HG Hg Hpg Hsm Hso Hsol Hsame HO HAl hX hX6 p0 p1 hrp hbe hwq hi hz0 hz1 hz2 hi2 hp0 hp1 hp2 hm'
                go_region_held3 (fun w' => w'.cell? ⟨w6.heap.size, 0, none⟩ = some (.slice na3 A.nodes.length nc3) ∧ w'.cell? ⟨w6.heap.size, 1, none⟩ = some (.slice (some ⟨rb, ro, none⟩) A.roots.length rc3) ∧ w'.cell? ⟨wr.heap.size, 0, none⟩ = some (.int .i64 (xn : Int)) ∧ w'.cell? ⟨wr.heap.size, 1, none⟩ = some (.int .i64 (yn : Int)) ∧ w'.cell? ⟨rb, ro + xn, none⟩ = some (.int .i64 u) ∧ w'.cell? ⟨rb, ro + yn, none⟩ = some (.int .i64 v)) (first | exact h6.out | exact h6.out.alloc _ | exact h7.out | exact h60.out | exact h60.out.drew | exact (h60.out.alloc _).drew | exact ((h60.out.alloc _).alloc _).drew | exact h60.out.alloc _ | exact (h60.out.alloc _).alloc _ | go_keep)
                  (first
                    | (go_at_call 11; with_reducible refine hcA.out.mono ?_; rintro e w9 ⟨na4, nc4, ra4, rc4, t4, rfl, hx4, h6, HF⟩)
                    | (go_at_call 11; with_reducible refine hcB.out.mono ?_; rintro e w9 ⟨na4, nc4, ra4, rc4, t4, rfl, hx4, h6, hz9, HF⟩; have h7 := hid (h6.out.set zy zr (Nat.lt_succ_self wr.heap.size) (.slice na4 t4.nodes.length nc4) (.slice ra4 A.roots.length rc4)); obtain ⟨⟨s0, s1⟩, s2, s3⟩ := blk2y hz9; have zz := lt_of_block hz9; clear hz9)
                    | (go_at_call 11; with_reducible refine hcC.out.mono ?_; rintro e w9 ⟨na4, nc4, ra4, rc4, t4, rfl, hx4, h6, hz9, HF⟩; have h7 := hid (h6.out.set zy zr (Nat.lt_succ_of_lt (Nat.lt_succ_self wr.heap.size)) (.slice na4 t4.nodes.length nc4) (.slice ra4 A.roots.length rc4)); obtain ⟨⟨s0, s1⟩, s2, s3⟩ := blk2y hz9; have zz := lt_of_block hz9; clear hz9))
                all_goals go_wp2_with fail
                all_goals go_meet
                all_goals exact ⟨_, na4, nc4, ra4, rc4, t4, rfl, rfl, rfl, hid ⟨HF.out, hx4.out⟩⟩
              case rest =>
                obtain ⟨qb, na4, nc4, ra4, rc4, t4, rfl, rfl, rfl, hcr⟩ := hcut
                obtain ⟨w7, rfl⟩ : ∃ w7 : World, w7 = wr := ⟨_, rfl⟩
                obtain ⟨w9, rfl⟩ : ∃ w9 : World, w9 = wc := ⟨_, rfl⟩
                obtain ⟨hF, hl4, hc4, hs4⟩ := hcr.out
                have hO9 := HO.out.next hF.b
                have hbq := hF.x
                clear y0 y1 y2 y3 zy p0 p1 zb r0 r1 zr
                obtain ⟨⟨q0, q1⟩, _⟩ := blk2y hbq
                have zq := lt_of_block hbq
                have hbx9 := hO9.x
                obtain ⟨⟨y0, y1⟩, y2, y3⟩ := blk2y hbx9
                have zy := lt_of_block hbx9
                have hOn := hO9.turn (by rw [hl4]; exact hF.q) hc4 hs4
                rw [hl4] at hOn
                have HOn := hid hOn
                clear hF hbq hbx9 hO9 hOn hcr hl4 hc4 hs4 hcA hcB hcC
                go_wp2
                go_roundw
                case rel => exact ⟨j + 1, na4, nc4, ra4, rc4, t4, by omega, by go_num, HOn⟩
                case measure => simp [intOf]; omega
            · obtain rfl : j = ps.length := by omega
              obtain ⟨hns, hgd, heq⟩ := alls_fin Hg.out hO.out.s
              have hfe := heq t Hsol.out
              obtain ⟨e2, he2⟩ := al_dec ⟨A.nodes, A.roots.drop g.nodes.length⟩
              have hft := hfe e2 he2
              have hqu : Hid (∀ (w' : World) (a' : Option Addr) (c' : Nat), Below wr.heap.size wr w' → (g.nodes.length < A.roots.length → a' = ra3.map (fun a => a.add g.nodes.length)) → Calls Try.prog 28 #[.agg #[.slice na3 A.nodes.length nc3, .slice a' (A.roots.length - g.nodes.length) c']] w' fun e w'' => (∃ na4 nc4 ra4 rc4 avs, e = .returned (.tuple #[.agg #[.slice na4 t.nodes.length nc4, .slice ra4 t.roots.length rc4], .nilIface]) ∧ Hid (Og w'' w'.heap.size (.slice na4 t.nodes.length nc4) (.slice ra4 t.roots.length rc4) avs t)) ∧ Below w'.heap.size w' w'') := fun w' a' c' hb ha => by
                have hGw := hO.out.q w' (Mo.ofBelow hb)
                have h := quot_good (g := ⟨A.nodes, A.roots.drop g.nodes.length⟩) ⟨hGw.1, ri_drop (c' := c') hGw.2 (by omega) ha⟩ (good_sized hgd) (chk_of_good hgd) e2 he2
                refine h.mono ?_
                rintro e w'' ⟨⟨nv', rv', avs, rfl, hog⟩, h2⟩
                rw [hft] at hog
                obtain ⟨na4, nc4, rfl⟩ := hog.nsl
                obtain ⟨ra4, rc4, rfl, _⟩ := hog.r
                exact ⟨⟨na4, nc4, ra4, rc4, avs, rfl, hog⟩, h2⟩
              have hNl : (g.nodes.length : Int) ≤ (A.roots.length : Int) := by omega
              have hNl2 : g.nodes.length ≤ A.roots.length := by omega
              have hcap := hO.out.c
              have hcapI : (A.roots.length : Int) ≤ (rc3 : Int) := by omega
              by_cases hrc : rc3 = g.nodes.length
              · subst hrc
                have h0 : A.roots.length - g.nodes.length = 0 := by omega
                rw [h0] at hqu
                clear h0
                have hap : g.nodes.length < A.roots.length → ra3 = ra3.map (fun a => a.add g.nodes.length) := fun h => absurd h (by omega)
                have hqA : Hid (Calls Try.prog 28 #[.agg #[.slice na3 A.nodes.length nc3, .slice ra3 0 0]] wr.drew fun e w'' => ∃ na4 nc4 ra4 rc4, e = .returned (.tuple #[.agg #[.slice na4 t.nodes.length nc4, .slice ra4 t.roots.length rc4], .nilIface]) ∧ Hid (w''.cell? ⟨w6.heap.size, 0, none⟩ = some (.slice na3 A.nodes.length nc3) ∧ w''.cell? ⟨w6.heap.size, 1, none⟩ = some (.slice ra3 A.roots.length g.nodes.length)) ∧ Hid (Fin3 wr w6.heap.size (.slice na4 t.nodes.length nc4) (.slice ra4 t.roots.length rc4) t w''.heap.size (w''.alloc (.cells #[.slice na4 t.nodes.length nc4, .slice ra4 t.roots.length rc4] 25)))) := (hqu.out _ _ _ ((Below.refl _ wr).drew) hap).mono (fun e w'' ⟨⟨na4, nc4, ra4, rc4, avs, h1, h2⟩, h3⟩ => ⟨na4, nc4, ra4, rc4, h1, ⟨(h3.cell (p := ⟨w6.heap.size, 0, none⟩) zy).trans y0, (h3.cell (p := ⟨w6.heap.size, 1, none⟩) zy).trans y1⟩, fin_a ((Below.refl _ wr).drew) h3 h2.out zy⟩)
                have hqB : Hid (Calls Try.prog 28 #[.agg #[.slice na3 A.nodes.length nc3, .slice ra3 0 0]] (wr.alloc (.cells #[.slice none 0 0, .slice none 0 0] 25)).drew fun e w'' => ∃ na4 nc4 ra4 rc4, e = .returned (.tuple #[.agg #[.slice na4 t.nodes.length nc4, .slice ra4 t.roots.length rc4], .nilIface]) ∧ Hid (w''.cell? ⟨w6.heap.size, 0, none⟩ = some (.slice na3 A.nodes.length nc3) ∧ w''.cell? ⟨w6.heap.size, 1, none⟩ = some (.slice ra3 A.roots.length g.nodes.length)) ∧ w''.heap[wr.heap.size]? = some (.cells #[.slice none 0 0, .slice none 0 0] 25) ∧ Hid (Fin3 wr w6.heap.size (.slice na4 t.nodes.length nc4) (.slice ra4 t.roots.length rc4) t wr.heap.size ((w''.setCell ⟨wr.heap.size, 0, none⟩ (.slice na4 t.nodes.length nc4)).setCell ⟨wr.heap.size, 1, none⟩ (.slice ra4 t.roots.length rc4)))) := (hqu.out _ _ _ (cut_new wr (.cells #[.slice none 0 0, .slice none 0 0] 25)).1 hap).mono (fun e w'' ⟨⟨na4, nc4, ra4, rc4, avs, h1, h2⟩, h3⟩ => by
                  have hz := blk_nx (cut_new wr (.cells #[.slice none 0 0, .slice none 0 0] 25)).2.1 h3
                  have hc := (cut_new wr (.cells #[.slice none 0 0, .slice none 0 0] 25)).1.trans (h3.mono (cut_new wr (.cells #[.slice none 0 0, .slice none 0 0] 25)).1.size)
                  exact ⟨na4, nc4, ra4, rc4, h1, ⟨(hc.cell (p := ⟨w6.heap.size, 0, none⟩) zy).trans y0, (hc.cell (p := ⟨w6.heap.size, 1, none⟩) zy).trans y1⟩, hz, fin_b (cut_new wr (.cells #[.slice none 0 0, .slice none 0 0] 25)).1 h3 h2.out zy hz (Nat.le_refl _) (lt_of_block (cut_new wr (.cells #[.slice none 0 0, .slice none 0 0] 25)).2.1)⟩)
                have HO := hid hO.out
                have HAl := hid hAl
                clear hns hgd heq hfe hft he2 hbx hO hAl hAg hqu hap
                go_wp2
                go_cut [20, 7] from 162 to 172 (fun s20 s7 wc => ∃ (qb : Nat) (na4 : Option Addr) (nc4 : Nat) (ra4 : Option Addr) (rc4 : Nat), s20 = .pointer (some ⟨qb, 0, none⟩) ∧ s7 = .nilIface ∧ Hid (Fin3 wr w6.heap.size (.slice na4 t.nodes.length nc4) (.slice ra4 t.roots.length rc4) t qb wc))
                case first =>
                  clear HX HP HG Hg Hpg Hsm Hso Hsol Hsame HO HAl hX hX6 hrp hbe hi hz0 hz1 hz2 hi2 hp0 hp1 hp2 hm'
                  go_region_held3 (fun w' => w'.cell? ⟨w6.heap.size, 0, none⟩ = some (.slice na3 A.nodes.length nc3) ∧ w'.cell? ⟨w6.heap.size, 1, none⟩ = some (.slice ra3 A.roots.length g.nodes.length)) (first | exact ⟨y0, y1⟩ | exact h6.out | exact two_new h6.out _ | exact two_set h6.out (Nat.ne_of_lt zy) _ _ | go_keep)
                    (first
                      | (go_at_call 28; with_reducible refine hqA.out.mono ?_; rintro e w9 ⟨na4, nc4, ra4, rc4, rfl, h6, HF⟩)
                      | (go_at_call 28; with_reducible refine hqB.out.mono ?_; rintro e w9 ⟨na4, nc4, ra4, rc4, rfl, h6, hz9, HF⟩; obtain ⟨⟨s0, s1⟩, s2, s3⟩ := blk2y hz9; have zz := lt_of_block hz9; clear hz9))
                  all_goals go_wp2_with fail
                  all_goals go_meet
                  all_goals exact ⟨_, na4, nc4, ra4, rc4, rfl, rfl, HF⟩
                case rest =>
                  obtain ⟨qb, na4, nc4, ra4, rc4, rfl, rfl, hF⟩ := hcut
                  obtain ⟨w7, rfl⟩ : ∃ w7 : World, w7 = wr := ⟨_, rfl⟩
                  obtain ⟨w9, rfl⟩ : ∃ w9 : World, w9 = wc := ⟨_, rfl⟩
                  have hX9 := hid (hX.out.next hF.out.b)
                  clear y0 y1 y2 y3 zy
                  have hbq := hF.out.x
                  obtain ⟨⟨q0, q1⟩, _⟩ := blk2y hbq
                  have zq := lt_of_block hbq
                  have hbh := hX9.out.h
                  obtain ⟨⟨s0, s1⟩, _⟩ := blk2y hbh
                  have zs := lt_of_block hbh
                  have hsa := hid (Hsame.out _ _ _ _ _ hF.out.q.gr hX9.out.q)
                  clear hbq hbh hqA hqB
                  go_wp2_with (go_at_call 27; refine hsa.out.mono ?_; rintro e w10 ⟨rfl, hb10⟩; have hX10 := hid (hX9.out.next hb10); clear hb10)
                  go_ret
                  exact ⟨rfl, hX10.out.b⟩
              · skip
                have hap : g.nodes.length < A.roots.length → (Option.map (fun x => x.add g.nodes.length) ra3) = ra3.map (fun a => a.add g.nodes.length) := fun _ => rfl
                have hqA : Hid (Calls Try.prog 28 #[.agg #[.slice na3 A.nodes.length nc3, .slice (Option.map (fun x => x.add g.nodes.length) ra3) (A.roots.length - g.nodes.length) (rc3 - g.nodes.length)]] wr.drew fun e w'' => ∃ na4 nc4 ra4 rc4, e = .returned (.tuple #[.agg #[.slice na4 t.nodes.length nc4, .slice ra4 t.roots.length rc4], .nilIface]) ∧ Hid (w''.cell? ⟨w6.heap.size, 0, none⟩ = some (.slice na3 A.nodes.length nc3) ∧ w''.cell? ⟨w6.heap.size, 1, none⟩ = some (.slice ra3 A.roots.length rc3)) ∧ Hid (Fin3 wr w6.heap.size (.slice na4 t.nodes.length nc4) (.slice ra4 t.roots.length rc4) t w''.heap.size (w''.alloc (.cells #[.slice na4 t.nodes.length nc4, .slice ra4 t.roots.length rc4] 25)))) := (hqu.out _ _ _ ((Below.refl _ wr).drew) hap).mono (fun e w'' ⟨⟨na4, nc4, ra4, rc4, avs, h1, h2⟩, h3⟩ => ⟨na4, nc4, ra4, rc4, h1, ⟨(h3.cell (p := ⟨w6.heap.size, 0, none⟩) zy).trans y0, (h3.cell (p := ⟨w6.heap.size, 1, none⟩) zy).trans y1⟩, fin_a ((Below.refl _ wr).drew) h3 h2.out zy⟩)
                have hqB : Hid (Calls Try.prog 28 #[.agg #[.slice na3 A.nodes.length nc3, .slice (Option.map (fun x => x.add g.nodes.length) ra3) (A.roots.length - g.nodes.length) (rc3 - g.nodes.length)]] (wr.alloc (.cells #[.slice none 0 0, .slice none 0 0] 25)).drew fun e w'' => ∃ na4 nc4 ra4 rc4, e = .returned (.tuple #[.agg #[.slice na4 t.nodes.length nc4, .slice ra4 t.roots.length rc4], .nilIface]) ∧ Hid (w''.cell? ⟨w6.heap.size, 0, none⟩ = some (.slice na3 A.nodes.length nc3) ∧ w''.cell? ⟨w6.heap.size, 1, none⟩ = some (.slice ra3 A.roots.length rc3)) ∧ w''.heap[wr.heap.size]? = some (.cells #[.slice none 0 0, .slice none 0 0] 25) ∧ Hid (Fin3 wr w6.heap.size (.slice na4 t.nodes.length nc4) (.slice ra4 t.roots.length rc4) t wr.heap.size ((w''.setCell ⟨wr.heap.size, 0, none⟩ (.slice na4 t.nodes.length nc4)).setCell ⟨wr.heap.size, 1, none⟩ (.slice ra4 t.roots.length rc4)))) := (hqu.out _ _ _ (cut_new wr (.cells #[.slice none 0 0, .slice none 0 0] 25)).1 hap).mono (fun e w'' ⟨⟨na4, nc4, ra4, rc4, avs, h1, h2⟩, h3⟩ => by
                  have hz := blk_nx (cut_new wr (.cells #[.slice none 0 0, .slice none 0 0] 25)).2.1 h3
                  have hc := (cut_new wr (.cells #[.slice none 0 0, .slice none 0 0] 25)).1.trans (h3.mono (cut_new wr (.cells #[.slice none 0 0, .slice none 0 0] 25)).1.size)
                  exact ⟨na4, nc4, ra4, rc4, h1, ⟨(hc.cell (p := ⟨w6.heap.size, 0, none⟩) zy).trans y0, (hc.cell (p := ⟨w6.heap.size, 1, none⟩) zy).trans y1⟩, hz, fin_b (cut_new wr (.cells #[.slice none 0 0, .slice none 0 0] 25)).1 h3 h2.out zy hz (Nat.le_refl _) (lt_of_block (cut_new wr (.cells #[.slice none 0 0, .slice none 0 0] 25)).2.1)⟩)
                have HO := hid hO.out
                have HAl := hid hAl
                clear hns hgd heq hfe hft he2 hbx hO hAl hAg hqu hap
                go_wp2
                go_cut [20, 7] from 162 to 172 (fun s20 s7 wc => ∃ (qb : Nat) (na4 : Option Addr) (nc4 : Nat) (ra4 : Option Addr) (rc4 : Nat), s20 = .pointer (some ⟨qb, 0, none⟩) ∧ s7 = .nilIface ∧ Hid (Fin3 wr w6.heap.size (.slice na4 t.nodes.length nc4) (.slice ra4 t.roots.length rc4) t qb wc))
                case first =>
                  clear HX HP HG Hg Hpg Hsm Hso Hsol Hsame HO HAl hX hX6 hrp hbe hi hz0 hz1 hz2 hi2 hp0 hp1 hp2 hm'
                  go_region_held3 (fun w' => w'.cell? ⟨w6.heap.size, 0, none⟩ = some (.slice na3 A.nodes.length nc3) ∧ w'.cell? ⟨w6.heap.size, 1, none⟩ = some (.slice ra3 A.roots.length rc3)) (first | exact ⟨y0, y1⟩ | exact h6.out | exact two_new h6.out _ | exact two_set h6.out (Nat.ne_of_lt zy) _ _ | go_keep)
                    (first
                      | (go_at_call 28; with_reducible refine hqA.out.mono ?_; rintro e w9 ⟨na4, nc4, ra4, rc4, rfl, h6, HF⟩)
                      | (go_at_call 28; with_reducible refine hqB.out.mono ?_; rintro e w9 ⟨na4, nc4, ra4, rc4, rfl, h6, hz9, HF⟩; obtain ⟨⟨s0, s1⟩, s2, s3⟩ := blk2y hz9; have zz := lt_of_block hz9; clear hz9))
                  all_goals go_wp2_with fail
                  all_goals go_meet
                  all_goals exact ⟨_, na4, nc4, ra4, rc4, rfl, rfl, HF⟩
                case rest =>
                  obtain ⟨qb, na4, nc4, ra4, rc4, rfl, rfl, hF⟩ := hcut
                  obtain ⟨w7, rfl⟩ : ∃ w7 : World, w7 = wr := ⟨_, rfl⟩
                  obtain ⟨w9, rfl⟩ : ∃ w9 : World, w9 = wc := ⟨_, rfl⟩
                  have hX9 := hid (hX.out.next hF.out.b)
                  clear y0 y1 y2 y3 zy
                  have hbq := hF.out.x
                  obtain ⟨⟨q0, q1⟩, _⟩ := blk2y hbq
                  have zq := lt_of_block hbq
                  have hbh := hX9.out.h
                  obtain ⟨⟨s0, s1⟩, _⟩ := blk2y hbh
                  have zs := lt_of_block hbh
                  have hsa := hid (Hsame.out _ _ _ _ _ hF.out.q.gr hX9.out.q)
                  clear hbq hbh hqA hqB
                  go_wp2_with (go_at_call 27; refine hsa.out.mono ?_; rintro e w10 ⟨rfl, hb10⟩; have hX10 := hid (hX9.out.next hb10); clear hb10)
                  go_ret
                  exact ⟨rfl, hX10.out.b⟩
end Go.Proofs.Ytjenkpgoggmboaa

/- SolveOrder, walked: no solution. -/
namespace Go.Proofs.Ytjenkpgoggmboaa
open Go.RowKit

set_option maxRecDepth 100000 in
set_option maxHeartbeats 32000000 in
theorem sord_no {W : World} {a0 a1 a2 : Option Addr} {c0 c1 c2 : Nat} {g : Gf} {ps : List (Int × Int)} {t : Gf}
    (hG : Gr W (.slice a0 g.nodes.length c0) (.slice a1 g.roots.length c1) g) (hP : Rp W (.slice a2 ps.length c2) ps) (hg : Good g) (hN : g.nodes.length ≤ 120) (hR : g.roots.length ≤ 120) (hm : ps.length ≤ 60) (hpg : PsG g ps)
    (hsm : ∀ w, Below W.heap.size W w → Calls Try.prog 22 #[.agg #[.slice a0 g.nodes.length c0, .slice a1 g.roots.length c1], .int .i64 120] w fun e w' => e = .returned (.bool true) ∧ Below w.heap.size w w')
    (hso : ∀ w pv qs, Below W.heap.size W w → Rp w pv qs → (qs = ps ∨ qs = othJ ps ps.length) → Calls Try.prog 11 #[.agg #[.slice a0 g.nodes.length c0, .slice a1 g.roots.length c1], pv] w fun e w' => (∃ na nc ra rc, e = .returned (.tuple #[.agg #[.slice na t.nodes.length nc, .slice ra t.roots.length rc], .bool false, .nilIface]) ∧ Gr w' (.slice na t.nodes.length nc) (.slice ra t.roots.length rc) t) ∧ Below w.heap.size w w')
    (htf : Fits t) (hsol : NoSol g.nodes (ps.map natP)) :
    Calls Try.prog 7 #[.agg #[.slice a0 g.nodes.length c0, .slice a1 g.roots.length c1], .slice a2 ps.length c2] W fun e w' => e = .returned (.bool true) ∧ Below W.heap.size W w' := by
  obtain ⟨i0, hi, hz0, hz1, hz2⟩ := info_parts infoI
  obtain ⟨i2, hi2, hp0, hp1, hp2⟩ := info_parts infoPr
  have HB := hid (Ob.start W (.slice a0 g.nodes.length c0) (.slice a1 g.roots.length c1))
  have HG := hid hG
  have HP := hid hP
  have Hg := hid hg
  have Hpg := hid hpg
  have Hsm := hid hsm
  have Hso := hid hso
  have Hsol := hid hsol
  have Hsame : Hid (∀ w n1 r1 n2 r2, Gr w n1 r1 t → Gr w n2 r2 t → Calls Try.prog 27 #[.agg #[n1, r1], .agg #[n2, r2]] w fun e w' => e = .returned (.bool true) ∧ Below w.heap.size w w') := fun w n1 r1 n2 r2 h1 h2 => by
    have := same_any h1 h2 htf
    rw [eqG_yes] at this
    exact this
  have hm' : ¬ ((60 : Int) < (ps.length : Int)) := by omega
  clear hG hP hg hpg hsm hso hsol htf
  go_enter Try.func7, Try.ntmps7
  go_wp2_with (first
    | (go_at_call 9; refine (slives_any _).mono ?_; rintro e w1 ⟨rfl, hb1⟩; replace HB := hid (HB.out.next hb1); clear hb1; obtain ⟨⟨x0, x1⟩, x2⟩ := HB.out.cells)
    | (go_at_call 22; refine (Hsm.out _ HB.out.b).mono ?_; rintro e w1 ⟨rfl, hb1⟩; replace HB := hid (HB.out.next hb1); clear hb1; obtain ⟨⟨x0, x1⟩, x2⟩ := HB.out.cells)
    | (go_at_call 11; refine (Hso.out _ _ _ HB.out.b (HP.out.below HB.out.b) (Or.inl rfl)).mono ?_; rintro e w2 ⟨⟨na, nc, ra, rc, rfl, hq2⟩, hb2⟩; have HX := hid (Sg.mk ((HB.out.next hb2).next (below_alloc w2 (.cells #[.slice na t.nodes.length nc, .slice ra t.roots.length rc] 25))).b ((HB.out.next hb2).next (below_alloc w2 (.cells #[.slice na t.nodes.length nc, .slice ra t.roots.length rc] 25))).x (heap_alloc_new w2 (.cells #[.slice na t.nodes.length nc, .slice ra t.roots.length rc] 25)) (hq2.below (below_alloc w2 (.cells #[.slice na t.nodes.length nc, .slice ra t.roots.length rc] 25)))); clear hb2 hq2 x0 x1 x2 HB))
  have hlit : Hid (World.ownsRow ((w2.alloc (.cells #[.slice na t.nodes.length nc, .slice ra t.roots.length rc] 25)).alloc (.cells #[] 52)) (w2.heap.size + 1) 52 2 (.slice (some ⟨w2.heap.size + 1, 0, none⟩) (0 + 0) 0) (0 + 0) (pcI (othJ ps 0))) := by
    have h := World.ownsRow_lit (base := w2.heap.size + 1) (e := 52) (size := 2) (w2.alloc (.cells #[.slice na t.nodes.length nc, .slice ra t.roots.length rc] 25)) #[] 0 (by simp) (by unfold maxLen; omega) (by simp)
    rw [show (w2.alloc (.cells #[.slice na t.nodes.length nc, .slice ra t.roots.length rc] 25)).heap.size = w2.heap.size + 1 by simp] at h
    exact h
  have hbl : Hid (Below (w2.heap.size + 1) (w2.alloc (.cells #[.slice na t.nodes.length nc, .slice ra t.roots.length rc] 25)) ((w2.alloc (.cells #[.slice na t.nodes.length nc, .slice ra t.roots.length rc] 25)).alloc (.cells #[] 52))) := (Below.refl _ _).alloc (by simp) _
  go_loopw [8, 9] (fun s i wr => ∃ (k : Nat) (ao : Option Addr) (c : Nat), k ≤ ps.length ∧ i = .int .i64 (((ps.length - k : Nat) : Int) - 1) ∧ s = .slice ao (k + k) c ∧ Hid (Below (w2.heap.size + 1) (w2.alloc (.cells #[.slice na t.nodes.length nc, .slice ra t.roots.length rc] 25)) wr) ∧ Hid (wr.ownsRow (w2.heap.size + 1) 52 2 (.slice ao (k + k) c) (k + k) (pcI (othJ ps k)))) (fun _ i _ => (intOf i + 1).toNat)
  case atStart => exact ⟨0, some ⟨w2.heap.size + 1, 0, none⟩, 0, Nat.zero_le _, by go_num, rfl, hbl, hlit⟩
  case round =>
    clear hbl hlit
    obtain ⟨k, ao, c, hk, rfl, rfl, hbe, hown⟩ := hrel
    have hsz : (w2.alloc (.cells #[.slice na t.nodes.length nc, .slice ra t.roots.length rc] 25)).heap.size = w2.heap.size + 1 := by simp
    have hX := hid (HX.out.next (show Below (w2.alloc (.cells #[.slice na t.nodes.length nc, .slice ra t.roots.length rc] 25)).heap.size (w2.alloc (.cells #[.slice na t.nodes.length nc, .slice ra t.roots.length rc] 25)) wr by rw [hsz]; exact hbe.out))
    have hzr := hbe.out.size
    rw [hsz] at hzr
    by_cases hlt : k < ps.length
    · obtain ⟨q, hq⟩ : ∃ q, ps.length - k = q + 1 := ⟨ps.length - k - 1, by omega⟩
      rw [show (((ps.length - k : Nat) : Int) - 1) = (q : Int) by omega]
      have hqi : (q : Int) < (ps.length : Int) := by omega
      obtain ⟨pa', pc', e, hpc⟩ := HP.out.below hX.out.b
      injection e with e1 _ e3
      subst e1 e3
      obtain ⟨b, o, hao, p0, p1⟩ := hpc q (by omega)
      subst hao
      have zb := lt_of_cell p0
      have hst : Hid (pcI (othJ ps (k + 1)) = pcI (othJ ps k) ++ [.int .i64 (ps.getD q (0, 0)).2, .int .i64 (ps.getD q (0, 0)).1, .int .i64 (ps.getD q (0, 0)).1, .int .i64 (ps.getD q (0, 0)).2]) := show _ = _ by
        rw [show othJ ps (k + 1) = othJ ps k ++ [((ps.getD (ps.length - 1 - k) (0, 0)).2, (ps.getD (ps.length - 1 - k) (0, 0)).1), ps.getD (ps.length - 1 - k) (0, 0)] from rfl, show ps.length - 1 - k = q by omega, pcI_app]
        rfl
      generalize ps.getD q (0, 0) = pr at *
      obtain ⟨x, y⟩ := pr
      dsimp only at p0 p1 hst
      have hO1 := World.ownsRow.alloc hown.out (.cells #[.int .i64 y, .int .i64 x, .int .i64 x, .int .i64 y] 52)
      have hlo : Hid (∀ m, (Value.slice ao (k + k) c).ownBlock = some m → w2.heap.size + 1 ≤ m) := fun m hm => (hown.out.lt m hm).1
      have Hq := hid hq
      clear hpc hown hsz hq
      generalize pcI (othJ ps k) = PC at *
      go_wp2
      go_region_law
        (first
          | (refine step_append_lies _ (by rfl) _ _ _ (by rfl) (w2.heap.size + 1) 52 i2 (.agg #[.int .i64 0, .int .i64 0]) 2 16 Try.underlying26 hi2 hp0 hp1 hp2 rfl (by omega) _ (k + k) PC (by rfl) (hO1.drew) ⟨wr.heap.size, 0, none⟩ 2 2 [.int .i64 y, .int .i64 x, .int .i64 x, .int .i64 y] (by rfl) (by rfl) (World.news_of_block (cs := #[.int .i64 y, .int .i64 x, .int .i64 x, .int .i64 y]) (t := 52) (fr := (0, 0)) (heap_alloc_new wr _)) (by simp [Value.oneCell']) (by omega) (by unfold maxLen; omega) (by omega) (by simp; omega) (wr.heap.size + 1) (by simp) ?_; intro g6 cap w6 hown6 hgr6 hat hlt6; have hb6 : Hid (Below (w2.heap.size + 1) (w2.alloc (.cells #[.slice na t.nodes.length nc, .slice ra t.roots.length rc] 25)) w6) := hbe.out.trans ((((Below.refl _ _).alloc hzr _).drew).grown hgr6 (by simp; omega) (fun m hm => hlo.out m hm))))
      all_goals go_wp2
      all_goals
        go_roundw
        case rel => exact ⟨k + 1, some ⟨g6, 0, none⟩, cap, by omega, congrArg (Value.int .i64) (by have := Hq.out; omega), by congr 1; omega, hb6, (show World.ownsRow _ _ _ _ _ _ _ by rw [hst.out, show k + 1 + (k + 1) = k + k + 2 by omega]; exact hown6)⟩
        case measure => first | (simp [intOf]; omega) | simp [intOf]
    · obtain rfl : k = ps.length := by omega
      have hrp := hid (rp_own (othJ_len ps ps.length) hown.out)
      have hbx := hX.out.g
      obtain ⟨⟨g0, g1⟩, _⟩ := blk2y hbx
      have zg := lt_of_block hbx
      have hi1 : (((ps.length - ps.length : Nat) : Int) - 1) = -1 := by omega
      rw [hi1]
      clear hown hbx hsz hi1
      go_wp2_with (first
        | (go_at_call 11; refine (Hso.out _ _ _ hX.out.b hrp.out (Or.inr rfl)).mono ?_; rintro e w5 ⟨⟨ka, kc, la, lc, rfl, hq5⟩, hb5⟩; have hX4 := hX.out.next hb5; have hX5 := hid (hX4.next (below_alloc w5 (.cells #[.slice ka t.nodes.length kc, .slice la t.roots.length lc] 25))); have hq6 := hid (hq5.below (below_alloc w5 (.cells #[.slice ka t.nodes.length kc, .slice la t.roots.length lc] 25))); obtain ⟨⟨s0, s1⟩, _⟩ := blk2y hX4.h; have zs := lt_of_block hX4.h; clear hb5 hq5 hX4 g0 g1 zg)
        | (go_at_call 27; refine (Hsame.out _ _ _ _ _ hX5.out.q hq6.out).mono ?_; rintro e w6 ⟨rfl, hb6⟩; have hX6 := hid (hX5.out.next hb6); have hbx6 := hX6.out.g; obtain ⟨⟨g0, g1⟩, _⟩ := blk2y hbx6; have zg := lt_of_block hbx6; clear hb6 hbx6 s0 s1 zs hX5 hq6))
      have h50 : Hid (Gr5 (w6.alloc (.cells #[.slice a0 g.nodes.length c0, .slice none 0 0] 25)) w6.heap.size (.slice a0 g.nodes.length c0) (.slice none 0 0) 0 (((List.range 0).map (fun n : Nat => (n : Int))).map (Value.int .i64)) (w6.alloc (.cells #[.slice a0 g.nodes.length c0, .slice none 0 0] 25))) := ⟨Mo.refl _ _, heap_alloc_new w6 _, World.ownsRow_nil _ _ _ _⟩
      clear g0 g1 zg
      go_loopw [97] (fun i wr => ∃ (k : Nat) (ao : Option Addr) (c : Nat), k ≤ g.nodes.length ∧ i = .int .i64 (k : Int) ∧ Hid (Gr5 (w6.alloc (.cells #[.slice a0 g.nodes.length c0, .slice none 0 0] 25)) w6.heap.size (.slice a0 g.nodes.length c0) (.slice ao k c) k (((List.range k).map (fun n : Nat => (n : Int))).map (Value.int .i64)) wr)) (fun i _ => g.nodes.length - (intOf i).toNat)
      case atStart => exact ⟨0, none, 0, Nat.zero_le _, rfl, h50⟩
      case round =>
        clear h50
        obtain ⟨k, ao, c, hk, rfl, h5⟩ := hrel
        have hbx := h5.out.b
        obtain ⟨⟨g0, g1⟩, g2, g3⟩ := blk2y hbx
        have zg := lt_of_block hbx
        have hz7 := h5.out.m.size
        have hs7 : (w6.alloc (.cells #[.slice a0 g.nodes.length c0, .slice none 0 0] 25)).heap.size = w6.heap.size + 1 := by simp
        rw [hs7] at hz7
        by_cases hkl : k < g.nodes.length
        · have hki : (k : Int) < (g.nodes.length : Int) := by omega
          have hO1 := World.ownsRow.alloc h5.out.o (.cells #[.int .i64 (k : Int)] 3)
          rw [hs7] at hO1
          have H5 : Hid (∀ (w5 : World) (gg cap : Nat), w5.ownsRow (w6.heap.size + 1) 3 1 (.slice (some ⟨gg, 0, none⟩) (k + 1) cap) (k + 1) (((List.range k).map (fun n : Nat => (n : Int))).map (Value.int .i64) ++ [.int .i64 (k : Int)]) → (wr.alloc (.cells #[.int .i64 (k : Int)] 3)).grownBy w5 (Value.slice ao k c).ownBlock → w5.heap[w6.heap.size]? = some (.cells #[.slice a0 g.nodes.length c0, .slice ao k c] 25) ∧ Gr5 (w6.alloc (.cells #[.slice a0 g.nodes.length c0, .slice none 0 0] 25)) w6.heap.size (.slice a0 g.nodes.length c0) (.slice (some ⟨gg, 0, none⟩) (k + 1) cap) (k + 1) (((List.range (k + 1)).map (fun n : Nat => (n : Int))).map (Value.int .i64)) (w5.setCell ⟨w6.heap.size, 1, none⟩ (.slice (some ⟨gg, 0, none⟩) (k + 1) cap))) := fun w5 gg cap h1 h2 => by
            rw [ranges_snoc]
            exact Gr5.more (Or.inr ⟨_, rfl⟩) h5.out (by simp) (by rw [hs7]; exact h1) h2
          clear hbx h5 hs7
          generalize ((List.range k).map (fun n : Nat => (n : Int))).map (Value.int .i64) = RS at *
          go_wp2_with (at_builtin; go_must (refine wpList_append_lies _ rfl _ _ 23 rfl (w6.heap.size + 1) 3 i0 (.int .i64 0) 1 8 Try.underlying23 hi hz0 hz1 hz2 rfl (by decide) _ k _ rfl hO1 ⟨wr.heap.size, 0, none⟩ 1 1 [.int .i64 (k : Int)] rfl rfl (World.news_of_block (cs := #[.int .i64 (k : Int)]) (t := 3) (fr := (0, 0)) (heap_alloc_new wr _)) (by simp [Value.oneCell']) (by decide) (by unfold maxLen; omega) (by omega) (by simp; omega) _ rfl ?_; intro gg cap w8 hown8 hg8 hat8 hlt8; obtain ⟨d8, H8⟩ := H5.out w8 gg cap hown8 hg8; obtain ⟨⟨_, r0⟩, _, r1⟩ := blk2y d8; have zr := lt_of_block d8))
          go_roundw
          case rel => exact ⟨k + 1, some ⟨gg, 0, none⟩, cap, by omega, by go_num, H8⟩
          case measure => simp [intOf]; omega
        · obtain rfl : k = g.nodes.length := by omega
          have hbe6 : Below w6.heap.size w6 wr := (below_alloc w6 (.cells #[.slice a0 g.nodes.length c0, .slice none 0 0] 25)).trans (h5.out.m.below (fun q hq => by omega) (by simp))
          have hX7 := hX6.out.next hbe6
          have hbg := hX7.g
          obtain ⟨⟨b0, b1⟩, _⟩ := blk2y hbg
          have zb := lt_of_block hbg
          have ho7 := h5.out.o
          rw [hs7] at ho7
          obtain ⟨ra7, rc7, w8, hrun, ho8, hg8⟩ := iapp ho7 hz7 (HG.out.2.below hX7.b) (by omega) (by omega)
          obtain ⟨d8, H8⟩ := Gr5.more (Or.inl rfl) h5.out (by simp) (by rw [hs7]; exact ho8) hg8
          rw [← List.map_append] at H8
          have hO0 := hid (o3_start (ps := ps) HG.out hX6.out.b H8 (alls_start Hg.out ps hN hR))
          have hlo7 := fun q hq => (ho7.lt q hq).1
          have hb8 : Below w6.heap.size w6 w8 := hbe6.trans ((Below.refl _ _).grown hg8 (by omega) (fun q hq => by have := hlo7 q hq; omega))
          have hX8 := hX6.out.next hb8
          have hbg8 := hX8.g
          obtain ⟨⟨e0, e1⟩, _⟩ := blk2y hbg8
          have ze := lt_of_block hbg8
          obtain ⟨⟨_, r0⟩, _, r1⟩ := blk2y d8
          have zr := lt_of_block d8
          have zW := lt_of_block hX6.out.g
          have hne : W.heap.size ≠ w6.heap.size := by omega
          have hne2 : w6.heap.size ≠ W.heap.size := by omega
          clear hbx hbg hbg8 hX7 hX8 ho7 ho8 hg8 d8 H8 hlo7 h5 hs7 hbe6
          go_wp2_with (at_builtin; refine Lib.wpList_append_run _ rfl _ _ _ _ rfl _ _ rfl rfl _ _ (hrun _) ?_)
          clear hrun b0 b1 zb e0 e1 ze r0 r1 zr g0 g1 g2 g3 zg
          go_loopw [118] (fun i wr => ∃ (j : Nat) (na3 : Option Addr) (nc3 : Nat) (ra3 : Option Addr) (rc3 : Nat) (A : Gf), j ≤ ps.length ∧ i = .int .i64 (j : Int) ∧ Hid (O3 w6 g ps j na3 nc3 ra3 rc3 A wr)) (fun i _ => ps.length - (intOf i).toNat)
          case atStart => exact ⟨0, _, _, _, _, _, Nat.zero_le _, rfl, hO0⟩
          case round =>
            clear hO0 hb8
            obtain ⟨j, na3, nc3, ra3, rc3, A, hj, rfl, hO⟩ := hrel
            have hX := hid (hX6.out.next hO.out.b)
            obtain ⟨hAl, hAg⟩ := alls_len hO.out.s
            have hbx := hO.out.x
            obtain ⟨⟨y0, y1⟩, y2, y3⟩ := blk2y hbx
            have zy := lt_of_block hbx
            by_cases hlt : j < ps.length
            · have hji : (j : Int) < (ps.length : Int) := by omega
              obtain ⟨pa', pc', e, hpc⟩ := HP.out.below hX.out.b
              injection e with e1 _ e3
              subst e1 e3
              obtain ⟨b, o, hao, p0, p1⟩ := hpc j hlt
              subst hao
              have zb := lt_of_cell p0
              obtain ⟨q1, q2⟩ := Hpg.out _ (pairD_mem hlt)
              obtain ⟨hck, hns, hls⟩ := alls_step Hg.out Hpg.out hlt hO.out.s
              unfold rtQ at hck hns hls
              generalize ps.getD j (0, 0) = pr at *
              obtain ⟨x, y⟩ := pr
              dsimp only at p0 p1 q1 q2 hck hns hls
              obtain ⟨xn, rfl⟩ : ∃ xn : Nat, x = (xn : Int) := ⟨x.toNat, by omega⟩
              obtain ⟨yn, rfl⟩ : ∃ yn : Nat, y = (yn : Int) := ⟨y.toNat, by omega⟩
              rw [Int.toNat_natCast, Int.toNat_natCast] at hck hns hls
              obtain ⟨rb, ro, hra, r0⟩ := hO.out.q.gr.2.at (j := xn) (by omega)
              obtain ⟨rb', ro', hra', r1⟩ := hO.out.q.gr.2.at (j := yn) (by omega)
              rw [hra] at hra'
              injection hra' with hra'
              injection hra' with e1 e2
              subst e1 e2 hra
              have zr := lt_of_cell r0
              have hxi : (xn : Int) < (A.roots.length : Int) := by omega
              have hyi : (yn : Int) < (A.roots.length : Int) := by omega
              generalize A.roots.getD xn 0 = u at *
              generalize A.roots.getD yn 0 = v at *
              have hwq := hid (below_alloc wr (.cells #[.int .i64 (xn : Int), .int .i64 (yn : Int)] 52))
              clear hpc q1 q2
              by_cases hn : NoSol A.nodes ([(u, v)].map natP)
              · have hcs : Hid (∀ (w' : World) (pb : Nat), Below wr.heap.size wr w' → w'.heap[pb]? = some (.cells #[.int .i64 u, .int .i64 v] 52) → Calls Try.prog 11 #[.agg #[.slice na3 A.nodes.length nc3, .slice (some ⟨rb, ro, none⟩) A.roots.length rc3], .slice (some ⟨pb, 0, none⟩) 1 1] w' fun e w'' => e = .returned (.tuple #[.agg #[.slice none 0 0, .slice none 0 0], .bool false, .nilIface]) ∧ Below w'.heap.size w' w'') := fun w' pb hb hp => solve_no (hO.out.q w' (Mo.ofBelow hb)) (good_sized hAg) (rp_lit1 hp) (by simp) hck hn
                have hcA : Hid (Calls Try.prog 11 #[.agg #[.slice na3 A.nodes.length nc3, .slice (some ⟨rb, ro, none⟩) A.roots.length rc3], .slice (some ⟨wr.heap.size + 1, 0, none⟩) 1 1] ((wr.alloc (.cells #[.int .i64 (xn : Int), .int .i64 (yn : Int)] 52)).alloc (.cells #[.int .i64 u, .int .i64 v] 52)).drew fun e w'' => e = .returned (.tuple #[.agg #[.slice none 0 0, .slice none 0 0], .bool false, .nilIface]) ∧ Hid (Six w6.heap.size wr.heap.size rb ro xn yn (.slice na3 A.nodes.length nc3) (.slice (some ⟨rb, ro, none⟩) A.roots.length rc3) u v w'') ∧ Hid (Below wr.heap.size wr w'')) := (hcs.out _ _ (ord_a wr (.cells #[.int .i64 (xn : Int), .int .i64 (yn : Int)] 52) (.cells #[.int .i64 u, .int .i64 v] 52)).1 (ord_a wr (.cells #[.int .i64 (xn : Int), .int .i64 (yn : Int)] 52) (.cells #[.int .i64 u, .int .i64 v] 52)).2).mono (fun e w'' ⟨h1, h3⟩ => ⟨h1, six6 (ord_a wr (.cells #[.int .i64 (xn : Int), .int .i64 (yn : Int)] 52) (.cells #[.int .i64 u, .int .i64 v] 52)).1 (pa_2 wr (.cells #[.int .i64 (xn : Int), .int .i64 (yn : Int)] 52) (.cells #[.int .i64 u, .int .i64 v] 52)) h3 y0 y1 r0 r1, (ord_a wr (.cells #[.int .i64 (xn : Int), .int .i64 (yn : Int)] 52) (.cells #[.int .i64 u, .int .i64 v] 52)).1.trans (h3.mono (ord_a wr (.cells #[.int .i64 (xn : Int), .int .i64 (yn : Int)] 52) (.cells #[.int .i64 u, .int .i64 v] 52)).1.size)⟩)
                have hcB : Hid (Calls Try.prog 11 #[.agg #[.slice na3 A.nodes.length nc3, .slice (some ⟨rb, ro, none⟩) A.roots.length rc3], .slice (some ⟨wr.heap.size + 1 + 1, 0, none⟩) 1 1] (((wr.alloc (.cells #[.int .i64 (xn : Int), .int .i64 (yn : Int)] 52)).alloc (.cells #[.slice none 0 0, .slice none 0 0] 25)).alloc (.cells #[.int .i64 u, .int .i64 v] 52)).drew fun e w'' => e = .returned (.tuple #[.agg #[.slice none 0 0, .slice none 0 0], .bool false, .nilIface]) ∧ Hid (Six w6.heap.size wr.heap.size rb ro xn yn (.slice na3 A.nodes.length nc3) (.slice (some ⟨rb, ro, none⟩) A.roots.length rc3) u v w'') ∧ w''.heap[wr.heap.size + 1]? = some (.cells #[.slice none 0 0, .slice none 0 0] 25) ∧ Hid (Below wr.heap.size wr w'')) := (hcs.out _ _ (ord_b wr (.cells #[.int .i64 (xn : Int), .int .i64 (yn : Int)] 52) (.cells #[.slice none 0 0, .slice none 0 0] 25) (.cells #[.int .i64 u, .int .i64 v] 52)).1 (ord_b wr (.cells #[.int .i64 (xn : Int), .int .i64 (yn : Int)] 52) (.cells #[.slice none 0 0, .slice none 0 0] 25) (.cells #[.int .i64 u, .int .i64 v] 52)).2.1).mono (fun e w'' ⟨h1, h3⟩ => ⟨h1, six6 (ord_b wr (.cells #[.int .i64 (xn : Int), .int .i64 (yn : Int)] 52) (.cells #[.slice none 0 0, .slice none 0 0] 25) (.cells #[.int .i64 u, .int .i64 v] 52)).1 (pa_3 wr (.cells #[.int .i64 (xn : Int), .int .i64 (yn : Int)] 52) (.cells #[.slice none 0 0, .slice none 0 0] 25) (.cells #[.int .i64 u, .int .i64 v] 52)) h3 y0 y1 r0 r1, blk_nx (ord_b wr (.cells #[.int .i64 (xn : Int), .int .i64 (yn : Int)] 52) (.cells #[.slice none 0 0, .slice none 0 0] 25) (.cells #[.int .i64 u, .int .i64 v] 52)).2.2 h3, (ord_b wr (.cells #[.int .i64 (xn : Int), .int .i64 (yn : Int)] 52) (.cells #[.slice none 0 0, .slice none 0 0] 25) (.cells #[.int .i64 u, .int .i64 v] 52)).1.trans (h3.mono (ord_b wr (.cells #[.int .i64 (xn : Int), .int .i64 (yn : Int)] 52) (.cells #[.slice none 0 0, .slice none 0 0] 25) (.cells #[.int .i64 u, .int .i64 v] 52)).1.size)⟩)
                have hcC : Hid (Calls Try.prog 11 #[.agg #[.slice na3 A.nodes.length nc3, .slice (some ⟨rb, ro, none⟩) A.roots.length rc3], .slice (some ⟨wr.heap.size + 1, 0, none⟩) 1 1] (((wr.alloc (.cells #[.int .i64 (xn : Int), .int .i64 (yn : Int)] 52)).alloc (.cells #[.int .i64 u, .int .i64 v] 52)).alloc (.cells #[.slice none 0 0, .slice none 0 0] 25)).drew fun e w'' => e = .returned (.tuple #[.agg #[.slice none 0 0, .slice none 0 0], .bool false, .nilIface]) ∧ Hid (Six w6.heap.size wr.heap.size rb ro xn yn (.slice na3 A.nodes.length nc3) (.slice (some ⟨rb, ro, none⟩) A.roots.length rc3) u v w'') ∧ w''.heap[wr.heap.size + 1 + 1]? = some (.cells #[.slice none 0 0, .slice none 0 0] 25) ∧ Hid (Below wr.heap.size wr w'')) := (hcs.out _ _ (ord_c wr (.cells #[.int .i64 (xn : Int), .int .i64 (yn : Int)] 52) (.cells #[.int .i64 u, .int .i64 v] 52) (.cells #[.slice none 0 0, .slice none 0 0] 25)).1 (ord_c wr (.cells #[.int .i64 (xn : Int), .int .i64 (yn : Int)] 52) (.cells #[.int .i64 u, .int .i64 v] 52) (.cells #[.slice none 0 0, .slice none 0 0] 25)).2.1).mono (fun e w'' ⟨h1, h3⟩ => ⟨h1, six6 (ord_c wr (.cells #[.int .i64 (xn : Int), .int .i64 (yn : Int)] 52) (.cells #[.int .i64 u, .int .i64 v] 52) (.cells #[.slice none 0 0, .slice none 0 0] 25)).1 (pa_3 wr (.cells #[.int .i64 (xn : Int), .int .i64 (yn : Int)] 52) (.cells #[.int .i64 u, .int .i64 v] 52) (.cells #[.slice none 0 0, .slice none 0 0] 25)) h3 y0 y1 r0 r1, blk_nx (ord_c wr (.cells #[.int .i64 (xn : Int), .int .i64 (yn : Int)] 52) (.cells #[.int .i64 u, .int .i64 v] 52) (.cells #[.slice none 0 0, .slice none 0 0] 25)).2.2 h3, (ord_c wr (.cells #[.int .i64 (xn : Int), .int .i64 (yn : Int)] 52) (.cells #[.int .i64 u, .int .i64 v] 52) (.cells #[.slice none 0 0, .slice none 0 0] 25)).1.trans (h3.mono (ord_c wr (.cells #[.int .i64 (xn : Int), .int .i64 (yn : Int)] 52) (.cells #[.int .i64 u, .int .i64 v] 52) (.cells #[.slice none 0 0, .slice none 0 0] 25)).1.size)⟩)
                have HO := hid hO.out
                have hAne : ((0 : Int) != (A.roots.length : Int)) = true := bne_iff_ne.2 (by omega)
                have HAl := hid hAl
                clear hck hns hls hn hbx hO hAg hAl hcs
                go_wp2
                go_cut [17, 18, 19] from 122 to 141 (fun s17 s18 s19 wc => ∃ (qb : Nat), s17 = .pointer (some ⟨qb, 0, none⟩) ∧ s18 = .bool false ∧ s19 = .nilIface ∧ Hid (Below wr.heap.size wr wc ∧ wc.heap[qb]? = some (.cells #[.slice none 0 0, .slice none 0 0] 25)))
                case first =>
                  have h60 : Hid (Six w6.heap.size wr.heap.size rb ro xn yn (.slice na3 A.nodes.length nc3) (.slice (some ⟨rb, ro, none⟩) A.roots.length rc3) u v (wr.alloc (.cells #[.int .i64 (xn : Int), .int .i64 (yn : Int)] 52))) := six6 (below_alloc wr (.cells #[.int .i64 (xn : Int), .int .i64 (yn : Int)] 52)) (heap_alloc_new wr (.cells #[.int .i64 (xn : Int), .int .i64 (yn : Int)] 52)) (Below.refl _ _) y0 y1 r0 r1
                  clear HX HP HG Hg Hpg Hsm Hso Hsol Hsame HO HAl hX hX6 p0 p1 hrp hbe hwq hi hz0 hz1 hz2 hi2 hp0 hp1 hp2 hm' hAne
                  go_region_held3 (fun w' => w'.cell? ⟨w6.heap.size, 0, none⟩ = some (.slice na3 A.nodes.length nc3) ∧ w'.cell? ⟨w6.heap.size, 1, none⟩ = some (.slice (some ⟨rb, ro, none⟩) A.roots.length rc3) ∧ w'.cell? ⟨wr.heap.size, 0, none⟩ = some (.int .i64 (xn : Int)) ∧ w'.cell? ⟨wr.heap.size, 1, none⟩ = some (.int .i64 (yn : Int)) ∧ w'.cell? ⟨rb, ro + xn, none⟩ = some (.int .i64 u) ∧ w'.cell? ⟨rb, ro + yn, none⟩ = some (.int .i64 v)) (first | exact h6.out | exact h6.out.alloc _ | exact h7.out | exact h60.out | exact h60.out.drew | exact (h60.out.alloc _).drew | exact ((h60.out.alloc _).alloc _).drew | exact h60.out.alloc _ | exact (h60.out.alloc _).alloc _ | go_keep)
                    (first
                      | (go_at_call 11; with_reducible refine hcA.out.mono ?_; rintro e w9 ⟨rfl, h6, HF⟩; have HZ := hz_a HF.out)
                      | (go_at_call 11; with_reducible refine hcB.out.mono ?_; rintro e w9 ⟨rfl, h6, hz9, HF⟩; have h7 := hid (h6.out.set zy zr (Nat.lt_succ_self wr.heap.size) (.slice none 0 0) (.slice none 0 0)); have HZ := hz_b HF.out hz9 (Nat.le_succ _); obtain ⟨⟨s0, s1⟩, s2, s3⟩ := blk2y hz9; have zz := lt_of_block hz9; clear hz9)
                      | (go_at_call 11; with_reducible refine hcC.out.mono ?_; rintro e w9 ⟨rfl, h6, hz9, HF⟩; have h7 := hid (h6.out.set zy zr (Nat.lt_succ_of_lt (Nat.lt_succ_self wr.heap.size)) (.slice none 0 0) (.slice none 0 0)); have HZ := hz_b HF.out hz9 (Nat.le_trans (Nat.le_succ _) (Nat.le_succ _)); obtain ⟨⟨s0, s1⟩, s2, s3⟩ := blk2y hz9; have zz := lt_of_block hz9; clear hz9))
                  all_goals go_wp2_with fail
                  all_goals go_meet
                  all_goals exact ⟨_, rfl, rfl, rfl, HZ⟩
                case rest =>
                  obtain ⟨qb, rfl, rfl, rfl, hcr⟩ := hcut
                  obtain ⟨w7, rfl⟩ : ∃ w7 : World, w7 = wr := ⟨_, rfl⟩
                  obtain ⟨w9, rfl⟩ : ∃ w9 : World, w9 = wc := ⟨_, rfl⟩
                  have hX9 := hid (hX.out.next hcr.out.1)
                  have hO9 := HO.out.next hcr.out.1
                  clear y0 y1 y2 y3 zy p0 p1 zb r0 r1 zr
                  have hbq := hcr.out.2
                  obtain ⟨⟨q0, q1⟩, _⟩ := blk2y hbq
                  have zq := lt_of_block hbq
                  have hbx9 := hO9.x
                  obtain ⟨⟨y0, y1⟩, _⟩ := blk2y hbx9
                  have zy := lt_of_block hbx9
                  clear hbq hbx9 hO9 hcA hcB hcC hcr
                  go_wp2
                  go_ret
                  exact ⟨rfl, hX9.out.b⟩
              · have hcs : Hid (∀ (w' : World) (pb : Nat), Below wr.heap.size wr w' → w'.heap[pb]? = some (.cells #[.int .i64 u, .int .i64 v] 52) → Calls Try.prog 11 #[.agg #[.slice na3 A.nodes.length nc3, .slice (some ⟨rb, ro, none⟩) A.roots.length rc3], .slice (some ⟨pb, 0, none⟩) 1 1] w' fun e w'' => (∃ na4 nc4 ra4 rc4 t4 avs, e = .returned (.tuple #[.agg #[.slice na4 (Gf.nodes t4).length nc4, .slice ra4 A.roots.length rc4], .bool true, .nilIface]) ∧ Hid (Og w'' w'.heap.size (.slice na4 t4.nodes.length nc4) (.slice ra4 A.roots.length rc4) avs t4 ∧ t4.roots.length = A.roots.length ∧ t4.roots.length ≤ rc4 ∧ AllS g ps (j + 1) t4)) ∧ Below w'.heap.size w' w'') := fun w' pb hb hp => by
                  refine (solve_yes (hO.out.q w' (Mo.ofBelow hb)) (good_sized hAg) (rp_lit1 hp) (by simp) hck hn).mono ?_
                  rintro e w'' ⟨⟨t4, na4, nc4, ra4, rc4, avs, rfl, h3, h4⟩, h2⟩
                  have hs4 := hls t4 h3
                  have hl4 : t4.roots.length = A.roots.length := (alls_len hs4).1.trans hAl.symm
                  have hc4 := og_cap h4
                  rw [hl4] at h4
                  refine ⟨⟨na4, nc4, ra4, rc4, t4, avs, by rw [hl4], h4, hl4, hc4, hs4⟩, h2⟩
                have hcA : Hid (Calls Try.prog 11 #[.agg #[.slice na3 A.nodes.length nc3, .slice (some ⟨rb, ro, none⟩) A.roots.length rc3], .slice (some ⟨wr.heap.size + 1, 0, none⟩) 1 1] ((wr.alloc (.cells #[.int .i64 (xn : Int), .int .i64 (yn : Int)] 52)).alloc (.cells #[.int .i64 u, .int .i64 v] 52)).drew fun e w'' => ∃ na4 nc4 ra4 rc4 t4, e = .returned (.tuple #[.agg #[.slice na4 (Gf.nodes t4).length nc4, .slice ra4 A.roots.length rc4], .bool true, .nilIface]) ∧ Hid (t4.roots.length = A.roots.length ∧ t4.roots.length ≤ rc4 ∧ AllS g ps (j + 1) t4) ∧ Hid (Six w6.heap.size wr.heap.size rb ro xn yn (.slice na3 A.nodes.length nc3) (.slice (some ⟨rb, ro, none⟩) A.roots.length rc3) u v w'') ∧ Hid (Fin3 wr w6.heap.size (.slice na4 t4.nodes.length nc4) (.slice ra4 A.roots.length rc4) t4 w''.heap.size (w''.alloc (.cells #[.slice na4 t4.nodes.length nc4, .slice ra4 A.roots.length rc4] 25)))) := (hcs.out _ _ (ord_a wr (.cells #[.int .i64 (xn : Int), .int .i64 (yn : Int)] 52) (.cells #[.int .i64 u, .int .i64 v] 52)).1 (ord_a wr (.cells #[.int .i64 (xn : Int), .int .i64 (yn : Int)] 52) (.cells #[.int .i64 u, .int .i64 v] 52)).2).mono (fun e w'' ⟨⟨na4, nc4, ra4, rc4, t4, avs, h1, h2⟩, h3⟩ => ⟨na4, nc4, ra4, rc4, t4, h1, h2.out.2, six6 (ord_a wr (.cells #[.int .i64 (xn : Int), .int .i64 (yn : Int)] 52) (.cells #[.int .i64 u, .int .i64 v] 52)).1 (pa_2 wr (.cells #[.int .i64 (xn : Int), .int .i64 (yn : Int)] 52) (.cells #[.int .i64 u, .int .i64 v] 52)) h3 y0 y1 r0 r1, fin_a (ord_a wr (.cells #[.int .i64 (xn : Int), .int .i64 (yn : Int)] 52) (.cells #[.int .i64 u, .int .i64 v] 52)).1 h3 h2.out.1 zy⟩)
                have hcB : Hid (Calls Try.prog 11 #[.agg #[.slice na3 A.nodes.length nc3, .slice (some ⟨rb, ro, none⟩) A.roots.length rc3], .slice (some ⟨wr.heap.size + 1 + 1, 0, none⟩) 1 1] (((wr.alloc (.cells #[.int .i64 (xn : Int), .int .i64 (yn : Int)] 52)).alloc (.cells #[.slice none 0 0, .slice none 0 0] 25)).alloc (.cells #[.int .i64 u, .int .i64 v] 52)).drew fun e w'' => ∃ na4 nc4 ra4 rc4 t4, e = .returned (.tuple #[.agg #[.slice na4 (Gf.nodes t4).length nc4, .slice ra4 A.roots.length rc4], .bool true, .nilIface]) ∧ Hid (t4.roots.length = A.roots.length ∧ t4.roots.length ≤ rc4 ∧ AllS g ps (j + 1) t4) ∧ Hid (Six w6.heap.size wr.heap.size rb ro xn yn (.slice na3 A.nodes.length nc3) (.slice (some ⟨rb, ro, none⟩) A.roots.length rc3) u v w'') ∧ w''.heap[wr.heap.size + 1]? = some (.cells #[.slice none 0 0, .slice none 0 0] 25) ∧ Hid (Fin3 wr w6.heap.size (.slice na4 t4.nodes.length nc4) (.slice ra4 A.roots.length rc4) t4 (wr.heap.size + 1) ((w''.setCell ⟨wr.heap.size + 1, 0, none⟩ (.slice na4 t4.nodes.length nc4)).setCell ⟨wr.heap.size + 1, 1, none⟩ (.slice ra4 A.roots.length rc4)))) := (hcs.out _ _ (ord_b wr (.cells #[.int .i64 (xn : Int), .int .i64 (yn : Int)] 52) (.cells #[.slice none 0 0, .slice none 0 0] 25) (.cells #[.int .i64 u, .int .i64 v] 52)).1 (ord_b wr (.cells #[.int .i64 (xn : Int), .int .i64 (yn : Int)] 52) (.cells #[.slice none 0 0, .slice none 0 0] 25) (.cells #[.int .i64 u, .int .i64 v] 52)).2.1).mono (fun e w'' ⟨⟨na4, nc4, ra4, rc4, t4, avs, h1, h2⟩, h3⟩ => by
                  have hz := blk_nx (ord_b wr (.cells #[.int .i64 (xn : Int), .int .i64 (yn : Int)] 52) (.cells #[.slice none 0 0, .slice none 0 0] 25) (.cells #[.int .i64 u, .int .i64 v] 52)).2.2 h3
                  exact ⟨na4, nc4, ra4, rc4, t4, h1, h2.out.2, six6 (ord_b wr (.cells #[.int .i64 (xn : Int), .int .i64 (yn : Int)] 52) (.cells #[.slice none 0 0, .slice none 0 0] 25) (.cells #[.int .i64 u, .int .i64 v] 52)).1 (pa_3 wr (.cells #[.int .i64 (xn : Int), .int .i64 (yn : Int)] 52) (.cells #[.slice none 0 0, .slice none 0 0] 25) (.cells #[.int .i64 u, .int .i64 v] 52)) h3 y0 y1 r0 r1, hz, fin_b (ord_b wr (.cells #[.int .i64 (xn : Int), .int .i64 (yn : Int)] 52) (.cells #[.slice none 0 0, .slice none 0 0] 25) (.cells #[.int .i64 u, .int .i64 v] 52)).1 h3 h2.out.1 zy hz (by omega) (lt_of_block (ord_b wr (.cells #[.int .i64 (xn : Int), .int .i64 (yn : Int)] 52) (.cells #[.slice none 0 0, .slice none 0 0] 25) (.cells #[.int .i64 u, .int .i64 v] 52)).2.2)⟩)
                have hcC : Hid (Calls Try.prog 11 #[.agg #[.slice na3 A.nodes.length nc3, .slice (some ⟨rb, ro, none⟩) A.roots.length rc3], .slice (some ⟨wr.heap.size + 1, 0, none⟩) 1 1] (((wr.alloc (.cells #[.int .i64 (xn : Int), .int .i64 (yn : Int)] 52)).alloc (.cells #[.int .i64 u, .int .i64 v] 52)).alloc (.cells #[.slice none 0 0, .slice none 0 0] 25)).drew fun e w'' => ∃ na4 nc4 ra4 rc4 t4, e = .returned (.tuple #[.agg #[.slice na4 (Gf.nodes t4).length nc4, .slice ra4 A.roots.length rc4], .bool true, .nilIface]) ∧ Hid (t4.roots.length = A.roots.length ∧ t4.roots.length ≤ rc4 ∧ AllS g ps (j + 1) t4) ∧ Hid (Six w6.heap.size wr.heap.size rb ro xn yn (.slice na3 A.nodes.length nc3) (.slice (some ⟨rb, ro, none⟩) A.roots.length rc3) u v w'') ∧ w''.heap[wr.heap.size + 1 + 1]? = some (.cells #[.slice none 0 0, .slice none 0 0] 25) ∧ Hid (Fin3 wr w6.heap.size (.slice na4 t4.nodes.length nc4) (.slice ra4 A.roots.length rc4) t4 (wr.heap.size + 1 + 1) ((w''.setCell ⟨wr.heap.size + 1 + 1, 0, none⟩ (.slice na4 t4.nodes.length nc4)).setCell ⟨wr.heap.size + 1 + 1, 1, none⟩ (.slice ra4 A.roots.length rc4)))) := (hcs.out _ _ (ord_c wr (.cells #[.int .i64 (xn : Int), .int .i64 (yn : Int)] 52) (.cells #[.int .i64 u, .int .i64 v] 52) (.cells #[.slice none 0 0, .slice none 0 0] 25)).1 (ord_c wr (.cells #[.int .i64 (xn : Int), .int .i64 (yn : Int)] 52) (.cells #[.int .i64 u, .int .i64 v] 52) (.cells #[.slice none 0 0, .slice none 0 0] 25)).2.1).mono (fun e w'' ⟨⟨na4, nc4, ra4, rc4, t4, avs, h1, h2⟩, h3⟩ => by
                  have hz := blk_nx (ord_c wr (.cells #[.int .i64 (xn : Int), .int .i64 (yn : Int)] 52) (.cells #[.int .i64 u, .int .i64 v] 52) (.cells #[.slice none 0 0, .slice none 0 0] 25)).2.2 h3
                  exact ⟨na4, nc4, ra4, rc4, t4, h1, h2.out.2, six6 (ord_c wr (.cells #[.int .i64 (xn : Int), .int .i64 (yn : Int)] 52) (.cells #[.int .i64 u, .int .i64 v] 52) (.cells #[.slice none 0 0, .slice none 0 0] 25)).1 (pa_3 wr (.cells #[.int .i64 (xn : Int), .int .i64 (yn : Int)] 52) (.cells #[.int .i64 u, .int .i64 v] 52) (.cells #[.slice none 0 0, .slice none 0 0] 25)) h3 y0 y1 r0 r1, hz, fin_b (ord_c wr (.cells #[.int .i64 (xn : Int), .int .i64 (yn : Int)] 52) (.cells #[.int .i64 u, .int .i64 v] 52) (.cells #[.slice none 0 0, .slice none 0 0] 25)).1 h3 h2.out.1 zy hz (by omega) (lt_of_block (ord_c wr (.cells #[.int .i64 (xn : Int), .int .i64 (yn : Int)] 52) (.cells #[.int .i64 u, .int .i64 v] 52) (.cells #[.slice none 0 0, .slice none 0 0] 25)).2.2)⟩)
                have HO := hid hO.out
                have HAl := hid hAl
                clear hck hns hls hn hbx hO hAg hAl hcs
                go_wp2
                go_cut [17, 18, 19] from 122 to 141 (fun s17 s18 s19 wc => ∃ (qb : Nat) (na4 : Option Addr) (nc4 : Nat) (ra4 : Option Addr) (rc4 : Nat) (t4 : Gf), s17 = .pointer (some ⟨qb, 0, none⟩) ∧ s18 = .bool true ∧ s19 = .nilIface ∧ Hid (Fin3 wr w6.heap.size (.slice na4 t4.nodes.length nc4) (.slice ra4 A.roots.length rc4) t4 qb wc ∧ t4.roots.length = A.roots.length ∧ t4.roots.length ≤ rc4 ∧ AllS g ps (j + 1) t4))
                case first =>
                  have h60 : Hid (Six w6.heap.size wr.heap.size rb ro xn yn (.slice na3 A.nodes.length nc3) (.slice (some ⟨rb, ro, none⟩) A.roots.length rc3) u v (wr.alloc (.cells #[.int .i64 (xn : Int), .int .i64 (yn : Int)] 52))) := six6 (below_alloc wr (.cells #[.int .i64 (xn : Int), .int .i64 (yn : Int)] 52)) (heap_alloc_new wr (.cells #[.int .i64 (xn : Int), .int .i64 (yn : Int)] 52)) (Below.refl _ _) y0 y1 r0 r1
                  clear HX HP HG Hg Hpg Hsm Hso Hsol Hsame HO HAl hX hX6 p0 p1 hrp hbe hwq hi hz0 hz1 hz2 hi2 hp0 hp1 hp2 hm'
                  go_region_held3 (fun w' => w'.cell? ⟨w6.heap.size, 0, none⟩ = some (.slice na3 A.nodes.length nc3) ∧ w'.cell? ⟨w6.heap.size, 1, none⟩ = some (.slice (some ⟨rb, ro, none⟩) A.roots.length rc3) ∧ w'.cell? ⟨wr.heap.size, 0, none⟩ = some (.int .i64 (xn : Int)) ∧ w'.cell? ⟨wr.heap.size, 1, none⟩ = some (.int .i64 (yn : Int)) ∧ w'.cell? ⟨rb, ro + xn, none⟩ = some (.int .i64 u) ∧ w'.cell? ⟨rb, ro + yn, none⟩ = some (.int .i64 v)) (first | exact h6.out | exact h6.out.alloc _ | exact h7.out | exact h60.out | exact h60.out.drew | exact (h60.out.alloc _).drew | exact ((h60.out.alloc _).alloc _).drew | exact h60.out.alloc _ | exact (h60.out.alloc _).alloc _ | go_keep)
                    (first
                      | (go_at_call 11; with_reducible refine hcA.out.mono ?_; rintro e w9 ⟨na4, nc4, ra4, rc4, t4, rfl, hx4, h6, HF⟩)
                      | (go_at_call 11; with_reducible refine hcB.out.mono ?_; rintro e w9 ⟨na4, nc4, ra4, rc4, t4, rfl, hx4, h6, hz9, HF⟩; have h7 := hid (h6.out.set zy zr (Nat.lt_succ_self wr.heap.size) (.slice na4 t4.nodes.length nc4) (.slice ra4 A.roots.length rc4)); obtain ⟨⟨s0, s1⟩, s2, s3⟩ := blk2y hz9; have zz := lt_of_block hz9; clear hz9)
                      | (go_at_call 11; with_reducible refine hcC.out.mono ?_; rintro e w9 ⟨na4, nc4, ra4, rc4, t4, rfl, hx4, h6, hz9, HF⟩; have h7 := hid (h6.out.set zy zr (Nat.lt_succ_of_lt (Nat.lt_succ_self wr.heap.size)) (.slice na4 t4.nodes.length nc4) (.slice ra4 A.roots.length rc4)); obtain ⟨⟨s0, s1⟩, s2, s3⟩ := blk2y hz9; have zz := lt_of_block hz9; clear hz9))
                  all_goals go_wp2_with fail
                  all_goals go_meet
                  all_goals exact ⟨_, na4, nc4, ra4, rc4, t4, rfl, rfl, rfl, hid ⟨HF.out, hx4.out⟩⟩
                case rest =>
                  obtain ⟨qb, na4, nc4, ra4, rc4, t4, rfl, rfl, rfl, hcr⟩ := hcut
                  obtain ⟨w7, rfl⟩ : ∃ w7 : World, w7 = wr := ⟨_, rfl⟩
                  obtain ⟨w9, rfl⟩ : ∃ w9 : World, w9 = wc := ⟨_, rfl⟩
                  obtain ⟨hF, hl4, hc4, hs4⟩ := hcr.out
                  have hO9 := HO.out.next hF.b
                  have hbq := hF.x
                  clear y0 y1 y2 y3 zy p0 p1 zb r0 r1 zr
                  obtain ⟨⟨q0, q1⟩, _⟩ := blk2y hbq
                  have zq := lt_of_block hbq
                  have hbx9 := hO9.x
                  obtain ⟨⟨y0, y1⟩, y2, y3⟩ := blk2y hbx9
                  have zy := lt_of_block hbx9
                  have hOn := hO9.turn (by rw [hl4]; exact hF.q) hc4 hs4
                  rw [hl4] at hOn
                  have HOn := hid hOn
                  clear hF hbq hbx9 hO9 hOn hcr hl4 hc4 hs4 hcA hcB hcC
                  go_wp2
                  go_roundw
                  case rel => exact ⟨j + 1, na4, nc4, ra4, rc4, t4, by omega, by go_num, HOn⟩
                  case measure => simp [intOf]; omega
            · obtain rfl : j = ps.length := by omega
              exact absurd Hsol.out (alls_fin Hg.out hO.out.s).1
end Go.Proofs.Ytjenkpgoggmboaa

/- SolveOrder, at any graph and pairs. -/
namespace Go.Proofs.Ytjenkpgoggmboaa
open Go.RowKit

theorem smO {W : World} {n r : Value} {g : Gf} (hG : Gr W n r g) {b : Bool} (h : smallK 120 g = b) (w : World) (hb : Below W.heap.size W w) :
    Calls Try.prog 22 #[.agg #[n, r], .int .i64 120] w fun e w' => e = .returned (.bool b) ∧ Below w.heap.size w w' := by
  rw [← h]
  exact smallK_any (K := 120) (by omega) (hG.below hb)
theorem chkS_psg {g : Gf} {ps : List (Int × Int)} (hg : Good g) (hp : PsG g ps) : chkS g ps = [] := by
  have h : ixOf (badP g.nodes.length) ps = -1 := ixOf_none _ _ (by
    rw [List.any_eq_false]
    intro p hm
    have := hp p hm
    simp [badP, strange]
    omega)
  unfold chkS
  rw [chk_of_good hg, h]
  simp
theorem solveOrder_walk {W : World} (nv rv : Value) (g : Gf) (hG : Gr W nv rv g) (hS : Sized g) (pv : Value) (ps : List (Int × Int)) (hP : Rp W pv ps) (_zP : ps.length ≤ 9223372036854775807) :
    Calls Try.prog 7 #[.agg #[nv, rv], pv] W fun e w' => e = .returned (.bool true) ∧ Below W.heap.size W w' := by
  obtain ⟨na, nc, rfl, _⟩ := hG.1
  obtain ⟨ra, rc, rfl, _⟩ := hG.2
  have hP0 := hP
  obtain ⟨pa, pc, rfl, _⟩ := hP0
  by_cases sa : smallK 120 g = true
  · have hsm := smO hG sa
    obtain ⟨_, hN, hR⟩ := smallK_fits sa
    by_cases hl : 60 < ps.length
    · exact sord_short1 hsm hl
    · by_cases hc : chkS g ps = []
      · obtain ⟨hg, hpg⟩ := chkS_good hc
        have hco : chkS g (othJ ps ps.length) = [] := chkS_psg hg (oth_psg hpg)
        have hlo : (othJ ps ps.length).length ≤ 5000 := by rw [othJ_len]; omega
        by_cases hn : NoSol g.nodes (ps.map natP)
        · refine sord_no (t := ⟨[], []⟩) hG hP hg hN hR (by omega) hpg hsm (fun w pv qs hb hq he => ?_) ⟨by simp, by simp, fun n hn => (by cases hn)⟩ hn
          rcases he with rfl | rfl
          · exact (solve_no (hG.below hb) hS hq (by omega) hc hn).mono (fun e w' ⟨h1, h2⟩ => ⟨⟨none, 0, none, 0, h1, gr_none w'⟩, h2⟩)
          · exact (solve_no (hG.below hb) hS hq hlo hco (oth_nosol.2 hn)).mono (fun e w' ⟨h1, h2⟩ => ⟨⟨none, 0, none, 0, h1, gr_none w'⟩, h2⟩)
        · obtain ⟨E0, hU0⟩ : ∃ E, Un g.nodes (ps.map natP) E [] := by
            rcases un_all (goodA_of hg) _ (ps.map natP) rfl (psg_nat hpg) with h | h
            · exact h
            · exact absurd h hn
          obtain ⟨ee, hd⟩ := al_dec (gE g.nodes g.roots E0)
          have ht : LeastS g ps (trimF (quoF ee (gE g.nodes g.roots E0))) := ⟨E0, ee, hU0, hd, rfl⟩
          refine sord_yes (t := trimF (quoF ee (gE g.nodes g.roots E0))) hG hP hg hN hR (by omega) hpg hsm (fun w pv qs hb hq he => ?_) (fits_good (sol_good hg ht)) ht
          rcases he with rfl | rfl
          · refine (solve_yes (hG.below hb) hS hq (by omega) hc hn).mono ?_
            rintro e w' ⟨⟨t', na', nc', ra', rc', avs, rfl, h3, h4⟩, h2⟩
            obtain rfl : t' = _ := leastS_uniq hg (fun R _ => Iff.rfl) h3 ht
            exact ⟨⟨na', nc', ra', rc', rfl, h4.gr⟩, h2⟩
          · refine (solve_yes (hG.below hb) hS hq hlo hco (fun h => hn (oth_nosol.1 h))).mono ?_
            rintro e w' ⟨⟨t', na', nc', ra', rc', avs, rfl, h3, h4⟩, h2⟩
            obtain rfl : t' = _ := leastS_uniq hg (fun R hR => (oth_iff R hR).symm) h3 ht
            exact ⟨⟨na', nc', ra', rc', rfl, h4.gr⟩, h2⟩
      · refine sord_bad hsm hl (fun w hb => (solve_bad (hG.below hb) hS (hP.below hb) (by omega) hc).mono ?_)
        rintro e w' ⟨⟨ev, rfl, hev⟩, h2⟩
        rcases hev.isNil with ⟨e0, _⟩ | ⟨_, b, rfl⟩
        · exact absurd e0 hc
        · exact ⟨⟨b, rfl⟩, h2⟩
  · exact sord_short0 (smO hG (by simpa using sa))
end Go.Proofs.Ytjenkpgoggmboaa

/- Pairs of numbers among what came in. -/
namespace Go.Proofs.Ytjenkpgoggmboaa
open Go.ChangeShapes Go.WideShapes Go.ChangeAt Go.RowKit Go.Deep

theorem cellsP : Try.prog.cellsOf 52 = 2 := by kernel_rfl
theorem undP : Try.prog.underlying 52 = some (.array 2 3) := by kernel_rfl
/-- An array of two numbers, taken apart. -/
theorem pair_of_cells {H : Type} {enc : TypeId × Value → H} {W : World} {fuel : Nat} {c0 c1 : Value} {x : DataW H × List MemPlace} (h : DataW.trod enc Try.prog W 0 (fun _ => true) true fuel 52 [c0, c1] = some x) :
    ∃ a b : Int, c0 = .int .i64 a ∧ c1 = .int .i64 b := by
  cases fuel with
  | zero => simp [DataW.trod] at h
  | succ n =>
    unfold DataW.trod at h
    rw [undP] at h
    have r2 : List.range 2 = [0, 1] := rfl
    simp only [r2, cellsI] at h
    cases h0 : DataW.trod enc Try.prog W 0 (fun _ => true) true n 3 [c0] with
    | none => simp [h0] at h
    | some y0 =>
      cases h1 : DataW.trod enc Try.prog W 0 (fun _ => true) true n 3 [c1] with
      | none => simp [h0, h1] at h
      | some y1 =>
        obtain ⟨a, e0, _, _⟩ := DataW.trod_int Try.underlying3 h0
        obtain ⟨b, e1, _, _⟩ := DataW.trod_int Try.underlying3 h1
        simp at e0 e1
        exact ⟨a, b, e0, e1⟩
theorem pairs_of_cells {H : Type} {enc : TypeId × Value → H} {W : World} {fuel : Nat} {u : Value} {x : DataW H × List MemPlace} (h : DataW.trod enc Try.prog W 0 (fun _ => true) true fuel 26 [u] = some x) :
    ∃ l : List (Int × Int), Rp W u l ∧ l.length ≤ 9223372036854775807 := by
  rcases Go.Deep.open_slice Try.underlying26 h with ⟨hcs, _⟩ | ⟨ad, len, cap, m, n, D, Pl, hcs, _, hl, hm, hmm, _, hel⟩
  · simp at hcs
    subst hcs
    exact ⟨[], ⟨none, 0, rfl, fun _ h => absurd h (Nat.not_lt_zero _)⟩, by simp⟩
  · simp at hcs
    subst hcs
    simp only [if_true] at hmm
    rw [cellsP] at hel
    have each : ∀ i, ∃ p : Int × Int, i < len → W.cells? 0 (ad.add (i * 2)) 2 = some [.int .i64 p.1, .int .i64 p.2] := fun i => by
      by_cases hi : i < len
      · obtain ⟨cs', hc, ht⟩ := hel i (by omega)
        have hlen := (World.cells?_some hc).2.1
        match cs', hlen with
        | [c0, c1], _ =>
          obtain ⟨a, b, rfl, rfl⟩ := pair_of_cells ht
          exact ⟨(a, b), fun _ => hc⟩
      · exact ⟨(0, 0), fun h => absurd h hi⟩
    obtain ⟨ps, hps⟩ := Classical.axiomOfChoice each
    refine ⟨(List.range len).map ps, ⟨some ad, cap, by simp, fun j hj => ?_⟩, by simp; unfold maxLen at hm; omega⟩
    have hj' : j < len := by simpa using hj
    obtain ⟨b, off, spot⟩ := ad
    have hcj := (World.cells?_some (hps j hj')).2.2
    have hspot : spot = none := by
      have := (World.cells?_some (hps 0 (by omega))).2.2 0 (by omega)
      simp at this
      simpa [Addr.add] using World.cell?_spot this
    subst hspot
    have e : ∀ i, ((⟨b, off, none⟩ : Addr).add (j * 2)).add i = ⟨b, off + j * 2 + i, none⟩ := fun i => by rw [add_plain, add_plain]
    have hg : ((List.range len).map ps).getD j (0, 0) = ps j := by simp [List.getD, hj']
    refine ⟨b, off, rfl, ?_⟩
    rw [hg]
    constructor
    · have := hcj 0 (by omega); rw [e] at this; simpa using this
    · have := hcj 1 (by omega); rw [e] at this; simpa using this
set_option maxRecDepth 100000 in
theorem pairs_of {H : Type} {enc : TypeId × Value → H} {W : World} {base : Nat} {u : Value} {d : DataW H} {p : List MemPlace} (hv : Value.okWide Try.prog W .any base 26 u) (h : DataW.Trod enc Try.prog W 0 (fun _ => true) true 26 u d p) :
    ∃ l : List (Int × Int), Rp W u l ∧ l.length ≤ 9223372036854775807 := by
  obtain ⟨a, len, cap, rfl⟩ := okWide_slice Try.underlying26 hv
  obtain ⟨fuel, hf⟩ := h
  have hf' : DataW.trod enc Try.prog W 0 (fun _ => true) true fuel 26 [.slice a len cap] = some (d, p) := by simpa [Value.cells] using hf
  exact pairs_of_cells hf'
end Go.Proofs.Ytjenkpgoggmboaa
