/- GraphOwns, walked: where it looks no further, and where a graph is not good. -/
import Derived.Test.YtebmnggjblellaaGrOwns
namespace Go.Proofs.Ytebmnggjblellaa
open Go.RowKit

theorem join2_no_at {w : World} {nv rv : Value} {g : Gf} {s : Nat} (hG : Gr w nv rv g) (hS : Sized g) (hc : one (chk g) ≠ []) (hs : w.heap.size = s) :
    Calls Try.prog 25 #[.slice (some ⟨s, 0, none⟩) 2 2] (w.alloc (.cells #[nv, rv, nv, rv] 25)) fun e w' => (∃ b, e = .returned (.tuple #[.agg #[.slice none 0 0, .slice none 0 0], .iface 80 (.pointer (some ⟨b, 0, none⟩))])) ∧ Below w.heap.size w w' := by
  subst hs
  exact join2_no hG hS hc
theorem join1_no_at {w : World} {nv rv : Value} {g : Gf} {s : Nat} (hG : Gr w nv rv g) (hS : Sized g) (hc : one (chk g) ≠ []) (hs : w.heap.size = s) :
    Calls Try.prog 25 #[.slice (some ⟨s, 0, none⟩) 1 1] (w.alloc (.cells #[nv, rv] 25)) fun e w' => (∃ b, e = .returned (.tuple #[.agg #[.slice none 0 0, .slice none 0 0], .iface 80 (.pointer (some ⟨b, 0, none⟩))])) ∧ Below w.heap.size w w' := by
  subst hs
  exact join1_no hG hS hc
theorem at_zero_at {w : World} {nv rv : Value} {g : Gf} {s : Nat} (hG : Gr w nv rv g) (hS : Sized g) (hs : w.heap.size = s) :
    Calls Try.prog 26 #[.agg #[nv, rv], .int .i64 0, .slice (some ⟨s, 0, none⟩) 1 1] (w.alloc (.cells #[.int .i64 0] 3)) fun e w' => (∃ x b, e = .returned (.tuple #[.int .i64 x, .bool b])) ∧ Below w.heap.size w w' := by
  subst hs
  exact at_zero hG hS
set_option maxRecDepth 100000 in
set_option maxHeartbeats 4000000 in
theorem owns_large {W : World} {nv rv : Value} {g : Gf} (hG : Gr W nv rv g) (hsg : smallG g = false) :
    Calls Try.prog 4 #[.agg #[nv, rv]] W fun e w' => e = .returned (.bool true) ∧ Below W.heap.size W w' := by
  have hb := below_alloc W (.cells #[nv, rv] 25)
  have b0 := heap_alloc_new W (.cells #[nv, rv] 25)
  have hlg : ∀ w : World, Below W.heap.size W w → _ := fun w hb => large_any (hG.below hb)
  rw [hsg] at hlg
  clear hG
  go_enter Try.func4, Try.ntmps4
  go_wp2_with (first
    | (go_at_call 9; refine (lives_any _).mono ?_; rintro e w1 ⟨rfl, hb1⟩; replace hb := Below.next hb hb1; replace b0 := keepB b0 hb1; (try clear c0 c1); obtain ⟨⟨c0, c1⟩, _⟩ := blk2 b0; clear hb1)
    | (go_at_call 10; refine (hlg _ hb).mono ?_; clear hlg; rintro e w2 ⟨rfl, hb1⟩; replace hb := Below.next hb hb1; replace b0 := keepB b0 hb1; clear c0 c1; obtain ⟨⟨c0, c1⟩, _⟩ := blk2 b0; clear hb1))
  go_ret
  exact ⟨rfl, hb⟩
set_option maxRecDepth 100000 in
set_option maxHeartbeats 8000000 in
theorem owns_bad {W : World} {nv rv : Value} {g : Gf} (hG : Gr W nv rv g) (hS : Sized g) (hsg : smallG g = true) (hbad : one (chk g) ≠ []) :
    Calls Try.prog 4 #[.agg #[nv, rv]] W fun e w' => e = .returned (.bool true) ∧ Below W.heap.size W w' := by
  have hb := below_alloc W (.cells #[nv, rv] 25)
  have b0 := heap_alloc_new W (.cells #[nv, rv] 25)
  have hlg : ∀ w : World, Below W.heap.size W w → _ := fun w hb => large_any (hG.below hb)
  rw [hsg] at hlg
  obtain ⟨hn, hr, ha⟩ := small_args hsg
  have hgr := hid (fun (w : World) (hb : Below W.heap.size W w) => hgraph_any (hG.below hb) hn hr ha)
  have htr := hid (fun (w : World) (n1 r1 : Value) (h : Gr w n1 r1 g) => trim_bad h hS hbad)
  have hj2 := hid (fun (w : World) (n1 r1 : Value) (s : Nat) (h : Gr w n1 r1 g) (hs : w.heap.size = s) => join2_no_at h hS hbad hs)
  have hj1 := hid (fun (w : World) (n1 r1 : Value) (s : Nat) (h : Gr w n1 r1 g) (hs : w.heap.size = s) => join1_no_at h hS hbad hs)
  have hre := hid (fun (w : World) (n1 r1 : Value) (h : Gr w n1 r1 g) => reach_bad h hS hbad)
  have hva := hid (fun (w : World) (n1 r1 : Value) (h : Gr w n1 r1 g) => vars_bad h hS hbad)
  have hcy := hid (fun (w : World) (n1 r1 : Value) (h : Gr w n1 r1 g) => cyc_bad h hS hbad)
  have hat := hid (fun (w : World) (n1 r1 : Value) (s : Nat) (h : Gr w n1 r1 g) (hs : w.heap.size = s) => at_zero_at h hS hs)
  have hke := hid (fun (w : World) (B gb cap : Nat) (mrv : Value) (avs : List Value) (hm : Hg w B gb cap mrv avs g) (hb : Below W.heap.size W w) => hKept_any hm (hG.below hb) hn hr ha)
  obtain ⟨na, nc, rfl, _⟩ := hG.1
  obtain ⟨ra, rc, rfl, _⟩ := hG.2
  clear hG hbad hn hr ha hsg
  go_enter Try.func4, Try.ntmps4
  go_wp2_with (first
    | (go_at_call 9; refine (lives_any _).mono ?_; rintro e w1 ⟨rfl, hb1⟩; replace hb := Below.next hb hb1; replace b0 := keepB b0 hb1; (try clear c0 c1); obtain ⟨⟨c0, c1⟩, _⟩ := blk2 b0; clear hb1)
    | (go_at_call 10; refine (hlg _ hb).mono ?_; clear hlg; rintro e w2 ⟨rfl, hb1⟩; replace hb := Below.next hb hb1; replace b0 := keepB b0 hb1; (try clear c0 c1); obtain ⟨⟨c0, c1⟩, _⟩ := blk2 b0; clear hb1)
    | (go_at_call 24; refine (hgr.out _ hb).mono ?_; clear hgr; rintro e w3 ⟨⟨gb, cap, mrv, avs, rfl, hM⟩, hb1⟩; obtain ⟨mq, mc, hmr⟩ : ∃ mq mc, mrv = .slice (some ⟨mq, 0, none⟩) g.roots.length mc := (by obtain ⟨q, c, h, _⟩ := hM.r; exact ⟨q, c, h⟩); subst hmr; have hbt := below_alloc w3 (.cells #[.slice (some ⟨gb, 0, none⟩) g.nodes.length cap, .slice (some ⟨mq, 0, none⟩) g.roots.length mc] 25); have bm := heap_alloc_new w3 (.cells #[.slice (some ⟨gb, 0, none⟩) g.nodes.length cap, .slice (some ⟨mq, 0, none⟩) g.roots.length mc] 25); replace hM := hM.below hbt; replace hb := Below.next (Below.next hb hb1) hbt; replace b0 := keepB (keepB b0 hb1) hbt; clear c0 c1 hb1 hbt; obtain ⟨⟨c0, c1⟩, _⟩ := blk2 b0; obtain ⟨⟨m0, m1⟩, _⟩ := blk2 bm)
    | (go_at_call 14; refine (htr.out _ _ _ hM.gr).mono ?_; rintro e w4 ⟨⟨q4, rfl, _⟩, hb1⟩; have hbt := below_alloc w4 (.cells #[.slice none 0 0, .slice none 0 0] 25); replace hb1 := hb1.trans (hbt.mono hb1.size); replace hb := Below.next hb hb1; replace b0 := keepB b0 hb1; replace bm := keepB bm hb1; replace hM := hM.below hb1; clear c0 c1 m0 m1; obtain ⟨⟨c0, c1⟩, _⟩ := blk2 b0; obtain ⟨⟨m0, m1⟩, _⟩ := blk2 bm; clear hb1)
    | (go_at_call 25; refine (hj2.out _ _ _ _ hM.gr (by first | rfl | simp)).mono ?_; clear hj2; rintro e w4 ⟨⟨q4, rfl⟩, hb1⟩; have hbt := below_alloc w4 (.cells #[.slice none 0 0, .slice none 0 0] 25); replace hb1 := hb1.trans (hbt.mono hb1.size); replace hb := Below.next hb hb1; replace b0 := keepB b0 hb1; replace bm := keepB bm hb1; replace hM := hM.below hb1; clear c0 c1 m0 m1; obtain ⟨⟨c0, c1⟩, _⟩ := blk2 b0; obtain ⟨⟨m0, m1⟩, _⟩ := blk2 bm; clear hb1)
    | (go_at_call 25; refine (hj1.out _ _ _ _ hM.gr (by first | rfl | simp)).mono ?_; clear hj1; rintro e w4 ⟨⟨q4, rfl⟩, hb1⟩; have hbt := below_alloc w4 (.cells #[.slice none 0 0, .slice none 0 0] 25); replace hb1 := hb1.trans (hbt.mono hb1.size); replace hb := Below.next hb hb1; replace b0 := keepB b0 hb1; replace bm := keepB bm hb1; replace hM := hM.below hb1; clear c0 c1 m0 m1; obtain ⟨⟨c0, c1⟩, _⟩ := blk2 b0; obtain ⟨⟨m0, m1⟩, _⟩ := blk2 bm; clear hb1)
    | (go_at_call 12; refine (hre.out _ _ _ hM.gr).mono ?_; clear hre; rintro e w4 ⟨⟨q4, rfl, _⟩, hb1⟩; replace hb := Below.next hb hb1; replace b0 := keepB b0 hb1; replace bm := keepB bm hb1; replace hM := hM.below hb1; clear c0 c1 m0 m1; obtain ⟨⟨c0, c1⟩, _⟩ := blk2 b0; obtain ⟨⟨m0, m1⟩, _⟩ := blk2 bm; clear hb1)
    | (go_at_call 13; refine (hva.out _ _ _ hM.gr).mono ?_; clear hva; rintro e w4 ⟨⟨q4, rfl, _⟩, hb1⟩; replace hb := Below.next hb hb1; replace b0 := keepB b0 hb1; replace bm := keepB bm hb1; replace hM := hM.below hb1; clear c0 c1 m0 m1; obtain ⟨⟨c0, c1⟩, _⟩ := blk2 b0; obtain ⟨⟨m0, m1⟩, _⟩ := blk2 bm; clear hb1)
    | (go_at_call 15; refine (hcy.out _ _ _ hM.gr).mono ?_; clear hcy; rintro e w4 ⟨⟨q4, rfl, _⟩, hb1⟩; replace hb := Below.next hb hb1; replace b0 := keepB b0 hb1; replace bm := keepB bm hb1; replace hM := hM.below hb1; clear c0 c1 m0 m1; obtain ⟨⟨c0, c1⟩, _⟩ := blk2 b0; obtain ⟨⟨m0, m1⟩, _⟩ := blk2 bm; clear hb1)
    | (go_at_call 26; refine (hat.out _ _ _ _ hM.gr (by first | rfl | simp)).mono ?_; clear hat; rintro e w4 ⟨⟨x4, y4, rfl⟩, hb1⟩; replace hb := Below.next hb hb1; replace b0 := keepB b0 hb1; replace bm := keepB bm hb1; replace hM := hM.below hb1; clear c0 c1 m0 m1; obtain ⟨⟨c0, c1⟩, _⟩ := blk2 b0; obtain ⟨⟨m0, m1⟩, _⟩ := blk2 bm; clear hb1)
    | (go_at_call 27; refine (hke.out _ _ _ _ _ _ hM hb).mono ?_; clear hke; rintro e w4 ⟨rfl, hb1⟩; replace hb := Below.next hb hb1; replace b0 := keepB b0 hb1; replace bm := keepB bm hb1; replace hM := hM.below hb1; clear c0 c1 m0 m1; obtain ⟨⟨c0, c1⟩, _⟩ := blk2 b0; obtain ⟨⟨m0, m1⟩, _⟩ := blk2 bm; clear hb1))
  go_ret
  exact ⟨rfl, hb⟩
end Go.Proofs.Ytebmnggjblellaa
