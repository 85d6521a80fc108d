/- Package cells: Put where the words do not fit. -/
import Derived.Test.YtgmldkojldlekaaGreatDoorSR37Z
import Derived.Test.YtgmldkojldlekaaGreatDoorSR28Z
namespace Go.Proofs.YtgmldkojldlekaaGreatDoor
set_option maxRecDepth 100000
open Go.RowKit
section
variable {W : World} {B hb ab tb : Nat} {m : Int} {av : Value} {l : List Int} {tv : Value} {tq : Nat} {ns : List ByteArray} {trv ptv : Value} {n : Int}
set_option maxHeartbeats 16000000 in
theorem hput_full {nv rv : Value} {g : Gf} (hE : ErrC W) (hH : Hp W B hb ab tb m av l tv tq ns trv ptv n) (hB : B ≤ W.heap.size) (hG : Gr W nv rv g) (hS : Sized g) (hck : one (chk g) = [])
    (hro : m < (l.length + wantJ g (metF g) (metF g).length : Int)) (hna : (wthJ ns g (metF g) (metF g).length).length ≤ 1024) :
    Calls Tryz.prog 21 #[.pointer (some ⟨hb, 0, none⟩), .agg #[nv, rv]] W fun e w' => (∃ ev, e = .returned (.tuple #[.slice none 0 0, ev])) ∧ Below W.heap.size W w' := by
  have hg := chk_good hck
  have hok := met_ok hg
  have hml := hok.le
  have hN : g.nodes.length ≤ 4096 := hg.nodes
  have hb0 := below_alloc W (.cells #[nv, rv] 30)
  have hre := hid (reach_good (hG.below hb0) hS hck)
  have HGr := hid hG
  have HE := hid hE
  have HH := hid hH
  have Hg := hid hg
  have Hok := hid hok
  obtain ⟨na, nc, rfl, _⟩ := hG.1
  obtain ⟨ra, rc, rfl, _⟩ := hG.2
  have hx0 := hid (heap_alloc_new W (.cells #[.slice na g.nodes.length nc, .slice ra g.roots.length rc] 30))
  have Hb0 := hid hb0
  obtain ⟨MT, hMT⟩ : ∃ MT, MT = metF g := ⟨_, rfl⟩
  rw [← hMT] at hre Hok hml hna hro
  obtain ⟨NS, hNS⟩ : ∃ NS, NS = wthJ ns g MT MT.length := ⟨_, rfl⟩
  replace hNS := hid hNS
  replace hMT := hid hMT
  clear hg hok hG hH hb0 hS hck hE
  go_enter Tryz.func21, Tryz.ntmps21
  go_wp2_with (go_at_call 48; refine hre.out.mono ?_; rintro e w1 ⟨⟨mo, mc, rfl, ho1⟩, hb1⟩; have Hb1 := hid (Below.next Hb0.out hb1); have Ho1 := hid ho1; have Hx1 := hid ((hb1.block _ (by simp)).trans hx0.out); clear ho1 hb1)
  obtain ⟨⟨x0, x1⟩, _⟩ := cblk2 Hx1.out
  have HH1 := hid (HH.out.below Hb1.out)
  obtain ⟨⟨h0, h1, _⟩, zh⟩ := HH1.out.cells
  have zx := lt_of_block Hx1.out
  have hri : Hid (Ri w1 (.slice mo MT.length mc) MT) := ri_own Ho1.out
  have hwi := hid (fun wq (hbq : Below w1.heap.size w1 wq) => with_okG (HH1.out.tb.below hbq) (by have := Hb1.out.size; have := hbq.size; omega) (HGr.out.below (Below.next Hb1.out hbq)) Hg.out (hri.out.below hbq) Hok.out.rng (by omega) hna)
  rw [← hNS.out] at hwi
  have hBz : B ≤ w1.heap.size := by have := Hb1.out.size; omega
  go_cut [8, 7] from 24 to 32 (fun s8 s7 wc => ∃ bx tb' tv' tq', s8 = .pointer (some ⟨bx, 0, none⟩) ∧ s7 = .nilIface ∧ Hid (Wb w1 wc B bx tb tv tq NS tb' tv' tq'))
  case first =>
    go_region_held3 (fun w' => w'.cell? ⟨hb, 1, none⟩ = some (.pointer (some ⟨tb, 0, none⟩)) ∧ w'.cell? ⟨W.heap.size, 0, none⟩ = some (.slice na g.nodes.length nc) ∧ w'.cell? ⟨W.heap.size, 1, none⟩ = some (.slice ra g.roots.length rc)) (first | exact ⟨h1, x0, x1⟩ | exact ⟨(set_far _ _ (by omega)).trans h1, (set_far _ _ (by omega)).trans x0, (set_far _ _ (by omega)).trans x1⟩ | go_keep)
      (first
        | (go_at_call 49; refine (hwi.out _ ?_).mono ?_; exact (Below.refl _ _).drew; rintro e w3 ⟨⟨tb', tv', tq', rfl, ht⟩, hb3⟩; have HE2 := hid (wb_call HH1.out.tb hBz (Below.refl _ _).drew hb3 ht); have HB5 := hid (Below.next (Below.refl _ _).drew hb3); clear ht; replace h1 := (HB5.out.cell (p := ⟨hb, 1, none⟩) zh).trans h1; replace x0 := (HB5.out.cell (p := ⟨W.heap.size, 0, none⟩) zx).trans x0; replace x1 := (HB5.out.cell (p := ⟨W.heap.size, 1, none⟩) zx).trans x1; clear hb3)
        | (go_at_call 49; refine (hwi.out _ ?_).mono ?_; exact (below_alloc w1 _).drew; rintro e w3 ⟨⟨tb', tv', tq', rfl, ht⟩, hb3⟩; have HE2 := hid (wb_box HH1.out.tb hBz (below_alloc w1 _).drew (heap_alloc_new w1 _) (Nat.le_refl _) hb3 ht); obtain ⟨bx3, bx4, bx5⟩ := box_cell hb3; have HB5 := hid (Below.next (below_alloc w1 _).drew hb3); clear ht; replace h1 := (HB5.out.cell (p := ⟨hb, 1, none⟩) zh).trans h1; replace x0 := (HB5.out.cell (p := ⟨W.heap.size, 0, none⟩) zx).trans x0; replace x1 := (HB5.out.cell (p := ⟨W.heap.size, 1, none⟩) zx).trans x1; clear hb3))
    all_goals go_wp2_with fail
    all_goals go_meet
    all_goals exact ⟨_, tb', tv', tq', rfl, rfl, HE2⟩
  case rest =>
    obtain ⟨bx, tb', tv', tq', rfl, rfl, hW⟩ := hcut
    have Hbw := hid (Below.next Hb1.out hW.out.b)
    obtain ⟨⟨y0, y1⟩, _⟩ := cblk2 ((hW.out.b.block _ zx).trans Hx1.out)
    have zy := lt_of_block ((hW.out.b.block _ zx).trans Hx1.out)
    obtain ⟨⟨k0, _⟩, zk⟩ := (HH1.out.below hW.out.b).cells
    have hric := hid (hri.out.below hW.out.b)
    have hwa := hid (wanted_any (HGr.out.below Hbw.out) Hg.out hric.out Hok.out.rng (by omega))
    have hwle := want_le Hg.out (met := MT) MT.length
    have hrl : g.roots.length ≤ 4096 := Hg.out.roots
    have HHc := hid (HH1.out.below hW.out.b)
    have hlm := HH.out.ar.len
    obtain ⟨CT, hCT⟩ : ∃ CT, CT = wantJ g MT MT.length := ⟨_, rfl⟩
    rw [← hCT] at hwa hro hwle
    have hci : ¬ (CT : Int) = 0 := by omega
    have hal := hid (fun w4 (hb4 : Below wc.heap.size wc w4) => alloc_full (HHc.out.below hb4).ar (CT : Int) (by omega) (by omega))
    clear hro hna hCT hlm
    have d0 : ((CT : Int) == 0) = false := by simpa using hci
    go_wp2_with (first
      | (go_at_call 50; refine hwa.out.mono ?_; rintro e w4 ⟨rfl, hb4⟩; have Hb4 := hid hb4; obtain ⟨⟨j0, _⟩, zj⟩ := (HHc.out.below hb4).cells; clear hb4)
      | (go_at_call 51; refine (hal.out _ Hb4.out).mono ?_; rintro e w5 ⟨rfl, hw5⟩; have HF5 : Hid (w5.heap[w4.heap.size]? = some (faultAtObj 22 (CT : Int))) := (by rw [hw5]; exact heap_alloc_new w4 _); have Hb5 : Hid (Below W.heap.size W w5) := (by rw [hw5]; exact Below.next (Below.next Hbw.out Hb4.out) (below_alloc w4 _)); have hwr := hid (wrapped_any w5 (HE.out.below Hb5.out) 112 w4.heap.size HF5.out); clear hw5)
      | (go_at_call 46; refine hwr.out.mono ?_; rintro e w9 ⟨⟨b9, rfl, _⟩, hb9⟩; have Hb9 := hid (Below.next Hb5.out hb9); clear hb9))
    go_ret2
    exact ⟨⟨_, rfl⟩, Hb9.out⟩
end
end Go.Proofs.YtgmldkojldlekaaGreatDoor
