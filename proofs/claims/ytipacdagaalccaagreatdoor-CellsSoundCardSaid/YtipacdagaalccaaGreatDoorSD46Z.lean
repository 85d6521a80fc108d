/- What the rows' condition on package-level variables gives package cells, and that the program's own start meets it. -/
import Derived.Test.YtipacdagaalccaaGreatDoorTie
import Derived.Test.YtipacdagaalccaaGreatDoorCards
import Derived.ProofKit
import Derived.LaidMore
import Derived.LaidHandle
import Derived.OpenShut
import Derived.Stop.Joined
import Derived.Stop.LaidErr
import Derived.Deep.DeepCutAuto
import Derived.Test.YtipacdagaalccaaGreatDoorSD43Z
import Derived.Test.YtipacdagaalccaaGreatDoorSD11Z
import Derived.Test.YtipacdagaalccaaGreatDoorSD36Z
import Derived.Test.YtipacdagaalccaaGreatDoorSD38Z
import Derived.Test.YtipacdagaalccaaGreatDoorSD40Z
import Derived.Test.YtipacdagaalccaaGreatDoorSD25Z
import Derived.Test.YtipacdagaalccaaGreatDoorSD14Z
import Derived.Test.YtipacdagaalccaaGreatDoorSD08Z
namespace Go.Proofs.YtipacdagaalccaaGreatDoor
set_option maxRecDepth 100000
open Go.ChangeShapes Go.WideShapes Go.ChangeAt Go.RowKit
theorem globEt : Tryz.prog.globalNamed "errors.errorType" = some 0 := by kernel_rfl
theorem rtEt : (Tryz.prog.cutTypes.find? (·.1 == "internal/reflectlite.rtype")).map (·.2) = some 189 := by kernel_rfl
theorem oneEt : ((List.range 243).filter fun t => Tryz.prog.rowNamed t [101, 114, 114, 111, 114]) = [45] := by kernel_rfl
theorem sizeEt : Tryz.prog.types.size = 243 := by kernel_rfl
theorem ready_of_laid {W : World} (h : laidMetH Tryz.prog Rows.cellsSoundRow.laid W) : ErrC W := by
  have h' : laidMet Tryz.prog [] W ∧ handlesMet Tryz.prog [("errors.errorType", Rows.laid_errors_errorType)] W := h
  obtain ⟨name, u, ty, e1, e2, e3, e4, e5⟩ := h'.2 _ (List.mem_singleton.2 rfl)
  have en : name = [101, 114, 114, 111, 114] := (Option.some.inj e1).symm
  subst en
  obtain rfl := Option.some.inj (rtEt.symm.trans e2)
  have hm : ty ∈ (List.range 243).filter fun t => Tryz.prog.rowNamed t [101, 114, 114, 111, 114] := List.mem_filter.2 ⟨List.mem_range.2 (by rw [← sizeEt]; exact e3), e4⟩
  rw [oneEt] at hm
  obtain rfl := List.mem_singleton.1 hm
  have hh : typeHandle Tryz.prog 45 = .pointer (some ⟨1, 45, none⟩) := by kernel_rfl
  rw [hh] at e5
  have := World.var?_cell globEt e5 0
  show W.cell? _ = _
  simpa using this
theorem door_met (os : Os) (args : Array Value) : laidMetH Tryz.prog Rows.cellsSoundRow.laid ((World.doorLaid Tryz.prog 16 os).forCall (fun _ _ => 0) ⟨#[], args, []⟩).memory :=
  laidMetH_of_parts3 (fuel := 8) (laidMet_of_run' 8 (by kernel_rfl) (by kernel_rfl)) (by kernel_rfl) (by kernel_rfl)
end Go.Proofs.YtipacdagaalccaaGreatDoor

namespace Go.Proofs.YtipacdagaalccaaGreatDoor
set_option maxRecDepth 100000
open Go.RowKit
section
variable {W : World} {B hb ab tb : Nat} {m : Int} {av : Value} {l : List Int} {tv : Value} {tq : Nat} {ns : List ByteArray} {trv ptv : Value} {n : Int}
abbrev SkP (hb tb gb : Nat) (v0 v1 : Value) (w : World) : Prop := w.cell? ⟨hb, 1, none⟩ = some (.pointer (some ⟨tb, 0, none⟩)) ∧ w.cell? ⟨gb, 0, none⟩ = some v0 ∧ w.cell? ⟨gb, 1, none⟩ = some v1
theorem skp_dr {hb tb gb : Nat} {v0 v1 : Value} {w : World} (h : SkP hb tb gb v0 v1 w) : SkP hb tb gb v0 v1 w.drew := h
theorem skp_al {hb tb gb : Nat} {v0 v1 : Value} {w : World} {o : Obj} (h : SkP hb tb gb v0 v1 w) : SkP hb tb gb v0 v1 (w.alloc o) :=
  ⟨((below_alloc w o).cell (p := ⟨hb, 1, none⟩) (lt_of_cell h.1)).trans h.1, ((below_alloc w o).cell (p := ⟨gb, 0, none⟩) (lt_of_cell h.2.1)).trans h.2.1, ((below_alloc w o).cell (p := ⟨gb, 1, none⟩) (lt_of_cell h.2.2)).trans h.2.2⟩
theorem skp_set {hb tb gb q : Nat} {v0 v1 u : Value} {w : World} (h1 : hb ≠ q) (h2 : gb ≠ q) (h : SkP hb tb gb v0 v1 w) : SkP hb tb gb v0 v1 (w.setCell ⟨q, 0, none⟩ u) :=
  ⟨(set_far _ _ h1).trans h.1, (set_far _ _ h2).trans h.2.1, (set_far _ _ h2).trans h.2.2⟩
set_option maxHeartbeats 8000000 in
theorem put_names {nv rv : Value} {g : Gf} (hE : ErrC W) (hH : Hp W B hb ab tb m av l tv tq ns trv ptv n) (hB : B ≤ W.heap.size) (hG : Gr W nv rv g) (hS : Sized g) (hck : one (chk g) = []) (hna : 1024 < (wthJ ns g (metF g) (metF g).length).length) :
    Calls Tryz.prog 13 #[.pointer (some ⟨hb, 0, none⟩), .agg #[nv, rv]] W fun e w' => (∃ ev, e = .returned (.tuple #[.slice none 0 0, ev])) ∧ Below W.heap.size W w' := by
  have hg := chk_good hck
  have hok := met_ok hg
  have hml := hok.le
  have hN : g.nodes.length ≤ 4096 := hg.nodes
  have hb0 := below_alloc W (.cells #[nv, rv] 30)
  have hre := hid (reach_good (hG.below hb0) hS hck)
  have HG := hid hG
  have HH := hid hH
  have Hg := hid hg
  have Hok := hid hok
  have HE := hid hE
  have Hna := hid hna
  obtain ⟨na, nc, rfl, _⟩ := hG.1
  obtain ⟨ra, rc, rfl, _⟩ := hG.2
  have hx0 := hid (heap_alloc_new W (.cells #[.slice na g.nodes.length nc, .slice ra g.roots.length rc] 30))
  have Hb0 := hid hb0
  clear hg hok hH hb0 hS hck hG hE hna
  go_enter Tryz.func13, Tryz.ntmps13
  go_wp2_with (go_at_call 36; refine hre.out.mono ?_; rintro e w1 ⟨⟨mo, mc, rfl, ho1⟩, hb1⟩; have Hb1 := hid (Below.next Hb0.out hb1); have Ho1 := hid ho1; have Hx1 := hid ((hb1.block _ (by simp)).trans hx0.out); clear ho1 hb1)
  obtain ⟨⟨x0, x1⟩, _⟩ := cblk2 Hx1.out
  have HH1 := hid (HH.out.below Hb1.out)
  obtain ⟨⟨_, h1, _⟩, zh⟩ := HH1.out.cells
  have zx := lt_of_block Hx1.out
  have hri : Hid (Ri w1 (.slice mo (metF g).length mc) (metF g)) := ri_own Ho1.out
  have hwi := hid (fun wq (hbq : Below w1.heap.size w1 wq) => with_bad (HH1.out.tb.below hbq) (by have := Hb1.out.size; have := hbq.size; omega) (HG.out.below (Below.next Hb1.out hbq)) Hg.out (hri.out.below hbq) Hok.out.rng (by omega) Hna.out)
  generalize (metF g).length = ML at *
  go_cut [8, 7] from 23 to 32 (fun s8 s7 wc => ∃ bx fb s, s8 = .pointer (some ⟨bx, 0, none⟩) ∧ s7 = .iface 116 (.pointer (some ⟨fb, 0, none⟩)) ∧ Hid (Below w1.heap.size w1 wc ∧ wc.heap[fb]? = some (n_faultObj 31 (-1) s)))
  case first =>
    go_region_held3 (fun w' => w'.cell? ⟨hb, 1, none⟩ = some (.pointer (some ⟨tb, 0, none⟩)) ∧ w'.cell? ⟨W.heap.size, 0, none⟩ = some (.slice na g.nodes.length nc) ∧ w'.cell? ⟨W.heap.size, 1, none⟩ = some (.slice ra g.roots.length rc)) (first | (with_reducible exact ⟨h1, x0, x1⟩) | (with_reducible exact skp_al ⟨h1, x0, x1⟩) | (with_reducible exact skp_dr ⟨h1, x0, x1⟩) | (with_reducible exact skp_dr (skp_al ⟨h1, x0, x1⟩)) | (with_reducible exact skp_set (by omega) (by omega) ⟨h1, x0, x1⟩))
      (first
        | (go_at_call 37; with_reducible refine (hwi.out _ (Below.refl _ w1).drew).mono ?_; rintro e w3 ⟨⟨fb, sn, rfl, hf⟩, hb3⟩; have HF := hid hf; have HB5 := hid (Below.next (Below.refl _ w1).drew hb3); replace h1 := (HB5.out.cell (p := ⟨hb, 1, none⟩) zh).trans h1; replace x0 := (HB5.out.cell (p := ⟨W.heap.size, 0, none⟩) zx).trans x0; replace x1 := (HB5.out.cell (p := ⟨W.heap.size, 1, none⟩) zx).trans x1; clear hb3 hf)
        | (go_at_call 37; with_reducible refine (hwi.out _ (below_alloc w1 (.cells #[.pointer none] 68)).drew).mono ?_; rintro e w3 ⟨⟨fb, sn, rfl, hf⟩, hb3⟩; have HF := hid hf; obtain ⟨bx3, bx4, bx5⟩ := box_cell hb3; have HB5 := hid (Below.next (below_alloc w1 (.cells #[.pointer none] 68)).drew hb3); replace h1 := (HB5.out.cell (p := ⟨hb, 1, none⟩) zh).trans h1; replace x0 := (HB5.out.cell (p := ⟨W.heap.size, 0, none⟩) zx).trans x0; replace x1 := (HB5.out.cell (p := ⟨W.heap.size, 1, none⟩) zx).trans x1; clear hb3 hf))
    all_goals go_wp2_with fail
    all_goals go_meet
    all_goals first
      | exact ⟨_, fb, sn, rfl, rfl, Below.next HB5.out (below_alloc w3 _), ((below_alloc w3 _).block _ (lt_of_block HF.out)).trans HF.out⟩
      | exact ⟨_, fb, sn, rfl, rfl, HB5.out.setCell (p := ⟨w1.heap.size, 0, none⟩) (Nat.le_refl _) _, (Below.heap_setCell _ _ _ _ (by exact obj_ne HF.out bx3 (by decide))).trans HF.out⟩
  case rest =>
    obtain ⟨bx, fb, sn, rfl, rfl, hW⟩ := hcut
    have hwr := hid (wrapped_any wc (HE.out.below (Below.next Hb1.out hW.out.1)) 111 fb hW.out.2)
    have Hbw := hid (Below.next Hb1.out hW.out.1)
    clear h1 x0 x1
    go_wp2_with (go_at_call 33; refine hwr.out.mono ?_; rintro e w9 ⟨⟨b9, rfl, _⟩, hb9⟩; have Hb9 := hid (Below.next Hbw.out hb9); clear hb9)
    go_ret2
    exact ⟨⟨_, rfl⟩, Hb9.out⟩
end
end Go.Proofs.YtipacdagaalccaaGreatDoor

namespace Go.Proofs.YtipacdagaalccaaGreatDoor
set_option maxRecDepth 100000
open Go.RowKit
section
variable {W : World} {B hb ab tb : Nat} {m : Int} {av : Value} {l : List Int} {tv : Value} {tq : Nat} {ns : List ByteArray} {trv ptv : Value} {n : Int}
set_option maxHeartbeats 16000000 in
theorem hput_full {nv rv : Value} {g : Gf} (hE : ErrC W) (hH : Hp W B hb ab tb m av l tv tq ns trv ptv n) (hB : B ≤ W.heap.size) (hG : Gr W nv rv g) (hS : Sized g) (hck : one (chk g) = [])
    (hro : m < (l.length + wantJ g (metF g) (metF g).length : Int)) (hna : (wthJ ns g (metF g) (metF g).length).length ≤ 1024) :
    Calls Tryz.prog 13 #[.pointer (some ⟨hb, 0, none⟩), .agg #[nv, rv]] W fun e w' => (∃ ev, e = .returned (.tuple #[.slice none 0 0, ev])) ∧ Below W.heap.size W w' := by
  have hg := chk_good hck
  have hok := met_ok hg
  have hml := hok.le
  have hN : g.nodes.length ≤ 4096 := hg.nodes
  have hb0 := below_alloc W (.cells #[nv, rv] 30)
  have hre := hid (reach_good (hG.below hb0) hS hck)
  have HGr := hid hG
  have HE := hid hE
  have HH := hid hH
  have Hg := hid hg
  have Hok := hid hok
  obtain ⟨na, nc, rfl, _⟩ := hG.1
  obtain ⟨ra, rc, rfl, _⟩ := hG.2
  have hx0 := hid (heap_alloc_new W (.cells #[.slice na g.nodes.length nc, .slice ra g.roots.length rc] 30))
  have Hb0 := hid hb0
  obtain ⟨MT, hMT⟩ : ∃ MT, MT = metF g := ⟨_, rfl⟩
  rw [← hMT] at hre Hok hml hna hro
  obtain ⟨NS, hNS⟩ : ∃ NS, NS = wthJ ns g MT MT.length := ⟨_, rfl⟩
  replace hNS := hid hNS
  replace hMT := hid hMT
  clear hg hok hG hH hb0 hS hck hE
  go_enter Tryz.func13, Tryz.ntmps13
  go_wp2_with (go_at_call 36; refine hre.out.mono ?_; rintro e w1 ⟨⟨mo, mc, rfl, ho1⟩, hb1⟩; have Hb1 := hid (Below.next Hb0.out hb1); have Ho1 := hid ho1; have Hx1 := hid ((hb1.block _ (by simp)).trans hx0.out); clear ho1 hb1)
  obtain ⟨⟨x0, x1⟩, _⟩ := cblk2 Hx1.out
  have HH1 := hid (HH.out.below Hb1.out)
  obtain ⟨⟨h0, h1, _⟩, zh⟩ := HH1.out.cells
  have zx := lt_of_block Hx1.out
  have hri : Hid (Ri w1 (.slice mo MT.length mc) MT) := ri_own Ho1.out
  have hwi := hid (fun wq (hbq : Below w1.heap.size w1 wq) => with_okG (HH1.out.tb.below hbq) (by have := Hb1.out.size; have := hbq.size; omega) (HGr.out.below (Below.next Hb1.out hbq)) Hg.out (hri.out.below hbq) Hok.out.rng (by omega) hna)
  rw [← hNS.out] at hwi
  have hBz : B ≤ w1.heap.size := by have := Hb1.out.size; omega
  go_cut [8, 7] from 24 to 32 (fun s8 s7 wc => ∃ bx tb' tv' tq', s8 = .pointer (some ⟨bx, 0, none⟩) ∧ s7 = .nilIface ∧ Hid (Wb w1 wc B bx tb tv tq NS tb' tv' tq'))
  case first =>
    go_region_held3 (fun w' => w'.cell? ⟨hb, 1, none⟩ = some (.pointer (some ⟨tb, 0, none⟩)) ∧ w'.cell? ⟨W.heap.size, 0, none⟩ = some (.slice na g.nodes.length nc) ∧ w'.cell? ⟨W.heap.size, 1, none⟩ = some (.slice ra g.roots.length rc)) (first | exact ⟨h1, x0, x1⟩ | exact ⟨(set_far _ _ (by omega)).trans h1, (set_far _ _ (by omega)).trans x0, (set_far _ _ (by omega)).trans x1⟩ | go_keep)
      (first
        | (go_at_call 37; refine (hwi.out _ ?_).mono ?_; exact (Below.refl _ _).drew; rintro e w3 ⟨⟨tb', tv', tq', rfl, ht⟩, hb3⟩; have HE2 := hid (wb_call HH1.out.tb hBz (Below.refl _ _).drew hb3 ht); have HB5 := hid (Below.next (Below.refl _ _).drew hb3); clear ht; replace h1 := (HB5.out.cell (p := ⟨hb, 1, none⟩) zh).trans h1; replace x0 := (HB5.out.cell (p := ⟨W.heap.size, 0, none⟩) zx).trans x0; replace x1 := (HB5.out.cell (p := ⟨W.heap.size, 1, none⟩) zx).trans x1; clear hb3)
        | (go_at_call 37; refine (hwi.out _ ?_).mono ?_; exact (below_alloc w1 _).drew; rintro e w3 ⟨⟨tb', tv', tq', rfl, ht⟩, hb3⟩; have HE2 := hid (wb_box HH1.out.tb hBz (below_alloc w1 _).drew (heap_alloc_new w1 _) (Nat.le_refl _) hb3 ht); obtain ⟨bx3, bx4, bx5⟩ := box_cell hb3; have HB5 := hid (Below.next (below_alloc w1 _).drew hb3); clear ht; replace h1 := (HB5.out.cell (p := ⟨hb, 1, none⟩) zh).trans h1; replace x0 := (HB5.out.cell (p := ⟨W.heap.size, 0, none⟩) zx).trans x0; replace x1 := (HB5.out.cell (p := ⟨W.heap.size, 1, none⟩) zx).trans x1; clear hb3))
    all_goals go_wp2_with fail
    all_goals go_meet
    all_goals exact ⟨_, tb', tv', tq', rfl, rfl, HE2⟩
  case rest =>
    obtain ⟨bx, tb', tv', tq', rfl, rfl, hW⟩ := hcut
    have Hbw := hid (Below.next Hb1.out hW.out.b)
    obtain ⟨⟨y0, y1⟩, _⟩ := cblk2 ((hW.out.b.block _ zx).trans Hx1.out)
    have zy := lt_of_block ((hW.out.b.block _ zx).trans Hx1.out)
    obtain ⟨⟨k0, _⟩, zk⟩ := (HH1.out.below hW.out.b).cells
    have hric := hid (hri.out.below hW.out.b)
    have hwa := hid (wanted_any (HGr.out.below Hbw.out) Hg.out hric.out Hok.out.rng (by omega))
    have hwle := want_le Hg.out (met := MT) MT.length
    have hrl : g.roots.length ≤ 4096 := Hg.out.roots
    have HHc := hid (HH1.out.below hW.out.b)
    have hlm := HH.out.ar.len
    obtain ⟨CT, hCT⟩ : ∃ CT, CT = wantJ g MT MT.length := ⟨_, rfl⟩
    rw [← hCT] at hwa hro hwle
    have hci : ¬ (CT : Int) = 0 := by omega
    have hal := hid (fun w4 (hb4 : Below wc.heap.size wc w4) => alloc_full (HHc.out.below hb4).ar (CT : Int) (by omega) (by omega))
    clear hro hna hCT hlm
    have d0 : ((CT : Int) == 0) = false := by simpa using hci
    go_wp2_with (first
      | (go_at_call 38; refine hwa.out.mono ?_; rintro e w4 ⟨rfl, hb4⟩; have Hb4 := hid hb4; obtain ⟨⟨j0, _⟩, zj⟩ := (HHc.out.below hb4).cells; clear hb4)
      | (go_at_call 39; refine (hal.out _ Hb4.out).mono ?_; rintro e w5 ⟨rfl, hw5⟩; have HF5 : Hid (w5.heap[w4.heap.size]? = some (faultAtObj 22 (CT : Int))) := (by rw [hw5]; exact heap_alloc_new w4 _); have Hb5 : Hid (Below W.heap.size W w5) := (by rw [hw5]; exact Below.next (Below.next Hbw.out Hb4.out) (below_alloc w4 _)); have hwr := hid (wrapped_any w5 (HE.out.below Hb5.out) 112 w4.heap.size HF5.out); clear hw5)
      | (go_at_call 33; refine hwr.out.mono ?_; rintro e w9 ⟨⟨b9, rfl, _⟩, hb9⟩; have Hb9 := hid (Below.next Hb5.out hb9); clear hb9))
    go_ret2
    exact ⟨⟨_, rfl⟩, Hb9.out⟩
end
end Go.Proofs.YtipacdagaalccaaGreatDoor

namespace Go.Proofs.YtipacdagaalccaaGreatDoor
set_option maxRecDepth 100000
open Go.RowKit
theorem wthJ_ge (ns : List ByteArray) (g : Gf) (met : List Int) : ∀ j, ns.length ≤ (wthJ ns g met j).length
  | 0 => Nat.le_refl _
  | j + 1 => by
    have h1 := wthJ_ge ns g met j
    show _ ≤ (wth1 _ _).length
    unfold wth1
    split
    · exact h1
    · simp
      omega
end Go.Proofs.YtipacdagaalccaaGreatDoor
