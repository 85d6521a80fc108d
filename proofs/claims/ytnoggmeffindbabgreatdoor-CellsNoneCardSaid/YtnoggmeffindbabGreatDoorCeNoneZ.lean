/- CellsNone: a nil heap, walked. -/
import Derived.Test.YtnoggmeffindbabGreatDoorQRLZ
import Derived.Test.YtnoggmeffindbabGreatDoorQRIZ
import Derived.Test.YtnoggmeffindbabGreatDoorQRHZ
import Derived.Deep.RegionHeld3
namespace Go.Proofs.YtnoggmeffindbabGreatDoor
open Go.RowKit

/-- What lies in memory ahead of the first question. -/
structure Nn (W : World) (nv rv : Value) (fb q1 q2 q3 : Nat) (w : World) : Prop where
  b : Below W.heap.size W w
  g : w.heap[W.heap.size]? = some (.cells #[nv, rv] 25)
  f : w.heap[fb]? = some (.cells #[.int .i64 1, .int .i64 (-1), .string ⟨#[]⟩, .slice none 0 0] 70)
  e1 : Er w (fltP q1) [(1, -1)]
  e2 : Er w (fltP q2) [(1, -1)]
  e3 : Er w (fltP q3) [(1, -1)]
theorem Nn.next {W w w' : World} {nv rv : Value} {fb q1 q2 q3 : Nat} (h : Nn W nv rv fb q1 q2 q3 w) (hb : Below w.heap.size w w') : Nn W nv rv fb q1 q2 q3 w' :=
  ⟨Below.next h.b hb, (hb.block _ (lt_of_block h.g)).trans h.g, (hb.block _ (lt_of_block h.f)).trans h.f, h.e1.below hb, h.e2.below hb, h.e3.below hb⟩
theorem Nn.drew {W w : World} {nv rv : Value} {fb q1 q2 q3 : Nat} (h : Nn W nv rv fb q1 q2 q3 w) : Nn W nv rv fb q1 q2 q3 w.drew := h.next (Below.refl _ w).drew
/-- What lies in memory ahead of the last question. -/
structure Nm (W : World) (xb db q4 q5 q6 : Nat) (v1 v2 v3 v4 v5 : Value) (w : World) : Prop where
  b : Below W.heap.size W w
  x : w.heap[xb]? = some (.cells #[.slice none 0 0, .slice none 0 0] 25)
  d : w.heap[db]? = some (dmpO v1 v2 v3 v4 v5)
  e4 : Er w (fltP q4) [(113, 0)]
  e5 : Er w (fltP q5) [(113, 0)]
  e6 : Er w (fltP q6) [(113, 0)]
theorem Nm.next {W w w' : World} {xb db q4 q5 q6 : Nat} {v1 v2 v3 v4 v5 : Value} (h : Nm W xb db q4 q5 q6 v1 v2 v3 v4 v5 w) (hb : Below w.heap.size w w') : Nm W xb db q4 q5 q6 v1 v2 v3 v4 v5 w' :=
  ⟨Below.next h.b hb, (hb.block _ (lt_of_block h.x)).trans h.x, (hb.block _ (lt_of_block h.d)).trans h.d, h.e4.below hb, h.e5.below hb, h.e6.below hb⟩
theorem Nm.drew {W w : World} {xb db q4 q5 q6 : Nat} {v1 v2 v3 v4 v5 : Value} (h : Nm W xb db q4 q5 q6 v1 v2 v3 v4 v5 w) : Nm W xb db q4 q5 q6 v1 v2 v3 v4 v5 w.drew := h.next (Below.refl _ w).drew
theorem Nm.cells {W w : World} {xb db q4 q5 q6 : Nat} {v1 v2 v3 v4 v5 : Value} (h : Nm W xb db q4 q5 q6 v1 v2 v3 v4 v5 w) : w.cell? ⟨xb, 0, none⟩ = some (.slice none 0 0) ∧ w.cell? ⟨db, 0, none⟩ = some v1 ∧ w.cell? ⟨db, 3, none⟩ = some v4 := by
  refine ⟨?_, ?_, ?_⟩
  · simp [World.cell?, h.x]
  · simp [World.cell?, h.d]
  · simp [World.cell?, h.d]
abbrev Sk4 (fb : Nat) (w : World) : Prop := w.cell? ⟨fb, 0, none⟩ = some (.int .i64 1) ∧ w.cell? ⟨fb, 1, none⟩ = some (.int .i64 (-1)) ∧ w.cell? ⟨fb, 2, none⟩ = some (.string ⟨#[]⟩) ∧ w.cell? ⟨fb, 3, none⟩ = some (.slice none 0 0)
theorem sk4_dr {fb : Nat} {w : World} (h : Sk4 fb w) : Sk4 fb w.drew := h
abbrev Sk3 (xb db : Nat) (v1 v4 : Value) (w : World) : Prop := w.cell? ⟨xb, 0, none⟩ = some (.slice none 0 0) ∧ w.cell? ⟨db, 0, none⟩ = some v1 ∧ w.cell? ⟨db, 3, none⟩ = some v4
theorem sk3_dr {xb db : Nat} {v1 v4 : Value} {w : World} (h : Sk3 xb db v1 v4 w) : Sk3 xb db v1 v4 w.drew := h
theorem is_nil (w : World) (q : Nat) (h : Er w (fltP q) [(1, -1)]) : Calls Tryz.prog 25 #[fltP q, .agg #[.int .i64 1, .int .i64 (-1), .string ⟨#[]⟩, .slice none 0 0]] w fun e w' => e = .returned (.bool true) ∧ Below w.heap.size w w' := is_any h ⟨rfl, rfl, by decide, rfl⟩
theorem is_cell (w : World) (q : Nat) (h : Er w (fltP q) [(113, 0)]) : Calls Tryz.prog 25 #[fltP q, .agg #[.int .i64 113, .int .i64 0, .string ⟨#[]⟩, .slice none 0 0]] w fun e w' => e = .returned (.bool true) ∧ Below w.heap.size w w' := is_any h ⟨rfl, rfl, by decide, rfl⟩
set_option maxRecDepth 100000 in
set_option maxHeartbeats 2000000 in
theorem none_short {W : World} {nv rv : Value} {g : Gf} (hG : Gr W nv rv g) (a b : Int) (hs : smallK 40 g = false) :
    Calls Tryz.prog 4 #[.agg #[nv, rv], .int .i64 a, .int .i64 b] W fun e w' => e = .returned (.bool true) ∧ Below W.heap.size W w' := by
  have hb0 := hid (below_alloc W (.cells #[nv, rv] 25))
  have hx0 := hid (heap_alloc_new W (.cells #[nv, rv] 25))
  have hsm := hid (fun w1 (h : Below W.heap.size W w1) => smallK_any (K := 40) (by decide) (hG.below h))
  rw [hs] at hsm
  obtain ⟨na, nc, rfl, _⟩ := hG.1
  obtain ⟨ra, rc, rfl, _⟩ := hG.2
  clear hG hs
  have t1 : True := trivial
  go_enter Tryz.func4, Tryz.ntmps4
  go_wp2_with (first
    | (go_at_call 6; have _t := t1; clear t1 _t; refine (clives_any _).mono ?_; rintro e w1 ⟨rfl, hb1⟩; have HX1 := hid ((hb1.block _ (by simp)).trans hx0.out); have Hb1 := hid (Below.next hb0.out hb1); obtain ⟨⟨x0, x1⟩, _⟩ := cblk2 HX1.out; have x2 := lt_of_block HX1.out; clear hb1)
    | (go_at_call 8; refine (hsm.out _ Hb1.out).mono ?_; rintro e w2 ⟨rfl, hb2⟩; have Hb2 := hid (Below.next Hb1.out hb2); clear hb2)
    | (go_at_call 6; refine (clives_any _).mono ?_; rintro e w3 ⟨rfl, hb3⟩; have Hb3 := hid (Below.next Hb2.out hb3); clear hb3))
  go_ret
  exact ⟨rfl, Hb3.out⟩
set_option maxRecDepth 100000 in
set_option maxHeartbeats 16000000 in
theorem none_main {W : World} {nv rv : Value} {g : Gf} (hG : Gr W nv rv g) (a b : Int) (hs : smallK 40 g = true) :
    Calls Tryz.prog 4 #[.agg #[nv, rv], .int .i64 a, .int .i64 b] W fun e w' => e = .returned (.bool true) ∧ Below W.heap.size W w' := by
  have hb0 := hid (below_alloc W (.cells #[nv, rv] 25))
  have hx0 := hid (heap_alloc_new W (.cells #[nv, rv] 25))
  have hsm := hid (fun w1 (h : Below W.heap.size W w1) => smallK_any (K := 40) (by decide) (hG.below h))
  rw [hs] at hsm
  obtain ⟨na, nc, rfl, _⟩ := hG.1
  obtain ⟨ra, rc, rfl, _⟩ := hG.2
  clear hG hs
  go_enter Tryz.func4, Tryz.ntmps4
  go_wp2_with (first
    | (go_at_call 6; refine (clives_any _).mono ?_; rintro e w1 ⟨rfl, hb1⟩; have HX1 := hid ((hb1.block _ (by simp)).trans hx0.out); have Hb1 := hid (Below.next hb0.out hb1); obtain ⟨⟨x0, x1⟩, _⟩ := cblk2 HX1.out; have x2 := lt_of_block HX1.out; clear hb1)
    | (go_at_call 8; refine (hsm.out _ Hb1.out).mono ?_; rintro e w2 ⟨rfl, hb2⟩; have hbF := below_alloc w2 (.cells #[.int .i64 1, .int .i64 (-1), .string ⟨#[]⟩, .slice none 0 0] 70); have HX2 := hid ((hbF.block _ (by have := lt_of_block HX1.out; have := hb2.size; omega)).trans ((hb2.block _ (lt_of_block HX1.out)).trans HX1.out)); have Hb2 := hid (Below.next (Below.next Hb1.out hb2) hbF); have HF2 := hid (heap_alloc_new w2 (.cells #[.int .i64 1, .int .i64 (-1), .string ⟨#[]⟩, .slice none 0 0] 70)); clear hb2 hbF x0 x1 x2; obtain ⟨⟨x0, x1⟩, _⟩ := cblk2 HX2.out; have x2 := lt_of_block HX2.out)
    | (go_at_call 11; refine (hput_nil _ _ _).mono ?_; rintro e w3 ⟨q1, rfl, hE, hb3⟩; have HN : Hid (Nn W (.slice na g.nodes.length nc) (.slice ra g.roots.length rc) w2.heap.size q1 q1 q1 w3) := ⟨Below.next Hb2.out hb3, (hb3.block _ (lt_of_block HX2.out)).trans HX2.out, (hb3.block _ (lt_of_block HF2.out)).trans HF2.out, hE, hE, hE⟩; clear hE hb3 x0 x1 x2)
    | (go_at_call 23; refine (hpoint_nil _).mono ?_; rintro e w4 ⟨q2, rfl, hE, hb4⟩; have hn := HN.out.next hb4; replace HN : Hid (Nn W (.slice na g.nodes.length nc) (.slice ra g.roots.length rc) w2.heap.size q1 q2 q2 w4) := ⟨hn.b, hn.g, hn.f, hn.e1, hE, hE⟩; clear hE hb4 hn)
    | (go_at_call 24; refine (hslide_nil _ _).mono ?_; rintro e w5 ⟨q3, rfl, hE, hb5⟩; have hn := (HN.out.next (below_alloc _ _)).next hb5; replace HN : Hid (Nn W (.slice na g.nodes.length nc) (.slice ra g.roots.length rc) w2.heap.size q1 q2 q3 w5) := ⟨hn.b, hn.g, hn.f, hn.e1, hn.e2, hE⟩; clear hE hb5 hn; obtain ⟨⟨d0, d1, d2, d3⟩, _⟩ := blk4 HN.out.f))
  generalize w2.heap.size = fb at *
  clear HX1 Hb1 HX2 Hb2 HF2 hx0 hb0 hsm
  have n1 : ((0 : Int) != 0) = false := by decide
  go_cut [107] from 44 to 106 (fun s107 wc => s107 = .bool false ∧ Hid (Nn W (.slice na g.nodes.length nc) (.slice ra g.roots.length rc) fb q1 q2 q3 wc))
  case first =>
    go_region_held3 (fun w' => w'.cell? ⟨fb, 0, none⟩ = some (.int .i64 1) ∧ w'.cell? ⟨fb, 1, none⟩ = some (.int .i64 (-1)) ∧ w'.cell? ⟨fb, 2, none⟩ = some (.string ⟨#[]⟩) ∧ w'.cell? ⟨fb, 3, none⟩ = some (.slice none 0 0)) (first | (with_reducible exact ⟨d0, d1, d2, d3⟩) | (with_reducible exact sk4_dr ⟨d0, d1, d2, d3⟩))
      (first
        | (go_at_call 25; refine (is_nil _ _ (by first | (with_reducible exact HN.out.e1) | (with_reducible exact HN.out.e2) | (with_reducible exact HN.out.e3) | (with_reducible exact HN.out.drew.e1) | (with_reducible exact HE.out))).mono ?_; rintro e w4 ⟨rfl, hb4⟩; replace HN := hid (Nn.next (by first | (with_reducible exact HN.out) | (with_reducible exact HN.out.drew)) hb4); clear hb4; clear d0 d1 d2 d3; obtain ⟨⟨d0, d1, d2, d3⟩, _⟩ := blk4 HN.out.f)
        | (go_at_call 26; refine (hbind_nil _ _ _).mono ?_; rintro e w5 ⟨q9, rfl, hE, hb4⟩; have HE := hid hE; replace HN := hid (HN.out.next hb4); clear hb4 hE; clear d0 d1 d2 d3; obtain ⟨⟨d0, d1, d2, d3⟩, _⟩ := blk4 HN.out.f)
        | (go_at_call 27; refine (hmerge_nil _ _ _).mono ?_; rintro e w5 ⟨q9, rfl, hE, hb4⟩; have HE := hid hE; replace HN := hid (HN.out.next hb4); clear hb4 hE; clear d0 d1 d2 d3; obtain ⟨⟨d0, d1, d2, d3⟩, _⟩ := blk4 HN.out.f)
        | (go_at_call 28; refine (hundo_nil _ _).mono ?_; rintro e w5 ⟨q9, rfl, hE, hb4⟩; have HE := hid hE; replace HN := hid (HN.out.next hb4); clear hb4 hE; clear d0 d1 d2 d3; obtain ⟨⟨d0, d1, d2, d3⟩, _⟩ := blk4 HN.out.f)
        | (go_at_call 29; refine (hrelease_nil _ _).mono ?_; rintro e w5 ⟨q9, rfl, hE, hb4⟩; have HE := hid hE; replace HN := hid (HN.out.next hb4); clear hb4 hE; clear d0 d1 d2 d3; obtain ⟨⟨d0, d1, d2, d3⟩, _⟩ := blk4 HN.out.f))
    all_goals go_wp2_with fail
    all_goals go_meet
    all_goals exact ⟨rfl, HN⟩
  case rest =>
    obtain ⟨rfl, hW⟩ := hcut
    clear HN d0 d1 d2 d3
    go_wp2_with (first
      | (go_at_call 14; have hri := ri_lit1 (heap_alloc_new wc (.cells #[.int .i64 a] 3)); refine (hget_nil hri (by simp)).mono ?_; clear hri; rintro e w6 ⟨q4, rfl, hE, hb6⟩; have hbg := below_alloc w6 gr0; have Hb6 := hid (Below.next (Below.next (Below.next hW.out.b (below_alloc _ _)) hb6) hbg); have HX6 := hid (heap_alloc_new w6 gr0); have HE4 := hid (hE.below hbg); clear hE hb6 hbg)
      | (go_at_call 15; refine (hlook_nil _ _).mono ?_; rintro e w7 ⟨q5, rfl, hE, hb7⟩; have Hb7 := hid (Below.next Hb6.out hb7); have HX7 := hid ((hb7.block _ (lt_of_block HX6.out)).trans HX6.out); replace HE4 := hid (HE4.out.below hb7); have HE5 := hid hE; clear hE hb7)
      | (go_at_call 30; have hri := ri_lit2 (heap_alloc_new w7 (.cells #[.int .i64 a, .int .i64 b] 3)); refine (hreach_nil hri (by simp)).mono ?_; clear hri; rintro e w8 ⟨q6, rfl, hE, hb8⟩; have hbx := Below.next (below_alloc w7 (.cells #[.int .i64 a, .int .i64 b] 3)) hb8; have Hb8 := hid (Below.next Hb7.out hbx); have HX8 := hid ((hbx.block _ (lt_of_block HX7.out)).trans HX7.out); replace HE4 := hid (HE4.out.below hbx); replace HE5 := hid (HE5.out.below hbx); have HE6 := hid hE; clear hE hb8 hbx)
      | (go_at_call 16; refine (dump_nil _).mono ?_; rintro e w9 ⟨⟨a1, k1, a2, k2, a3, k3, ua, uc, rfl⟩, hb9⟩; have hbx := Below.next hb9 (below_alloc w9 (dmpO (.slice a1 0 k1) (.slice a2 0 k2) (.slice a3 0 k3) (.slice ua 0 uc) (.slice none 0 0))); have HM : Hid (Nm W w6.heap.size w9.heap.size q4 q5 q6 (.slice a1 0 k1) (.slice a2 0 k2) (.slice a3 0 k3) (.slice ua 0 uc) (.slice none 0 0) _) := ⟨Below.next Hb8.out hbx, (hbx.block _ (lt_of_block HX8.out)).trans HX8.out, heap_alloc_new w9 _, HE4.out.below hbx, HE5.out.below hbx, HE6.out.below hbx⟩; obtain ⟨d0, d1, d2⟩ := HM.out.cells; clear hb9 hbx)
      | (go_at_call 25; refine (is_cell _ _ (by first | (with_reducible exact HM.out.e4) | (with_reducible exact HM.out.e5) | (with_reducible exact HM.out.e6))).mono ?_; rintro e w4 ⟨rfl, hb4⟩; replace HM := hid (HM.out.next hb4); clear hb4; clear d0 d1 d2; obtain ⟨d0, d1, d2⟩ := HM.out.cells)
      | (go_at_call 31; refine (at_any _ _ _).mono ?_; rintro e w5 ⟨rfl, hb4⟩; replace HM := hid (Nm.next (by first | (with_reducible exact HM.out) | (with_reducible exact HM.out.drew)) hb4); clear hb4; clear d0 d1 d2; obtain ⟨d0, d1, d2⟩ := HM.out.cells)
      | (go_at_call 32; refine (hcell_nil _ _).mono ?_; rintro e w5 ⟨rfl, hb4⟩; replace HM := hid (Nm.next (by first | (with_reducible exact HM.out) | (with_reducible exact HM.out.drew)) hb4); clear hb4; clear d0 d1 d2; obtain ⟨d0, d1, d2⟩ := HM.out.cells)
      | (go_at_call 33; refine (htop_nil _).mono ?_; rintro e w5 ⟨rfl, hb4⟩; replace HM := hid (Nm.next (by first | (with_reducible exact HM.out) | (with_reducible exact HM.out.drew)) hb4); clear hb4; clear d0 d1 d2; obtain ⟨d0, d1, d2⟩ := HM.out.cells)
      | (go_at_call 34; refine (hmax_nil _).mono ?_; rintro e w5 ⟨rfl, hb4⟩; replace HM := hid (Nm.next (by first | (with_reducible exact HM.out) | (with_reducible exact HM.out.drew)) hb4); clear hb4; clear d0 d1 d2; obtain ⟨d0, d1, d2⟩ := HM.out.cells)
      | (go_at_call 35; refine (hpoints_nil _).mono ?_; rintro e w5 ⟨rfl, hb4⟩; replace HM := hid (Nm.next (by first | (with_reducible exact HM.out) | (with_reducible exact HM.out.drew)) hb4); clear hb4; clear d0 d1 d2; obtain ⟨d0, d1, d2⟩ := HM.out.cells)
      | (go_at_call 36; refine (hwrites_nil _).mono ?_; rintro e w5 ⟨rfl, hb4⟩; replace HM := hid (Nm.next (by first | (with_reducible exact HM.out) | (with_reducible exact HM.out.drew)) hb4); clear hb4; clear d0 d1 d2; obtain ⟨d0, d1, d2⟩ := HM.out.cells))
    go_ret
    exact ⟨rfl, HM.out.b⟩
theorem cellsNone_walk {W : World} (_ : ErrC W) {nv rv : Value} {g : Gf} (hG : Gr W nv rv g) (_ : Sized g) (a b : Int) :
    Calls Tryz.prog 4 #[.agg #[nv, rv], .int .i64 a, .int .i64 b] W fun e w' => e = .returned (.bool true) ∧ Below W.heap.size W w' := by
  cases h : smallK 40 g with
  | false => exact none_short hG a b h
  | true => exact none_main hG a b h
end Go.Proofs.YtnoggmeffindbabGreatDoor
