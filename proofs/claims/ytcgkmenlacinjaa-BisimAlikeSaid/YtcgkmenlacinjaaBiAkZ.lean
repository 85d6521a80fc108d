/- BisimAlike, walked at any two graphs. -/
import Derived.Test.YtcgkmenlacinjaaBiAkRZ
import Derived.Test.YtcgkmenlacinjaaBiBZ
import Derived.Deep.QuietTactic
import Derived.BigQuiet
namespace Go.Proofs.Ytcgkmenlacinjaa
open Go.RowKit

/-- A world in which what was there is still there. -/
structure Wd (w : World) where
  x : World
  h : Below w.heap.size w x
/-- A region that draws its order and whose callees may make memory of their own: the operations tell the same in every such world. -/
theorem quiet_below0 {id : Nat} {P : Program} {Q : Exit → Act → World → Prop} {a : Act} {w : World} {l : List Oper} (hm : P.follows .mixedOrders = true) (hB : Region.lexB .any l.toArray = true)
    (h : wpQuiet P l.toArray (fun w' => ∃ X : Wd w, w' = X.x) (fun a' => ∀ w', (∃ X : Wd w, w' = X.x) → Q .normal a' w') l a) : (Code.region id l.toArray true).wp P Q a w :=
  wp_region_quiet (C := fun w' => ∃ X : Wd w, w' = X.x) hm hB ⟨⟨w.drew, (Below.refl _ w).drew⟩, rfl⟩ (by simpa using h)
theorem cell_wd {w : World} {b o : Nat} {v : Value} (h : w.cell? ⟨b, o, none⟩ = some v) (X : Wd w) : X.x.cell? ⟨b, o, none⟩ = some v := (X.h.cell (p := ⟨b, o, none⟩) (lt_of_cell h)).trans h
set_option maxRecDepth 100000 in
set_option maxHeartbeats 2000000 in
theorem balike_short1 {W : World} {nv rv mv sv : Value} {a : Gf} (hG : Gr W nv rv a) (hs : smallK 60 a = false) :
    Calls Try.prog 4 #[.agg #[nv, rv], .agg #[mv, sv]] W fun e w' => e = .returned (.bool true) ∧ Below W.heap.size W w' := by
  have hB := Bt.start W nv rv mv sv
  have hla := hid (fun w1 (h : Below W.heap.size W w1) => llarge_any (hG.below h))
  rw [hs] at hla
  clear hG
  go_enter Try.func4, Try.ntmps4
  go_wp2_with (first
    | (go_at_call 8; refine (lives_any ((W.alloc _).alloc _)).mono ?_; rintro e w1 ⟨rfl, hb1⟩; have hB1 := hB.next hb1; obtain ⟨⟨⟨x0, x1⟩, x2, x3⟩, x4, x5⟩ := hB1.cells)
    | (go_at_call 9; refine (hla.out w1 hB1.b).mono ?_; rintro e w2 ⟨rfl, hb2⟩)
    | (go_at_call 8; refine (lives_any w2).mono ?_; rintro e w3 ⟨rfl, hb3⟩))
  go_ret
  exact ⟨rfl, Below.next (Below.next hB1.b hb2) hb3⟩
set_option maxRecDepth 100000 in
set_option maxHeartbeats 2000000 in
theorem balike_short2 {W : World} {nv rv mv sv : Value} {a b : Gf} (hG : Gr W nv rv a) (hs : smallK 60 a = true) (hH : Gr W mv sv b) (ht : smallK 60 b = false) :
    Calls Try.prog 4 #[.agg #[nv, rv], .agg #[mv, sv]] W fun e w' => e = .returned (.bool true) ∧ Below W.heap.size W w' := by
  have hB := Bt.start W nv rv mv sv
  have hla := hid (fun w1 (h : Below W.heap.size W w1) => llarge_any (hG.below h))
  have hlb := hid (fun w1 (h : Below W.heap.size W w1) => llarge_any (hH.below h))
  rw [hs] at hla
  rw [ht] at hlb
  clear hG hH
  go_enter Try.func4, Try.ntmps4
  go_wp2_with (first
    | (go_at_call 8; refine (lives_any ((W.alloc _).alloc _)).mono ?_; rintro e w1 ⟨rfl, hb1⟩; have hB1 := hB.next hb1; obtain ⟨⟨⟨x0, x1⟩, x2, x3⟩, x4, x5⟩ := hB1.cells)
    | (go_at_call 9; refine (hla.out w1 hB1.b).mono ?_; clear hla; rintro e w2 ⟨rfl, hb2⟩; have hB2 := hB1.next hb2; obtain ⟨⟨⟨x0, x1⟩, x2, x3⟩, x4, x5⟩ := hB2.cells)
    | (go_at_call 9; refine (hlb.out w2 hB2.b).mono ?_; rintro e w3 ⟨rfl, hb3⟩)
    | (go_at_call 8; refine (lives_any w3).mono ?_; rintro e w4 ⟨rfl, hb4⟩))
  go_ret
  exact ⟨rfl, Below.next (Below.next hB2.b hb3) hb4⟩
--LAWS
set_option maxRecDepth 100000 in
set_option maxHeartbeats 8000000 in
theorem balike_t {W : World} {nv rv mv sv : Value} {ax ay : Int}  (hla : ∀ w, Below W.heap.size W w → Calls Try.prog 9 #[.agg #[nv, rv]] w fun e w' => e = .returned (.bool false) ∧ Below w.heap.size w w') (hlb : ∀ w, Below W.heap.size W w → Calls Try.prog 9 #[.agg #[mv, sv]] w fun e w' => e = .returned (.bool false) ∧ Below w.heap.size w w')
    (hca : ∀ w, Below W.heap.size W w → Calls Try.prog 10 #[.agg #[nv, rv]] w fun e w' => e = .returned (.agg #[.int .i64 0, .int .i64 ax, .string ⟨#[]⟩, .slice none 0 0]) ∧ Below w.heap.size w w') (hcb : ∀ w, Below W.heap.size W w → Calls Try.prog 10 #[.agg #[mv, sv]] w fun e w' => e = .returned (.agg #[.int .i64 0, .int .i64 ay, .string ⟨#[]⟩, .slice none 0 0]) ∧ Below w.heap.size w w')
    (hra : ∀ w, Below W.heap.size W w → Calls Try.prog 19 #[.agg #[nv, rv], .agg #[mv, sv]] w fun e w' => e = .returned (.bool true) ∧ Below w.heap.size w w')
    (hal : ∀ (w : World) (u v : Value) (b : Bool), Below W.heap.size W w → ((u = .agg #[nv, rv] ∧ v = .agg #[mv, sv] ∧ b = true) ∨ (u = .agg #[mv, sv] ∧ v = .agg #[nv, rv] ∧ b = true) ∨ (u = .agg #[nv, rv] ∧ v = .agg #[nv, rv] ∧ b = true)) → Calls Try.prog 20 #[u, v] w fun e w' => e = .returned (.bool b) ∧ Below w.heap.size w w')
    (snv : ∃ a n c, nv = .slice a n c) (srv : ∃ a n c, rv = .slice a n c) (smv : ∃ a n c, mv = .slice a n c) (ssv : ∃ a n c, sv = .slice a n c) :
    Calls Try.prog 4 #[.agg #[nv, rv], .agg #[mv, sv]] W fun e w' => e = .returned (.bool true) ∧ Below W.heap.size W w' := by
  have hB := Bt.start W nv rv mv sv
  obtain ⟨_, _, _, rfl⟩ := snv
  obtain ⟨_, _, _, rfl⟩ := srv
  obtain ⟨_, _, _, rfl⟩ := smv
  obtain ⟨_, _, _, rfl⟩ := ssv
  have Hla := hid hla
  have Hlb := hid hlb
  have Hca := hid hca
  have Hcb := hid hcb
  have Hal := hid hal
  have hbf := hid (fun w => fbad_no ax w)
  have hbf3 := hbf
  have hbg := hid (fun w => fbad_no ay w)
  have Hra := hid hra
  clear hra
  clear hla hlb hca hcb hal
  go_enter Try.func4, Try.ntmps4
  go_wp2_with (first
    | (go_at_call 8; refine (lives_any ((W.alloc _).alloc _)).mono ?_; rintro e w1 ⟨rfl, hb1⟩; have hB1 := hB.next hb1; obtain ⟨⟨⟨x0, x1⟩, x2, x3⟩, x4, x5⟩ := hB1.cells)
    | (go_at_call 9; refine (Hla.out w1 hB1.b).mono ?_; clear Hla; rintro e w2 ⟨rfl, hb2⟩; have hB2 := hB1.next hb2; clear x0 x1 x2 x3 x4 x5; obtain ⟨⟨⟨x0, x1⟩, x2, x3⟩, x4, x5⟩ := hB2.cells)
    | (go_at_call 9; refine (Hlb.out w2 hB2.b).mono ?_; rintro e w3 ⟨rfl, hb3⟩; have hB3 := hB2.next hb3; clear x0 x1 x2 x3 x4 x5; obtain ⟨⟨⟨x0, x1⟩, x2, x3⟩, x4, x5⟩ := hB3.cells)
    | (go_at_call 10; refine (Hca.out w3 hB3.b).mono ?_; clear Hca; rintro e w4 ⟨rfl, hb4⟩; have hal4 := below_alloc w4 (.cells #[.int .i64 0, .int .i64 ax, .string ⟨#[]⟩, .slice none 0 0] 30); have hB4 := (hB3.next hb4).next hal4; have hf4 := heap_alloc_new w4 (.cells #[.int .i64 0, .int .i64 ax, .string ⟨#[]⟩, .slice none 0 0] 30); clear x0 x1 x2 x3 x4 x5; obtain ⟨⟨⟨x0, x1⟩, x2, x3⟩, x4, x5⟩ := (hB3.next hb4).cells)
    | (go_at_call 10; refine (Hcb.out _ hB4.b).mono ?_; clear Hcb; rintro e w5 ⟨rfl, hb5⟩; have hal5 := below_alloc w5 (.cells #[.int .i64 0, .int .i64 ay, .string ⟨#[]⟩, .slice none 0 0] 30); have hB5 := (hB4.next hb5).next hal5; have hg5 := heap_alloc_new w5 (.cells #[.int .i64 0, .int .i64 ay, .string ⟨#[]⟩, .slice none 0 0] 30); have hf5 := keep1 (keep1 hf4 hb5) hal5; clear x0 x1 x2 x3 x4 x5; obtain ⟨g0, g1, g2, g3⟩ := flt_four hf5)
    | (go_at_call 14; refine (hbf.out _).mono ?_; clear hbf; rintro e w6 ⟨rfl, hb6⟩; have hB6 := hB5.next hb6; have hf6 := keep1 hf5 hb6; have hg6 := keep1 hg5 hb6; clear g0 g1 g2 g3; obtain ⟨g0, g1, g2, g3⟩ := flt_four hg6)
    | (go_at_call 14; refine (hbg.out _).mono ?_; clear hbg; rintro e w7 ⟨rfl, hb7⟩; have hB7 := hB6.next hb7; have hf7 := keep1 hf6 hb7; clear g0 g1 g2 g3; obtain ⟨⟨⟨x0, x1⟩, x2, x3⟩, x4, x5⟩ := hB7.cells)
    | (go_at_call 19; refine (Hra.out _ hB7.b).mono ?_; clear Hra; rintro e w8 ⟨rfl, hb8⟩; have hB8 := hB7.next hb8; have hf8 := keep1 hf7 hb8))
  obtain ⟨⟨⟨x0, x1⟩, x2, x3⟩, x4, x5⟩ := hB8.cells
  obtain ⟨g0, g1, g2, g3⟩ := flt_four hf8
  have hwd : Nonempty (Wd w8) := ⟨⟨w8, Below.refl _ _⟩⟩
  have y0 := cell_wd x0
  have y1 := cell_wd x1
  have y2 := cell_wd x2
  have y3 := cell_wd x3
  have z0 := cell_wd g0
  have z1 := cell_wd g1
  have z2 := cell_wd g2
  have z3 := cell_wd g3
  have HBB := hid hB8.b
  clear hB hB1 hB2 hB3 hB4 hB5 hf4 hf5 hg5 hal4 hal5 hb1 hb2 hb3 hb4 hb5 x0 x1 x2 x3 x4 x5 g0 g1 g2 g3
  refine quiet_below0 (by kernel_rfl) (by kernel_rfl) ?_
  repeat (go_big_quiet_step (first
    | (go_at_call 20; rename_i X; refine (Hal.out X.x _ _ _ (Below.next HBB.out X.h) (by first | exact Or.inl ⟨rfl, rfl, rfl⟩ | exact Or.inr (Or.inl ⟨rfl, rfl, rfl⟩) | exact Or.inr (Or.inr ⟨rfl, rfl, rfl⟩))).mono ?_; rintro e wb ⟨rfl, hbb⟩; exact ⟨rfl, ⟨wb, Below.next X.h hbb⟩, rfl⟩)
    | (go_at_call 14; rename_i X; refine (hbf3.out X.x).mono ?_; rintro e wb ⟨rfl, hbb⟩; exact ⟨rfl, ⟨wb, Below.next X.h hbb⟩, rfl⟩)))
  refine wpQuiet_nil ?_
  rintro w9 ⟨X, hX⟩
  have hb9 : Below w8.heap.size w8 w9 := by rw [hX]; exact X.h
  clear hX X hwd y0 y1 y2 y3 z0 z1 z2 z3
  go_wp2
  go_ret
  exact ⟨rfl, Below.next HBB.out hb9⟩
set_option maxRecDepth 100000 in
set_option maxHeartbeats 8000000 in
theorem balike_f {W : World} {nv rv mv sv : Value} {ax ay : Int}  (hla : ∀ w, Below W.heap.size W w → Calls Try.prog 9 #[.agg #[nv, rv]] w fun e w' => e = .returned (.bool false) ∧ Below w.heap.size w w') (hlb : ∀ w, Below W.heap.size W w → Calls Try.prog 9 #[.agg #[mv, sv]] w fun e w' => e = .returned (.bool false) ∧ Below w.heap.size w w')
    (hca : ∀ w, Below W.heap.size W w → Calls Try.prog 10 #[.agg #[nv, rv]] w fun e w' => e = .returned (.agg #[.int .i64 0, .int .i64 ax, .string ⟨#[]⟩, .slice none 0 0]) ∧ Below w.heap.size w w') (hcb : ∀ w, Below W.heap.size W w → Calls Try.prog 10 #[.agg #[mv, sv]] w fun e w' => e = .returned (.agg #[.int .i64 0, .int .i64 ay, .string ⟨#[]⟩, .slice none 0 0]) ∧ Below w.heap.size w w')
    (hra : ∀ w, Below W.heap.size W w → Calls Try.prog 19 #[.agg #[nv, rv], .agg #[mv, sv]] w fun e w' => e = .returned (.bool false) ∧ Below w.heap.size w w')
    (hal : ∀ (w : World) (u v : Value) (b : Bool), Below W.heap.size W w → ((u = .agg #[nv, rv] ∧ v = .agg #[mv, sv] ∧ b = false) ∨ (u = .agg #[mv, sv] ∧ v = .agg #[nv, rv] ∧ b = false) ∨ (u = .agg #[nv, rv] ∧ v = .agg #[nv, rv] ∧ b = true)) → Calls Try.prog 20 #[u, v] w fun e w' => e = .returned (.bool b) ∧ Below w.heap.size w w')
    (snv : ∃ a n c, nv = .slice a n c) (srv : ∃ a n c, rv = .slice a n c) (smv : ∃ a n c, mv = .slice a n c) (ssv : ∃ a n c, sv = .slice a n c) :
    Calls Try.prog 4 #[.agg #[nv, rv], .agg #[mv, sv]] W fun e w' => e = .returned (.bool true) ∧ Below W.heap.size W w' := by
  have hB := Bt.start W nv rv mv sv
  obtain ⟨_, _, _, rfl⟩ := snv
  obtain ⟨_, _, _, rfl⟩ := srv
  obtain ⟨_, _, _, rfl⟩ := smv
  obtain ⟨_, _, _, rfl⟩ := ssv
  have Hla := hid hla
  have Hlb := hid hlb
  have Hca := hid hca
  have Hcb := hid hcb
  have Hal := hid hal
  have hbf := hid (fun w => fbad_no ax w)
  have hbf3 := hbf
  have hbg := hid (fun w => fbad_no ay w)
  have Hra := hid hra
  clear hra
  clear hla hlb hca hcb hal
  go_enter Try.func4, Try.ntmps4
  go_wp2_with (first
    | (go_at_call 8; refine (lives_any ((W.alloc _).alloc _)).mono ?_; rintro e w1 ⟨rfl, hb1⟩; have hB1 := hB.next hb1; obtain ⟨⟨⟨x0, x1⟩, x2, x3⟩, x4, x5⟩ := hB1.cells)
    | (go_at_call 9; refine (Hla.out w1 hB1.b).mono ?_; clear Hla; rintro e w2 ⟨rfl, hb2⟩; have hB2 := hB1.next hb2; clear x0 x1 x2 x3 x4 x5; obtain ⟨⟨⟨x0, x1⟩, x2, x3⟩, x4, x5⟩ := hB2.cells)
    | (go_at_call 9; refine (Hlb.out w2 hB2.b).mono ?_; rintro e w3 ⟨rfl, hb3⟩; have hB3 := hB2.next hb3; clear x0 x1 x2 x3 x4 x5; obtain ⟨⟨⟨x0, x1⟩, x2, x3⟩, x4, x5⟩ := hB3.cells)
    | (go_at_call 10; refine (Hca.out w3 hB3.b).mono ?_; clear Hca; rintro e w4 ⟨rfl, hb4⟩; have hal4 := below_alloc w4 (.cells #[.int .i64 0, .int .i64 ax, .string ⟨#[]⟩, .slice none 0 0] 30); have hB4 := (hB3.next hb4).next hal4; have hf4 := heap_alloc_new w4 (.cells #[.int .i64 0, .int .i64 ax, .string ⟨#[]⟩, .slice none 0 0] 30); clear x0 x1 x2 x3 x4 x5; obtain ⟨⟨⟨x0, x1⟩, x2, x3⟩, x4, x5⟩ := (hB3.next hb4).cells)
    | (go_at_call 10; refine (Hcb.out _ hB4.b).mono ?_; clear Hcb; rintro e w5 ⟨rfl, hb5⟩; have hal5 := below_alloc w5 (.cells #[.int .i64 0, .int .i64 ay, .string ⟨#[]⟩, .slice none 0 0] 30); have hB5 := (hB4.next hb5).next hal5; have hg5 := heap_alloc_new w5 (.cells #[.int .i64 0, .int .i64 ay, .string ⟨#[]⟩, .slice none 0 0] 30); have hf5 := keep1 (keep1 hf4 hb5) hal5; clear x0 x1 x2 x3 x4 x5; obtain ⟨g0, g1, g2, g3⟩ := flt_four hf5)
    | (go_at_call 14; refine (hbf.out _).mono ?_; clear hbf; rintro e w6 ⟨rfl, hb6⟩; have hB6 := hB5.next hb6; have hf6 := keep1 hf5 hb6; have hg6 := keep1 hg5 hb6; clear g0 g1 g2 g3; obtain ⟨g0, g1, g2, g3⟩ := flt_four hg6)
    | (go_at_call 14; refine (hbg.out _).mono ?_; clear hbg; rintro e w7 ⟨rfl, hb7⟩; have hB7 := hB6.next hb7; have hf7 := keep1 hf6 hb7; clear g0 g1 g2 g3; obtain ⟨⟨⟨x0, x1⟩, x2, x3⟩, x4, x5⟩ := hB7.cells)
    | (go_at_call 19; refine (Hra.out _ hB7.b).mono ?_; clear Hra; rintro e w8 ⟨rfl, hb8⟩; have hB8 := hB7.next hb8; have hf8 := keep1 hf7 hb8))
  obtain ⟨⟨⟨x0, x1⟩, x2, x3⟩, x4, x5⟩ := hB8.cells
  obtain ⟨g0, g1, g2, g3⟩ := flt_four hf8
  have hwd : Nonempty (Wd w8) := ⟨⟨w8, Below.refl _ _⟩⟩
  have y0 := cell_wd x0
  have y1 := cell_wd x1
  have y2 := cell_wd x2
  have y3 := cell_wd x3
  have z0 := cell_wd g0
  have z1 := cell_wd g1
  have z2 := cell_wd g2
  have z3 := cell_wd g3
  have HBB := hid hB8.b
  clear hB hB1 hB2 hB3 hB4 hB5 hf4 hf5 hg5 hal4 hal5 hb1 hb2 hb3 hb4 hb5 x0 x1 x2 x3 x4 x5 g0 g1 g2 g3
  refine quiet_below0 (by kernel_rfl) (by kernel_rfl) ?_
  repeat (go_big_quiet_step (first
    | (go_at_call 20; rename_i X; refine (Hal.out X.x _ _ _ (Below.next HBB.out X.h) (by first | exact Or.inl ⟨rfl, rfl, rfl⟩ | exact Or.inr (Or.inl ⟨rfl, rfl, rfl⟩) | exact Or.inr (Or.inr ⟨rfl, rfl, rfl⟩))).mono ?_; rintro e wb ⟨rfl, hbb⟩; exact ⟨rfl, ⟨wb, Below.next X.h hbb⟩, rfl⟩)
    | (go_at_call 14; rename_i X; refine (hbf3.out X.x).mono ?_; rintro e wb ⟨rfl, hbb⟩; exact ⟨rfl, ⟨wb, Below.next X.h hbb⟩, rfl⟩)))
  refine wpQuiet_nil ?_
  rintro w9 ⟨X, hX⟩
  have hb9 : Below w8.heap.size w8 w9 := by rw [hX]; exact X.h
  clear hX X hwd y0 y1 y2 y3 z0 z1 z2 z3
  go_wp2
  go_ret
  exact ⟨rfl, Below.next HBB.out hb9⟩
set_option maxRecDepth 100000 in
set_option maxHeartbeats 8000000 in
theorem balike_b {W : World} {nv rv mv sv : Value} {ax ay : Int} {cy : Int} (hcy : cy ≠ 0) (hla : ∀ w, Below W.heap.size W w → Calls Try.prog 9 #[.agg #[nv, rv]] w fun e w' => e = .returned (.bool false) ∧ Below w.heap.size w w') (hlb : ∀ w, Below W.heap.size W w → Calls Try.prog 9 #[.agg #[mv, sv]] w fun e w' => e = .returned (.bool false) ∧ Below w.heap.size w w')
    (hca : ∀ w, Below W.heap.size W w → Calls Try.prog 10 #[.agg #[nv, rv]] w fun e w' => e = .returned (.agg #[.int .i64 0, .int .i64 ax, .string ⟨#[]⟩, .slice none 0 0]) ∧ Below w.heap.size w w') (hcb : ∀ w, Below W.heap.size W w → Calls Try.prog 10 #[.agg #[mv, sv]] w fun e w' => e = .returned (.agg #[.int .i64 cy, .int .i64 ay, .string ⟨#[]⟩, .slice none 0 0]) ∧ Below w.heap.size w w')
    (hal : ∀ (w : World) (u v : Value) (b : Bool), Below W.heap.size W w → ((u = .agg #[nv, rv] ∧ v = .agg #[mv, sv] ∧ b = false) ∨ (u = .agg #[mv, sv] ∧ v = .agg #[nv, rv] ∧ b = false) ∨ (u = .agg #[nv, rv] ∧ v = .agg #[nv, rv] ∧ b = true)) → Calls Try.prog 20 #[u, v] w fun e w' => e = .returned (.bool b) ∧ Below w.heap.size w w')
    (snv : ∃ a n c, nv = .slice a n c) (srv : ∃ a n c, rv = .slice a n c) (smv : ∃ a n c, mv = .slice a n c) (ssv : ∃ a n c, sv = .slice a n c) :
    Calls Try.prog 4 #[.agg #[nv, rv], .agg #[mv, sv]] W fun e w' => e = .returned (.bool true) ∧ Below W.heap.size W w' := by
  have hB := Bt.start W nv rv mv sv
  obtain ⟨_, _, _, rfl⟩ := snv
  obtain ⟨_, _, _, rfl⟩ := srv
  obtain ⟨_, _, _, rfl⟩ := smv
  obtain ⟨_, _, _, rfl⟩ := ssv
  have Hla := hid hla
  have Hlb := hid hlb
  have Hca := hid hca
  have Hcb := hid hcb
  have Hal := hid hal
  have hbf := hid (fun w => fbad_no ax w)
  have hbf3 := hbf
  have hbg := hid (fun w => fbad_yes hcy ay w)
  clear hla hlb hca hcb hal
  go_enter Try.func4, Try.ntmps4
  go_wp2_with (first
    | (go_at_call 8; refine (lives_any ((W.alloc _).alloc _)).mono ?_; rintro e w1 ⟨rfl, hb1⟩; have hB1 := hB.next hb1; obtain ⟨⟨⟨x0, x1⟩, x2, x3⟩, x4, x5⟩ := hB1.cells)
    | (go_at_call 9; refine (Hla.out w1 hB1.b).mono ?_; clear Hla; rintro e w2 ⟨rfl, hb2⟩; have hB2 := hB1.next hb2; clear x0 x1 x2 x3 x4 x5; obtain ⟨⟨⟨x0, x1⟩, x2, x3⟩, x4, x5⟩ := hB2.cells)
    | (go_at_call 9; refine (Hlb.out w2 hB2.b).mono ?_; rintro e w3 ⟨rfl, hb3⟩; have hB3 := hB2.next hb3; clear x0 x1 x2 x3 x4 x5; obtain ⟨⟨⟨x0, x1⟩, x2, x3⟩, x4, x5⟩ := hB3.cells)
    | (go_at_call 10; refine (Hca.out w3 hB3.b).mono ?_; clear Hca; rintro e w4 ⟨rfl, hb4⟩; have hal4 := below_alloc w4 (.cells #[.int .i64 0, .int .i64 ax, .string ⟨#[]⟩, .slice none 0 0] 30); have hB4 := (hB3.next hb4).next hal4; have hf4 := heap_alloc_new w4 (.cells #[.int .i64 0, .int .i64 ax, .string ⟨#[]⟩, .slice none 0 0] 30); clear x0 x1 x2 x3 x4 x5; obtain ⟨⟨⟨x0, x1⟩, x2, x3⟩, x4, x5⟩ := (hB3.next hb4).cells)
    | (go_at_call 10; refine (Hcb.out _ hB4.b).mono ?_; clear Hcb; rintro e w5 ⟨rfl, hb5⟩; have hal5 := below_alloc w5 (.cells #[.int .i64 cy, .int .i64 ay, .string ⟨#[]⟩, .slice none 0 0] 30); have hB5 := (hB4.next hb5).next hal5; have hg5 := heap_alloc_new w5 (.cells #[.int .i64 cy, .int .i64 ay, .string ⟨#[]⟩, .slice none 0 0] 30); have hf5 := keep1 (keep1 hf4 hb5) hal5; clear x0 x1 x2 x3 x4 x5; obtain ⟨g0, g1, g2, g3⟩ := flt_four hf5)
    | (go_at_call 14; refine (hbf.out _).mono ?_; clear hbf; rintro e w6 ⟨rfl, hb6⟩; have hB6 := hB5.next hb6; have hf6 := keep1 hf5 hb6; have hg6 := keep1 hg5 hb6; clear g0 g1 g2 g3; obtain ⟨g0, g1, g2, g3⟩ := flt_four hg6)
    | (go_at_call 14; refine (hbg.out _).mono ?_; clear hbg; rintro e w7 ⟨rfl, hb7⟩; have hB7 := hB6.next hb7; have hf7 := keep1 hf6 hb7; clear g0 g1 g2 g3; obtain ⟨⟨⟨x0, x1⟩, x2, x3⟩, x4, x5⟩ := hB7.cells))
  obtain ⟨⟨⟨x0, x1⟩, x2, x3⟩, x4, x5⟩ := hB7.cells
  obtain ⟨g0, g1, g2, g3⟩ := flt_four hf7
  have hwd : Nonempty (Wd w7) := ⟨⟨w7, Below.refl _ _⟩⟩
  have y0 := cell_wd x0
  have y1 := cell_wd x1
  have y2 := cell_wd x2
  have y3 := cell_wd x3
  have z0 := cell_wd g0
  have z1 := cell_wd g1
  have z2 := cell_wd g2
  have z3 := cell_wd g3
  have HBB := hid hB7.b
  clear hB hB1 hB2 hB3 hB4 hB5 hf4 hf5 hg5 hal4 hal5 hb1 hb2 hb3 hb4 hb5 x0 x1 x2 x3 x4 x5 g0 g1 g2 g3
  refine quiet_below0 (by kernel_rfl) (by kernel_rfl) ?_
  repeat (go_big_quiet_step (first
    | (go_at_call 20; rename_i X; refine (Hal.out X.x _ _ _ (Below.next HBB.out X.h) (by first | exact Or.inl ⟨rfl, rfl, rfl⟩ | exact Or.inr (Or.inl ⟨rfl, rfl, rfl⟩) | exact Or.inr (Or.inr ⟨rfl, rfl, rfl⟩))).mono ?_; rintro e wb ⟨rfl, hbb⟩; exact ⟨rfl, ⟨wb, Below.next X.h hbb⟩, rfl⟩)
    | (go_at_call 14; rename_i X; refine (hbf3.out X.x).mono ?_; rintro e wb ⟨rfl, hbb⟩; exact ⟨rfl, ⟨wb, Below.next X.h hbb⟩, rfl⟩)))
  refine wpQuiet_nil ?_
  rintro w9 ⟨X, hX⟩
  have hb9 : Below w7.heap.size w7 w9 := by rw [hX]; exact X.h
  clear hX X hwd y0 y1 y2 y3 z0 z1 z2 z3
  go_wp2
  go_ret
  exact ⟨rfl, Below.next HBB.out hb9⟩
set_option maxRecDepth 100000 in
set_option maxHeartbeats 8000000 in
theorem balike_a {W : World} {nv rv mv sv : Value} {ax ay : Int} {cx cy : Int} (hcx : cx ≠ 0) (hla : ∀ w, Below W.heap.size W w → Calls Try.prog 9 #[.agg #[nv, rv]] w fun e w' => e = .returned (.bool false) ∧ Below w.heap.size w w') (hlb : ∀ w, Below W.heap.size W w → Calls Try.prog 9 #[.agg #[mv, sv]] w fun e w' => e = .returned (.bool false) ∧ Below w.heap.size w w')
    (hca : ∀ w, Below W.heap.size W w → Calls Try.prog 10 #[.agg #[nv, rv]] w fun e w' => e = .returned (.agg #[.int .i64 cx, .int .i64 ax, .string ⟨#[]⟩, .slice none 0 0]) ∧ Below w.heap.size w w') (hcb : ∀ w, Below W.heap.size W w → Calls Try.prog 10 #[.agg #[mv, sv]] w fun e w' => e = .returned (.agg #[.int .i64 cy, .int .i64 ay, .string ⟨#[]⟩, .slice none 0 0]) ∧ Below w.heap.size w w')
    (hal : ∀ (w : World) (u v : Value) (b : Bool), Below W.heap.size W w → ((u = .agg #[nv, rv] ∧ v = .agg #[mv, sv] ∧ b = false) ∨ (u = .agg #[mv, sv] ∧ v = .agg #[nv, rv] ∧ b = false) ∨ (u = .agg #[nv, rv] ∧ v = .agg #[nv, rv] ∧ b = false)) → Calls Try.prog 20 #[u, v] w fun e w' => e = .returned (.bool b) ∧ Below w.heap.size w w')
    (snv : ∃ a n c, nv = .slice a n c) (srv : ∃ a n c, rv = .slice a n c) (smv : ∃ a n c, mv = .slice a n c) (ssv : ∃ a n c, sv = .slice a n c) :
    Calls Try.prog 4 #[.agg #[nv, rv], .agg #[mv, sv]] W fun e w' => e = .returned (.bool true) ∧ Below W.heap.size W w' := by
  have hB := Bt.start W nv rv mv sv
  obtain ⟨_, _, _, rfl⟩ := snv
  obtain ⟨_, _, _, rfl⟩ := srv
  obtain ⟨_, _, _, rfl⟩ := smv
  obtain ⟨_, _, _, rfl⟩ := ssv
  have Hla := hid hla
  have Hlb := hid hlb
  have Hca := hid hca
  have Hcb := hid hcb
  have Hal := hid hal
  have hbf := hid (fun w => fbad_yes hcx ax w)
  have hbf3 := hbf
  clear hla hlb hca hcb hal
  go_enter Try.func4, Try.ntmps4
  go_wp2_with (first
    | (go_at_call 8; refine (lives_any ((W.alloc _).alloc _)).mono ?_; rintro e w1 ⟨rfl, hb1⟩; have hB1 := hB.next hb1; obtain ⟨⟨⟨x0, x1⟩, x2, x3⟩, x4, x5⟩ := hB1.cells)
    | (go_at_call 9; refine (Hla.out w1 hB1.b).mono ?_; clear Hla; rintro e w2 ⟨rfl, hb2⟩; have hB2 := hB1.next hb2; clear x0 x1 x2 x3 x4 x5; obtain ⟨⟨⟨x0, x1⟩, x2, x3⟩, x4, x5⟩ := hB2.cells)
    | (go_at_call 9; refine (Hlb.out w2 hB2.b).mono ?_; rintro e w3 ⟨rfl, hb3⟩; have hB3 := hB2.next hb3; clear x0 x1 x2 x3 x4 x5; obtain ⟨⟨⟨x0, x1⟩, x2, x3⟩, x4, x5⟩ := hB3.cells)
    | (go_at_call 10; refine (Hca.out w3 hB3.b).mono ?_; clear Hca; rintro e w4 ⟨rfl, hb4⟩; have hal4 := below_alloc w4 (.cells #[.int .i64 cx, .int .i64 ax, .string ⟨#[]⟩, .slice none 0 0] 30); have hB4 := (hB3.next hb4).next hal4; have hf4 := heap_alloc_new w4 (.cells #[.int .i64 cx, .int .i64 ax, .string ⟨#[]⟩, .slice none 0 0] 30); clear x0 x1 x2 x3 x4 x5; obtain ⟨⟨⟨x0, x1⟩, x2, x3⟩, x4, x5⟩ := (hB3.next hb4).cells)
    | (go_at_call 10; refine (Hcb.out _ hB4.b).mono ?_; clear Hcb; rintro e w5 ⟨rfl, hb5⟩; have hal5 := below_alloc w5 (.cells #[.int .i64 cy, .int .i64 ay, .string ⟨#[]⟩, .slice none 0 0] 30); have hB5 := (hB4.next hb5).next hal5; have hg5 := heap_alloc_new w5 (.cells #[.int .i64 cy, .int .i64 ay, .string ⟨#[]⟩, .slice none 0 0] 30); have hf5 := keep1 (keep1 hf4 hb5) hal5; clear x0 x1 x2 x3 x4 x5; obtain ⟨g0, g1, g2, g3⟩ := flt_four hf5)
    | (go_at_call 14; refine (hbf.out _).mono ?_; clear hbf; rintro e w6 ⟨rfl, hb6⟩; have hB6 := hB5.next hb6; have hf6 := keep1 hf5 hb6; have hg6 := keep1 hg5 hb6; clear g0 g1 g2 g3; obtain ⟨g0, g1, g2, g3⟩ := flt_four hg6))
  obtain ⟨⟨⟨x0, x1⟩, x2, x3⟩, x4, x5⟩ := hB6.cells
  obtain ⟨g0, g1, g2, g3⟩ := flt_four hf6
  have hwd : Nonempty (Wd w6) := ⟨⟨w6, Below.refl _ _⟩⟩
  have y0 := cell_wd x0
  have y1 := cell_wd x1
  have y2 := cell_wd x2
  have y3 := cell_wd x3
  have z0 := cell_wd g0
  have z1 := cell_wd g1
  have z2 := cell_wd g2
  have z3 := cell_wd g3
  have HBB := hid hB6.b
  clear hB hB1 hB2 hB3 hB4 hB5 hf4 hf5 hg5 hal4 hal5 hb1 hb2 hb3 hb4 hb5 x0 x1 x2 x3 x4 x5 g0 g1 g2 g3
  refine quiet_below0 (by kernel_rfl) (by kernel_rfl) ?_
  repeat (go_big_quiet_step (first
    | (go_at_call 20; rename_i X; refine (Hal.out X.x _ _ _ (Below.next HBB.out X.h) (by first | exact Or.inl ⟨rfl, rfl, rfl⟩ | exact Or.inr (Or.inl ⟨rfl, rfl, rfl⟩) | exact Or.inr (Or.inr ⟨rfl, rfl, rfl⟩))).mono ?_; rintro e wb ⟨rfl, hbb⟩; exact ⟨rfl, ⟨wb, Below.next X.h hbb⟩, rfl⟩)
    | (go_at_call 14; rename_i X; refine (hbf3.out X.x).mono ?_; rintro e wb ⟨rfl, hbb⟩; exact ⟨rfl, ⟨wb, Below.next X.h hbb⟩, rfl⟩)))
  refine wpQuiet_nil ?_
  rintro w9 ⟨X, hX⟩
  have hb9 : Below w6.heap.size w6 w9 := by rw [hX]; exact X.h
  clear hX X hwd y0 y1 y2 y3 z0 z1 z2 z3
  go_wp2
  go_ret
  exact ⟨rfl, Below.next HBB.out hb9⟩
theorem ri_sl {w : World} {v : Value} {l : List Int} (h : Ri w v l) : ∃ a n c, v = .slice a n c := by
  obtain ⟨a, c, rfl, _⟩ := h
  exact ⟨_, _, _, rfl⟩
theorem rn_sl {w : World} {v : Value} {l : List Nd} (h : Rn w v l) : ∃ a n c, v = .slice a n c := by
  obtain ⟨a, c, rfl, _⟩ := h
  exact ⟨_, _, _, rfl⟩
theorem bisimAlike_walk {W : World} (nv rv : Value) (a : Gf) (hG : Gr W nv rv a) (hS : Sized a) (mv sv : Value) (b : Gf) (hH : Gr W mv sv b) (hT : Sized b) :
    Calls Try.prog 4 #[.agg #[nv, rv], .agg #[mv, sv]] W fun e w' => e = .returned (.bool true) ∧ Below W.heap.size W w' := by
  by_cases hs : smallK 60 a = true
  · by_cases ht : smallK 60 b = true
    · have hla := fun w1 (h : Below W.heap.size W w1) => llarge_any (hG.below h)
      have hlb := fun w1 (h : Below W.heap.size W w1) => llarge_any (hH.below h)
      rw [hs] at hla
      rw [ht] at hlb
      have hca := fun w1 (h : Below W.heap.size W w1) => rcheck_any (hG.below h) hS
      have hcb := fun w1 (h : Below W.heap.size W w1) => rcheck_any (hH.below h) hT
      have q1 := rn_sl hG.1
      have q2 := ri_sl hG.2
      have q3 := rn_sl hH.1
      have q4 := ri_sl hH.2
      obtain ⟨_, n1, r1⟩ := smallK_fits hs
      obtain ⟨_, n2, r2⟩ := smallK_fits ht
      have hal : ∀ {B BA : Bool}, (B = true ↔ AlG a b) → (BA = true ↔ AlG a a) → ∀ (w : World) (u v : Value) (x : Bool), Below W.heap.size W w → ((u = .agg #[nv, rv] ∧ v = .agg #[mv, sv] ∧ x = B) ∨ (u = .agg #[mv, sv] ∧ v = .agg #[nv, rv] ∧ x = B) ∨ (u = .agg #[nv, rv] ∧ v = .agg #[nv, rv] ∧ x = BA)) → Calls Try.prog 20 #[u, v] w fun e w' => e = .returned (.bool x) ∧ Below w.heap.size w w' := fun hB hA w u v x hb hx => by
        rcases hx with ⟨rfl, rfl, rfl⟩ | ⟨rfl, rfl, rfl⟩ | ⟨rfl, rfl, rfl⟩
        · exact balike_any (hG.below hb) hS (hH.below hb) hT hB
        · exact balike_any (hH.below hb) hT (hG.below hb) hS (hB.trans ⟨alG_symm, alG_symm⟩)
        · exact balike_any (hG.below hb) hS (hG.below hb) hS hA
      by_cases ga : one (chk a) = []
      · have haa : (true = true ↔ AlG a a) := iff_of_true rfl (alG_refl ga)
        by_cases gb : one (chk b) = []
        · have hra := fun {B : Bool} (hB : B = true ↔ AlG a b) w1 (h : Below W.heap.size W w1) => ralike_any (B := B) (hG.below h) (hH.below h) (chk_good ga) (chk_good gb) n1 n2 r1 (hB.trans ⟨fun h => h.2.2, fun h => ⟨ga, gb, h⟩⟩)
          have c0 := one_nil.1 ga
          have d0 := one_nil.1 gb
          by_cases hAl : AlG a b
          · have hB : (true = true ↔ AlG a b) := iff_of_true rfl hAl
            have h1 := hra hB
            have h2 := hal hB haa
            clear hra hal hG hH
            generalize chk a = X at *
            generalize chk b = Y at *
            obtain ⟨cx, ax⟩ := X
            obtain ⟨cy, ay⟩ := Y
            simp only at c0 d0
            subst c0 d0
            exact balike_t hla hlb hca hcb h1 h2 q1 q2 q3 q4
          · have hB : (false = true ↔ AlG a b) := ⟨fun h => absurd h (by decide), fun h => absurd h hAl⟩
            have h1 := hra hB
            have h2 := hal hB haa
            clear hra hal hG hH
            generalize chk a = X at *
            generalize chk b = Y at *
            obtain ⟨cx, ax⟩ := X
            obtain ⟨cy, ay⟩ := Y
            simp only at c0 d0
            subst c0 d0
            exact balike_f hla hlb hca hcb h1 h2 q1 q2 q3 q4
        · have hB : (false = true ↔ AlG a b) := ⟨fun h => absurd h (by decide), fun h => absurd h.2.1 gb⟩
          have h2 := hal hB haa
          have c0 := one_nil.1 ga
          have hne : (chk b).1 ≠ 0 := fun e => gb (one_nil.2 e)
          clear hal hG hH
          generalize chk a = X at *
          generalize chk b = Y at *
          obtain ⟨cx, ax⟩ := X
          obtain ⟨cy, ay⟩ := Y
          simp only at c0 hne
          subst c0
          exact balike_b hne hla hlb hca hcb h2 q1 q2 q3 q4
      · have hB : (false = true ↔ AlG a b) := ⟨fun h => absurd h (by decide), fun h => absurd h.1 ga⟩
        have hA : (false = true ↔ AlG a a) := ⟨fun h => absurd h (by decide), fun h => absurd h.1 ga⟩
        have h2 := hal hB hA
        have hne : (chk a).1 ≠ 0 := fun e => ga (one_nil.2 e)
        clear hal hG hH
        generalize chk a = X at *
        generalize chk b = Y at *
        obtain ⟨cx, ax⟩ := X
        obtain ⟨cy, ay⟩ := Y
        simp only at hne
        exact balike_a hne hla hlb hca hcb h2 q1 q2 q3 q4
    · exact balike_short2 hG hs hH (by simpa using ht)
  · exact balike_short1 hG (by simpa using hs)
end Go.Proofs.Ytcgkmenlacinjaa
