/- Same of the reference, at every graph and any two numbers. -/
import Derived.Test.YtdekmbggimcnpaaBiAZ
import Derived.Test.YtdekmbggimcnpaaBiBZ
import Derived.Deep.RegionHeld3
namespace Go.Proofs.Ytdekmbggimcnpaa
open Go.RowKit

theorem ret_sf {w : World} {tmps : Array Value} {q : Nat} {b : Bool} {x : Int × Int} (h6 : tmps[6]?.getD undef = .bool b) (h7 : tmps[7]?.getD undef = .pointer (some ⟨q, 0, none⟩)) (hq : w.heap[q]? = some (.cells #[.int .i64 x.1, .int .i64 x.2, .string ⟨#[]⟩, .slice none 0 0] 30)) : (results Try.f18 tmps).run Try.prog w = .ok (.tuple #[.bool b, flt x]) w := by
  have z0 : w.cell? ⟨q, 0, none⟩ = some (.int .i64 x.1) := by simp [World.cell?, hq]
  have z1 : w.cell? ⟨q, 1, none⟩ = some (.int .i64 x.2) := by simp [World.cell?, hq]
  have z2 : w.cell? ⟨q, 2, none⟩ = some (.string ⟨#[]⟩) := by simp [World.cell?, hq]
  have z3 : w.cell? ⟨q, 3, none⟩ = some (.slice none 0 0) := by simp [World.cell?, hq]
  simp [results, Try.results18, go_sem, flt, h6, h7, z0, z1, z2, z3]
set_option maxRecDepth 100000 in
set_option maxHeartbeats 4000000 in
theorem rsame_bad {W : World} {nv rv : Value} {g : Gf} (hG : Gr W nv rv g) (hS : Sized g) (hb : one (chk g) ≠ []) (i j : Int) :
    Calls Try.prog 18 #[.agg #[nv, rv], .int .i64 i, .int .i64 j] W fun e w' => e = .returned (.tuple #[.bool false, flt (chk g)]) ∧ Below W.heap.size W w' := by
  have hx := Bx.start W nv rv
  have hne : (chk g).1 ≠ 0 := fun e => hb (one_nil.2 e)
  have hck := rcheck_any (hG.below hx.b) hS
  generalize chk g = X at *
  obtain ⟨c, a⟩ := X
  simp only at hne
  clear hG hb
  go_enter Try.func18, Try.ntmps18
  go_wp2_with (first
    | (go_at_call 11; go_must (refine hck.mono ?_; clear hck; rintro e w1 ⟨rfl, hb1⟩; have hx1 := hx.below hb1))
    | (go_at_call 14; go_must (refine (fbad_yes hne a _).mono ?_; rintro e w2 ⟨rfl, hb2⟩; have hq2 := (hb2.block w1.heap.size (by simp)).trans (heap_alloc_new w1 _); have hx2 := (hx1.below (below_alloc w1 _)).below hb2; obtain ⟨y0, y1, y2, y3⟩ := flt_four hq2; obtain ⟨⟨f0, f1, f2, f3⟩, z0, z1, z2, z3⟩ := hx2.cells)))
  go_region
  all_goals go_wp2
  exact bodyPost_ret (ret_sf (x := (c, a)) (b := false) (q := W.heap.size + 1) (by rfl) (by rfl) (box_set0 hx2.f)) rfl ⟨rfl, (set4_below hx2.b (by omega)).drew⟩
set_option maxRecDepth 100000 in
set_option maxHeartbeats 4000000 in
theorem rsame_out {W : World} {nv rv : Value} {g : Gf} (hG : Gr W nv rv g) (hS : Sized g) (hb : one (chk g) = []) {i j x : Int} (ho : ((i < 0 ∨ (g.nodes.length : Int) ≤ i) ∧ x = i) ∨ ((0 ≤ i ∧ i < (g.nodes.length : Int)) ∧ (j < 0 ∨ (g.nodes.length : Int) ≤ j) ∧ x = j)) :
    Calls Try.prog 18 #[.agg #[nv, rv], .int .i64 i, .int .i64 j] W fun e w' => e = .returned (.tuple #[.bool false, flt (50, x)]) ∧ Below W.heap.size W w' := by
  have hN5 := (chk_good hb).nodes
  have hx := Bx.start W nv rv
  have hc0 := one_nil.1 hb
  have hck := rcheck_any (hG.below hx.b) hS
  obtain ⟨na, nc, rfl, _⟩ := hG.1
  generalize chk g = X at *
  obtain ⟨c, a⟩ := X
  simp only at hc0
  subst hc0
  generalize g.nodes.length = N at *
  clear hG hb
  rcases ho with ⟨ho | ho, rfl⟩ | ⟨⟨h0, h1⟩, ho | ho, rfl⟩
  · have hd : decide (x < 0) = true := decide_eq_true ho
    go_enter Try.func18, Try.ntmps18
    go_wp2_with (first
      | (go_at_call 11; go_must (refine hck.mono ?_; clear hck; rintro e w1 ⟨rfl, hb1⟩; have hx1 := hx.below hb1))
      | (go_at_call 14; go_must (refine (fbad_no a _).mono ?_; rintro e w2 ⟨rfl, hb2⟩; have hx2 := (hx1.below (below_alloc w1 _)).below hb2; have hn2 := hx2.n))
      | (go_at_call 38; go_must (refine (rat_any _ _ _).mono ?_; rintro e w3 ⟨rfl, hb3⟩; have hx3 := hx2.below hb3; obtain ⟨⟨f0, f1, f2, f3⟩, z0, z1, z2, z3⟩ := hx3.cells)))
    exact bodyPost_ret (ret_sf (x := (50, x)) (b := false) (q := W.heap.size + 1) (by rfl) (by rfl) (box_set0 hx3.f)) rfl ⟨rfl, set4_below hx3.b (by omega)⟩
  · have hd : decide (x < 0) = false := decide_eq_false (by omega)
    go_enter Try.func18, Try.ntmps18
    go_wp2_with (first
      | (go_at_call 11; go_must (refine hck.mono ?_; clear hck; rintro e w1 ⟨rfl, hb1⟩; have hx1 := hx.below hb1))
      | (go_at_call 14; go_must (refine (fbad_no a _).mono ?_; rintro e w2 ⟨rfl, hb2⟩; have hx2 := (hx1.below (below_alloc w1 _)).below hb2; have hn2 := hx2.n))
      | (go_at_call 38; go_must (refine (rat_any _ _ _).mono ?_; rintro e w3 ⟨rfl, hb3⟩; have hx3 := hx2.below hb3; obtain ⟨⟨f0, f1, f2, f3⟩, z0, z1, z2, z3⟩ := hx3.cells)))
    exact bodyPost_ret (ret_sf (x := (50, x)) (b := false) (q := W.heap.size + 1) (by rfl) (by rfl) (box_set0 hx3.f)) rfl ⟨rfl, set4_below hx3.b (by omega)⟩
  · have hd : decide (i < 0) = false := decide_eq_false (by omega)
    have hd2 : decide (x < 0) = true := decide_eq_true ho
    have hd3 : ¬ (N : Int) ≤ i := by omega
    go_enter Try.func18, Try.ntmps18
    go_wp2_with (first
      | (go_at_call 11; go_must (refine hck.mono ?_; clear hck; rintro e w1 ⟨rfl, hb1⟩; have hx1 := hx.below hb1))
      | (go_at_call 14; go_must (refine (fbad_no a _).mono ?_; rintro e w2 ⟨rfl, hb2⟩; have hx2 := (hx1.below (below_alloc w1 _)).below hb2; have hn2 := hx2.n))
      | (go_at_call 38; go_must (refine (rat_any _ _ _).mono ?_; rintro e w3 ⟨rfl, hb3⟩; have hx3 := hx2.below hb3; obtain ⟨⟨f0, f1, f2, f3⟩, z0, z1, z2, z3⟩ := hx3.cells)))
    exact bodyPost_ret (ret_sf (x := (50, x)) (b := false) (q := W.heap.size + 1) (by rfl) (by rfl) (box_set0 hx3.f)) rfl ⟨rfl, set4_below hx3.b (by omega)⟩
  · have hd : decide (i < 0) = false := decide_eq_false (by omega)
    have hd2 : decide (x < 0) = false := decide_eq_false (by omega)
    have hd3 : ¬ (N : Int) ≤ i := by omega
    go_enter Try.func18, Try.ntmps18
    go_wp2_with (first
      | (go_at_call 11; go_must (refine hck.mono ?_; clear hck; rintro e w1 ⟨rfl, hb1⟩; have hx1 := hx.below hb1))
      | (go_at_call 14; go_must (refine (fbad_no a _).mono ?_; rintro e w2 ⟨rfl, hb2⟩; have hx2 := (hx1.below (below_alloc w1 _)).below hb2; have hn2 := hx2.n))
      | (go_at_call 38; go_must (refine (rat_any _ _ _).mono ?_; rintro e w3 ⟨rfl, hb3⟩; have hx3 := hx2.below hb3; obtain ⟨⟨f0, f1, f2, f3⟩, z0, z1, z2, z3⟩ := hx3.cells)))
    exact bodyPost_ret (ret_sf (x := (50, x)) (b := false) (q := W.heap.size + 1) (by rfl) (by rfl) (box_set0 hx3.f)) rfl ⟨rfl, set4_below hx3.b (by omega)⟩
set_option maxRecDepth 100000 in
set_option maxHeartbeats 4000000 in
theorem rsame_in {W : World} {nv rv : Value} {g : Gf} (hG : Gr W nv rv g) (hS : Sized g) (hb : one (chk g) = []) (ee : Nat → Nat → Bool) (he : ∀ x y : Nat, (ee x y = true ↔ Al g (x : Int) (y : Int))) {i j : Nat} (hi : i < g.nodes.length) (hj : j < g.nodes.length) :
    Calls Try.prog 18 #[.agg #[nv, rv], .int .i64 (i : Int), .int .i64 (j : Int)] W fun e w' => e = .returned (.tuple #[.bool (ee i j), flt (0, 0)]) ∧ Below W.heap.size W w' := by
  have hg := chk_good hb
  have hN5 := hg.nodes
  have hx := Bx.start W nv rv
  have hc0 := one_nil.1 hb
  have hck := rcheck_any (hG.below hx.b) hS
  have hRn := hG.1
  obtain ⟨na, nc, rfl, _⟩ := hG.1
  have hpa := fun w (hw : Below W.heap.size W w) => pairs_any (rv := rv) (hRn.below hw) hg
  generalize chk g = X at *
  obtain ⟨c, a⟩ := X
  simp only at hc0
  subst hc0
  obtain ⟨N, hN⟩ : ∃ N, N = g.nodes.length := ⟨_, rfl⟩
  rw [← hN] at hi hj hN5 hck hpa hx
  simp only [← hN]
  have hd : decide ((i : Int) < 0) = false := decide_eq_false (by omega)
  have hd2 : decide ((j : Int) < 0) = false := decide_eq_false (by omega)
  have hd3 : ¬ (N : Int) ≤ (i : Int) := by omega
  have hd4 : ¬ (N : Int) ≤ (j : Int) := by omega
  clear hG hb hN hRn
  go_enter Try.func18, Try.ntmps18
  go_wp2_with (first
    | (go_at_call 11; go_must (refine hck.mono ?_; clear hck; rintro e w1 ⟨rfl, hb1⟩; have hx1 := hx.below hb1))
    | (go_at_call 14; go_must (refine (fbad_no a _).mono ?_; rintro e w2 ⟨rfl, hb2⟩; have hx2 := (hx1.below (below_alloc w1 _)).below hb2; have hn2 := hx2.n; have hr2 := hx2.r))
    | (go_at_call 42; go_must (refine (hpa _ hx2.b).mono ?_; clear hpa; rintro e w3 ⟨rb, s, rfl, hSq, hsa⟩)))
  have hse : s i j = ee i j := by
    rw [Bool.eq_iff_iff]
    exact (hsa i j hi hj).trans (he i j).symm
  have hx3 := hx2.below hSq.below
  have ct := hSq.cellT hi
  have cc := (hSq.cell hi hj).1
  rw [hse] at cc
  have hlo := hSq.low i hi
  have hz2 := lt_of_block hx2.f
  have n1 : w2.heap.size + 1 ≠ W.heap.size + 1 := by omega
  have n2 : rb i ≠ W.heap.size + 1 := by omega
  obtain ⟨⟨f0, f1, f2, f3⟩, z0, z1, z2, z3⟩ := hx3.cells
  have hkeep : ∀ w', Below w3.heap.size w3 w' → Bx W w' (.slice na N nc) rv ∧ w'.cell? ⟨w2.heap.size + 1, i, none⟩ = some (.slice (some ⟨rb i, 0, none⟩) N N) ∧ w'.cell? ⟨rb i, j, none⟩ = some (.bool (ee i j)) := fun w' hb => ⟨hx3.below hb, (hb.cell (p := ⟨w2.heap.size + 1, i, none⟩) (lt_of_cell ct)).trans ct, (hb.cell (p := ⟨rb i, j, none⟩) (lt_of_cell cc)).trans cc⟩
  have hkeep2 : ∀ w', Below w3.drew.heap.size w3.drew w' → Bx W w' (.slice na N nc) rv ∧ w'.cell? ⟨w2.heap.size + 1, i, none⟩ = some (.slice (some ⟨rb i, 0, none⟩) N N) ∧ w'.cell? ⟨rb i, j, none⟩ = some (.bool (ee i j)) := fun w' hb => hkeep w' (((Below.refl _ w3).drew).trans hb)
  clear hsa hse he
  go_region_held3 (fun w' => w'.cell? ⟨w2.heap.size + 1, i, none⟩ = some (.slice (some ⟨rb i, 0, none⟩) N N) ∧ w'.cell? ⟨rb i, j, none⟩ = some (.bool (ee i j))) (first | exact ⟨ct, cc⟩ | exact ⟨ct', cc'⟩ | exact ⟨set4_far n1 ct', set4_far n2 cc'⟩ | go_keep)
    (first | (go_at_call 40; refine (rno_any _).mono ?_; rintro e w4 ⟨rfl, hb4⟩; obtain ⟨hx4, ct', cc'⟩ := hkeep2 _ hb4; obtain ⟨⟨f0', f1', f2', f3'⟩, z0', z1', z2', z3'⟩ := hx4.cells))
  all_goals go_wp2
  exact bodyPost_ret (ret_sf (x := (0, 0)) (b := ee i j) (q := W.heap.size + 1) (by rfl) (by rfl) (box_set0 hx4.f)) rfl ⟨rfl, set4_below hx4.b (by omega)⟩
end Go.Proofs.Ytdekmbggimcnpaa
