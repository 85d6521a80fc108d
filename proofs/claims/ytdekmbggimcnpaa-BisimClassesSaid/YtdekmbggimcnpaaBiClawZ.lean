/- BisimClasses, walked at every graph and any two numbers. -/
import Derived.Test.YtdekmbggimcnpaaBiRSameZ
import Derived.Test.YtdekmbggimcnpaaBiBZ
namespace Go.Proofs.Ytdekmbggimcnpaa
open Go.RowKit

set_option maxRecDepth 100000 in
set_option maxHeartbeats 2000000 in
theorem bclasses_short {W : World} {nv rv : Value} {g : Gf} (hG : Gr W nv rv g) (hs : smallK 60 g = false) (i j : Int) :
    Calls Try.prog 3 #[.agg #[nv, rv], .int .i64 i, .int .i64 j] W fun e w' => e = .returned (.bool true) ∧ Below W.heap.size W w' := by
  have hb0 := below_alloc W (.cells #[nv, rv] 25)
  have hla := hid (fun w1 (h : Below W.heap.size W w1) => llarge_any (hG.below h))
  rw [hs] at hla
  have hbx := heap_alloc_new W (.cells #[nv, rv] 25)
  clear hG
  go_enter Try.func3, Try.ntmps3
  go_wp2_with (first
    | (go_at_call 9; refine (lives_any (W.alloc _)).mono ?_; rintro e w1 ⟨rfl, hb1⟩; have hB := Below.next hb0 hb1; obtain ⟨x0, x1⟩ := two_cells ((hb1.block W.heap.size (by simp)).trans hbx))
    | (go_at_call 10; refine (hla.out w1 hB).mono ?_; rintro e w2 ⟨rfl, hb2⟩)
    | (go_at_call 9; refine (lives_any w2).mono ?_; rintro e w3 ⟨rfl, hb3⟩))
  go_ret
  exact ⟨rfl, Below.next (Below.next hB hb2) hb3⟩
set_option maxRecDepth 100000 in
set_option maxHeartbeats 4000000 in
theorem bclasses_bad {W : World} {nv rv : Value} {g : Gf} (hG : Gr W nv rv g) (hS : Sized g) (hs : smallK 60 g = true) (hb : one (chk g) ≠ []) (i j : Int) :
    Calls Try.prog 3 #[.agg #[nv, rv], .int .i64 i, .int .i64 j] W fun e w' => e = .returned (.bool true) ∧ Below W.heap.size W w' := by
  have hb0 := below_alloc W (.cells #[nv, rv] 25)
  have hla := hid (fun w1 (h : Below W.heap.size W w1) => llarge_any (hG.below h))
  rw [hs] at hla
  have hck := hid (fun w1 (h : Below W.heap.size W w1) => rcheck_any (hG.below h) hS)
  have hcl := hid (fun w1 (h : Below W.heap.size W w1) => classes_bad (hG.below h) hS hb)
  have hbs := hid (fun w1 (h : Below W.heap.size W w1) => bsame_bad (hG.below h) hS hb i j)
  have hrs := hid (fun w1 (h : Below W.heap.size W w1) => rsame_bad (hG.below h) hS hb i j)
  have hne : (chk g).1 ≠ 0 := fun e => hb (one_nil.2 e)
  have hfl := hid (fun w => fl_one w (chk g))
  generalize chk g = X at *
  obtain ⟨c, a⟩ := X
  simp only at hne
  have hbx := heap_alloc_new W (.cells #[nv, rv] 25)
  have hbad := hid (fun w => fbad_yes hne a w)
  have hbad2 := hbad
  have his := hid (fun w ev (h : Er w ev (one (c, a))) => is_any h (hfl.out w))
  have his2 := his
  clear hG hb hS
  go_enter Try.func3, Try.ntmps3
  go_wp2_with (first
    | (go_at_call 9; go_must (refine (lives_any (W.alloc _)).mono ?_; rintro e w1 ⟨rfl, hb1⟩; have hB := Below.next hb0 hb1; have hbx1 := (hb1.block W.heap.size (by simp)).trans hbx; obtain ⟨x0, x1⟩ := two_cells hbx1))
    | (go_at_call 10; go_must (refine (hla.out w1 hB).mono ?_; rintro e w2 ⟨rfl, hb2⟩; have hB2 := Below.next hB hb2; have hbx2 := sq_keep hbx1 hb2; obtain ⟨y0, y1⟩ := two_cells hbx2))
    | (go_at_call 11; go_must (refine (hck.out w2 hB2).mono ?_; rintro e w3 ⟨rfl, hb3⟩; have hL3 : Lw W nv rv w3.heap.size c a (w3.alloc (.cells #[.int .i64 c, .int .i64 a, .string ⟨#[]⟩, .slice none 0 0] 30)) := ⟨Below.next (Below.next hB2 hb3) (below_alloc w3 _), sq_keep (sq_keep hbx2 hb3) (below_alloc w3 _), heap_alloc_new w3 _⟩; have hq3 : W.heap.size < w3.heap.size := lt_of_block (sq_keep hbx2 hb3); obtain ⟨v0, v1⟩ := two_cells (sq_keep hbx2 hb3)))
    | (go_at_call 12; go_must (refine (hcl.out _ hL3.b).mono ?_; rintro e w4 ⟨⟨fb, rfl, hE4⟩, hb4⟩; have hL4 := hL3.next hb4; obtain ⟨g0, g1, g2, g3⟩ := flt_four hL4.f))
    | (go_at_call 13; refine (his.out _ _ hE4).mono ?_; clear his; rintro e w5 ⟨rfl, hb5⟩; have hL5 := hL4.next hb5; obtain ⟨g0, g1, g2, g3⟩ := flt_four hL5.f)
    | (go_at_call 14; refine (hbad.out _).mono ?_; clear hbad; rintro e w6 ⟨rfl, hb6⟩; have hL6 := hL5.next hb6; obtain ⟨g0, g1, g2, g3⟩ := flt_four hL6.f)
    | (go_at_call 14; go_must (refine (hbad2.out _).mono ?_; rintro e w7 ⟨rfl, hb7⟩; have hL7 := hL6.next hb7; obtain ⟨u0, u1⟩ := two_cells hL7.bx))
    | (go_at_call 17; go_must (refine (hbs.out _ hL7.b).mono ?_; rintro e w8 ⟨⟨sb, rfl, hE8⟩, hb8⟩; have hL8 := hL7.next hb8; obtain ⟨u0, u1⟩ := two_cells hL8.bx))
    | (go_at_call 18; go_must (refine (hrs.out _ hL8.b).mono ?_; rintro e w9 ⟨rfl, hb9⟩; have hL9 := hL8.next hb9; obtain ⟨g0, g1, g2, g3⟩ := flt_four hL9.f; obtain ⟨z0, z1, z2, z3⟩ := flt_frz hL9.f; have hL10 := hL9.set (c' := c) (a' := a) hq3; have hE10 := Er.set4 (v0 := .int .i64 c) (v1 := .int .i64 a) (v2 := .string ⟨#[]⟩) (v3 := .slice none 0 0) hL9.f (hE8.below hb9)))
    | (go_at_call 13; go_must (refine (his2.out _ _ hE10).mono ?_; rintro e w11 ⟨rfl, hb11⟩)))
  go_ret
  exact ⟨rfl, Below.next hL10.b hb11⟩
set_option maxRecDepth 100000 in
set_option maxHeartbeats 4000000 in
theorem bclasses_good {W : World} {nv rv : Value} {g : Gf} (hG : Gr W nv rv g) (hS : Sized g) (hs : smallK 60 g = true) (hb : one (chk g) = []) {i j : Int} {B : Bool} {y : Int × Int}
    (hbs : ∀ w, Below W.heap.size W w → Calls Try.prog 17 #[.agg #[nv, rv], .int .i64 i, .int .i64 j] w fun r w' => (∃ ev, r = .returned (.tuple #[.bool B, ev]) ∧ Er w' ev (one y)) ∧ Below w.heap.size w w')
    (hrs : ∀ w, Below W.heap.size W w → Calls Try.prog 18 #[.agg #[nv, rv], .int .i64 i, .int .i64 j] w fun r w' => r = .returned (.tuple #[.bool B, flt y]) ∧ Below w.heap.size w w') :
    Calls Try.prog 3 #[.agg #[nv, rv], .int .i64 i, .int .i64 j] W fun e w' => e = .returned (.bool true) ∧ Below W.heap.size W w' := by
  obtain ⟨ee, he⟩ := al_dec g
  have hg := chk_good hb
  have hN5 := hg.nodes
  have hRn := hG.1
  obtain ⟨na, nc, rfl, _⟩ := hG.1
  have hb0 := below_alloc W (.cells #[.slice na g.nodes.length nc, rv] 25)
  have hla := hid (fun w1 (h : Below W.heap.size W w1) => llarge_any (hG.below h))
  rw [hs] at hla
  have hck := hid (fun w1 (h : Below W.heap.size W w1) => rcheck_any (hG.below h) hS)
  have hcl := hid (fun w1 (h : Below W.heap.size W w1) => classes_good (hG.below h) hS hb ee (fun x y _ _ => he x y))
  have hrc := hid (fun w1 (h : Below W.heap.size W w1) => rclasses_any (rv := rv) (hRn.below h) hg ee he)
  have hint := hid (fun w u v (h1 : Ri w u (ints (csF ee g.nodes.length))) (h2 : Ri w v (ints (csF ee g.nodes.length))) => rints_any h1 h2 (by rw [ints_len, csF_len]; omega))
  rw [decide_eq_true rfl] at hint
  have hbs := hid hbs
  have hrs := hid hrs
  have hc0 := one_nil.1 hb
  generalize chk g = X at *
  obtain ⟨c, a⟩ := X
  simp only at hc0
  subst hc0
  obtain ⟨yc, ya⟩ := y
  have hbx := heap_alloc_new W (.cells #[.slice na g.nodes.length nc, rv] 25)
  have hbad := hid (fun w => fbad_no a w)
  have hbad2 := hbad
  have his := hid (fun w => is_any (W := w) (ev := .nilIface) (c := 0) (a := a) (cv := .slice none 0 0) (fs := []) rfl rfl)
  have his2 := hid (fun w ev (h : Er w ev (one (yc, ya))) => is_any h (fl_one w (yc, ya)))
  have hlc := csF_len ee g.nodes.length
  obtain ⟨L, hL⟩ : ∃ L, L = csF ee g.nodes.length := ⟨_, rfl⟩
  rw [← hL] at hcl hrc hint hlc
  clear hG hb hS hRn he hg hL
  generalize g.nodes.length = N at *
  go_enter Try.func3, Try.ntmps3
  go_wp2_with (first
    | (go_at_call 9; go_must (refine (lives_any (W.alloc _)).mono ?_; rintro e w1 ⟨rfl, hb1⟩; have hB := Below.next hb0 hb1; have hbx1 := (hb1.block W.heap.size (by simp)).trans hbx; obtain ⟨x0, x1⟩ := two_cells hbx1))
    | (go_at_call 10; go_must (refine (hla.out w1 hB).mono ?_; rintro e w2 ⟨rfl, hb2⟩; have hB2 := Below.next hB hb2; have hbx2 := sq_keep hbx1 hb2; obtain ⟨y0, y1⟩ := two_cells hbx2))
    | (go_at_call 11; go_must (refine (hck.out w2 hB2).mono ?_; rintro e w3 ⟨rfl, hb3⟩; have hL3 : Lw W (.slice na N nc) rv w3.heap.size 0 a (w3.alloc (.cells #[.int .i64 0, .int .i64 a, .string ⟨#[]⟩, .slice none 0 0] 30)) := ⟨Below.next (Below.next hB2 hb3) (below_alloc w3 _), sq_keep (sq_keep hbx2 hb3) (below_alloc w3 _), heap_alloc_new w3 _⟩; have hq3 : W.heap.size < w3.heap.size := lt_of_block (sq_keep hbx2 hb3); obtain ⟨v0, v1⟩ := two_cells (sq_keep hbx2 hb3)))
    | (go_at_call 12; go_must (refine (hcl.out _ hL3.b).mono ?_; rintro e w4 ⟨⟨ca, cc, rfl, hO4⟩, hb4⟩; have hL4 := hL3.next hb4; obtain ⟨g0, g1, g2, g3⟩ := flt_four hL4.f; have hRi4 : Ri w4 (.slice ca N cc) (ints L) := (by have := Ri.ofOwn (l := ints L) (by rw [ints_len, hlc]; exact hO4); rw [ints_len, hlc] at this; exact this)))
    | (go_at_call 13; refine (his.out _).mono ?_; clear his; rintro e w5 ⟨rfl, hb5⟩; have hL5 := hL4.next hb5; have hRi5 := hRi4.below hb5; obtain ⟨g0, g1, g2, g3⟩ := flt_four hL5.f)
    | (go_at_call 14; refine (hbad.out _).mono ?_; clear hbad; rintro e w6 ⟨rfl, hb6⟩; have hL6 := hL5.next hb6; have hRi6 := hRi5.below hb6; obtain ⟨g0, g1, g2, g3⟩ := flt_four hL6.f)
    | (go_at_call 14; go_must (refine (hbad2.out _).mono ?_; rintro e w7 ⟨rfl, hb7⟩; have hL7 := hL6.next hb7; have hRi7 := hRi6.below hb7; obtain ⟨u0, u1⟩ := two_cells hL7.bx))
    | (go_at_call 15; go_must (refine (hrc.out _ hL7.b).mono ?_; rintro e wa ⟨cb, lv, rfl, hcb, hls, hba⟩; have hLa := hL7.next hba; have hRa := hRi7.below hba; have hRb := cls_ri hlc hcb))
    | (go_at_call 16; go_must (refine (hint.out _ _ _ hRa hRb).mono ?_; rintro e wb ⟨rfl, hbb⟩; have hLb := hLa.next hbb; obtain ⟨u0, u1⟩ := two_cells hLb.bx))
    | (go_at_call 17; go_must (refine (hbs.out _ hLb.b).mono ?_; rintro e w8 ⟨⟨sb, rfl, hE8⟩, hb8⟩; have hL8 := hLb.next hb8; obtain ⟨u0, u1⟩ := two_cells hL8.bx))
    | (go_at_call 18; go_must (refine (hrs.out _ hL8.b).mono ?_; rintro e w9 ⟨rfl, hb9⟩; have hL9 := hL8.next hb9; obtain ⟨g0, g1, g2, g3⟩ := flt_four hL9.f; obtain ⟨z0, z1, z2, z3⟩ := flt_frz hL9.f; have hL10 := hL9.set (c' := yc) (a' := ya) hq3; have hE10 := Er.set4 (v0 := .int .i64 yc) (v1 := .int .i64 ya) (v2 := .string ⟨#[]⟩) (v3 := .slice none 0 0) hL9.f (hE8.below hb9)))
    | (go_at_call 13; go_must (refine (his2.out _ _ hE10).mono ?_; rintro e w11 ⟨rfl, hb11⟩)))
  go_ret
  exact ⟨rfl, Below.next hL10.b hb11⟩
theorem bisimClasses_walk {W : World} (nv rv : Value) (g : Gf) (hG : Gr W nv rv g) (hS : Sized g) (i : Int) (_hi : -9223372036854775808 ≤ i ∧ i ≤ 9223372036854775807) (j : Int) (_hj : -9223372036854775808 ≤ j ∧ j ≤ 9223372036854775807) :
    Calls Try.prog 3 #[.agg #[nv, rv], .int .i64 i, .int .i64 j] W fun e w' => e = .returned (.bool true) ∧ Below W.heap.size W w' := by
  by_cases hs : smallK 60 g = true
  · by_cases hb : one (chk g) = []
    · by_cases h1 : i < 0 ∨ (g.nodes.length : Int) ≤ i
      · refine bclasses_good hG hS hs hb (B := false) (y := (50, i)) (fun w h => (bsame_out1 (hG.below h) hS hb h1).mono ?_) (fun w h => rsame_out (hG.below h) hS hb (Or.inl ⟨h1, rfl⟩))
        rintro r w' ⟨⟨b, rfl, hE⟩, hbw⟩
        exact ⟨⟨_, rfl, by simpa [one] using hE⟩, hbw⟩
      · by_cases h2 : j < 0 ∨ (g.nodes.length : Int) ≤ j
        · refine bclasses_good hG hS hs hb (B := false) (y := (50, j)) (fun w h => (bsame_out2 (hG.below h) hS hb (by omega) (by omega) h2).mono ?_) (fun w h => rsame_out (hG.below h) hS hb (Or.inr ⟨⟨by omega, by omega⟩, h2, rfl⟩))
          rintro r w' ⟨⟨b, rfl, hE⟩, hbw⟩
          exact ⟨⟨_, rfl, by simpa [one] using hE⟩, hbw⟩
        · obtain ⟨a, rfl⟩ : ∃ a : Nat, i = (a : Int) := ⟨i.toNat, by omega⟩
          obtain ⟨b, rfl⟩ : ∃ b : Nat, j = (b : Int) := ⟨j.toNat, by omega⟩
          obtain ⟨ee, he⟩ := al_dec g
          have hev := al_eqv (chk_good hb) he
          have hsm := (numF_said hev g.nodes.length (Nat.le_refl _)).same hev (x := a) (y := b) (by omega) (by omega)
          refine bclasses_good hG hS hs hb (B := ee a b) (y := (0, 0)) (fun w h => (bsame_in (hG.below h) hS hb ee (fun x y _ _ => he x y) (a := a) (b := b) (by omega) (by omega)).mono ?_) (fun w h => rsame_in (hG.below h) hS hb ee he (by omega) (by omega))
          rintro r w' ⟨rfl, hbw⟩
          refine ⟨⟨.nilIface, ?_, rfl⟩, hbw⟩
          have hd : decide (((csF ee g.nodes.length).getD a 0 : Int) = ((csF ee g.nodes.length).getD b 0 : Int)) = ee a b := by
            rw [Bool.eq_iff_iff, decide_eq_true_iff, ← hsm]
            omega
          rw [hd]
    · exact bclasses_bad hG hS hs hb i j
  · exact bclasses_short hG (by simpa using hs) i j
end Go.Proofs.Ytdekmbggimcnpaa
