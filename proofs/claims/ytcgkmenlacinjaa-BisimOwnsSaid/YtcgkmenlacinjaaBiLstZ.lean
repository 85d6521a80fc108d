/- BisimLeast, walked at every graph. -/
import Derived.Test.YtcgkmenlacinjaaBiCZ
import Derived.Test.YtcgkmenlacinjaaBiRQuotZ
import Derived.Test.YtcgkmenlacinjaaBiBZ
namespace Go.Proofs.Ytcgkmenlacinjaa
open Go.RowKit

set_option maxRecDepth 100000 in
set_option maxHeartbeats 1000000 in
theorem named_bad {W : World} {nv rv : Value} {g : Gf} (hG : Gr W nv rv g) (hS : Sized g) (hb : one (chk g) ≠ []) :
    Calls Try.prog 12 #[.agg #[nv, rv]] W fun r w' => (∃ b, r = .returned (.tuple #[.slice none 0 0, .iface 65 (.pointer (some ⟨b, 0, none⟩))]) ∧ Er w' (.iface 65 (.pointer (some ⟨b, 0, none⟩))) (one (chk g))) ∧ Below W.heap.size W w' := by
  have hqt := quot_bad (hG.below (below_alloc W (.cells #[nv, rv] 25))) hS hb
  clear hG
  go_enter Try.func12, Try.ntmps12
  go_wp2_with (go_at_call 11; refine hqt.mono ?_; rintro e w1 ⟨⟨b, rfl, hE⟩, hb1⟩)
  go_ret2
  exact ⟨⟨b, rfl, hE.below (below_alloc _ _)⟩, Below.next (Below.next (below_alloc _ _) hb1) (below_alloc _ _)⟩
set_option maxRecDepth 100000 in
set_option maxHeartbeats 2000000 in
theorem bleast_short {W : World} {nv rv : Value} {g : Gf} (hG : Gr W nv rv g) (hs : smallK 60 g = false) :
    Calls Try.prog 3 #[.agg #[nv, rv]] W fun e w' => e = .returned (.bool true) ∧ Below W.heap.size W w' := by
  have hb0 := below_alloc W (.cells #[nv, rv] 25)
  have hla := hid (fun w1 (h : Below W.heap.size W w1) => llarge_any (hG.below h))
  rw [hs] at hla
  have hbx := heap_alloc_new W (.cells #[nv, rv] 25)
  clear hG
  go_enter Try.func3, Try.ntmps3
  go_wp2_with (first
    | (go_at_call 8; refine (lives_any (W.alloc _)).mono ?_; rintro e w1 ⟨rfl, hb1⟩; have hB := Below.next hb0 hb1; obtain ⟨x0, x1⟩ := two_cells ((hb1.block W.heap.size (by simp)).trans hbx))
    | (go_at_call 9; refine (hla.out w1 hB).mono ?_; rintro e w2 ⟨rfl, hb2⟩)
    | (go_at_call 8; refine (lives_any w2).mono ?_; rintro e w3 ⟨rfl, hb3⟩))
  go_ret
  exact ⟨rfl, Below.next (Below.next hB hb2) hb3⟩
set_option maxRecDepth 100000 in
set_option maxHeartbeats 4000000 in
theorem bleast_bad {W : World} {nv rv : Value} {g : Gf} (hG : Gr W nv rv g) (hS : Sized g) (hs : smallK 60 g = true) (hb : one (chk g) ≠ []) :
    Calls Try.prog 3 #[.agg #[nv, rv]] W fun e w' => e = .returned (.bool true) ∧ Below W.heap.size W w' := by
  have hb0 := below_alloc W (.cells #[nv, rv] 25)
  have hla := hid (fun w1 (h : Below W.heap.size W w1) => llarge_any (hG.below h))
  rw [hs] at hla
  have hck := hid (fun w1 (h : Below W.heap.size W w1) => rcheck_any (hG.below h) hS)
  have hqt := hid (fun w1 (h : Below W.heap.size W w1) => quot_bad (hG.below h) hS hb)
  have hnm := hid (fun w1 (h : Below W.heap.size W w1) => named_bad (hG.below h) hS hb)
  have hne : (chk g).1 ≠ 0 := fun e => hb (one_nil.2 e)
  have hfl := hid (fun w => fl_one w (chk g))
  generalize chk g = X at *
  obtain ⟨c, a⟩ := X
  simp only at hne
  have hbx := heap_alloc_new W (.cells #[nv, rv] 25)
  have hbad := hid (fun w => fbad_yes hne a w)
  have his := hid (fun w ev (h : Er w ev (one (c, a))) => is_any h (hfl.out w))
  have his2 := his
  clear hG hb hS
  go_enter Try.func3, Try.ntmps3
  go_wp2_with (first
    | (go_at_call 8; go_must (refine (lives_any (W.alloc _)).mono ?_; rintro e w1 ⟨rfl, hb1⟩; have hB := Below.next hb0 hb1; have hbx1 := (hb1.block W.heap.size (by simp)).trans hbx; obtain ⟨x0, x1⟩ := two_cells hbx1))
    | (go_at_call 9; go_must (refine (hla.out w1 hB).mono ?_; rintro e w2 ⟨rfl, hb2⟩; have hB2 := Below.next hB hb2; have hbx2 := sq_keep hbx1 hb2; obtain ⟨y0, y1⟩ := two_cells hbx2))
    | (go_at_call 10; go_must (refine (hck.out w2 hB2).mono ?_; rintro e w3 ⟨rfl, hb3⟩; have hL3 : Lw W nv rv w3.heap.size c a (w3.alloc (.cells #[.int .i64 c, .int .i64 a, .string ⟨#[]⟩, .slice none 0 0] 30)) := ⟨Below.next (Below.next hB2 hb3) (below_alloc w3 _), sq_keep (sq_keep hbx2 hb3) (below_alloc w3 _), heap_alloc_new w3 _⟩; have hq3 : W.heap.size < w3.heap.size := lt_of_block (sq_keep hbx2 hb3); obtain ⟨v0, v1⟩ := two_cells (sq_keep hbx2 hb3)))
    | (go_at_call 11; go_must (refine (hqt.out _ hL3.b).mono ?_; rintro e w4 ⟨⟨fb, rfl, hE4⟩, hb4⟩; have hL4 := (hL3.next hb4).next (below_alloc w4 (.cells #[.slice none 0 0, .slice none 0 0] 25)); have hx4 := heap_alloc_new w4 (.cells #[.slice none 0 0, .slice none 0 0] 25); have hE4' := hE4.below (below_alloc w4 (.cells #[.slice none 0 0, .slice none 0 0] 25)); obtain ⟨u0, u1⟩ := two_cells (hL3.next hb4).bx; have u2 : W.heap.size < w4.heap.size := lt_of_block (hL3.next hb4).bx))
    | (go_at_call 12; go_must (refine (hnm.out _ hL4.b).mono ?_; rintro e w5 ⟨⟨fb2, rfl, hE5⟩, hb5⟩; have hL5 := hL4.next hb5; have hx5 := sq_keep hx4 hb5; have hE45 := hE4'.below hb5; obtain ⟨g0, g1, g2, g3⟩ := flt_four hL5.f))
    | (go_at_call 13; refine (his.out _ _ hE45).mono ?_; clear his; rintro e w6 ⟨rfl, hb6⟩; have hL6 := hL5.next hb6; have hx6 := sq_keep hx5 hb6; have hE56 := hE5.below hb6; obtain ⟨g0, g1, g2, g3⟩ := flt_four hL6.f)
    | (go_at_call 13; go_must (refine (his2.out _ _ hE56).mono ?_; rintro e w7 ⟨rfl, hb7⟩; have hL7 := hL6.next hb7; have hx7 := sq_keep hx6 hb7; obtain ⟨g0, g1, g2, g3⟩ := flt_four hL7.f))
    | (go_at_call 14; go_must (refine (hbad.out _).mono ?_; rintro e w8 ⟨rfl, hb8⟩; have hL8 := hL7.next hb8; obtain ⟨z0, z1⟩ := two_cells (sq_keep hx7 hb8))))
  go_ret
  exact ⟨rfl, hL8.b⟩
set_option maxRecDepth 100000 in
set_option maxHeartbeats 4000000 in
theorem bleast_good {W : World} {nv rv : Value} {g : Gf} (hG : Gr W nv rv g) (hS : Sized g) (hs : smallK 60 g = true) (hb : one (chk g) = []) :
    Calls Try.prog 3 #[.agg #[nv, rv]] W fun e w' => e = .returned (.bool true) ∧ Below W.heap.size W w' := by
  obtain ⟨ee, he⟩ := al_dec g
  have hg := chk_good hb
  have hq := trim_good0 (quo_good hg (al_eqv hg he))
  have hb0 := below_alloc W (.cells #[nv, rv] 25)
  have hla := hid (fun w1 (h : Below W.heap.size W w1) => llarge_any (hG.below h))
  rw [hs] at hla
  have hck := hid (fun w1 (h : Below W.heap.size W w1) => rcheck_any (hG.below h) hS)
  have hqt := hid (fun w1 (h : Below W.heap.size W w1) => quot_good (hG.below h) hS hb ee he)
  have hnm := hid (fun w1 (h : Below W.heap.size W w1) => named_good (hG.below h) hS hb ee he)
  have hrq := hid (fun w1 (h : Below W.heap.size W w1) => rquot_any (hG.below h) hg ee he)
  generalize trimF (quoF ee g) = q at *
  have hfit : Fits q := ⟨by have := hq.nodes; omega, by have := hq.roots; omega, fun n hn => by have := (good_args (hq.node n hn)).2; omega⟩
  have hsm := hid (fun (w : World) (nv rv mv sv : Value) (h1 : Gr w nv rv q) (h2 : Gr w mv sv q) => rsame_any h1 h2 hfit)
  rw [eqG_yes] at hsm
  have hrn := hid (fun (w : World) (nv rv : Value) (h1 : Gr w nv rv q) => rnamed_any h1 hfit.args hfit.nodes hfit.roots)
  have hnl := namL_le q q.nodes.length
  have hint := hid (fun w u v (h1 : Ri w u (ints (namL q q.nodes.length))) (h2 : Ri w v (ints (namL q q.nodes.length))) => rints_any h1 h2 (by rw [ints_len]; have := hfit.nodes; omega))
  rw [decide_eq_true rfl] at hint
  have hc0 := one_nil.1 hb
  generalize chk g = X at *
  obtain ⟨c, a⟩ := X
  simp only at hc0
  subst hc0
  have hbx := heap_alloc_new W (.cells #[nv, rv] 25)
  have hbad := hid (fun w => fbad_no a w)
  have his := hid (fun w => is_any (W := w) (ev := .nilIface) (c := 0) (a := a) (cv := .slice none 0 0) (fs := []) rfl rfl)
  have his2 := his
  clear hG hb hS he hg hq hfit
  generalize namL q q.nodes.length = L at *
  go_enter Try.func3, Try.ntmps3
  go_wp2_with (first
    | (go_at_call 8; go_must (refine (lives_any (W.alloc _)).mono ?_; rintro e w1 ⟨rfl, hb1⟩; have hB := Below.next hb0 hb1; have hbx1 := (hb1.block W.heap.size (by simp)).trans hbx; obtain ⟨x0, x1⟩ := two_cells hbx1))
    | (go_at_call 9; go_must (refine (hla.out w1 hB).mono ?_; rintro e w2 ⟨rfl, hb2⟩; have hB2 := Below.next hB hb2; have hbx2 := sq_keep hbx1 hb2; obtain ⟨y0, y1⟩ := two_cells hbx2))
    | (go_at_call 10; go_must (refine (hck.out w2 hB2).mono ?_; rintro e w3 ⟨rfl, hb3⟩; have hL3 : Lw W nv rv w3.heap.size 0 a (w3.alloc (.cells #[.int .i64 0, .int .i64 a, .string ⟨#[]⟩, .slice none 0 0] 30)) := ⟨Below.next (Below.next hB2 hb3) (below_alloc w3 _), sq_keep (sq_keep hbx2 hb3) (below_alloc w3 _), heap_alloc_new w3 _⟩; have hq3 : W.heap.size < w3.heap.size := lt_of_block (sq_keep hbx2 hb3); obtain ⟨v0, v1⟩ := two_cells (sq_keep hbx2 hb3)))
    | (go_at_call 11; go_must (refine (hqt.out _ hL3.b).mono ?_; rintro e w4 ⟨⟨nq, rq, avs, rfl, hO4⟩, hb4⟩; have hG4 := hO4.gr; obtain ⟨nqa, nqc, rfl⟩ := hO4.nsl; obtain ⟨rqa, rqc, rfl, _⟩ := hO4.r; clear hO4; generalize q.nodes.length = QN at *; generalize q.roots.length = QR at *; have hL4 := (hL3.next hb4).next (below_alloc w4 (.cells #[.slice nqa QN nqc, .slice rqa QR rqc] 25)); have hx4 := heap_alloc_new w4 (.cells #[.slice nqa QN nqc, .slice rqa QR rqc] 25); have hG4' := hG4.below (below_alloc w4 (.cells #[.slice nqa QN nqc, .slice rqa QR rqc] 25)); obtain ⟨u0, u1⟩ := two_cells (hL3.next hb4).bx; have u2 : W.heap.size < w4.heap.size := lt_of_block (hL3.next hb4).bx; clear hG4))
    | (go_at_call 12; go_must (refine (hnm.out _ hL4.b).mono ?_; rintro e w5 ⟨⟨lv, rfl, hlv⟩, hb5⟩; have hL5 := hL4.next hb5; have hx5 := sq_keep hx4 hb5; have hG5 := hG4'.below hb5; obtain ⟨la, lc, rfl⟩ := own_sl hlv; have hR5 := Ri.ofOwn (l := ints L) (by rw [ints_len]; exact hlv); rw [ints_len] at hR5; clear hlv; obtain ⟨g0, g1, g2, g3⟩ := flt_four hL5.f))
    | (go_at_call 13; refine (his.out _).mono ?_; clear his; rintro e w6 ⟨rfl, hb6⟩; have hL6 := hL5.next hb6; have hx6 := sq_keep hx5 hb6; have hG6 := hG5.below hb6; have hR6 := hR5.below hb6; obtain ⟨g0, g1, g2, g3⟩ := flt_four hL6.f)
    | (go_at_call 13; go_must (refine (his2.out _).mono ?_; rintro e w7 ⟨rfl, hb7⟩; have hL7 := hL6.next hb7; have hx7 := sq_keep hx6 hb7; have hG7 := hG6.below hb7; have hR7 := hR6.below hb7; obtain ⟨g0, g1, g2, g3⟩ := flt_four hL7.f))
    | (go_at_call 14; go_must (refine (hbad.out _).mono ?_; rintro e w8 ⟨rfl, hb8⟩; have hL8 := hL7.next hb8; have hx8 := sq_keep hx7 hb8; have hG8 := hG7.below hb8; have hR8 := hR7.below hb8; obtain ⟨s0, s1⟩ := two_cells hL8.bx))
    | (go_at_call 15; go_must (refine (hrq.out _ hL8.b).mono ?_; rintro e w9 ⟨⟨nr, rr, avs2, rfl, hO9⟩, hb9⟩; have hH9 := hO9.gr; obtain ⟨nra, nrc, rfl⟩ := hO9.nsl; obtain ⟨rra, rrc, rfl, _⟩ := hO9.r; clear hO9; have hba := below_alloc w9 (.cells #[.slice nra q.nodes.length nrc, .slice rra q.roots.length rrc] 25); have hLa := (hL8.next hb9).next hba; have hxa := sq_keep (sq_keep hx8 hb9) hba; have hGa := (hG8.below hb9).below hba; have hRa := (hR8.below hb9).below hba; have hHa := hH9.below hba; have hya := heap_alloc_new w9 (.cells #[.slice nra q.nodes.length nrc, .slice rra q.roots.length rrc] 25); obtain ⟨t0, t1⟩ := two_cells hxa; obtain ⟨r0, r1⟩ := two_cells hya))
    | (go_at_call 16; go_must (refine (hsm.out _ _ _ _ _ hGa hHa).mono ?_; rintro e wb ⟨rfl, hbb⟩; have hLb := hLa.next hbb; have hHb := hHa.below hbb; have hRb := hRa.below hbb; obtain ⟨r0, r1⟩ := two_cells (sq_keep hya hbb)))
    | (go_at_call 18; go_must (refine (hrn.out _ _ _ hHb).mono ?_; rintro e wc ⟨mv, rfl, hmv, hbc⟩; have hLc := hLb.next hbc; have hRc := hRb.below hbc; obtain ⟨ma, mc, rfl⟩ := own_sl hmv; have hSc := Ri.ofOwn (l := ints L) (by rw [ints_len]; exact hmv); rw [ints_len] at hSc; clear hmv))
    | (go_at_call 17; go_must (refine (hint.out _ _ _ hRc hSc).mono ?_; rintro e wd ⟨rfl, hbd⟩)))
  go_ret
  exact ⟨rfl, Below.next hLc.b hbd⟩
theorem bisimLeast_walk {W : World} (nv rv : Value) (g : Gf) (hG : Gr W nv rv g) (hS : Sized g) :
    Calls Try.prog 3 #[.agg #[nv, rv]] W fun e w' => e = .returned (.bool true) ∧ Below W.heap.size W w' := by
  by_cases hs : smallK 60 g = true
  · by_cases hb : one (chk g) = []
    · exact bleast_good hG hS hs hb
    · exact bleast_bad hG hS hs hb
  · exact bleast_short hG (by simpa using hs)
end Go.Proofs.Ytcgkmenlacinjaa
