/- LexEach, walked at every source. -/
import Derived.Test.YtanjgppdjdcnaaaLxEach2
namespace Go.Proofs.Ytanjgppdjdcnaaa
open Go.RowKit Go.Shelf

attribute [local go_sem] Oper.semAt_some

set_option maxRecDepth 100000 in
set_option maxHeartbeats 8000000 in
theorem lexEach_b (s : ByteArray) (stop : Int) (w : World) (hst : stop < 1) :
    CallsIn Fence.wide 4 Try.prog 4 #[.string s, .int .i64 stop] w fun e w' => e = .returned (.bool true) ∧ Below w.heap.size w w' := by
  have f25 : Fence.wide.fn 25 := trivial
  have f15 : Fence.wide.fn 15 := trivial
  have f9 : Fence.wide.fn 9 := trivial
  have f11 : Fence.wide.fn 11 := trivial
  have f13 : Fence.wide.fn 13 := trivial
  have f12 : Fence.wide.fn 12 := trivial
  have hea := fun W => callsIn_wide (n := 3) |>.2 (each_any s W)
  have hli := fun W => callsIn_wide (n := 3) |>.2 (lives_any W)
  have hso := fun W => callsIn_wide (n := 3) |>.2 (rsome_any s W)
  have hml := someT_le s
  have hfn := func_nil
  refine callsIn_of_wp_marks Try.func4 rfl trivial ?_ rfl
  simp only [Try.ntmps4, List.size_toArray, List.length_cons, List.length_nil, Nat.reduceAdd, Nat.reduceSub, Array.replicate_succ, Array.replicate_zero, List.push_toArray, List.append_toArray, List.nil_append, List.cons_append]
  gi_wp2_with (first
    | (gi_at_call 9; go_must (refine (hli _).mono ?_; rintro e w1 ⟨rfl, hb1⟩))
    | (gi_at_call 11; go_must (refine (hso _).mono ?_; rintro e w2 ⟨v, rfl, hT2, hb2⟩; have hR2 := hT2.rt; obtain ⟨ao, ac, rfl⟩ : ∃ ao c, v = .slice ao (someT s).length c := (by obtain ⟨ao, c, h, _⟩ := hR2; exact ⟨ao, c, h⟩)))
    | (gi_at_call 15; go_must (refine (hea _).mono ?_; rintro e w' ⟨rfl, rfl⟩)))
  refine wpIn_loop_rounds 3 ?_
  rw [roundsIn_succ]
  gi_wp2
  simp only [Nat.add_assoc, Nat.reduceAdd]
  have k3 : w1.heap[w.heap.size]? = some (intObj stop) := keep_q (by rw [Below.heap_alloc _ _ _ (by simp)]; exact heap_alloc_new w _) hb1
  have k4 : w1.heap[w.heap.size + 1]? = some (boolObj false) := keep_q (by have := heap_alloc_new (w.alloc (intObj stop)) (boolObj false); simpa using this) hb1
  have hbw1 : Below w.heap.size w w1 := (((Below.refl _ w).alloc (Nat.le_refl _) _).alloc (by simp) _).trans (hb1.mono (by simp; omega))
  have hz1 : w.heap.size + 2 ≤ w1.heap.size := by have := hb1.size; simp at this; omega
  have hz2 := hb2.size
  clear hR2 hea hli hso
  obtain ⟨W0, hW0⟩ : ∃ W0, ((((((w2.alloc (resObj (.slice ao (someT s).length ac))).alloc (.cells #[.int .i64 (someC s), .int .i64 (someP s), .string ⟨#[]⟩, .slice none 0 0] 30)).alloc (srcObj s)).alloc (intObj 0)).alloc (intObj 0)).alloc (boolObj false)) = W0 := ⟨_, rfl⟩
  have z0 : W0.heap.size = w2.heap.size + 6 := by rw [← hW0]; simp
  have hEL : EL w w2.heap.size (w2.heap.size + 3) (w2.heap.size + 4) (.slice ao (someT s).length ac) := ⟨by omega, by omega, by omega, fun k hk => (hT2.lt k hk).2⟩
  have hb20 : Below w2.heap.size w2 W0 := by
    rw [← hW0]
    exact (((((((Below.refl _ w2).alloc (Nat.le_refl _) _).alloc (by simp) _).alloc (by simp; omega) _).alloc (by simp; omega) _).alloc (by simp; omega) _).alloc (by simp; omega) _)
  have hE0 : EB s stop w w2.heap.size (w2.heap.size + 3) (w2.heap.size + 4) (.slice ao (someT s).length ac) 0 0 false W0 := by
    obtain ⟨n0, n1, n2, n3, n4, n5⟩ := six_new w2 (resObj (.slice ao (someT s).length ac)) (.cells #[.int .i64 (someC s), .int .i64 (someP s), .string ⟨#[]⟩, .slice none 0 0] 30) (srcObj s) (intObj 0) (intObj 0) (boolObj false)
    rw [hW0] at n0 n1 n2 n3 n4 n5
    exact ⟨keep_q (keep_q k3 hb2) hb20, keep_q (keep_q k4 hb2) hb20, n0, n1, n2, n3, n4, n5, own_base (own_below hT2 hb20) (by omega), (hbw1.trans (hb2.mono hbw1.size)).trans (hb20.mono (Nat.le_trans hbw1.size hz2))⟩
  rw [hW0]
  clear hW0
  have hMk0 : Mk [] W0 := fun D hD => by simp at hD
  have hlow : ∀ D' ∈ ([] : List Nat), D' < W0.heap.size := fun D hD => by simp at hD
  refine range_told (Bs := w2.heap.size + 2) (encs := encT) rfl (enters_of Try.func25 (by kernel_rfl) rfl) (fun _ => rfl) (by omega) (by omega) (each_tells s 3 _ (w2.heap.size + 2) W0 (by omega) hE0.bs)
    (I := fun pre W => ∃ cnt bad, EB s stop w w2.heap.size (w2.heap.size + 3) (w2.heap.size + 4) (.slice ao (someT s).length ac) 0 cnt bad W ∧ KI s pre cnt bad ∧ Mk [] W ∧ True) (Ix := fun _ _ _ => False) (fun pre A A' h hn => by obtain ⟨cnt, bad, h1, h2, h3, h4⟩ := h; exact ⟨cnt, bad, h1.nb (by omega) hn, h2, h3.nb hlow hn, h4⟩) (fun c pre A A' h hn => h) (fun pre x A A' h hn => nextT_nb pre x A A' h hn) ⟨0, false, hE0, KI.start s, hMk0, trivial⟩
    (Ax := fun x a' W' => ∃ Bx, W'.heap[Bx]? = some (tokObj x.1) ∧ a' = { tmps := #[.string s, .int .i64 stop, undef, .pointer (some ⟨w.heap.size, 0, none⟩), .pointer (some ⟨w.heap.size + 1, 0, none⟩), .pointer (some ⟨w2.heap.size, 0, none⟩), .pointer (some ⟨w2.heap.size + 1, 0, none⟩), .func (.func 25) #[] #[.pointer (some ⟨w2.heap.size + 2, 0, none⟩)], .pointer (some ⟨w2.heap.size + 3, 0, none⟩), .pointer (some ⟨w2.heap.size + 4, 0, none⟩), .pointer (some ⟨w2.heap.size + 5, 0, none⟩), .pointer (some ⟨Bx, 0, none⟩), x.2, .bool true, .bool false, .tuple #[.slice ao (someT s).length ac, flt (someC s) (someP s)], .string s, .tuple #[.slice ao (someT s).length ac, flt (someC s) (someP s)], .slice ao (someT s).length ac, flt (someC s) (someP s), .string s, .func (.func 25) #[] #[.pointer (some ⟨w2.heap.size + 2, 0, none⟩)], .func (.func 25) #[] #[.pointer (some ⟨w2.heap.size + 2, 0, none⟩)], .bool false, .int .i64 0, .bool true, undef, undef, .func (.func 25) #[] #[.pointer (some ⟨w2.heap.size + 2, 0, none⟩)], tokV x.1, x.2, undef, undef, undef, undef, undef, undef, undef, undef, undef, undef, undef, undef, undef, undef, undef, undef, undef, undef, undef, undef, undef, undef, undef, undef, undef, undef, undef, undef, undef, undef, undef, undef, undef, undef, undef, undef, undef, undef, undef, undef, undef, undef, undef, undef, undef, undef, undef, undef, undef, undef, undef, undef, undef, undef, undef, undef, undef, undef, undef, undef, undef, undef, undef, undef, undef, undef, undef, undef, undef, undef], defers := [] }) (fun x a' A A' h hn => by obtain ⟨Bx, h1, h2⟩ := h; exact ⟨Bx, hn.block _ _ h1 (Or.inr rfl), h2⟩) ?assign1 ?body1 ?done1 ?stop1
  case assign1 =>
    intro l x W' K hzl hK
    gi_wp2
    exact hK _ _ (below_alloc W' _) ⟨W'.heap.size, heap_alloc_new W' _, rfl⟩
  case body1 =>
    rintro l pre x a' W' ⟨cnt, bad, hE, hK, hMk, hX⟩ ht ⟨Bx, hBx, rfl⟩
    have hcalm := ht.1
    obtain ⟨rfl, rfl⟩ := hK.still hcalm
    obtain ⟨c3, _⟩ := one_cell hE.b3
    obtain ⟨c5, _⟩ := one_cell hE.b5
    obtain ⟨c8, _⟩ := one_cell hE.b8
    obtain ⟨c9, g9⟩ := one_cell hE.b9
    obtain ⟨c10, g10⟩ := one_cell hE.b10
    obtain ⟨⟨f0, f1, f2, f3⟩, _⟩ := flt_facts hE.b6
    have zL := lt_heap hE.b5
    have zF := lt_heap hE.b6
    have zR := lt_heap hE.b8
    have zN := lt_heap hE.b9
    rcases ht.2 with ⟨r, h1, h2⟩ | ⟨h1, h2, h3, h4⟩
    · obtain ⟨xt, xe⟩ := x
      simp only at h1 h2 hBx
      subst h2
      obtain ⟨hlt, hget⟩ := next_tok h1
      have hrow := hE.row.rt
      obtain ⟨rb, ro, rc, hv⟩ := hrow.form (by omega)
      injection hv with hv1 _ hv2
      subst hv1 hv2
      obtain ⟨a0, a1, a2, a3, a4⟩ := hrow.cells (j := pre.length) hlt
      rw [hget] at a0 a1 a2 a3 a4
      obtain ⟨⟨q0, q1, q2, q3, q4⟩, _⟩ := tok_facts hBx
      have hne := tok_neq xt
      have hge : decide (((someT s).length : Int) ≤ (pre.length : Int)) = false := decide_eq_false (by omega)
      have hge2 : decide ((someT s).length ≤ pre.length) = false := decide_eq_false (by omega)
      have hgt : ¬ ((someT s).length : Int) < (pre.length : Int) := by omega
      clear hget h1 hrow
      have htk : ((pre.length : Int) + 1 == stop) = false := beq_eq_false_iff_ne.2 (by omega)
      gi_wp2
      refine quiet_in_round (by kernel_rfl) (by kernel_rfl) (by kernel_rfl) ?_
      repeat (gi_big_quiet_step (fail))
      refine wpQuietIn_nil ?_
      intro _ hw'
      obtain ⟨nq, hw''⟩ := hw'
      subst hw''
      gi_wp2
      exact ⟨(Kept.ofBelow (below_drewN (Below.refl _ _) nq)).trans (kept_setCell (by omega) (by omega)), _, _, (hE.next (below_drewN (Below.refl _ _) nq)).setN hEL _, KI.tok hcalm, (hMk.next (below_drewN (Below.refl _ _) nq)).set (hE.next (below_drewN (Below.refl _ _) nq)).b9, trivial⟩
    · obtain ⟨fb, hfb⟩ := h4.shape h2
      obtain ⟨xt, xe⟩ := x
      simp only at hfb h3 h4 hBx h1
      subst hfb h3
      have hlen := next_bad h1
      rw [hlen] at hE c9
      have q0 : W'.cell? ⟨Bx, 0, none⟩ = some (.int .i64 0) := (tok_facts hBx).1.1
      have q1 : W'.cell? ⟨Bx, 1, none⟩ = some (.string ⟨#[]⟩) := (tok_facts hBx).1.2.1
      have q2 : W'.cell? ⟨Bx, 2, none⟩ = some (.int .i64 0) := (tok_facts hBx).1.2.2.1
      have q3 : W'.cell? ⟨Bx, 3, none⟩ = some (.int .i64 0) := (tok_facts hBx).1.2.2.2.1
      have q4 : W'.cell? ⟨Bx, 4, none⟩ = some (.int .i64 0) := (tok_facts hBx).1.2.2.2.2
      have hne := tok0_neq
      have hxb : Bx ≠ w2.heap.size + 4 + 1 := fun e => by
        subst e
        have := hE.b10
        rw [hBx] at this
        simp [tokObj] at this
      have hEr := h4.set (u := .bool true) hE.b10
      have hE2 := hE.setB hEL true
      have hM2 := hMk.set (u := .bool true) hE.b10
      simp only [Nat.add_assoc, Nat.reduceAdd] at hxb
      clear h1 hBx hK hlen
      gi_wp2_with (gi_at_call 13; go_must (refine (callsIn_wide.2 (is_any hEr)).mono ?_; rintro e w5 ⟨rfl, hb5⟩))
      exact ⟨(kept_setCell (by omega) (by omega)).trans (Kept.ofBelow hb5), _, _, hE2.next hb5, KI.bad (fun h => by cases h) h2, hM2.next hb5, trivial⟩
  case done1 =>
    rintro D xs W hD hS ⟨cnt, bad, hE, hK, hMk, _⟩ hM
    obtain ⟨rfl, rfl⟩ := hK.done hS
    have hcc : ((someC s != 0) != (someC s != 0)) = false := by simp
    obtain ⟨c3, _⟩ := one_cell hE.b3
    obtain ⟨c5, _⟩ := one_cell hE.b5
    obtain ⟨c8, _⟩ := one_cell hE.b8
    obtain ⟨c9, _⟩ := one_cell hE.b9
    obtain ⟨c10, _⟩ := one_cell hE.b10
    obtain ⟨⟨f0, f1, f2, f3⟩, _⟩ := flt_facts hE.b6
    have hwd : Nonempty (Wd W) := ⟨⟨W, Below.refl _ _⟩⟩
    have y3 := cell_below c3 (lt_heap hE.b3)
    have y5 := cell_below c5 (lt_heap hE.b5)
    have y8 := cell_below c8 (lt_heap hE.b8)
    have y9 := cell_below c9 (lt_heap hE.b9)
    have y10 := cell_below c10 (lt_heap hE.b10)
    have yf0 := cell_below f0 (lt_heap hE.b6)
    have yf1 := cell_below f1 (lt_heap hE.b6)
    have yf2 := cell_below f2 (lt_heap hE.b6)
    have yf3 := cell_below f3 (lt_heap hE.b6)
    simp only [Nat.add_assoc, Nat.reduceAdd] at y10
    have hg1 : decide (stop < 1) = true := decide_eq_true hst
    gi_wp2
    refine quiet_below (by kernel_rfl) (by kernel_rfl) ?_
    repeat (gi_big_quiet_step (first | (gi_at_call 12; go_must (rename_i X; refine (callsIn_wide.2 (bad_ex _ _ _)).mono ?_; rintro e wb ⟨rfl, hbb⟩; exact ⟨rfl, ⟨wb, Below.next X.h hbb⟩, rfl⟩))))
    refine wpQuietIn_nil ?_
    rintro W2 ⟨X, hX⟩
    have hb3 : Below W.heap.size W W2 := by rw [hX]; exact X.h
    clear hX X hwd y3 y5 y8 y9 y10 yf0 yf1 yf2 yf3
    have hE3 := hE.next hb3
    have hM3 := keep_q hM hb3
    have hK3 := hMk.next hb3
    clear c3 c5 c8 c9 c10 f0 f1 f2 f3 hE hM hMk hb3
    obtain ⟨c8, g8⟩ := one_cell hE3.b8
    gi_wp2
    rw [roundsIn_succ]
    gi_wp2
    simp only [Nat.add_assoc, Nat.reduceAdd]
    have hE4 := hE3.again 1
    have hz5 := lt_heap hE3.b10
    have hEL4 : EL w w2.heap.size W2.heap.size (W2.heap.size + 1) (.slice ao (someT s).length ac) := ⟨by omega, by omega, by omega, hEL.row⟩
    have hb34 : Below W2.heap.size W2 (((W2.alloc (intObj 1)).alloc (intObj 0)).alloc (boolObj false)) := (((Below.refl _ W2).alloc (Nat.le_refl _) _).alloc (by simp) _).alloc (by simp; omega) _
    have hMk4 : Mk [D] (((W2.alloc (intObj 1)).alloc (intObj 0)).alloc (boolObj false)) := fun D' hD' => by
      rw [List.mem_singleton] at hD'
      subst hD'
      exact keep_q hM3 hb34
    have z4 : (((W2.alloc (intObj 1)).alloc (intObj 0)).alloc (boolObj false)).heap.size = W2.heap.size + 3 := by simp
    clear c8 g8 hb34 hK3
    generalize (((W2.alloc (intObj 1)).alloc (intObj 0)).alloc (boolObj false)) = W3 at *
    have hlow : ∀ D' ∈ ([D] : List Nat), D' < W3.heap.size := fun D' hD' => by rw [List.mem_singleton] at hD'; have := lt_heap hM3; omega
    refine range_told (Bs := w2.heap.size + 2) (encs := encT) rfl (enters_of Try.func25 (by kernel_rfl) rfl) (fun _ => rfl) (by omega) (by omega) (each_tells s 3 _ (w2.heap.size + 2) W3 (by omega) hE4.bs)
      (I := fun pre W => ∃ cnt bad, EB s stop w w2.heap.size (W2.heap.size) (W2.heap.size + 1) (.slice ao (someT s).length ac) 1 cnt bad W ∧ KI s pre cnt bad ∧ Mk [D] W ∧ True) (Ix := fun _ _ _ => False) (fun pre A A' h hn => by obtain ⟨cnt, bad, h1, h2, h3, h4⟩ := h; exact ⟨cnt, bad, h1.nb (by omega) hn, h2, h3.nb hlow hn, h4⟩) (fun c pre A A' h hn => h) (fun pre x A A' h hn => nextT_nb pre x A A' h hn) ⟨0, false, hE4, KI.start s, hMk4, trivial⟩
      (Ax := fun x a' W' => ∃ Bx, W'.heap[Bx]? = some (tokObj x.1) ∧ a' = { tmps := #[.string s, .int .i64 stop, undef, .pointer (some ⟨w.heap.size, 0, none⟩), .pointer (some ⟨w.heap.size + 1, 0, none⟩), .pointer (some ⟨w2.heap.size, 0, none⟩), .pointer (some ⟨w2.heap.size + 1, 0, none⟩), .func (.func 25) #[] #[.pointer (some ⟨w2.heap.size + 2, 0, none⟩)], .pointer (some ⟨W2.heap.size, 0, none⟩), .pointer (some ⟨W2.heap.size + 1, 0, none⟩), .pointer (some ⟨W2.heap.size + 2, 0, none⟩), .pointer (some ⟨Bx, 0, none⟩), x.2, .bool true, .bool false, .tuple #[.slice ao (someT s).length ac, flt (someC s) (someP s)], .string s, .tuple #[.slice ao (someT s).length ac, flt (someC s) (someP s)], .slice ao (someT s).length ac, flt (someC s) (someP s), .string s, .func (.func 25) #[] #[.pointer (some ⟨w2.heap.size + 2, 0, none⟩)], .func (.func 25) #[] #[.pointer (some ⟨w2.heap.size + 2, 0, none⟩)], .bool false, .int .i64 1, .bool true, .int .i64 0, .int .i64 1, .func (.func 25) #[] #[.pointer (some ⟨w2.heap.size + 2, 0, none⟩)], tokV x.1, x.2, undef, undef, undef, undef, undef, undef, undef, undef, undef, undef, undef, undef, undef, undef, undef, undef, undef, undef, undef, undef, undef, undef, undef, undef, undef, undef, undef, undef, undef, undef, undef, undef, undef, undef, undef, undef, undef, undef, undef, undef, undef, undef, undef, undef, undef, .int .i64 0, .bool false, .bool false, .int .i64 stop, .bool true, .bool true, .bool true, undef, undef, undef, undef, .bool true, .bool true, .int .i64 ((someT s).length : Int), .slice ao (someT s).length ac, .int .i64 ((someT s).length : Int), .bool false, .bool false, .bool (someC s != 0), .agg #[.int .i64 (someC s), .int .i64 (someP s), .string ⟨#[]⟩, .slice none 0 0], .bool (someC s != 0), .bool false, .bool false, .bool false, .int .i64 0], defers := [] }) (fun x a' A A' h hn => by obtain ⟨Bx, h1, h2⟩ := h; exact ⟨Bx, hn.block _ _ h1 (Or.inr rfl), h2⟩) ?assign2 ?body2 ?done2 ?stop2
    case assign2 =>
      intro l x W' K hzl hK
      gi_wp2
      exact hK _ _ (below_alloc W' _) ⟨W'.heap.size, heap_alloc_new W' _, rfl⟩
    case body2 =>
      rintro l pre x a' W' ⟨cnt, bad, hE, hK, hMk, hX⟩ ht ⟨Bx, hBx, rfl⟩
      have hcalm := ht.1
      obtain ⟨rfl, rfl⟩ := hK.still hcalm
      obtain ⟨c3, _⟩ := one_cell hE.b3
      obtain ⟨c5, _⟩ := one_cell hE.b5
      obtain ⟨c8, _⟩ := one_cell hE.b8
      obtain ⟨c9, g9⟩ := one_cell hE.b9
      obtain ⟨c10, g10⟩ := one_cell hE.b10
      obtain ⟨⟨f0, f1, f2, f3⟩, _⟩ := flt_facts hE.b6
      have zL := lt_heap hE.b5
      have zF := lt_heap hE.b6
      have zR := lt_heap hE.b8
      have zN := lt_heap hE.b9
      rcases ht.2 with ⟨r, h1, h2⟩ | ⟨h1, h2, h3, h4⟩
      · obtain ⟨xt, xe⟩ := x
        simp only at h1 h2 hBx
        subst h2
        obtain ⟨hlt, hget⟩ := next_tok h1
        have hrow := hE.row.rt
        obtain ⟨rb, ro, rc, hv⟩ := hrow.form (by omega)
        injection hv with hv1 _ hv2
        subst hv1 hv2
        obtain ⟨a0, a1, a2, a3, a4⟩ := hrow.cells (j := pre.length) hlt
        rw [hget] at a0 a1 a2 a3 a4
        obtain ⟨⟨q0, q1, q2, q3, q4⟩, _⟩ := tok_facts hBx
        have hne := tok_neq xt
        have hge : decide (((someT s).length : Int) ≤ (pre.length : Int)) = false := decide_eq_false (by omega)
        have hge2 : decide ((someT s).length ≤ pre.length) = false := decide_eq_false (by omega)
        have hgt : ¬ ((someT s).length : Int) < (pre.length : Int) := by omega
        clear hget h1 hrow
        gi_wp2
        refine quiet_in_round (by kernel_rfl) (by kernel_rfl) (by kernel_rfl) ?_
        repeat (gi_big_quiet_step (fail))
        refine wpQuietIn_nil ?_
        intro _ hw'
        obtain ⟨nq, hw''⟩ := hw'
        subst hw''
        gi_wp2
        exact ⟨(Kept.ofBelow (below_drewN (Below.refl _ _) nq)).trans (kept_setCell (by omega) (by omega)), _, _, (hE.next (below_drewN (Below.refl _ _) nq)).setN hEL4 _, KI.tok hcalm, (hMk.next (below_drewN (Below.refl _ _) nq)).set (hE.next (below_drewN (Below.refl _ _) nq)).b9, trivial⟩
      · obtain ⟨fb, hfb⟩ := h4.shape h2
        obtain ⟨xt, xe⟩ := x
        simp only at hfb h3 h4 hBx h1
        subst hfb h3
        have hlen := next_bad h1
        rw [hlen] at hE c9
        have q0 : W'.cell? ⟨Bx, 0, none⟩ = some (.int .i64 0) := (tok_facts hBx).1.1
        have q1 : W'.cell? ⟨Bx, 1, none⟩ = some (.string ⟨#[]⟩) := (tok_facts hBx).1.2.1
        have q2 : W'.cell? ⟨Bx, 2, none⟩ = some (.int .i64 0) := (tok_facts hBx).1.2.2.1
        have q3 : W'.cell? ⟨Bx, 3, none⟩ = some (.int .i64 0) := (tok_facts hBx).1.2.2.2.1
        have q4 : W'.cell? ⟨Bx, 4, none⟩ = some (.int .i64 0) := (tok_facts hBx).1.2.2.2.2
        have hne := tok0_neq
        have hxb : Bx ≠ W2.heap.size + 1 + 1 := fun e => by
          subst e
          have := hE.b10
          rw [hBx] at this
          simp [tokObj] at this
        have hEr := h4.set (u := .bool true) hE.b10
        have hE2 := hE.setB hEL4 true
        have hM2 := hMk.set (u := .bool true) hE.b10
        simp only [Nat.add_assoc, Nat.reduceAdd] at hxb
        clear h1 hBx hK hlen
        have n5 : w2.heap.size ≠ W2.heap.size + 2 := by omega
        have n6 : w2.heap.size + 1 ≠ W2.heap.size + 2 := by omega
        gi_wp2_with (gi_at_call 13; go_must (refine (callsIn_wide.2 (is_any hEr)).mono ?_; rintro e w5 ⟨rfl, hb5⟩))
        exact ⟨(kept_setCell (by omega) (by omega)).trans (Kept.ofBelow hb5), _, _, hE2.next hb5, KI.bad (fun h => by cases h) h2, hM2.next hb5, trivial⟩
    case done2 =>
      rintro D2 xs W hD2 hS ⟨cnt, bad, hE, hK, hMk, _⟩ hM
      obtain ⟨rfl, rfl⟩ := hK.done hS
      have hcc : ((someC s != 0) != (someC s != 0)) = false := by simp
      obtain ⟨c3, _⟩ := one_cell hE.b3
      obtain ⟨c5, _⟩ := one_cell hE.b5
      obtain ⟨c8, _⟩ := one_cell hE.b8
      obtain ⟨c9, _⟩ := one_cell hE.b9
      obtain ⟨c10, _⟩ := one_cell hE.b10
      obtain ⟨⟨f0, f1, f2, f3⟩, _⟩ := flt_facts hE.b6
      have hwd : Nonempty (Wd W) := ⟨⟨W, Below.refl _ _⟩⟩
      have y3 := cell_below c3 (lt_heap hE.b3)
      have y5 := cell_below c5 (lt_heap hE.b5)
      have y8 := cell_below c8 (lt_heap hE.b8)
      have y9 := cell_below c9 (lt_heap hE.b9)
      have y10 := cell_below c10 (lt_heap hE.b10)
      have yf0 := cell_below f0 (lt_heap hE.b6)
      have yf1 := cell_below f1 (lt_heap hE.b6)
      have yf2 := cell_below f2 (lt_heap hE.b6)
      have yf3 := cell_below f3 (lt_heap hE.b6)
      simp only [Nat.add_assoc, Nat.reduceAdd] at y10
      gi_wp2
      refine quiet_below (by kernel_rfl) (by kernel_rfl) ?_
      repeat (gi_big_quiet_step (first | (gi_at_call 12; go_must (rename_i X; refine (callsIn_wide.2 (bad_ex _ _ _)).mono ?_; rintro e wb ⟨rfl, hbb⟩; exact ⟨rfl, ⟨wb, Below.next X.h hbb⟩, rfl⟩))))
      refine wpQuietIn_nil ?_
      rintro W5 ⟨X, hX⟩
      have hb3 : Below W.heap.size W W5 := by rw [hX]; exact X.h
      clear hX X hwd y3 y5 y8 y9 y10 yf0 yf1 yf2 yf3
      have hE3 := hE.next hb3
      have hM3 := keep_q hM hb3
      have hK3 := hMk.next hb3
      clear c3 c5 c8 c9 c10 f0 f1 f2 f3 hE hM hMk hb3
      obtain ⟨c8, g8⟩ := one_cell hE3.b8
      obtain ⟨c4, g4⟩ := one_cell hE3.b4
      have hz6 := lt_heap hE3.b4
      have hz7 := hE3.below.size
      have hDl := hlow D (by simp)
      gi_wp2
      rw [roundsIn_succ]
      gi_wp2
      have m1 : W5.heap[D]? = some (.deferred (some [])) := hK3 D (by simp)
      have e1 := alloc_at (o := intObj 2) (one_far (b := w.heap.size + 1) (u := .bool true) m1 (by omega))
      have e2 := alloc_at (o := intObj 2) (one_far (b := w.heap.size + 1) (u := .bool true) hM3 (by omega))
      have e4 := alloc_at (o := intObj 2) (one_set (.bool true) hE3.b4)
      have hB8 : Below w.heap.size w ((W5.setCell ⟨w.heap.size + 1, 0, none⟩ (.bool true)).alloc (intObj 2)) := (hE3.below.setCell (p := ⟨w.heap.size + 1, 0, none⟩) (by show w.heap.size ≤ w.heap.size + 1; omega) _).alloc (by simp; omega) _
      generalize (W5.setCell ⟨w.heap.size + 1, 0, none⟩ (.bool true)).alloc (intObj 2) = W8 at *
      have n9 := Nb.mark (B := w.heap.size + 2) (D := D2) (by omega) e2
      have m9 : (W8.putObj D2 (.deferred none)).heap[D]? = some (.deferred (some [])) := (World.putObj_heap_other (by omega)).trans e1
      have n10 := Nb.mark (B := w.heap.size + 2) (by omega) m9
      have k4 := n10.block _ _ (n9.block _ _ e4 (Or.inl (by omega))) (Or.inl (by omega))
      have e3 := n10.below (n9.below hB8 (by omega) (Nat.le_refl _)) (by omega) (Nat.le_refl _)
      obtain ⟨d0, _⟩ := one_cell k4
      refine ⟨by simp, .inl ⟨_, _, rfl, run_takeDeferred e2, ⟨by simp, .inl ⟨_, _, rfl, run_takeDeferred m9, ?_⟩⟩⟩⟩
      refine ⟨.bool true, ?_, rfl, e3⟩
      simp [results, Try.results4, go_sem, d0]
    case stop2 =>
      rintro D c pre W _ h _
      exact h.elim
  case stop1 =>
    rintro D c pre W _ h _
    exact h.elim
set_option maxRecDepth 100000 in
set_option maxHeartbeats 8000000 in
theorem lexEach_c (s : ByteArray) (stop : Int) (w : World) (hst : 1 ≤ stop ∧ ((someT s).length : Int) < stop) :
    CallsIn Fence.wide 4 Try.prog 4 #[.string s, .int .i64 stop] w fun e w' => e = .returned (.bool true) ∧ Below w.heap.size w w' := by
  have f25 : Fence.wide.fn 25 := trivial
  have f15 : Fence.wide.fn 15 := trivial
  have f9 : Fence.wide.fn 9 := trivial
  have f11 : Fence.wide.fn 11 := trivial
  have f13 : Fence.wide.fn 13 := trivial
  have f12 : Fence.wide.fn 12 := trivial
  have hea := fun W => callsIn_wide (n := 3) |>.2 (each_any s W)
  have hli := fun W => callsIn_wide (n := 3) |>.2 (lives_any W)
  have hso := fun W => callsIn_wide (n := 3) |>.2 (rsome_any s W)
  have hml := someT_le s
  have hfn := func_nil
  refine callsIn_of_wp_marks Try.func4 rfl trivial ?_ rfl
  simp only [Try.ntmps4, List.size_toArray, List.length_cons, List.length_nil, Nat.reduceAdd, Nat.reduceSub, Array.replicate_succ, Array.replicate_zero, List.push_toArray, List.append_toArray, List.nil_append, List.cons_append]
  gi_wp2_with (first
    | (gi_at_call 9; go_must (refine (hli _).mono ?_; rintro e w1 ⟨rfl, hb1⟩))
    | (gi_at_call 11; go_must (refine (hso _).mono ?_; rintro e w2 ⟨v, rfl, hT2, hb2⟩; have hR2 := hT2.rt; obtain ⟨ao, ac, rfl⟩ : ∃ ao c, v = .slice ao (someT s).length c := (by obtain ⟨ao, c, h, _⟩ := hR2; exact ⟨ao, c, h⟩)))
    | (gi_at_call 15; go_must (refine (hea _).mono ?_; rintro e w' ⟨rfl, rfl⟩)))
  refine wpIn_loop_rounds 3 ?_
  rw [roundsIn_succ]
  gi_wp2
  simp only [Nat.add_assoc, Nat.reduceAdd]
  have k3 : w1.heap[w.heap.size]? = some (intObj stop) := keep_q (by rw [Below.heap_alloc _ _ _ (by simp)]; exact heap_alloc_new w _) hb1
  have k4 : w1.heap[w.heap.size + 1]? = some (boolObj false) := keep_q (by have := heap_alloc_new (w.alloc (intObj stop)) (boolObj false); simpa using this) hb1
  have hbw1 : Below w.heap.size w w1 := (((Below.refl _ w).alloc (Nat.le_refl _) _).alloc (by simp) _).trans (hb1.mono (by simp; omega))
  have hz1 : w.heap.size + 2 ≤ w1.heap.size := by have := hb1.size; simp at this; omega
  have hz2 := hb2.size
  clear hR2 hea hli hso
  obtain ⟨W0, hW0⟩ : ∃ W0, ((((((w2.alloc (resObj (.slice ao (someT s).length ac))).alloc (.cells #[.int .i64 (someC s), .int .i64 (someP s), .string ⟨#[]⟩, .slice none 0 0] 30)).alloc (srcObj s)).alloc (intObj 0)).alloc (intObj 0)).alloc (boolObj false)) = W0 := ⟨_, rfl⟩
  have z0 : W0.heap.size = w2.heap.size + 6 := by rw [← hW0]; simp
  have hEL : EL w w2.heap.size (w2.heap.size + 3) (w2.heap.size + 4) (.slice ao (someT s).length ac) := ⟨by omega, by omega, by omega, fun k hk => (hT2.lt k hk).2⟩
  have hb20 : Below w2.heap.size w2 W0 := by
    rw [← hW0]
    exact (((((((Below.refl _ w2).alloc (Nat.le_refl _) _).alloc (by simp) _).alloc (by simp; omega) _).alloc (by simp; omega) _).alloc (by simp; omega) _).alloc (by simp; omega) _)
  have hE0 : EB s stop w w2.heap.size (w2.heap.size + 3) (w2.heap.size + 4) (.slice ao (someT s).length ac) 0 0 false W0 := by
    obtain ⟨n0, n1, n2, n3, n4, n5⟩ := six_new w2 (resObj (.slice ao (someT s).length ac)) (.cells #[.int .i64 (someC s), .int .i64 (someP s), .string ⟨#[]⟩, .slice none 0 0] 30) (srcObj s) (intObj 0) (intObj 0) (boolObj false)
    rw [hW0] at n0 n1 n2 n3 n4 n5
    exact ⟨keep_q (keep_q k3 hb2) hb20, keep_q (keep_q k4 hb2) hb20, n0, n1, n2, n3, n4, n5, own_base (own_below hT2 hb20) (by omega), (hbw1.trans (hb2.mono hbw1.size)).trans (hb20.mono (Nat.le_trans hbw1.size hz2))⟩
  rw [hW0]
  clear hW0
  have hMk0 : Mk [] W0 := fun D hD => by simp at hD
  have hlow : ∀ D' ∈ ([] : List Nat), D' < W0.heap.size := fun D hD => by simp at hD
  refine range_told (Bs := w2.heap.size + 2) (encs := encT) rfl (enters_of Try.func25 (by kernel_rfl) rfl) (fun _ => rfl) (by omega) (by omega) (each_tells s 3 _ (w2.heap.size + 2) W0 (by omega) hE0.bs)
    (I := fun pre W => ∃ cnt bad, EB s stop w w2.heap.size (w2.heap.size + 3) (w2.heap.size + 4) (.slice ao (someT s).length ac) 0 cnt bad W ∧ KI s pre cnt bad ∧ Mk [] W ∧ True) (Ix := fun _ _ _ => False) (fun pre A A' h hn => by obtain ⟨cnt, bad, h1, h2, h3, h4⟩ := h; exact ⟨cnt, bad, h1.nb (by omega) hn, h2, h3.nb hlow hn, h4⟩) (fun c pre A A' h hn => h) (fun pre x A A' h hn => nextT_nb pre x A A' h hn) ⟨0, false, hE0, KI.start s, hMk0, trivial⟩
    (Ax := fun x a' W' => ∃ Bx, W'.heap[Bx]? = some (tokObj x.1) ∧ a' = { tmps := #[.string s, .int .i64 stop, undef, .pointer (some ⟨w.heap.size, 0, none⟩), .pointer (some ⟨w.heap.size + 1, 0, none⟩), .pointer (some ⟨w2.heap.size, 0, none⟩), .pointer (some ⟨w2.heap.size + 1, 0, none⟩), .func (.func 25) #[] #[.pointer (some ⟨w2.heap.size + 2, 0, none⟩)], .pointer (some ⟨w2.heap.size + 3, 0, none⟩), .pointer (some ⟨w2.heap.size + 4, 0, none⟩), .pointer (some ⟨w2.heap.size + 5, 0, none⟩), .pointer (some ⟨Bx, 0, none⟩), x.2, .bool true, .bool false, .tuple #[.slice ao (someT s).length ac, flt (someC s) (someP s)], .string s, .tuple #[.slice ao (someT s).length ac, flt (someC s) (someP s)], .slice ao (someT s).length ac, flt (someC s) (someP s), .string s, .func (.func 25) #[] #[.pointer (some ⟨w2.heap.size + 2, 0, none⟩)], .func (.func 25) #[] #[.pointer (some ⟨w2.heap.size + 2, 0, none⟩)], .bool false, .int .i64 0, .bool true, undef, undef, .func (.func 25) #[] #[.pointer (some ⟨w2.heap.size + 2, 0, none⟩)], tokV x.1, x.2, undef, undef, undef, undef, undef, undef, undef, undef, undef, undef, undef, undef, undef, undef, undef, undef, undef, undef, undef, undef, undef, undef, undef, undef, undef, undef, undef, undef, undef, undef, undef, undef, undef, undef, undef, undef, undef, undef, undef, undef, undef, undef, undef, undef, undef, undef, undef, undef, undef, undef, undef, undef, undef, undef, undef, undef, undef, undef, undef, undef, undef, undef, undef, undef, undef, undef, undef, undef, undef, undef], defers := [] }) (fun x a' A A' h hn => by obtain ⟨Bx, h1, h2⟩ := h; exact ⟨Bx, hn.block _ _ h1 (Or.inr rfl), h2⟩) ?assign1 ?body1 ?done1 ?stop1
  case assign1 =>
    intro l x W' K hzl hK
    gi_wp2
    exact hK _ _ (below_alloc W' _) ⟨W'.heap.size, heap_alloc_new W' _, rfl⟩
  case body1 =>
    rintro l pre x a' W' ⟨cnt, bad, hE, hK, hMk, hX⟩ ht ⟨Bx, hBx, rfl⟩
    have hcalm := ht.1
    obtain ⟨rfl, rfl⟩ := hK.still hcalm
    obtain ⟨c3, _⟩ := one_cell hE.b3
    obtain ⟨c5, _⟩ := one_cell hE.b5
    obtain ⟨c8, _⟩ := one_cell hE.b8
    obtain ⟨c9, g9⟩ := one_cell hE.b9
    obtain ⟨c10, g10⟩ := one_cell hE.b10
    obtain ⟨⟨f0, f1, f2, f3⟩, _⟩ := flt_facts hE.b6
    have zL := lt_heap hE.b5
    have zF := lt_heap hE.b6
    have zR := lt_heap hE.b8
    have zN := lt_heap hE.b9
    rcases ht.2 with ⟨r, h1, h2⟩ | ⟨h1, h2, h3, h4⟩
    · obtain ⟨xt, xe⟩ := x
      simp only at h1 h2 hBx
      subst h2
      obtain ⟨hlt, hget⟩ := next_tok h1
      have hrow := hE.row.rt
      obtain ⟨rb, ro, rc, hv⟩ := hrow.form (by omega)
      injection hv with hv1 _ hv2
      subst hv1 hv2
      obtain ⟨a0, a1, a2, a3, a4⟩ := hrow.cells (j := pre.length) hlt
      rw [hget] at a0 a1 a2 a3 a4
      obtain ⟨⟨q0, q1, q2, q3, q4⟩, _⟩ := tok_facts hBx
      have hne := tok_neq xt
      have hge : decide (((someT s).length : Int) ≤ (pre.length : Int)) = false := decide_eq_false (by omega)
      have hge2 : decide ((someT s).length ≤ pre.length) = false := decide_eq_false (by omega)
      have hgt : ¬ ((someT s).length : Int) < (pre.length : Int) := by omega
      clear hget h1 hrow
      have htk : ((pre.length : Int) + 1 == stop) = false := beq_eq_false_iff_ne.2 (by omega)
      gi_wp2
      refine quiet_in_round (by kernel_rfl) (by kernel_rfl) (by kernel_rfl) ?_
      repeat (gi_big_quiet_step (fail))
      refine wpQuietIn_nil ?_
      intro _ hw'
      obtain ⟨nq, hw''⟩ := hw'
      subst hw''
      gi_wp2
      exact ⟨(Kept.ofBelow (below_drewN (Below.refl _ _) nq)).trans (kept_setCell (by omega) (by omega)), _, _, (hE.next (below_drewN (Below.refl _ _) nq)).setN hEL _, KI.tok hcalm, (hMk.next (below_drewN (Below.refl _ _) nq)).set (hE.next (below_drewN (Below.refl _ _) nq)).b9, trivial⟩
    · obtain ⟨fb, hfb⟩ := h4.shape h2
      obtain ⟨xt, xe⟩ := x
      simp only at hfb h3 h4 hBx h1
      subst hfb h3
      have hlen := next_bad h1
      rw [hlen] at hE c9
      have q0 : W'.cell? ⟨Bx, 0, none⟩ = some (.int .i64 0) := (tok_facts hBx).1.1
      have q1 : W'.cell? ⟨Bx, 1, none⟩ = some (.string ⟨#[]⟩) := (tok_facts hBx).1.2.1
      have q2 : W'.cell? ⟨Bx, 2, none⟩ = some (.int .i64 0) := (tok_facts hBx).1.2.2.1
      have q3 : W'.cell? ⟨Bx, 3, none⟩ = some (.int .i64 0) := (tok_facts hBx).1.2.2.2.1
      have q4 : W'.cell? ⟨Bx, 4, none⟩ = some (.int .i64 0) := (tok_facts hBx).1.2.2.2.2
      have hne := tok0_neq
      have hxb : Bx ≠ w2.heap.size + 4 + 1 := fun e => by
        subst e
        have := hE.b10
        rw [hBx] at this
        simp [tokObj] at this
      have hEr := h4.set (u := .bool true) hE.b10
      have hE2 := hE.setB hEL true
      have hM2 := hMk.set (u := .bool true) hE.b10
      simp only [Nat.add_assoc, Nat.reduceAdd] at hxb
      clear h1 hBx hK hlen
      gi_wp2_with (gi_at_call 13; go_must (refine (callsIn_wide.2 (is_any hEr)).mono ?_; rintro e w5 ⟨rfl, hb5⟩))
      exact ⟨(kept_setCell (by omega) (by omega)).trans (Kept.ofBelow hb5), _, _, hE2.next hb5, KI.bad (fun h => by cases h) h2, hM2.next hb5, trivial⟩
  case done1 =>
    rintro D xs W hD hS ⟨cnt, bad, hE, hK, hMk, _⟩ hM
    obtain ⟨rfl, rfl⟩ := hK.done hS
    have hcc : ((someC s != 0) != (someC s != 0)) = false := by simp
    obtain ⟨c3, _⟩ := one_cell hE.b3
    obtain ⟨c5, _⟩ := one_cell hE.b5
    obtain ⟨c8, _⟩ := one_cell hE.b8
    obtain ⟨c9, _⟩ := one_cell hE.b9
    obtain ⟨c10, _⟩ := one_cell hE.b10
    obtain ⟨⟨f0, f1, f2, f3⟩, _⟩ := flt_facts hE.b6
    have hwd : Nonempty (Wd W) := ⟨⟨W, Below.refl _ _⟩⟩
    have y3 := cell_below c3 (lt_heap hE.b3)
    have y5 := cell_below c5 (lt_heap hE.b5)
    have y8 := cell_below c8 (lt_heap hE.b8)
    have y9 := cell_below c9 (lt_heap hE.b9)
    have y10 := cell_below c10 (lt_heap hE.b10)
    have yf0 := cell_below f0 (lt_heap hE.b6)
    have yf1 := cell_below f1 (lt_heap hE.b6)
    have yf2 := cell_below f2 (lt_heap hE.b6)
    have yf3 := cell_below f3 (lt_heap hE.b6)
    simp only [Nat.add_assoc, Nat.reduceAdd] at y10
    have hg1 : decide (stop < 1) = false := decide_eq_false (by omega)
    have hg2 : decide (((someT s).length : Int) < stop) = true := decide_eq_true (by omega)
    gi_wp2
    refine quiet_below (by kernel_rfl) (by kernel_rfl) ?_
    repeat (gi_big_quiet_step (first | (gi_at_call 12; go_must (rename_i X; refine (callsIn_wide.2 (bad_ex _ _ _)).mono ?_; rintro e wb ⟨rfl, hbb⟩; exact ⟨rfl, ⟨wb, Below.next X.h hbb⟩, rfl⟩))))
    refine wpQuietIn_nil ?_
    rintro W2 ⟨X, hX⟩
    have hb3 : Below W.heap.size W W2 := by rw [hX]; exact X.h
    clear hX X hwd y3 y5 y8 y9 y10 yf0 yf1 yf2 yf3
    have hE3 := hE.next hb3
    have hM3 := keep_q hM hb3
    have hK3 := hMk.next hb3
    clear c3 c5 c8 c9 c10 f0 f1 f2 f3 hE hM hMk hb3
    obtain ⟨c8, g8⟩ := one_cell hE3.b8
    gi_wp2
    rw [roundsIn_succ]
    gi_wp2
    simp only [Nat.add_assoc, Nat.reduceAdd]
    have hE4 := hE3.again 1
    have hz5 := lt_heap hE3.b10
    have hEL4 : EL w w2.heap.size W2.heap.size (W2.heap.size + 1) (.slice ao (someT s).length ac) := ⟨by omega, by omega, by omega, hEL.row⟩
    have hb34 : Below W2.heap.size W2 (((W2.alloc (intObj 1)).alloc (intObj 0)).alloc (boolObj false)) := (((Below.refl _ W2).alloc (Nat.le_refl _) _).alloc (by simp) _).alloc (by simp; omega) _
    have hMk4 : Mk [D] (((W2.alloc (intObj 1)).alloc (intObj 0)).alloc (boolObj false)) := fun D' hD' => by
      rw [List.mem_singleton] at hD'
      subst hD'
      exact keep_q hM3 hb34
    have z4 : (((W2.alloc (intObj 1)).alloc (intObj 0)).alloc (boolObj false)).heap.size = W2.heap.size + 3 := by simp
    clear c8 g8 hb34 hK3
    generalize (((W2.alloc (intObj 1)).alloc (intObj 0)).alloc (boolObj false)) = W3 at *
    have hlow : ∀ D' ∈ ([D] : List Nat), D' < W3.heap.size := fun D' hD' => by rw [List.mem_singleton] at hD'; have := lt_heap hM3; omega
    refine range_told (Bs := w2.heap.size + 2) (encs := encT) rfl (enters_of Try.func25 (by kernel_rfl) rfl) (fun _ => rfl) (by omega) (by omega) (each_tells s 3 _ (w2.heap.size + 2) W3 (by omega) hE4.bs)
      (I := fun pre W => ∃ cnt bad, EB s stop w w2.heap.size (W2.heap.size) (W2.heap.size + 1) (.slice ao (someT s).length ac) 1 cnt bad W ∧ KI s pre cnt bad ∧ Mk [D] W ∧ True) (Ix := fun _ _ _ => False) (fun pre A A' h hn => by obtain ⟨cnt, bad, h1, h2, h3, h4⟩ := h; exact ⟨cnt, bad, h1.nb (by omega) hn, h2, h3.nb hlow hn, h4⟩) (fun c pre A A' h hn => h) (fun pre x A A' h hn => nextT_nb pre x A A' h hn) ⟨0, false, hE4, KI.start s, hMk4, trivial⟩
      (Ax := fun x a' W' => ∃ Bx, W'.heap[Bx]? = some (tokObj x.1) ∧ a' = { tmps := #[.string s, .int .i64 stop, undef, .pointer (some ⟨w.heap.size, 0, none⟩), .pointer (some ⟨w.heap.size + 1, 0, none⟩), .pointer (some ⟨w2.heap.size, 0, none⟩), .pointer (some ⟨w2.heap.size + 1, 0, none⟩), .func (.func 25) #[] #[.pointer (some ⟨w2.heap.size + 2, 0, none⟩)], .pointer (some ⟨W2.heap.size, 0, none⟩), .pointer (some ⟨W2.heap.size + 1, 0, none⟩), .pointer (some ⟨W2.heap.size + 2, 0, none⟩), .pointer (some ⟨Bx, 0, none⟩), x.2, .bool true, .bool false, .tuple #[.slice ao (someT s).length ac, flt (someC s) (someP s)], .string s, .tuple #[.slice ao (someT s).length ac, flt (someC s) (someP s)], .slice ao (someT s).length ac, flt (someC s) (someP s), .string s, .func (.func 25) #[] #[.pointer (some ⟨w2.heap.size + 2, 0, none⟩)], .func (.func 25) #[] #[.pointer (some ⟨w2.heap.size + 2, 0, none⟩)], .bool false, .int .i64 1, .bool true, .int .i64 0, .int .i64 1, .func (.func 25) #[] #[.pointer (some ⟨w2.heap.size + 2, 0, none⟩)], tokV x.1, x.2, undef, undef, undef, undef, undef, undef, undef, undef, undef, undef, undef, undef, undef, undef, undef, undef, undef, undef, undef, undef, undef, undef, undef, undef, undef, undef, undef, undef, undef, undef, undef, undef, undef, undef, undef, undef, undef, undef, undef, undef, undef, undef, undef, undef, undef, .int .i64 0, .bool false, .bool false, .int .i64 stop, .bool false, .bool false, .bool false, .int .i64 stop, .slice ao (someT s).length ac, .int .i64 ((someT s).length : Int), .bool true, .bool true, .bool true, .int .i64 ((someT s).length : Int), .slice ao (someT s).length ac, .int .i64 ((someT s).length : Int), .bool false, .bool false, .bool (someC s != 0), .agg #[.int .i64 (someC s), .int .i64 (someP s), .string ⟨#[]⟩, .slice none 0 0], .bool (someC s != 0), .bool false, .bool false, .bool false, .int .i64 0], defers := [] }) (fun x a' A A' h hn => by obtain ⟨Bx, h1, h2⟩ := h; exact ⟨Bx, hn.block _ _ h1 (Or.inr rfl), h2⟩) ?assign2 ?body2 ?done2 ?stop2
    case assign2 =>
      intro l x W' K hzl hK
      gi_wp2
      exact hK _ _ (below_alloc W' _) ⟨W'.heap.size, heap_alloc_new W' _, rfl⟩
    case body2 =>
      rintro l pre x a' W' ⟨cnt, bad, hE, hK, hMk, hX⟩ ht ⟨Bx, hBx, rfl⟩
      have hcalm := ht.1
      obtain ⟨rfl, rfl⟩ := hK.still hcalm
      obtain ⟨c3, _⟩ := one_cell hE.b3
      obtain ⟨c5, _⟩ := one_cell hE.b5
      obtain ⟨c8, _⟩ := one_cell hE.b8
      obtain ⟨c9, g9⟩ := one_cell hE.b9
      obtain ⟨c10, g10⟩ := one_cell hE.b10
      obtain ⟨⟨f0, f1, f2, f3⟩, _⟩ := flt_facts hE.b6
      have zL := lt_heap hE.b5
      have zF := lt_heap hE.b6
      have zR := lt_heap hE.b8
      have zN := lt_heap hE.b9
      rcases ht.2 with ⟨r, h1, h2⟩ | ⟨h1, h2, h3, h4⟩
      · obtain ⟨xt, xe⟩ := x
        simp only at h1 h2 hBx
        subst h2
        obtain ⟨hlt, hget⟩ := next_tok h1
        have hrow := hE.row.rt
        obtain ⟨rb, ro, rc, hv⟩ := hrow.form (by omega)
        injection hv with hv1 _ hv2
        subst hv1 hv2
        obtain ⟨a0, a1, a2, a3, a4⟩ := hrow.cells (j := pre.length) hlt
        rw [hget] at a0 a1 a2 a3 a4
        obtain ⟨⟨q0, q1, q2, q3, q4⟩, _⟩ := tok_facts hBx
        have hne := tok_neq xt
        have hge : decide (((someT s).length : Int) ≤ (pre.length : Int)) = false := decide_eq_false (by omega)
        have hge2 : decide ((someT s).length ≤ pre.length) = false := decide_eq_false (by omega)
        have hgt : ¬ ((someT s).length : Int) < (pre.length : Int) := by omega
        clear hget h1 hrow
        gi_wp2
        refine quiet_in_round (by kernel_rfl) (by kernel_rfl) (by kernel_rfl) ?_
        repeat (gi_big_quiet_step (fail))
        refine wpQuietIn_nil ?_
        intro _ hw'
        obtain ⟨nq, hw''⟩ := hw'
        subst hw''
        gi_wp2
        exact ⟨(Kept.ofBelow (below_drewN (Below.refl _ _) nq)).trans (kept_setCell (by omega) (by omega)), _, _, (hE.next (below_drewN (Below.refl _ _) nq)).setN hEL4 _, KI.tok hcalm, (hMk.next (below_drewN (Below.refl _ _) nq)).set (hE.next (below_drewN (Below.refl _ _) nq)).b9, trivial⟩
      · obtain ⟨fb, hfb⟩ := h4.shape h2
        obtain ⟨xt, xe⟩ := x
        simp only at hfb h3 h4 hBx h1
        subst hfb h3
        have hlen := next_bad h1
        rw [hlen] at hE c9
        have q0 : W'.cell? ⟨Bx, 0, none⟩ = some (.int .i64 0) := (tok_facts hBx).1.1
        have q1 : W'.cell? ⟨Bx, 1, none⟩ = some (.string ⟨#[]⟩) := (tok_facts hBx).1.2.1
        have q2 : W'.cell? ⟨Bx, 2, none⟩ = some (.int .i64 0) := (tok_facts hBx).1.2.2.1
        have q3 : W'.cell? ⟨Bx, 3, none⟩ = some (.int .i64 0) := (tok_facts hBx).1.2.2.2.1
        have q4 : W'.cell? ⟨Bx, 4, none⟩ = some (.int .i64 0) := (tok_facts hBx).1.2.2.2.2
        have hne := tok0_neq
        have hxb : Bx ≠ W2.heap.size + 1 + 1 := fun e => by
          subst e
          have := hE.b10
          rw [hBx] at this
          simp [tokObj] at this
        have hEr := h4.set (u := .bool true) hE.b10
        have hE2 := hE.setB hEL4 true
        have hM2 := hMk.set (u := .bool true) hE.b10
        simp only [Nat.add_assoc, Nat.reduceAdd] at hxb
        clear h1 hBx hK hlen
        have n5 : w2.heap.size ≠ W2.heap.size + 2 := by omega
        have n6 : w2.heap.size + 1 ≠ W2.heap.size + 2 := by omega
        gi_wp2_with (gi_at_call 13; go_must (refine (callsIn_wide.2 (is_any hEr)).mono ?_; rintro e w5 ⟨rfl, hb5⟩))
        exact ⟨(kept_setCell (by omega) (by omega)).trans (Kept.ofBelow hb5), _, _, hE2.next hb5, KI.bad (fun h => by cases h) h2, hM2.next hb5, trivial⟩
    case done2 =>
      rintro D2 xs W hD2 hS ⟨cnt, bad, hE, hK, hMk, _⟩ hM
      obtain ⟨rfl, rfl⟩ := hK.done hS
      have hcc : ((someC s != 0) != (someC s != 0)) = false := by simp
      obtain ⟨c3, _⟩ := one_cell hE.b3
      obtain ⟨c5, _⟩ := one_cell hE.b5
      obtain ⟨c8, _⟩ := one_cell hE.b8
      obtain ⟨c9, _⟩ := one_cell hE.b9
      obtain ⟨c10, _⟩ := one_cell hE.b10
      obtain ⟨⟨f0, f1, f2, f3⟩, _⟩ := flt_facts hE.b6
      have hwd : Nonempty (Wd W) := ⟨⟨W, Below.refl _ _⟩⟩
      have y3 := cell_below c3 (lt_heap hE.b3)
      have y5 := cell_below c5 (lt_heap hE.b5)
      have y8 := cell_below c8 (lt_heap hE.b8)
      have y9 := cell_below c9 (lt_heap hE.b9)
      have y10 := cell_below c10 (lt_heap hE.b10)
      have yf0 := cell_below f0 (lt_heap hE.b6)
      have yf1 := cell_below f1 (lt_heap hE.b6)
      have yf2 := cell_below f2 (lt_heap hE.b6)
      have yf3 := cell_below f3 (lt_heap hE.b6)
      simp only [Nat.add_assoc, Nat.reduceAdd] at y10
      gi_wp2
      refine quiet_below (by kernel_rfl) (by kernel_rfl) ?_
      repeat (gi_big_quiet_step (first | (gi_at_call 12; go_must (rename_i X; refine (callsIn_wide.2 (bad_ex _ _ _)).mono ?_; rintro e wb ⟨rfl, hbb⟩; exact ⟨rfl, ⟨wb, Below.next X.h hbb⟩, rfl⟩))))
      refine wpQuietIn_nil ?_
      rintro W5 ⟨X, hX⟩
      have hb3 : Below W.heap.size W W5 := by rw [hX]; exact X.h
      clear hX X hwd y3 y5 y8 y9 y10 yf0 yf1 yf2 yf3
      have hE3 := hE.next hb3
      have hM3 := keep_q hM hb3
      have hK3 := hMk.next hb3
      clear c3 c5 c8 c9 c10 f0 f1 f2 f3 hE hM hMk hb3
      obtain ⟨c8, g8⟩ := one_cell hE3.b8
      obtain ⟨c4, g4⟩ := one_cell hE3.b4
      have hz6 := lt_heap hE3.b4
      have hz7 := hE3.below.size
      have hDl := hlow D (by simp)
      gi_wp2
      rw [roundsIn_succ]
      gi_wp2
      have m1 : W5.heap[D]? = some (.deferred (some [])) := hK3 D (by simp)
      have e1 := alloc_at (o := intObj 2) (one_far (b := w.heap.size + 1) (u := .bool true) m1 (by omega))
      have e2 := alloc_at (o := intObj 2) (one_far (b := w.heap.size + 1) (u := .bool true) hM3 (by omega))
      have e4 := alloc_at (o := intObj 2) (one_set (.bool true) hE3.b4)
      have hB8 : Below w.heap.size w ((W5.setCell ⟨w.heap.size + 1, 0, none⟩ (.bool true)).alloc (intObj 2)) := (hE3.below.setCell (p := ⟨w.heap.size + 1, 0, none⟩) (by show w.heap.size ≤ w.heap.size + 1; omega) _).alloc (by simp; omega) _
      generalize (W5.setCell ⟨w.heap.size + 1, 0, none⟩ (.bool true)).alloc (intObj 2) = W8 at *
      have n9 := Nb.mark (B := w.heap.size + 2) (D := D2) (by omega) e2
      have m9 : (W8.putObj D2 (.deferred none)).heap[D]? = some (.deferred (some [])) := (World.putObj_heap_other (by omega)).trans e1
      have n10 := Nb.mark (B := w.heap.size + 2) (by omega) m9
      have k4 := n10.block _ _ (n9.block _ _ e4 (Or.inl (by omega))) (Or.inl (by omega))
      have e3 := n10.below (n9.below hB8 (by omega) (Nat.le_refl _)) (by omega) (Nat.le_refl _)
      obtain ⟨d0, _⟩ := one_cell k4
      refine ⟨by simp, .inl ⟨_, _, rfl, run_takeDeferred e2, ⟨by simp, .inl ⟨_, _, rfl, run_takeDeferred m9, ?_⟩⟩⟩⟩
      refine ⟨.bool true, ?_, rfl, e3⟩
      simp [results, Try.results4, go_sem, d0]
    case stop2 =>
      rintro D c pre W _ h _
      exact h.elim
  case stop1 =>
    rintro D c pre W _ h _
    exact h.elim
set_option maxRecDepth 100000 in
set_option maxHeartbeats 8000000 in
theorem lexEach_a (s : ByteArray) (stop : Int) (w : World) (hst : 1 ≤ stop ∧ stop ≤ ((someT s).length : Int)) :
    CallsIn Fence.wide 4 Try.prog 4 #[.string s, .int .i64 stop] w fun e w' => e = .returned (.bool true) ∧ Below w.heap.size w w' := by
  have f25 : Fence.wide.fn 25 := trivial
  have f15 : Fence.wide.fn 15 := trivial
  have f9 : Fence.wide.fn 9 := trivial
  have f11 : Fence.wide.fn 11 := trivial
  have f13 : Fence.wide.fn 13 := trivial
  have f12 : Fence.wide.fn 12 := trivial
  have hea := fun W => callsIn_wide (n := 3) |>.2 (each_any s W)
  have hli := fun W => callsIn_wide (n := 3) |>.2 (lives_any W)
  have hso := fun W => callsIn_wide (n := 3) |>.2 (rsome_any s W)
  have hml := someT_le s
  have hfn := func_nil
  refine callsIn_of_wp_marks Try.func4 rfl trivial ?_ rfl
  simp only [Try.ntmps4, List.size_toArray, List.length_cons, List.length_nil, Nat.reduceAdd, Nat.reduceSub, Array.replicate_succ, Array.replicate_zero, List.push_toArray, List.append_toArray, List.nil_append, List.cons_append]
  gi_wp2_with (first
    | (gi_at_call 9; go_must (refine (hli _).mono ?_; rintro e w1 ⟨rfl, hb1⟩))
    | (gi_at_call 11; go_must (refine (hso _).mono ?_; rintro e w2 ⟨v, rfl, hT2, hb2⟩; have hR2 := hT2.rt; obtain ⟨ao, ac, rfl⟩ : ∃ ao c, v = .slice ao (someT s).length c := (by obtain ⟨ao, c, h, _⟩ := hR2; exact ⟨ao, c, h⟩)))
    | (gi_at_call 15; go_must (refine (hea _).mono ?_; rintro e w' ⟨rfl, rfl⟩)))
  refine wpIn_loop_rounds 3 ?_
  rw [roundsIn_succ]
  gi_wp2
  simp only [Nat.add_assoc, Nat.reduceAdd]
  have k3 : w1.heap[w.heap.size]? = some (intObj stop) := keep_q (by rw [Below.heap_alloc _ _ _ (by simp)]; exact heap_alloc_new w _) hb1
  have k4 : w1.heap[w.heap.size + 1]? = some (boolObj false) := keep_q (by have := heap_alloc_new (w.alloc (intObj stop)) (boolObj false); simpa using this) hb1
  have hbw1 : Below w.heap.size w w1 := (((Below.refl _ w).alloc (Nat.le_refl _) _).alloc (by simp) _).trans (hb1.mono (by simp; omega))
  have hz1 : w.heap.size + 2 ≤ w1.heap.size := by have := hb1.size; simp at this; omega
  have hz2 := hb2.size
  clear hR2 hea hli hso
  obtain ⟨W0, hW0⟩ : ∃ W0, ((((((w2.alloc (resObj (.slice ao (someT s).length ac))).alloc (.cells #[.int .i64 (someC s), .int .i64 (someP s), .string ⟨#[]⟩, .slice none 0 0] 30)).alloc (srcObj s)).alloc (intObj 0)).alloc (intObj 0)).alloc (boolObj false)) = W0 := ⟨_, rfl⟩
  have z0 : W0.heap.size = w2.heap.size + 6 := by rw [← hW0]; simp
  have hEL : EL w w2.heap.size (w2.heap.size + 3) (w2.heap.size + 4) (.slice ao (someT s).length ac) := ⟨by omega, by omega, by omega, fun k hk => (hT2.lt k hk).2⟩
  have hb20 : Below w2.heap.size w2 W0 := by
    rw [← hW0]
    exact (((((((Below.refl _ w2).alloc (Nat.le_refl _) _).alloc (by simp) _).alloc (by simp; omega) _).alloc (by simp; omega) _).alloc (by simp; omega) _).alloc (by simp; omega) _)
  have hE0 : EB s stop w w2.heap.size (w2.heap.size + 3) (w2.heap.size + 4) (.slice ao (someT s).length ac) 0 0 false W0 := by
    obtain ⟨n0, n1, n2, n3, n4, n5⟩ := six_new w2 (resObj (.slice ao (someT s).length ac)) (.cells #[.int .i64 (someC s), .int .i64 (someP s), .string ⟨#[]⟩, .slice none 0 0] 30) (srcObj s) (intObj 0) (intObj 0) (boolObj false)
    rw [hW0] at n0 n1 n2 n3 n4 n5
    exact ⟨keep_q (keep_q k3 hb2) hb20, keep_q (keep_q k4 hb2) hb20, n0, n1, n2, n3, n4, n5, own_base (own_below hT2 hb20) (by omega), (hbw1.trans (hb2.mono hbw1.size)).trans (hb20.mono (Nat.le_trans hbw1.size hz2))⟩
  rw [hW0]
  clear hW0
  have hMk0 : Mk [] W0 := fun D hD => by simp at hD
  have hlow : ∀ D' ∈ ([] : List Nat), D' < W0.heap.size := fun D hD => by simp at hD
  refine range_told (Bs := w2.heap.size + 2) (encs := encT) rfl (enters_of Try.func25 (by kernel_rfl) rfl) (fun _ => rfl) (by omega) (by omega) (each_tells s 3 _ (w2.heap.size + 2) W0 (by omega) hE0.bs)
    (I := fun pre W => ∃ cnt bad, EB s stop w w2.heap.size (w2.heap.size + 3) (w2.heap.size + 4) (.slice ao (someT s).length ac) 0 cnt bad W ∧ KI s pre cnt bad ∧ Mk [] W ∧ cnt < stop) (Ix := fun c _ W => c = .exit 2 ∧ ∃ cnt, EB s stop w w2.heap.size (w2.heap.size + 3) (w2.heap.size + 4) (.slice ao (someT s).length ac) 0 cnt false W ∧ Mk [] W) (fun pre A A' h hn => by obtain ⟨cnt, bad, h1, h2, h3, h4⟩ := h; exact ⟨cnt, bad, h1.nb (by omega) hn, h2, h3.nb hlow hn, h4⟩) (fun c pre A A' h hn => by obtain ⟨h0, cnt, h1, h2⟩ := h; exact ⟨h0, cnt, h1.nb (by omega) hn, h2.nb hlow hn⟩) (fun pre x A A' h hn => nextT_nb pre x A A' h hn) ⟨0, false, hE0, KI.start s, hMk0, by omega⟩
    (Ax := fun x a' W' => ∃ Bx, W'.heap[Bx]? = some (tokObj x.1) ∧ a' = { tmps := #[.string s, .int .i64 stop, undef, .pointer (some ⟨w.heap.size, 0, none⟩), .pointer (some ⟨w.heap.size + 1, 0, none⟩), .pointer (some ⟨w2.heap.size, 0, none⟩), .pointer (some ⟨w2.heap.size + 1, 0, none⟩), .func (.func 25) #[] #[.pointer (some ⟨w2.heap.size + 2, 0, none⟩)], .pointer (some ⟨w2.heap.size + 3, 0, none⟩), .pointer (some ⟨w2.heap.size + 4, 0, none⟩), .pointer (some ⟨w2.heap.size + 5, 0, none⟩), .pointer (some ⟨Bx, 0, none⟩), x.2, .bool true, .bool false, .tuple #[.slice ao (someT s).length ac, flt (someC s) (someP s)], .string s, .tuple #[.slice ao (someT s).length ac, flt (someC s) (someP s)], .slice ao (someT s).length ac, flt (someC s) (someP s), .string s, .func (.func 25) #[] #[.pointer (some ⟨w2.heap.size + 2, 0, none⟩)], .func (.func 25) #[] #[.pointer (some ⟨w2.heap.size + 2, 0, none⟩)], .bool false, .int .i64 0, .bool true, undef, undef, .func (.func 25) #[] #[.pointer (some ⟨w2.heap.size + 2, 0, none⟩)], tokV x.1, x.2, undef, undef, undef, undef, undef, undef, undef, undef, undef, undef, undef, undef, undef, undef, undef, undef, undef, undef, undef, undef, undef, undef, undef, undef, undef, undef, undef, undef, undef, undef, undef, undef, undef, undef, undef, undef, undef, undef, undef, undef, undef, undef, undef, undef, undef, undef, undef, undef, undef, undef, undef, undef, undef, undef, undef, undef, undef, undef, undef, undef, undef, undef, undef, undef, undef, undef, undef, undef, undef, undef], defers := [] }) (fun x a' A A' h hn => by obtain ⟨Bx, h1, h2⟩ := h; exact ⟨Bx, hn.block _ _ h1 (Or.inr rfl), h2⟩) ?assign1 ?body1 ?done1 ?stop1
  case assign1 =>
    intro l x W' K hzl hK
    gi_wp2
    exact hK _ _ (below_alloc W' _) ⟨W'.heap.size, heap_alloc_new W' _, rfl⟩
  case body1 =>
    rintro l pre x a' W' ⟨cnt, bad, hE, hK, hMk, hX⟩ ht ⟨Bx, hBx, rfl⟩
    have hcalm := ht.1
    obtain ⟨rfl, rfl⟩ := hK.still hcalm
    obtain ⟨c3, _⟩ := one_cell hE.b3
    obtain ⟨c5, _⟩ := one_cell hE.b5
    obtain ⟨c8, _⟩ := one_cell hE.b8
    obtain ⟨c9, g9⟩ := one_cell hE.b9
    obtain ⟨c10, g10⟩ := one_cell hE.b10
    obtain ⟨⟨f0, f1, f2, f3⟩, _⟩ := flt_facts hE.b6
    have zL := lt_heap hE.b5
    have zF := lt_heap hE.b6
    have zR := lt_heap hE.b8
    have zN := lt_heap hE.b9
    rcases ht.2 with ⟨r, h1, h2⟩ | ⟨h1, h2, h3, h4⟩
    · obtain ⟨xt, xe⟩ := x
      simp only at h1 h2 hBx
      subst h2
      obtain ⟨hlt, hget⟩ := next_tok h1
      have hrow := hE.row.rt
      obtain ⟨rb, ro, rc, hv⟩ := hrow.form (by omega)
      injection hv with hv1 _ hv2
      subst hv1 hv2
      obtain ⟨a0, a1, a2, a3, a4⟩ := hrow.cells (j := pre.length) hlt
      rw [hget] at a0 a1 a2 a3 a4
      obtain ⟨⟨q0, q1, q2, q3, q4⟩, _⟩ := tok_facts hBx
      have hne := tok_neq xt
      have hge : decide (((someT s).length : Int) ≤ (pre.length : Int)) = false := decide_eq_false (by omega)
      have hge2 : decide ((someT s).length ≤ pre.length) = false := decide_eq_false (by omega)
      have hgt : ¬ ((someT s).length : Int) < (pre.length : Int) := by omega
      clear hget h1 hrow
      by_cases hbr : (pre.length : Int) + 1 = stop
      · have htk : ((pre.length : Int) + 1 == stop) = true := beq_iff_eq.2 hbr
        gi_wp2
        refine quiet_in_round (by kernel_rfl) (by kernel_rfl) (by kernel_rfl) ?_
        repeat (gi_big_quiet_step (fail))
        refine wpQuietIn_nil ?_
        intro _ hw'
        obtain ⟨nq, hw''⟩ := hw'
        subst hw''
        gi_wp2
        exact ⟨(Kept.ofBelow (below_drewN (Below.refl _ _) nq)).trans (kept_setCell (by omega) (by omega)), rfl, _, (hE.next (below_drewN (Below.refl _ _) nq)).setN hEL _, (hMk.next (below_drewN (Below.refl _ _) nq)).set (hE.next (below_drewN (Below.refl _ _) nq)).b9⟩
      · have htk : ((pre.length : Int) + 1 == stop) = false := beq_eq_false_iff_ne.2 hbr
        gi_wp2
        refine quiet_in_round (by kernel_rfl) (by kernel_rfl) (by kernel_rfl) ?_
        repeat (gi_big_quiet_step (fail))
        refine wpQuietIn_nil ?_
        intro _ hw'
        obtain ⟨nq, hw''⟩ := hw'
        subst hw''
        gi_wp2
        exact ⟨(Kept.ofBelow (below_drewN (Below.refl _ _) nq)).trans (kept_setCell (by omega) (by omega)), _, _, (hE.next (below_drewN (Below.refl _ _) nq)).setN hEL _, KI.tok hcalm, (hMk.next (below_drewN (Below.refl _ _) nq)).set (hE.next (below_drewN (Below.refl _ _) nq)).b9, by omega⟩
    · have hlen := next_bad h1
      omega
  case done1 =>
    rintro D xs W hD hS ⟨cnt, bad, hE, hK, hMk, hX⟩ hM
    obtain ⟨rfl, rfl⟩ := hK.done hS
    omega
  case stop1 =>
    rintro D c pre W hD ⟨rfl, cnt, hE, hMk⟩ hM
    obtain ⟨c3, _⟩ := one_cell hE.b3
    obtain ⟨c5, _⟩ := one_cell hE.b5
    obtain ⟨c8, _⟩ := one_cell hE.b8
    obtain ⟨c9, _⟩ := one_cell hE.b9
    obtain ⟨c10, _⟩ := one_cell hE.b10
    obtain ⟨⟨f0, f1, f2, f3⟩, _⟩ := flt_facts hE.b6
    have hwd : Nonempty (Wd W) := ⟨⟨W, Below.refl _ _⟩⟩
    have y3 := cell_below c3 (lt_heap hE.b3)
    have y5 := cell_below c5 (lt_heap hE.b5)
    have y8 := cell_below c8 (lt_heap hE.b8)
    have y9 := cell_below c9 (lt_heap hE.b9)
    have y10 := cell_below c10 (lt_heap hE.b10)
    have yf0 := cell_below f0 (lt_heap hE.b6)
    have yf1 := cell_below f1 (lt_heap hE.b6)
    have yf2 := cell_below f2 (lt_heap hE.b6)
    have yf3 := cell_below f3 (lt_heap hE.b6)
    simp only [Nat.add_assoc, Nat.reduceAdd] at y10
    have hg1 : decide (stop < 1) = false := decide_eq_false (by omega)
    have hg2 : decide (((someT s).length : Int) < stop) = false := decide_eq_false (by omega)
    gi_wp2
    refine quiet_below (by kernel_rfl) (by kernel_rfl) ?_
    repeat (gi_big_quiet_step (fail))
    refine wpQuietIn_nil ?_
    rintro W2 ⟨X, hX⟩
    have hb3 : Below W.heap.size W W2 := by rw [hX]; exact X.h
    clear hX X hwd y3 y5 y8 y9 y10 yf0 yf1 yf2 yf3
    have hE3 := hE.next hb3
    have hM3 := keep_q hM hb3
    have hK3 := hMk.next hb3
    clear c3 c5 c8 c9 c10 f0 f1 f2 f3 hE hM hMk hb3
    obtain ⟨c8, g8⟩ := one_cell hE3.b8
    gi_wp2
    rw [roundsIn_succ]
    gi_wp2
    simp only [Nat.add_assoc, Nat.reduceAdd]
    have hE4 := hE3.again 1
    have hz5 := lt_heap hE3.b10
    have hEL4 : EL w w2.heap.size W2.heap.size (W2.heap.size + 1) (.slice ao (someT s).length ac) := ⟨by omega, by omega, by omega, hEL.row⟩
    have hb34 : Below W2.heap.size W2 (((W2.alloc (intObj 1)).alloc (intObj 0)).alloc (boolObj false)) := (((Below.refl _ W2).alloc (Nat.le_refl _) _).alloc (by simp) _).alloc (by simp; omega) _
    have hMk4 : Mk [D] (((W2.alloc (intObj 1)).alloc (intObj 0)).alloc (boolObj false)) := fun D' hD' => by
      rw [List.mem_singleton] at hD'
      subst hD'
      exact keep_q hM3 hb34
    have z4 : (((W2.alloc (intObj 1)).alloc (intObj 0)).alloc (boolObj false)).heap.size = W2.heap.size + 3 := by simp
    clear c8 g8 hb34 hK3
    generalize (((W2.alloc (intObj 1)).alloc (intObj 0)).alloc (boolObj false)) = W3 at *
    have hlow : ∀ D' ∈ ([D] : List Nat), D' < W3.heap.size := fun D' hD' => by rw [List.mem_singleton] at hD'; have := lt_heap hM3; omega
    refine range_told (Bs := w2.heap.size + 2) (encs := encT) rfl (enters_of Try.func25 (by kernel_rfl) rfl) (fun _ => rfl) (by omega) (by omega) (each_tells s 3 _ (w2.heap.size + 2) W3 (by omega) hE4.bs)
      (I := fun pre W => ∃ cnt bad, EB s stop w w2.heap.size (W2.heap.size) (W2.heap.size + 1) (.slice ao (someT s).length ac) 1 cnt bad W ∧ KI s pre cnt bad ∧ Mk [D] W ∧ True) (Ix := fun _ _ _ => False) (fun pre A A' h hn => by obtain ⟨cnt, bad, h1, h2, h3, h4⟩ := h; exact ⟨cnt, bad, h1.nb (by omega) hn, h2, h3.nb hlow hn, h4⟩) (fun c pre A A' h hn => h) (fun pre x A A' h hn => nextT_nb pre x A A' h hn) ⟨0, false, hE4, KI.start s, hMk4, trivial⟩
      (Ax := fun x a' W' => ∃ Bx, W'.heap[Bx]? = some (tokObj x.1) ∧ a' = { tmps := #[.string s, .int .i64 stop, undef, .pointer (some ⟨w.heap.size, 0, none⟩), .pointer (some ⟨w.heap.size + 1, 0, none⟩), .pointer (some ⟨w2.heap.size, 0, none⟩), .pointer (some ⟨w2.heap.size + 1, 0, none⟩), .func (.func 25) #[] #[.pointer (some ⟨w2.heap.size + 2, 0, none⟩)], .pointer (some ⟨W2.heap.size, 0, none⟩), .pointer (some ⟨W2.heap.size + 1, 0, none⟩), .pointer (some ⟨W2.heap.size + 2, 0, none⟩), .pointer (some ⟨Bx, 0, none⟩), x.2, .bool true, .bool false, .tuple #[.slice ao (someT s).length ac, flt (someC s) (someP s)], .string s, .tuple #[.slice ao (someT s).length ac, flt (someC s) (someP s)], .slice ao (someT s).length ac, flt (someC s) (someP s), .string s, .func (.func 25) #[] #[.pointer (some ⟨w2.heap.size + 2, 0, none⟩)], .func (.func 25) #[] #[.pointer (some ⟨w2.heap.size + 2, 0, none⟩)], .bool false, .int .i64 1, .bool true, .int .i64 0, .int .i64 1, .func (.func 25) #[] #[.pointer (some ⟨w2.heap.size + 2, 0, none⟩)], tokV x.1, x.2, undef, undef, undef, undef, undef, undef, undef, undef, undef, undef, undef, undef, undef, undef, undef, undef, undef, undef, undef, undef, undef, undef, undef, undef, undef, undef, undef, undef, undef, undef, undef, undef, undef, undef, undef, undef, undef, undef, undef, undef, undef, undef, undef, undef, undef, .int .i64 0, .bool false, .bool false, .int .i64 stop, .bool false, .bool false, .bool false, .int .i64 stop, .slice ao (someT s).length ac, .int .i64 ((someT s).length : Int), .bool false, .bool false, .bool false, undef, undef, undef, undef, undef, undef, undef, undef, undef, undef, .bool false, .int .i64 0], defers := [] }) (fun x a' A A' h hn => by obtain ⟨Bx, h1, h2⟩ := h; exact ⟨Bx, hn.block _ _ h1 (Or.inr rfl), h2⟩) ?assign2 ?body2 ?done2 ?stop2
    case assign2 =>
      intro l x W' K hzl hK
      gi_wp2
      exact hK _ _ (below_alloc W' _) ⟨W'.heap.size, heap_alloc_new W' _, rfl⟩
    case body2 =>
      rintro l pre x a' W' ⟨cnt, bad, hE, hK, hMk, hX⟩ ht ⟨Bx, hBx, rfl⟩
      have hcalm := ht.1
      obtain ⟨rfl, rfl⟩ := hK.still hcalm
      obtain ⟨c3, _⟩ := one_cell hE.b3
      obtain ⟨c5, _⟩ := one_cell hE.b5
      obtain ⟨c8, _⟩ := one_cell hE.b8
      obtain ⟨c9, g9⟩ := one_cell hE.b9
      obtain ⟨c10, g10⟩ := one_cell hE.b10
      obtain ⟨⟨f0, f1, f2, f3⟩, _⟩ := flt_facts hE.b6
      have zL := lt_heap hE.b5
      have zF := lt_heap hE.b6
      have zR := lt_heap hE.b8
      have zN := lt_heap hE.b9
      rcases ht.2 with ⟨r, h1, h2⟩ | ⟨h1, h2, h3, h4⟩
      · obtain ⟨xt, xe⟩ := x
        simp only at h1 h2 hBx
        subst h2
        obtain ⟨hlt, hget⟩ := next_tok h1
        have hrow := hE.row.rt
        obtain ⟨rb, ro, rc, hv⟩ := hrow.form (by omega)
        injection hv with hv1 _ hv2
        subst hv1 hv2
        obtain ⟨a0, a1, a2, a3, a4⟩ := hrow.cells (j := pre.length) hlt
        rw [hget] at a0 a1 a2 a3 a4
        obtain ⟨⟨q0, q1, q2, q3, q4⟩, _⟩ := tok_facts hBx
        have hne := tok_neq xt
        have hge : decide (((someT s).length : Int) ≤ (pre.length : Int)) = false := decide_eq_false (by omega)
        have hge2 : decide ((someT s).length ≤ pre.length) = false := decide_eq_false (by omega)
        have hgt : ¬ ((someT s).length : Int) < (pre.length : Int) := by omega
        clear hget h1 hrow
        gi_wp2
        refine quiet_in_round (by kernel_rfl) (by kernel_rfl) (by kernel_rfl) ?_
        repeat (gi_big_quiet_step (fail))
        refine wpQuietIn_nil ?_
        intro _ hw'
        obtain ⟨nq, hw''⟩ := hw'
        subst hw''
        gi_wp2
        exact ⟨(Kept.ofBelow (below_drewN (Below.refl _ _) nq)).trans (kept_setCell (by omega) (by omega)), _, _, (hE.next (below_drewN (Below.refl _ _) nq)).setN hEL4 _, KI.tok hcalm, (hMk.next (below_drewN (Below.refl _ _) nq)).set (hE.next (below_drewN (Below.refl _ _) nq)).b9, trivial⟩
      · obtain ⟨fb, hfb⟩ := h4.shape h2
        obtain ⟨xt, xe⟩ := x
        simp only at hfb h3 h4 hBx h1
        subst hfb h3
        have hlen := next_bad h1
        rw [hlen] at hE c9
        have q0 : W'.cell? ⟨Bx, 0, none⟩ = some (.int .i64 0) := (tok_facts hBx).1.1
        have q1 : W'.cell? ⟨Bx, 1, none⟩ = some (.string ⟨#[]⟩) := (tok_facts hBx).1.2.1
        have q2 : W'.cell? ⟨Bx, 2, none⟩ = some (.int .i64 0) := (tok_facts hBx).1.2.2.1
        have q3 : W'.cell? ⟨Bx, 3, none⟩ = some (.int .i64 0) := (tok_facts hBx).1.2.2.2.1
        have q4 : W'.cell? ⟨Bx, 4, none⟩ = some (.int .i64 0) := (tok_facts hBx).1.2.2.2.2
        have hne := tok0_neq
        have hxb : Bx ≠ W2.heap.size + 1 + 1 := fun e => by
          subst e
          have := hE.b10
          rw [hBx] at this
          simp [tokObj] at this
        have hEr := h4.set (u := .bool true) hE.b10
        have hE2 := hE.setB hEL4 true
        have hM2 := hMk.set (u := .bool true) hE.b10
        simp only [Nat.add_assoc, Nat.reduceAdd] at hxb
        clear h1 hBx hK hlen
        have n5 : w2.heap.size ≠ W2.heap.size + 2 := by omega
        have n6 : w2.heap.size + 1 ≠ W2.heap.size + 2 := by omega
        gi_wp2_with (gi_at_call 13; go_must (refine (callsIn_wide.2 (is_any hEr)).mono ?_; rintro e w5 ⟨rfl, hb5⟩))
        exact ⟨(kept_setCell (by omega) (by omega)).trans (Kept.ofBelow hb5), _, _, hE2.next hb5, KI.bad (fun h => by cases h) h2, hM2.next hb5, trivial⟩
    case done2 =>
      rintro D2 xs W hD2 hS ⟨cnt, bad, hE, hK, hMk, _⟩ hM
      obtain ⟨rfl, rfl⟩ := hK.done hS
      have hcc : ((someC s != 0) != (someC s != 0)) = false := by simp
      obtain ⟨c3, _⟩ := one_cell hE.b3
      obtain ⟨c5, _⟩ := one_cell hE.b5
      obtain ⟨c8, _⟩ := one_cell hE.b8
      obtain ⟨c9, _⟩ := one_cell hE.b9
      obtain ⟨c10, _⟩ := one_cell hE.b10
      obtain ⟨⟨f0, f1, f2, f3⟩, _⟩ := flt_facts hE.b6
      have hwd : Nonempty (Wd W) := ⟨⟨W, Below.refl _ _⟩⟩
      have y3 := cell_below c3 (lt_heap hE.b3)
      have y5 := cell_below c5 (lt_heap hE.b5)
      have y8 := cell_below c8 (lt_heap hE.b8)
      have y9 := cell_below c9 (lt_heap hE.b9)
      have y10 := cell_below c10 (lt_heap hE.b10)
      have yf0 := cell_below f0 (lt_heap hE.b6)
      have yf1 := cell_below f1 (lt_heap hE.b6)
      have yf2 := cell_below f2 (lt_heap hE.b6)
      have yf3 := cell_below f3 (lt_heap hE.b6)
      simp only [Nat.add_assoc, Nat.reduceAdd] at y10
      gi_wp2
      refine quiet_below (by kernel_rfl) (by kernel_rfl) ?_
      repeat (gi_big_quiet_step (first | (gi_at_call 12; go_must (rename_i X; refine (callsIn_wide.2 (bad_ex _ _ _)).mono ?_; rintro e wb ⟨rfl, hbb⟩; exact ⟨rfl, ⟨wb, Below.next X.h hbb⟩, rfl⟩))))
      refine wpQuietIn_nil ?_
      rintro W5 ⟨X, hX⟩
      have hb3 : Below W.heap.size W W5 := by rw [hX]; exact X.h
      clear hX X hwd y3 y5 y8 y9 y10 yf0 yf1 yf2 yf3
      have hE3 := hE.next hb3
      have hM3 := keep_q hM hb3
      have hK3 := hMk.next hb3
      clear c3 c5 c8 c9 c10 f0 f1 f2 f3 hE hM hMk hb3
      obtain ⟨c8, g8⟩ := one_cell hE3.b8
      obtain ⟨c4, g4⟩ := one_cell hE3.b4
      have hz6 := lt_heap hE3.b4
      have hz7 := hE3.below.size
      have hDl := hlow D (by simp)
      gi_wp2
      rw [roundsIn_succ]
      gi_wp2
      have m1 : W5.heap[D]? = some (.deferred (some [])) := hK3 D (by simp)
      have e1 := alloc_at (o := intObj 2) (one_far (b := w.heap.size + 1) (u := .bool true) m1 (by omega))
      have e2 := alloc_at (o := intObj 2) (one_far (b := w.heap.size + 1) (u := .bool true) hM3 (by omega))
      have e4 := alloc_at (o := intObj 2) (one_set (.bool true) hE3.b4)
      have hB8 : Below w.heap.size w ((W5.setCell ⟨w.heap.size + 1, 0, none⟩ (.bool true)).alloc (intObj 2)) := (hE3.below.setCell (p := ⟨w.heap.size + 1, 0, none⟩) (by show w.heap.size ≤ w.heap.size + 1; omega) _).alloc (by simp; omega) _
      generalize (W5.setCell ⟨w.heap.size + 1, 0, none⟩ (.bool true)).alloc (intObj 2) = W8 at *
      have n9 := Nb.mark (B := w.heap.size + 2) (D := D2) (by omega) e2
      have m9 : (W8.putObj D2 (.deferred none)).heap[D]? = some (.deferred (some [])) := (World.putObj_heap_other (by omega)).trans e1
      have n10 := Nb.mark (B := w.heap.size + 2) (by omega) m9
      have k4 := n10.block _ _ (n9.block _ _ e4 (Or.inl (by omega))) (Or.inl (by omega))
      have e3 := n10.below (n9.below hB8 (by omega) (Nat.le_refl _)) (by omega) (Nat.le_refl _)
      obtain ⟨d0, _⟩ := one_cell k4
      refine ⟨by simp, .inl ⟨_, _, rfl, run_takeDeferred e2, ⟨by simp, .inl ⟨_, _, rfl, run_takeDeferred m9, ?_⟩⟩⟩⟩
      refine ⟨.bool true, ?_, rfl, e3⟩
      simp [results, Try.results4, go_sem, d0]
    case stop2 =>
      rintro D c pre W _ h _
      exact h.elim
theorem lexEach_walk (s : ByteArray) (_hs : s.size ≤ 281474976710656) (stop : Int) (_hn : -9223372036854775808 ≤ stop ∧ stop ≤ 9223372036854775807) {W : World} :
    Calls Try.prog 4 #[.string s, .int .i64 stop] W fun e w' => e = .returned (.bool true) ∧ Below W.heap.size W w' := by
  by_cases h1 : stop < 1
  · exact callsIn_wide.1 (lexEach_b s stop W h1)
  · by_cases h2 : ((someT s).length : Int) < stop
    · exact callsIn_wide.1 (lexEach_c s stop W ⟨by omega, h2⟩)
    · exact callsIn_wide.1 (lexEach_a s stop W ⟨by omega, by omega⟩)
end Go.Proofs.Ytanjgppdjdcnaaa
