/- BisimCopies, walked at every graph. -/
import Derived.Test.YtcgkmenlacinjaaBiCopMZ
import Derived.Test.YtcgkmenlacinjaaBiBZ
import Derived.Test.YtcgkmenlacinjaaGrVars
import Derived.Deep.QuietTactic
import Derived.BigQuiet
namespace Go.Proofs.Ytcgkmenlacinjaa
open Go.RowKit

theorem rg_same {w : World} {nv rv : Value} {a : Gf} (hG : Gr w nv rv a) :
    Rg (w.alloc (.cells #[nv, rv, nv, rv] 25)) (.slice (some ⟨w.heap.size, 0, none⟩) 2 2) [a, a] := by
  have hb := below_alloc w (.cells #[nv, rv, nv, rv] 25)
  refine ⟨_, 2, rfl, fun j hj => ?_⟩
  have hj' : j = 0 ∨ j = 1 := by simp at hj; omega
  rcases hj' with rfl | rfl
  · exact ⟨_, 0, nv, rv, rfl, by simp [go_sem], by simp [go_sem], hG.below hb⟩
  · exact ⟨_, 0, nv, rv, rfl, by simp [go_sem], by simp [go_sem], hG.below hb⟩
theorem join_same {w : World} {nv rv : Value} {a : Gf} (hG : Gr w nv rv a) (hS : Sized a) (hc : joinC [a, a] = []) :
    Calls Try.prog 23 #[.slice (some ⟨w.heap.size, 0, none⟩) 2 2] (w.alloc (.cells #[nv, rv, nv, rv] 25)) fun e w' => (∃ na nc ra rc, e = .returned (.tuple #[.agg #[.slice na (joinS a a).nodes.length nc, .slice ra (joinS a a).roots.length rc], .nilIface]) ∧ Gr w' (.slice na (joinS a a).nodes.length nc) (.slice ra (joinS a a).roots.length rc) (joinS a a)) ∧ Below w.heap.size w w' := by
  refine (join_any (rg_same hG) (fun g hg => by simp at hg; rw [hg]; exact hS) (by simp)).mono ?_
  rintro e w' (⟨h, _⟩ | ⟨_, ⟨nv', rv', avs, rfl, hO⟩, hb⟩)
  · exact absurd hc h
  · rw [join_two] at hO
    have hgr := hO.gr
    obtain ⟨na, nc, rfl⟩ := hO.nsl
    obtain ⟨ra, rc, rfl, _⟩ := hO.r
    exact ⟨⟨na, nc, ra, rc, rfl, hgr⟩, Below.next (below_alloc w _) hb⟩
theorem gr_root {w : World} {na : Option Addr} {nc : Nat} {rv : Value} {g : Gf} {i : Nat} (hG : Gr w (.slice na g.nodes.length nc) rv g) (u : Obj) :
    Gr ((w.alloc (.cells #[.int .i64 (i : Int)] 3)).alloc u) (.slice na g.nodes.length nc) (.slice (some ⟨w.heap.size, 0, none⟩) 1 1) (rootAt g i) := by
  have hb : Below w.heap.size w ((w.alloc (.cells #[.int .i64 (i : Int)] 3)).alloc u) := (below_alloc w _).alloc (by simp) _
  refine ⟨hG.1.below hb, some ⟨w.heap.size, 0, none⟩, 1, rfl, fun j hj => ⟨_, _, rfl, ?_⟩⟩
  have hj' : j = 0 := by
    have : j < 1 := hj
    omega
  subst hj'
  have h := heap_alloc_new w (.cells #[.int .i64 (i : Int)] 3)
  have h2 : ((w.alloc (.cells #[.int .i64 (i : Int)] 3)).alloc u).heap[w.heap.size]? = some (.cells #[.int .i64 (i : Int)] 3) := by
    rw [Below.heap_alloc _ _ _ (by simp)]
    exact h
  simp [World.cell?, h2, rootAt]
set_option maxRecDepth 100000 in
set_option maxHeartbeats 2000000 in
theorem copies_short {W : World} {nv rv : Value} {g : Gf} (hG : Gr W nv rv g) (hs : smallK 150 g = false) :
    Calls Try.prog 5 #[.agg #[nv, rv]] W fun e w' => e = .returned (.bool true) ∧ Below W.heap.size W w' := by
  have hb0 := below_alloc W (.cells #[nv, rv] 25)
  have hsm := hid (fun w1 (h : Below W.heap.size W w1) => smallK_any (K := 150) (by omega) (hG.below h))
  rw [hs] at hsm
  have hbx := heap_alloc_new W (.cells #[nv, rv] 25)
  clear hG
  go_enter Try.func5, Try.ntmps5
  go_wp2_with (first
    | (go_at_call 8; refine (lives_any (W.alloc _)).mono ?_; rintro e w1 ⟨rfl, hb1⟩; have hB := Below.next hb0 hb1; obtain ⟨⟨x0, x1⟩, _⟩ := blk2 ((hb1.block W.heap.size (by simp)).trans hbx))
    | (go_at_call 21; refine (hsm.out w1 hB).mono ?_; rintro e w2 ⟨rfl, hb2⟩)
    | (go_at_call 8; refine (lives_any w2).mono ?_; rintro e w3 ⟨rfl, hb3⟩))
  go_ret
  exact ⟨rfl, Below.next (Below.next hB hb2) hb3⟩
set_option maxRecDepth 100000 in
set_option maxHeartbeats 2000000 in
theorem copies_bad {W : World} {nv rv : Value} {g : Gf} (hG : Gr W nv rv g) (hS : Sized g) (hs : smallK 150 g = true) (hb : one (chk g) ≠ []) :
    Calls Try.prog 5 #[.agg #[nv, rv]] W fun e w' => e = .returned (.bool true) ∧ Below W.heap.size W w' := by
  have hb0 := below_alloc W (.cells #[nv, rv] 25)
  have hsm := hid (fun w1 (h : Below W.heap.size W w1) => smallK_any (K := 150) (by omega) (hG.below h))
  rw [hs] at hsm
  have hck := hid (fun w2 (h : Below W.heap.size W w2) => check_any (hG.below h) hS)
  have hHb := hid hb
  have hbx := heap_alloc_new W (.cells #[nv, rv] 25)
  clear hG hb
  go_enter Try.func5, Try.ntmps5
  go_wp2_with (first
    | (go_at_call 8; refine (lives_any (W.alloc _)).mono ?_; rintro e w1 ⟨rfl, hb1⟩; have hB := Below.next hb0 hb1; have k1 := (hb1.block W.heap.size (by simp)).trans hbx; obtain ⟨⟨x0, x1⟩, _⟩ := blk2 k1)
    | (go_at_call 21; refine (hsm.out w1 hB).mono ?_; rintro e w2 ⟨rfl, hb2⟩; have hB2 := Below.next hB hb2; have k2 := (hb2.block W.heap.size (lt_of_block k1)).trans k1; obtain ⟨⟨x0, x1⟩, _⟩ := blk2 k2)
    | (go_at_call 22; refine (hck.out w2 hB2).mono ?_; rintro e w3 ⟨⟨ev, rfl, hE4⟩, hb3⟩; obtain ⟨b4, rfl⟩ : ∃ b, ev = .iface 65 (.pointer (some ⟨b, 0, none⟩)) := (hE4.isNil.resolve_left (fun h => hHb.out h.1)).2)
    | (go_at_call 8; refine (lives_any w3).mono ?_; rintro e w4 ⟨rfl, hb4⟩))
  go_ret
  exact ⟨rfl, Below.next (Below.next hB2 hb3) hb4⟩
set_option maxRecDepth 100000 in
set_option maxHeartbeats 16000000 in
theorem copies_good {W : World} {nv rv : Value} {g : Gf} (hG : Gr W nv rv g) (hS : Sized g) (hs : smallK 150 g = true) (hb : one (chk g) = []) :
    Calls Try.prog 5 #[.agg #[nv, rv]] W fun e w' => e = .returned (.bool true) ∧ Below W.heap.size W w' := by
  have hg := chk_good hb
  obtain ⟨_, hN150, hR150⟩ := smallK_fits hs
  obtain ⟨ee, he⟩ := al_dec g
  obtain ⟨e2, he2⟩ := al_dec (joinS g g)
  obtain ⟨eq, heq⟩ := al_dec (trimF (quoF ee g))
  have hj := join_good2 hg hg (by omega) (by omega)
  have hjc : joinC [g, g] = [] := ((joinC_two g g (by omega) (by omega)).resolve_right (fun h => h.2.elim (fun h => h hb) (fun h => h.2 hb))).1
  have hq := trim_good0 (quo_good hg (al_eqv hg he))
  have hqc := chk_of_good hq
  have hqq : Hid (trimF (quoF eq (trimF (quoF ee g))) = trimF (quoF ee g)) := (least_pair hg he).least hq hg heq he
  have hown : Hid (csF eq (trimF (quoF ee g)).nodes.length = List.range (trimF (quoF ee g)).nodes.length) := (own_num (N := (trimF (quoF ee g)).nodes.length) (fun x y hx hy h => by have := least_own hg he ((heq x y).1 h); omega) _ (Nat.le_refl _)).1
  have hcopy : Hid (∀ i, i < g.nodes.length → ((ints (csF e2 (joinS g g).nodes.length)).getD i 0 = (ints (csF e2 (joinS g g).nodes.length)).getD (i + g.nodes.length) 0 ↔ ((metF (rootAt g i)).filter (isVar (rootAt g i))).length = 0)) := fun i hi => by
    have h1 := cls_al hj he2 (x := (i : Int)) (y := ((g.nodes.length : Int) + (i : Int))) ⟨by omega, by rw [joinS_len]; omega⟩ ⟨by omega, by rw [joinS_len]; omega⟩
    rw [copy_al hg hi] at h1
    unfold clsI at h1
    rw [Int.toNat_natCast, show ((g.nodes.length : Int) + (i : Int)).toNat = i + g.nodes.length by omega] at h1
    rw [h1, List.length_eq_zero_iff]
  have hb0 := below_alloc W (.cells #[nv, rv] 25)
  have hsm := hid (fun w1 (h : Below W.heap.size W w1) => smallK_any (K := 150) (by omega) (hG.below h))
  rw [hs] at hsm
  have hck := hid (fun w2 (h : Below W.heap.size W w2) => check_any (hG.below h) hS)
  rw [hb] at hck
  have hjn := hid (fun w2 (h : Below W.heap.size W w2) => join_same (hG.below h) hS hjc)
  have hc2 := hid (fun (w : World) (nv rv : Value) (h : Gr w nv rv (joinS g g)) => classes_good h (good_sized hj) (chk_of_good hj) e2 (fun x y _ _ => he2 x y))
  have hqt := hid (fun w1 (h : Below W.heap.size W w1) => quot_good (hG.below h) hS hb ee he)
  have hq2 := hid (fun (w : World) (nv rv : Value) (h : Gr w nv rv (trimF (quoF ee g))) => quot_good h (good_sized hq) hqc eq heq)
  rw [hqq.out] at hq2
  have hcq := hid (fun (w : World) (nv rv : Value) (h : Gr w nv rv (trimF (quoF ee g))) => classes_good h (good_sized hq) hqc eq (fun x y _ _ => heq x y))
  rw [hown.out] at hcq
  have hsame := hid (fun (w : World) (nv rv mv sv : Value) (h1 : Gr w nv rv (trimF (quoF ee g))) (h2 : Gr w mv sv (trimF (quoF ee g))) => same_any h1 h2 (fits_good hq))
  rw [eqG_yes] at hsame
  have hal1 := hid (fun (w : World) (nv1 rv1 : Value) (h1 : Gr w nv1 rv1 (trimF (quoF ee g))) (h : Below W.heap.size W w) => balike_any (B := true) h1 (good_sized hq) (hG.below h) hS (iff_of_true rfl ⟨hqc, hb, _, least_pair hg he⟩))
  have htr := hid (fun w1 (h : Below W.heap.size W w1) => trim_good (hG.below h) hS hb)
  have htg := trim_good0 hg
  have hal2 := hid (fun (w : World) (nv1 rv1 : Value) (h1 : Gr w nv1 rv1 (trimF g)) (h : Below W.heap.size W w) => balike_any (B := true) h1 (good_sized htg) (hG.below h) hS (iff_of_true rfl ⟨chk_of_good htg, hb, _, trim_pair hg⟩))
  have hvr := hid (fun (w : World) (nv rv : Value) (i : Nat) (hi : i < g.nodes.length) (h : Gr w nv rv (rootAt g i)) => vars_good h (good_sized (rootAt_good hg hi)) (chk_of_good (rootAt_good hg hi)))
  have hJl : (joinS g g).nodes.length = g.nodes.length + g.nodes.length := joinS_len
  have hlmA : Hid (∀ i, i < g.nodes.length → ((metF (rootAt g i)).filter (isVar (rootAt g i))).length ≤ 5000) := fun i hi => by
    have h1 := List.length_filter_le (isVar (rootAt g i)) (metF (rootAt g i))
    have h2 := (met_ok (rootAt_good hg hi)).le
    have h3 : (rootAt g i).nodes.length = g.nodes.length := rfl
    omega
  have hQN := hq.nodes
  generalize trimF (quoF ee g) = q at *
  have hHG := hid hG
  obtain ⟨na, nc, rfl, _⟩ := hG.1
  have hbx := heap_alloc_new W (.cells #[.slice na g.nodes.length nc, rv] 25)
  obtain ⟨M, hM⟩ : ∃ M, M = (joinS g g).nodes.length := ⟨_, rfl⟩
  rw [← hM] at hcopy hjn hc2 hJl
  have HM := hid hJl
  clear hG hb hS hs hM he he2 heq hj hjc hqc htg hqq hown hg hq hJl
  obtain ⟨N, hN⟩ : ∃ N, N = g.nodes.length := ⟨_, rfl⟩
  rw [← hN] at hcopy hbx HM hlmA hvr hb0 hsm hck hjn hqt hal1 hal2 htr hHG hN150 ⊢
  have HN := hid hN
  clear hN
  have hdec : ((M : Int) != 2 * (N : Int)) = false := by have := HM.out; simp; omega
  go_enter Try.func5, Try.ntmps5
  go_wp2_with (first
    | (go_at_call 8; go_must (refine (lives_any (W.alloc _)).mono ?_; rintro e w1 ⟨rfl, hb1⟩; have hB := Below.next hb0 hb1; have k1 := (hb1.block W.heap.size (by simp)).trans hbx; obtain ⟨⟨x0, x1⟩, _⟩ := blk2 k1))
    | (go_at_call 21; go_must (refine (hsm.out w1 hB).mono ?_; rintro e w2 ⟨rfl, hb2⟩; have hB2 := Below.next hB hb2; have k2 := (hb2.block W.heap.size (lt_of_block k1)).trans k1; obtain ⟨⟨x0, x1⟩, _⟩ := blk2 k2))
    | (go_at_call 22; go_must (refine (hck.out w2 hB2).mono ?_; rintro e w3 ⟨⟨ev, rfl, hE4⟩, hb3⟩; obtain rfl : ev = .nilIface := hE4; have hB3 := Below.next hB2 hb3; have k3 := keep1 k2 hb3; obtain ⟨⟨x0, x1⟩, _⟩ := blk2 k3))
    | (go_at_call 23; go_must (refine (hjn.out w3 hB3).mono ?_; rintro e w4 ⟨⟨ja, jc, jra, jrc, rfl, hG4⟩, hb4⟩; generalize (joinS g g).roots.length = JR at *; have hal4 := below_alloc w4 (.cells #[.slice ja M jc, .slice jra JR jrc] 25); have hB4 := Below.next (Below.next hB3 hb4) hal4; have k4 := keep1 (keep1 k3 hb4) hal4; replace hG4 := hG4.below hal4))
    | (go_at_call 24; go_must (refine (hc2.out _ _ _ hG4).mono ?_; clear hc2; rintro e w5 ⟨⟨ca, cc, rfl, hO5⟩, hb5⟩; have hB5 := Below.next hB4 hb5; have k5 := keep1 k4 hb5; obtain ⟨⟨x0, x1⟩, _⟩ := blk2 k5)))
  have hR5 : Hid (∀ j, j < M → ∃ b o, ca = some ⟨b, o, none⟩ ∧ w5.cell? ⟨b, o + j, none⟩ = some (.int .i64 ((ints (csF e2 M)).getD j 0))) := by
    have h1 := Ri.ofOwn (l := ints (csF e2 M)) (by rw [ints_len, csF_len]; exact hO5)
    rw [ints_len, csF_len] at h1
    obtain ⟨ao, c, h2, h3⟩ := h1
    have h4 : ca = ao := by injection h2
    subst h4
    intro j hj
    exact h3 j (by rw [ints_len, csF_len]; exact hj)
  clear hO5 x0 x1 k1 k2 k3 k4 hG4 hdec hsm hck hjn hbx
  go_loopw [61] (fun i wr => ∃ k : Nat, k ≤ N ∧ i = .int .i64 (k : Int) ∧ Hid (Below w5.heap.size w5 wr)) (fun i _ => N - (intOf i).toNat)
  case atStart => exact ⟨0, Nat.zero_le _, rfl, Below.refl _ _⟩
  case round =>
    obtain ⟨k, hk, rfl, hbr⟩ := hrel
    have kr := keep1 k5 hbr.out
    have hBr := Below.next hB5 hbr.out
    obtain ⟨⟨x0, x1⟩, _⟩ := blk2 kr
    by_cases hlt : k < N
    · have hcp := hcopy.out k hlt
      have hkM : k < M := by have := HM.out; omega
      have hkN : k + N < M := by have := HM.out; omega
      obtain ⟨cb, co, hca, hy0⟩ := hR5.out k hkM
      obtain ⟨cb', co', hca', hz0⟩ := hR5.out (k + N) hkN
      subst hca
      have hca2 : cb = cb' ∧ co = co' := by simpa using hca'
      obtain ⟨rfl, rfl⟩ := hca2
      have hv0 := fun (w : World) (nv rv : Value) (h : Gr w nv rv (rootAt g k)) => (hvr.out w nv rv k hlt h).mono (R' := fun e w' => (∃ ao c, e = .returned (.tuple #[.slice ao ((metF (rootAt g k)).filter (isVar (rootAt g k))).length c, .nilIface])) ∧ Below w.heap.size w w') (fun e w' ⟨⟨ao, c, h1, _⟩, h2⟩ => ⟨⟨ao, c, h1⟩, h2⟩)
      have hlm := hlmA.out k hlt
      generalize ((metF (rootAt g k)).filter (isVar (rootAt g k))).length = L at hcp hv0 hlm
      generalize (ints (csF e2 M)).getD k 0 = y at hcp hy0
      generalize (ints (csF e2 M)).getD (k + N) 0 = z at hcp hz0
      have hv := hid hv0
      have hGr : Hid (∀ u, Gr ((wr.alloc (.cells #[.int .i64 (k : Int)] 3)).alloc u) (.slice na N nc) (.slice (some ⟨wr.heap.size, 0, none⟩) 1 1) (rootAt g k)) := by
        intro u
        have h := hHG.out.below hBr
        rw [HN.out] at h ⊢
        exact gr_root h u
      have hF : Hid (∀ w6, Below wr.heap.size wr w6 → (w6.cell? ⟨cb, co + k, none⟩ = some (.int .i64 y) ∧ w6.cell? ⟨cb, co + (k + N), none⟩ = some (.int .i64 z)) ∧ w6.heap[W.heap.size]? = some (.cells #[.slice na N nc, rv] 25)) := fun w6 h6 => by
        have h56 := Below.next hbr.out h6
        exact ⟨⟨(h56.cell (p := ⟨cb, co + k, none⟩) (lt_of_cell hy0)).trans hy0, (h56.cell (p := ⟨cb, co + (k + N), none⟩) (lt_of_cell hz0)).trans hz0⟩, keep1 k5 h56⟩
      have hba : Below wr.heap.size wr ((wr.alloc (.cells #[.int .i64 (k : Int)] 3)).alloc (.cells #[.slice na N nc, .slice (some ⟨wr.heap.size, 0, none⟩) 1 1] 25)) := (below_alloc wr _).alloc (by simp) _
      have hi1 : (k : Int) + (N : Int) < (M : Int) := by omega
      have hi2 : 0 ≤ (k : Int) + (N : Int) := by omega
      have hi3 : ((k : Int) + (N : Int)).toNat = k + N := by omega
      have hi4 : (k : Int) < (M : Int) := by omega
      clear hv0 hvr hca'
      by_cases hL : L = 0
      · obtain rfl : y = z := hcp.2 hL
        subst hL
        clear hcp
        go_wp2_with (go_at_call 25; go_must (refine (hv.out _ _ _ (hGr.out _)).mono ?_; rintro e w6 ⟨⟨va, vc, rfl⟩, hb6⟩; obtain ⟨⟨c1, c2⟩, k6⟩ := hF.out w6 (Below.next hba hb6); obtain ⟨⟨x0, x1⟩, _⟩ := blk2 k6))
        clear hv hGr hF hsame hal1 hal2 htr hqt hq2 hcq hcopy hR5 hlmA hHG
        refine wp_region_quiet_lit (by kernel_rfl) (by kernel_rfl) ?_
        iterate 42 (go_big_quiet_step (fail))
        refine wpQuiet_nil ?_
        rintro wq ⟨nq, hwq⟩
        subst hwq
        go_wp2
        go_roundw
        case rel => exact ⟨k + 1, by omega, by go_num, Below.next hbr.out (below_drewN (Below.next hba hb6) _)⟩
        case measure => simp [intOf]; omega
      · have hyz : y ≠ z := fun h => hL (hcp.1 h)
        have hd1 : ((L : Int) == 0) = false := beq_eq_false_iff_ne.2 (by omega)
        have hd2 : decide ((0 : Int) < (L : Int)) = true := decide_eq_true (by omega)
        have hd4 : decide (0 < L) = true := decide_eq_true (by omega)
        have hd5 : (0 : Int) < (L : Int) := by omega
        have hd3 : (y == z) = false := beq_eq_false_iff_ne.2 hyz
        clear hcp hL hyz
        go_wp2_with (go_at_call 25; go_must (refine (hv.out _ _ _ (hGr.out _)).mono ?_; rintro e w6 ⟨⟨va, vc, rfl⟩, hb6⟩; obtain ⟨⟨c1, c2⟩, k6⟩ := hF.out w6 (Below.next hba hb6); obtain ⟨⟨x0, x1⟩, _⟩ := blk2 k6))
        clear hv hGr hF hsame hal1 hal2 htr hqt hq2 hcq hcopy hR5 hlmA hHG
        refine wp_region_quiet_lit (by kernel_rfl) (by kernel_rfl) ?_
        iterate 42 (go_big_quiet_step (fail))
        refine wpQuiet_nil ?_
        rintro wq ⟨nq, hwq⟩
        subst hwq
        go_wp2
        go_roundw
        case rel => exact ⟨k + 1, by omega, by go_num, Below.next hbr.out (below_drewN (Below.next hba hb6) _)⟩
        case measure => simp [intOf]; omega
    · obtain rfl : k = N := by omega
      have zW := lt_of_block kr
      go_wp2_with (first
        | (go_at_call 11; refine (hqt.out wr hBr).mono ?_; clear hqt; rintro e w7 ⟨⟨n7, r7, avs7, rfl, hO7⟩, hb7⟩; have hG7 := hO7.gr; obtain ⟨n7a, n7c, rfl⟩ := hO7.nsl; obtain ⟨r7a, r7c, rfl, _⟩ := hO7.r; clear hO7; have hal7 := below_alloc w7 (.cells #[.slice n7a q.nodes.length n7c, .slice r7a q.roots.length r7c] 25); have hB7 := Below.next (Below.next hBr hb7) hal7; have k7 := keep1 (keep1 kr hb7) hal7; have q7 := heap_alloc_new w7 (.cells #[.slice n7a q.nodes.length n7c, .slice r7a q.roots.length r7c] 25); replace hG7 := hG7.below hal7)
        | (go_at_call 11; refine (hq2.out _ _ _ hG7).mono ?_; clear hq2; rintro e w8 ⟨⟨n8, r8, avs8, rfl, hO8⟩, hb8⟩; have hG8 := hO8.gr; obtain ⟨n8a, n8c, rfl⟩ := hO8.nsl; obtain ⟨r8a, r8c, rfl, _⟩ := hO8.r; clear hO8; have hal8 := below_alloc w8 (.cells #[.slice n8a q.nodes.length n8c, .slice r8a q.roots.length r8c] 25); have hB8 := Below.next (Below.next hB7 hb8) hal8; have k8 := keep1 (keep1 k7 hb8) hal8; have q8 := keep1 (keep1 q7 hb8) hal8; have r8 := heap_alloc_new w8 (.cells #[.slice n8a q.nodes.length n8c, .slice r8a q.roots.length r8c] 25); replace hG8 := hG8.below hal8; have hG78 := (hG7.below hb8).below hal8; obtain ⟨⟨y0, y1⟩, _⟩ := blk2 q8)
        | (go_at_call 24; refine (hcq.out _ _ _ hG78).mono ?_; clear hcq; rintro e w9 ⟨⟨da, dc, rfl, hO9⟩, hb9⟩; have hB9 := Below.next hB8 hb9; have k9 := keep1 k8 hb9; have q9 := keep1 q8 hb9; have r9 := keep1 r8 hb9; have hG9 := hG78.below hb9; have hH9 := hG8.below hb9; obtain ⟨⟨y0, y1⟩, _⟩ := blk2 q9; obtain ⟨⟨z0, z1⟩, _⟩ := blk2 r9)
        | (go_at_call 26; refine (hsame.out _ _ _ _ _ hG9 hH9).mono ?_; rintro e wa ⟨rfl, hba⟩; have hBa := Below.next hB9 hba; have ka := keep1 k9 hba; have qa := keep1 q9 hba; have hGa := hG9.below hba; have hOa := own_below hO9 hba; obtain ⟨⟨y0, y1⟩, _⟩ := blk2 qa; obtain ⟨⟨x0, x1⟩, _⟩ := blk2 ka)
        | (go_at_call 20; refine (hal1.out _ _ _ hGa hBa).mono ?_; clear hal1; rintro e wb ⟨rfl, hbb⟩; have hBb := Below.next hBa hbb; have kb := keep1 ka hbb; have qb := keep1 qa hbb; have hOb := own_below hOa hbb; obtain ⟨⟨y0, y1⟩, _⟩ := blk2 qb; obtain ⟨⟨x0, x1⟩, _⟩ := blk2 kb))
      have hRd : Hid (∀ j, j < q.nodes.length → ∃ b o, da = some ⟨b, o, none⟩ ∧ wb.cell? ⟨b, o + j, none⟩ = some (.int .i64 (j : Int))) := by
        have h1 := Ri.ofOwn (l := ints (List.range q.nodes.length)) (by rw [ints_len, List.length_range]; exact hOb)
        rw [ints_len, List.length_range] at h1
        obtain ⟨ao, c, h2, h3⟩ := h1
        have h4 : da = ao := by injection h2
        subst h4
        intro j hj
        obtain ⟨b, o, h5, h6⟩ := h3 j (by rw [ints_len, List.length_range]; exact hj)
        rw [ints_get (by rw [List.length_range]; exact hj)] at h6
        refine ⟨b, o, h5, ?_⟩
        rw [h6]
        simp [List.getD, hj]
      clear hOb hOa hO9 y0 y1 z0 z1
      generalize q.nodes.length = QN at *
      go_loop [164] (fun i => ∃ m : Nat, m ≤ QN ∧ i = .int .i64 (m : Int)) (fun i => QN - (intOf i).toNat)
      case atStart => exact ⟨0, Nat.zero_le _, rfl⟩
      case round =>
        obtain ⟨m, hm, rfl⟩ := hrel
        by_cases hlm : m < QN
        · obtain ⟨db, dof, hda, hc⟩ := hRd.out m hlm
          subst hda
          go_wp2
          go_round
          case rel => exact ⟨m + 1, by omega, by go_num⟩
          case measure => simp [intOf]; omega
        · have zb := lt_of_block kb
          go_wp2_with (first
            | (go_at_call 27; refine (htr.out wb hBb).mono ?_; rintro e wc ⟨⟨nt, rt, avt, rfl, hOt⟩, hbc⟩; have hGt := hOt.gr; obtain ⟨nta, ntc, rfl⟩ := hOt.nsl; obtain ⟨rta, rtc, rfl, _⟩ := hOt.r; clear hOt; have halc := below_alloc wc (.cells #[.slice nta (trimF g).nodes.length ntc, .slice rta (trimF g).roots.length rtc] 25); have hBc := Below.next (Below.next hBb hbc) halc; have kc := keep1 (keep1 kb hbc) halc; have tc := heap_alloc_new wc (.cells #[.slice nta (trimF g).nodes.length ntc, .slice rta (trimF g).roots.length rtc] 25); replace hGt := hGt.below halc; obtain ⟨⟨x0, x1⟩, _⟩ := blk2 (keep1 kb hbc); have zc := lt_of_block (keep1 kb hbc))
            | (go_at_call 20; refine (hal2.out _ _ _ hGt hBc).mono ?_; rintro e wd ⟨rfl, hbd⟩))
          go_ret
          exact ⟨rfl, Below.next hBc hbd⟩
theorem bisimCopies_walk {W : World} (nv rv : Value) (g : Gf) (hG : Gr W nv rv g) (hS : Sized g) :
    Calls Try.prog 5 #[.agg #[nv, rv]] W fun e w' => e = .returned (.bool true) ∧ Below W.heap.size W w' := by
  by_cases hs : smallK 150 g = true
  · by_cases hb : one (chk g) = []
    · exact copies_good hG hS hs hb
    · exact copies_bad hG hS hs hb
  · exact copies_short hG (by simpa using hs)
end Go.Proofs.Ytcgkmenlacinjaa
