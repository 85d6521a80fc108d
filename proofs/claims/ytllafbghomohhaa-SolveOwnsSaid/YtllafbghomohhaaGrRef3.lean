/- The reference of layer 4: Check. -/
import Derived.Test.YtllafbghomohhaaGrRef2
import Derived.Deep.RegionHeld3
namespace Go.Proofs.Ytllafbghomohhaa
open Go.RowKit

theorem box_set0 {w : World} {q : Nat} {u0 u1 u2 u3 v0 v1 v2 v3 : Value} {T : TypeId} (h : w.heap[q]? = some (.cells #[u0, u1, u2, u3] T)) :
    ((((w.setCell ⟨q, 0, none⟩ v0).setCell ⟨q, 1, none⟩ v1).setCell ⟨q, 2, none⟩ v2).setCell ⟨q, 3, none⟩ v3).heap[q]? = some (.cells #[v0, v1, v2, v3] T) := by
  have h0 := heap_setCell_same w q 0 _ _ v0 h
  have h1 := heap_setCell_same _ q 1 _ _ v1 h0
  have h2 := heap_setCell_same _ q 2 _ _ v2 h1
  exact heap_setCell_same _ q 3 _ _ v3 h2
theorem set4_below {W w : World} {q : Nat} {v0 v1 v2 v3 : Value} (h : Below W.heap.size W w) (hq : W.heap.size ≤ q) :
    Below W.heap.size W ((((w.setCell ⟨q, 0, none⟩ v0).setCell ⟨q, 1, none⟩ v1).setCell ⟨q, 2, none⟩ v2).setCell ⟨q, 3, none⟩ v3) :=
  (((h.setCell hq _).setCell hq _).setCell hq _).setCell hq _
theorem ret_flt {w : World} {fn : Func} {t : Tmp} (hfn : fn.results = #[.cell t 35]) {tmps : Array Value} {q : Nat} {x : Int × Int} (h4 : tmps[t]?.getD undef = .pointer (some ⟨q, 0, none⟩)) (hq : w.heap[q]? = some (.cells #[.int .i64 x.1, .int .i64 x.2, .string ⟨#[]⟩, .slice none 0 0] 35)) : (results fn tmps).run Try.prog w = .ok (flt x) w := by
  have z0 : w.cell? ⟨q, 0, none⟩ = some (.int .i64 x.1) := by simp [World.cell?, hq]
  have z1 : w.cell? ⟨q, 1, none⟩ = some (.int .i64 x.2) := by simp [World.cell?, hq]
  have z2 : w.cell? ⟨q, 2, none⟩ = some (.string ⟨#[]⟩) := by simp [World.cell?, hq]
  have z3 : w.cell? ⟨q, 3, none⟩ = some (.slice none 0 0) := by simp [World.cell?, hq]
  simp [results, hfn, go_sem, flt, h4, z0, z1, z2, z3]
theorem drewN_below (w : World) (n : Nat) : Below w.heap.size w (w.drewN n) := ⟨rfl, rfl, rfl, Nat.le_refl _, fun _ _ => rfl⟩
theorem undrN {w w' : World} {n : Nat} (h : Below (w.drewN n).heap.size (w.drewN n) w') : Below w.heap.size w w' := ⟨h.os, h.tape, h.output, h.size, h.block⟩
/-- The two variables of the reference's Check: the graph, and what it answers. -/
structure Bx (W w : World) (nv rv : Value) : Prop where
  n : w.cell? ⟨W.heap.size, 0, none⟩ = some nv
  r : w.cell? ⟨W.heap.size, 1, none⟩ = some rv
  f : w.heap[W.heap.size + 1]? = some (.cells #[.int .i64 0, .int .i64 0, .string ⟨#[]⟩, .slice none 0 0] 35)
  b : Below W.heap.size W w
theorem Bx.below {W w w' : World} {nv rv : Value} (h : Bx W w nv rv) (hb : Below w.heap.size w w') : Bx W w' nv rv :=
  ⟨by rw [hb.cell (p := ⟨W.heap.size, 0, none⟩) (lt_of_cell h.n)]; exact h.n, by rw [hb.cell (p := ⟨W.heap.size, 1, none⟩) (lt_of_cell h.r)]; exact h.r, by rw [hb.block _ (lt_of_block h.f)]; exact h.f, Below.next h.b hb⟩
theorem Bx.cells {W w : World} {nv rv : Value} (h : Bx W w nv rv) : (w.cell? ⟨W.heap.size + 1, 0, none⟩ = some (.int .i64 0) ∧ w.cell? ⟨W.heap.size + 1, 1, none⟩ = some (.int .i64 0) ∧ w.cell? ⟨W.heap.size + 1, 2, none⟩ = some (.string ⟨#[]⟩) ∧ w.cell? ⟨W.heap.size + 1, 3, none⟩ = some (.slice none 0 0)) ∧
    w.frozen? ⟨W.heap.size + 1, 0, none⟩ = false ∧ w.frozen? ⟨W.heap.size + 1, 1, none⟩ = false ∧ w.frozen? ⟨W.heap.size + 1, 2, none⟩ = false ∧ w.frozen? ⟨W.heap.size + 1, 3, none⟩ = false := by
  have hf := h.f
  refine ⟨⟨?_, ?_, ?_, ?_⟩, ?_, ?_, ?_, ?_⟩ <;> simp [World.cell?, World.frozen?, hf]
theorem Bx.start (W : World) (nv rv : Value) : Bx W ((W.alloc (.cells #[nv, rv] 25)).alloc (.cells #[.int .i64 0, .int .i64 0, .string ⟨#[]⟩, .slice none 0 0] 35)) nv rv :=
  ⟨by simp [go_sem], by simp [go_sem], by simpa using heap_alloc_new (W.alloc (.cells #[nv, rv] 25)) _, (below_alloc W _).alloc (by simp) _⟩
set_option maxRecDepth 100000 in
set_option maxHeartbeats 4000000 in
theorem rcheck_long {W : World} {na ra : Option Addr} {nc rc nn rn : Nat} (h : 4096 < nn ∨ 4096 < rn) :
    Calls Try.prog 47 #[.agg #[.slice na nn nc, .slice ra rn rc]] W fun e w' => e = .returned (flt (if 4096 < nn then (41, (nn : Int)) else (42, (rn : Int)))) ∧ Below W.heap.size W w' := by
  by_cases h1 : 4096 < nn
  · have h1' : (4096 : Int) < (nn : Int) := by omega
    rw [if_pos h1]
    have hx := Bx.start W (.slice na nn nc) (.slice ra rn rc)
    go_enter Try.func47, Try.ntmps47
    go_wp2_with (go_at_call 48; refine (rat_any _ _ _).mono ?_; rintro e w1 ⟨rfl, hb⟩; obtain ⟨⟨f0, f1, f2, f3⟩, z0, z1, z2, z3⟩ := (hx.below hb).cells)
    exact bodyPost_ret (ret_flt Try.results47 (by rfl) (box_set0 (hx.below hb).f)) rfl ⟨rfl, set4_below (hx.below hb).b (by omega)⟩
  · have h2' : (4096 : Int) < (rn : Int) := by omega
    rw [if_neg h1]
    have hx := Bx.start W (.slice na nn nc) (.slice ra rn rc)
    go_enter Try.func47, Try.ntmps47
    go_wp2_with (go_at_call 48; refine (rat_any _ _ _).mono ?_; rintro e w1 ⟨rfl, hb⟩; obtain ⟨⟨f0, f1, f2, f3⟩, z0, z1, z2, z3⟩ := (hx.below hb).cells)
    exact bodyPost_ret (ret_flt Try.results47 (by rfl) (box_set0 (hx.below hb).f)) rfl ⟨rfl, set4_below (hx.below hb).b (by omega)⟩
set_option maxRecDepth 100000 in
set_option maxHeartbeats 4000000 in
theorem rcheck_any {W : World} {nv rv : Value} {g : Gf} (hG : Gr W nv rv g) (hS : Sized g) :
    Calls Try.prog 47 #[.agg #[nv, rv]] W fun e w' => e = .returned (flt (chk g)) ∧ Below W.heap.size W w' := by
  obtain ⟨nodes, roots⟩ := g
  obtain ⟨hn, hr⟩ := hG
  dsimp only at hn hr
  obtain ⟨na, nc, rfl, hn⟩ := hn
  obtain ⟨ra, rc, rfl, hr⟩ := hr
  by_cases h1 : 4096 < nodes.length
  · refine (rcheck_long (Or.inl h1)).mono ?_
    rintro e w' ⟨rfl, hb⟩
    exact ⟨by simp [chk, h1], hb⟩
  by_cases h2 : 4096 < roots.length
  · refine (rcheck_long (Or.inr h2)).mono ?_
    rintro e w' ⟨rfl, hb⟩
    exact ⟨by simp [chk, h1, h2], hb⟩
  have hC := hid (show chk ⟨nodes, roots⟩ = if 0 ≤ ixOf (fun n => !goodNd nodes.length n) nodes then (40, ixOf (fun n => !goodNd nodes.length n) nodes) else if 0 ≤ ixOf (strange nodes.length) roots then (43, ixOf (strange nodes.length) roots) else (0, 0) by simp [chk, h1, h2])
  have hS' : Hid (∀ n ∈ nodes, n.name.size ≤ 9223372036854775807) := hS
  have hx := hid (Bx.start W (.slice na nodes.length nc) (.slice ra roots.length rc))
  go_enter Try.func47, Try.ntmps47
  go_wp2
  go_loopw [3] (fun i wr => ∃ k : Nat, k ≤ nodes.length ∧ i = .int .i64 k ∧ Hid (Bx W wr (.slice na nodes.length nc) (.slice ra roots.length rc)) ∧ Hid (∀ j, j < k → (!goodNd nodes.length (nodes.getD j nd0)) = false)) (fun i _ => nodes.length - (intOf i).toNat)
  case atStart => exact ⟨0, Nat.zero_le _, rfl, hx, fun j hj => absurd hj (Nat.not_lt_zero _)⟩
  case round =>
    clear hx
    obtain ⟨k, hk, rfl, hx, hp⟩ := hrel
    have c0 := hx.out.n
    have c1 := hx.out.r
    by_cases hlt : k < nodes.length
    · obtain ⟨b, o, av, rfl, hN⟩ := hn k hlt
      obtain ⟨n0, n1, n2, n3, hA⟩ := hN.below hx.out.b
      have hcall : ∀ w1 : World, Below wr.heap.size wr w1 → _ := fun w1 hb => rgoodNd_any (W := w1) (N := nodes.length) (n := nodes.getD k nd0) (hA.below hb) (hS'.out _ (by simp [List.getD, hlt]))
      have hbad := hid (fun h : goodNd nodes.length (nodes.getD k nd0) = false => ixOf_hit nd0 (fun n => !goodNd nodes.length n) nodes k hlt hp.out (by show (!goodNd _ _) = true; rw [h]; rfl))
      have hgd : Hid (goodNd nodes.length (nodes.getD k nd0) = true → ∀ j, j < k + 1 → (!goodNd nodes.length (nodes.getD j nd0)) = false) := fun h j hj => by
        rcases Nat.lt_or_eq_of_le (Nat.le_of_lt_succ hj) with h' | h'
        · exact hp.out j h'
        · subst h'; rw [h]; rfl
      clear hA hN hn hr hS hp
      have hbb : Hid (Below wr.heap.size wr wr) := Below.refl _ _
      cases hq : goodNd nodes.length (nodes.getD k nd0) with
      | true =>
        replace hgd := hid (hgd.out hq)
        rw [hq] at hcall
        clear hq hbad
        generalize nodes.getD k nd0 = x at n0 n1 n2 n3 hcall
        obtain ⟨kind, name, num, args⟩ := x
        dsimp only at n0 n1 n2 n3 hcall
        go_wp2
        go_region_held3 (fun w' => w'.cell? ⟨W.heap.size, 0, none⟩ = some (.slice (some ⟨b, o, none⟩) nodes.length nc) ∧ w'.cell? ⟨b, o + k * 4, none⟩ = some (.int .i64 kind) ∧ w'.cell? ⟨b, o + k * 4 + 1, none⟩ = some (.string name) ∧ w'.cell? ⟨b, o + k * 4 + 2, none⟩ = some (.int .i64 num) ∧ w'.cell? ⟨b, o + k * 4 + 3, none⟩ = some av) (first | exact ⟨c0, n0, n1, n2, n3⟩ | go_keep)
          (first | (go_at_call 69; refine Calls.mono (hcall _ (by exact below_drewN (Below.refl _ _) _)) ?_; rintro e w4 ⟨rfl, hN⟩; replace c0 := (hN.cell (p := ⟨W.heap.size, 0, none⟩) (lt_of_cell c0)).trans c0; replace n3 := (hN.cell (p := ⟨b, o + k * 4 + 3, none⟩) (lt_of_cell n0)).trans n3; replace n2 := (hN.cell (p := ⟨b, o + k * 4 + 2, none⟩) (lt_of_cell n0)).trans n2; replace n1 := (hN.cell (p := ⟨b, o + k * 4 + 1, none⟩) (lt_of_cell n0)).trans n1; replace n0 := (hN.cell (p := ⟨b, o + k * 4, none⟩) (lt_of_cell n0)).trans n0; replace hx := hid (hx.out.below (undrN hN))))
        all_goals go_wp2
        all_goals
          go_roundw
          case rel => exact ⟨k + 1, by omega, congrArg (Value.int .i64) (by omega), hx, hgd⟩
          case measure => simp [intOf]; omega
      | false =>
        have hR := hid (show chk ⟨nodes, roots⟩ = (40, (k : Int)) by rw [hC.out, hbad.out hq, if_pos (by omega)])
        rw [hq] at hcall
        clear hq hbad hgd hC
        generalize nodes.getD k nd0 = x at n0 n1 n2 n3 hcall
        obtain ⟨kind, name, num, args⟩ := x
        dsimp only at n0 n1 n2 n3 hcall
        go_wp2
        go_region_held3 (fun w' => w'.cell? ⟨W.heap.size, 0, none⟩ = some (.slice (some ⟨b, o, none⟩) nodes.length nc) ∧ w'.cell? ⟨b, o + k * 4, none⟩ = some (.int .i64 kind) ∧ w'.cell? ⟨b, o + k * 4 + 1, none⟩ = some (.string name) ∧ w'.cell? ⟨b, o + k * 4 + 2, none⟩ = some (.int .i64 num) ∧ w'.cell? ⟨b, o + k * 4 + 3, none⟩ = some av) (first | exact ⟨c0, n0, n1, n2, n3⟩ | go_keep)
          (first | (go_at_call 69; refine Calls.mono (hcall _ (by exact below_drewN (Below.refl _ _) _)) ?_; rintro e w4 ⟨rfl, hN⟩; replace c0 := (hN.cell (p := ⟨W.heap.size, 0, none⟩) (lt_of_cell c0)).trans c0; replace n3 := (hN.cell (p := ⟨b, o + k * 4 + 3, none⟩) (lt_of_cell n0)).trans n3; replace n2 := (hN.cell (p := ⟨b, o + k * 4 + 2, none⟩) (lt_of_cell n0)).trans n2; replace n1 := (hN.cell (p := ⟨b, o + k * 4 + 1, none⟩) (lt_of_cell n0)).trans n1; replace n0 := (hN.cell (p := ⟨b, o + k * 4, none⟩) (lt_of_cell n0)).trans n0; replace hx := hid (hx.out.below (undrN hN))))
        all_goals go_wp2_with (go_at_call 48; refine (rat_any _ _ _).mono ?_; rintro e w5 ⟨rfl, hb5⟩; obtain ⟨⟨f0, f1, f2, f3⟩, z0, z1, z2, z3⟩ := (hx.out.below hb5).cells)
        all_goals
          rw [hR.out]
          exact bodyPost_ret (ret_flt Try.results47 (by rfl) (box_set0 (hx.out.below hb5).f)) rfl ⟨rfl, set4_below (hx.out.below hb5).b (by omega)⟩
    · have hm := hid (ixOf_miss nd0 (fun n => !goodNd nodes.length n) nodes (fun j hj => hp.out j (by omega)))
      have hC' := hid (show chk ⟨nodes, roots⟩ = if 0 ≤ ixOf (strange nodes.length) roots then (43, ixOf (strange nodes.length) roots) else (0, 0) by rw [hC.out, hm.out, if_neg (by omega)])
      clear hC hm hp hn hS hS'
      go_wp2
      go_loopw [4] (fun i wr => ∃ k : Nat, k ≤ roots.length ∧ i = .int .i64 k ∧ Hid (Bx W wr (.slice na nodes.length nc) (.slice ra roots.length rc)) ∧ Hid (∀ j, j < k → strange nodes.length (roots.getD j 0) = false)) (fun i _ => roots.length - (intOf i).toNat)
      case atStart => exact ⟨0, Nat.zero_le _, rfl, hx, fun j hj => absurd hj (Nat.not_lt_zero _)⟩
      case round =>
        clear hx c0 c1 hk hlt
        obtain ⟨k, hk, rfl, hx, hp⟩ := hrel
        have c0 := hx.out.n
        have c1 := hx.out.r
        by_cases hlt : k < roots.length
        · obtain ⟨b, o, rfl, hN⟩ := hr k hlt
          have n0 : wr.cell? ⟨b, o + k, none⟩ = some (.int .i64 (roots.getD k 0)) := by rw [hx.out.b.cell (p := ⟨b, o + k, none⟩) (lt_of_cell hN)]; exact hN
          have hbad := hid (fun h : strange nodes.length (roots.getD k 0) = true => ixOf_hit 0 (strange nodes.length) roots k hlt hp.out h)
          have hgd : Hid (strange nodes.length (roots.getD k 0) = false → ∀ j, j < k + 1 → strange nodes.length (roots.getD j 0) = false) := fun h j hj => by
            rcases Nat.lt_or_eq_of_le (Nat.le_of_lt_succ hj) with h' | h'
            · exact hp.out j h'
            · subst h'; exact h
          have hgd' : Hid (strange nodes.length (roots.getD k 0) = false → ∀ j, j < k + 1 → strange nodes.length (roots.getD j 0) = false) := hgd
          have hbad' : Hid (strange nodes.length (roots.getD k 0) = true → ixOf (strange nodes.length) roots = k) := hbad
          clear hN hr hp hbad hgd
          generalize roots.getD k 0 = y at n0 hgd' hbad'
          by_cases y0 : y < 0
          · have hR := hid (show chk ⟨nodes, roots⟩ = (43, (k : Int)) by rw [hC'.out, hbad'.out (by simp [strange, y0]), if_pos (by omega)])
            clear hC' hgd' hbad'
            go_wp2
            go_quiet (fail)
            go_wp2_with (go_at_call 48; refine (rat_any _ _ _).mono ?_; rintro e w5 ⟨rfl, hb5⟩; obtain ⟨⟨f0, f1, f2, f3⟩, z0, z1, z2, z3⟩ := (hx.out.below (undrN hb5)).cells)
            rw [hR.out]
            exact bodyPost_ret (ret_flt Try.results47 (by rfl) (box_set0 (hx.out.below (undrN hb5)).f)) rfl ⟨rfl, set4_below (hx.out.below (undrN hb5)).b (by omega)⟩
          · have y0' : decide (y < 0) = false := by simpa using y0
            by_cases y1 : (nodes.length : Int) ≤ y
            · have hR := hid (show chk ⟨nodes, roots⟩ = (43, (k : Int)) by rw [hC'.out, hbad'.out (by simp [strange, y1]), if_pos (by omega)])
              clear hC' hgd' hbad'
              go_wp2
              go_quiet (fail)
              go_wp2_with (go_at_call 48; refine (rat_any _ _ _).mono ?_; rintro e w5 ⟨rfl, hb5⟩; obtain ⟨⟨f0, f1, f2, f3⟩, z0, z1, z2, z3⟩ := (hx.out.below (undrN hb5)).cells)
              rw [hR.out]
              exact bodyPost_ret (ret_flt Try.results47 (by rfl) (box_set0 (hx.out.below (undrN hb5)).f)) rfl ⟨rfl, set4_below (hx.out.below (undrN hb5)).b (by omega)⟩
            · have y1' : decide ((nodes.length : Int) ≤ y) = false := by simpa using y1
              have hgo := hid (hgd'.out (by simp [strange]; omega))
              clear hgd' hbad'
              go_wp2
              go_quiet (fail)
              go_wp2
              go_roundw
              case rel => exact ⟨k + 1, by omega, congrArg (Value.int .i64) (by omega), hx.out.below (drewN_below _ _), hgo⟩
              case measure => simp [intOf]; omega
        · have hR := hid (show chk ⟨nodes, roots⟩ = (0, 0) by rw [hC'.out, ixOf_miss 0 (strange nodes.length) roots (fun j hj => hp.out j (by omega)), if_neg (by omega)])
          clear hC' hp hr
          go_wp2_with (go_at_call 49; refine (rno_any _).mono ?_; rintro e w5 ⟨rfl, hb5⟩; obtain ⟨⟨f0, f1, f2, f3⟩, z0, z1, z2, z3⟩ := (hx.out.below hb5).cells)
          rw [hR.out]
          exact bodyPost_ret (ret_flt Try.results47 (x := (0, 0)) (by rfl) (box_set0 (hx.out.below hb5).f)) rfl ⟨rfl, set4_below (hx.out.below hb5).b (by omega)⟩
end Go.Proofs.Ytllafbghomohhaa
