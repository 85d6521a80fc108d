/- Good of package parse, at every term. -/
import Derived.Test.Ytjkcffcedbcjmaata07Z
import Derived.Test.Ytjkcffcedbcjmaata08Z
namespace Go.Proofs.Ytjkcffcedbcjmaa
set_option maxRecDepth 100000
open Go.RowKit
theorem beq_dec0 (n : Nat) : ((n : Int) == 0) = decide (n = 0) := by
  cases n with
  | zero => rfl
  | succ n => simp; omega
set_option maxHeartbeats 4000000 in
theorem goodAt_any (x : Ex) : GoodAtC x := by
  induction x using Ex.ind with
  | h k n m xs ih =>
    intro w v hx hz nest hn
    obtain ⟨av, rfl, hr⟩ := hx.parts
    have hb0 := below_alloc w (.cells #[.int .i64 k, .string n, .int .i64 m, av] 48)
    have hr1 := hr.next hb0
    have hzn : n.size ≤ 9223372036854775807 := Nat.le_trans hz.1 (by decide)
    obtain ⟨ao, c, rfl, _⟩ := hr
    generalize hN : xs.length = N at *
    have HN : Hid (xs.length = N) := hN
    by_cases h4 : (4096 : Int) < (nest : Int)
    · have hE : Hid (goodX nest (.mk k n m xs) = false) := show _ = _ by rw [goodX, if_pos (by omega)]
      clear ih hr1 hz hx hN
      go_enter Try.func72, Try.ntmps72
      go_wp2
      go_ret
      exact ⟨ret_bool hE.out.symm, hb0⟩
    · have h4' : ¬ 4096 < nest := by omega
      by_cases k1 : k = 1
      · subst k1
        have hv := fun w1 => isVar_big n w1 hzn
        cases hW : isW n 4 with
        | false =>
          have hE : Hid (goodX nest (.mk 1 n m xs) = false) := show _ = _ by rw [goodX, if_neg h4', if_pos rfl, hW]; rfl
          rw [hW] at hv
          clear ih hr1 hz hx hN hW h4'
          go_enter Try.func72, Try.ntmps72
          go_wp2_with (go_at_call 46; refine (hv _).mono ?_; rintro e w1 ⟨rfl, rfl⟩)
          go_ret
          exact ⟨ret_bool hE.out.symm, hb0⟩
        | true =>
          rw [hW] at hv
          by_cases hm : m = 0
          · subst hm
            have hE : Hid (goodX nest (.mk 1 n 0 xs) = ((N : Int) == 0)) := show _ = _ by rw [goodX, if_neg h4', if_pos rfl, hW, HN.out, beq_dec0]; simp
            clear ih hr1 hz hx hN hW h4'
            go_enter Try.func72, Try.ntmps72
            go_wp2_with (go_at_call 46; refine (hv _).mono ?_; rintro e w1 ⟨rfl, rfl⟩)
            go_ret
            exact ⟨ret_bool hE.out.symm, hb0⟩
          · have hE : Hid (goodX nest (.mk 1 n m xs) = false) := show _ = _ by rw [goodX, if_neg h4', if_pos rfl, decide_eq_false hm]; simp
            have hm' : (m == 0) = false := beq_eq_false_iff_ne.2 hm
            clear ih hr1 hz hx hN hW h4' hm
            go_enter Try.func72, Try.ntmps72
            go_wp2_with (go_at_call 46; refine (hv _).mono ?_; rintro e w1 ⟨rfl, rfl⟩)
            go_ret
            exact ⟨ret_bool hE.out.symm, hb0⟩
      · have k1' : (k == 1) = false := beq_eq_false_iff_ne.2 k1
        by_cases k2 : k = 2
        · subst k2
          have hv := fun w1 => good_any n w1 hzn
          cases hW : goodS n with
          | false =>
            have hE : Hid (goodX nest (.mk 2 n m xs) = false) := show _ = _ by rw [goodX, if_neg h4', if_neg k1, if_pos rfl, hW]; rfl
            rw [hW] at hv
            clear ih hr1 hz hx hN hW h4' k1 k1'
            go_enter Try.func72, Try.ntmps72
            go_wp2_with (go_at_call 93; refine (hv _).mono ?_; rintro e w1 ⟨rfl, rfl⟩)
            go_ret
            exact ⟨ret_bool hE.out.symm, hb0⟩
          | true =>
            rw [hW] at hv
            by_cases hm : m = 0
            · subst hm
              have hE : Hid (goodX nest (.mk 2 n 0 xs) = ((N : Int) == 0)) := show _ = _ by rw [goodX, if_neg h4', if_neg k1, if_pos rfl, hW, HN.out, beq_dec0]; simp
              clear ih hr1 hz hx hN hW h4' k1 k1'
              go_enter Try.func72, Try.ntmps72
              go_wp2_with (go_at_call 93; refine (hv _).mono ?_; rintro e w1 ⟨rfl, rfl⟩)
              go_ret
              exact ⟨ret_bool hE.out.symm, hb0⟩
            · have hE : Hid (goodX nest (.mk 2 n m xs) = false) := show _ = _ by rw [goodX, if_neg h4', if_neg k1, if_pos rfl, decide_eq_false hm]; simp
              have hm' : (m == 0) = false := beq_eq_false_iff_ne.2 hm
              clear ih hr1 hz hx hN hW h4' hm k1 k1'
              go_enter Try.func72, Try.ntmps72
              go_wp2_with (go_at_call 93; refine (hv _).mono ?_; rintro e w1 ⟨rfl, rfl⟩)
              go_ret
              exact ⟨ret_bool hE.out.symm, hb0⟩
        · have k2' : (k == 2) = false := beq_eq_false_iff_ne.2 k2
          by_cases k3 : k = 3
          · subst k3
            by_cases he : n.toList = []
            · by_cases h5 : (-1125899906842624 : Int) ≤ m
              · by_cases h6 : m ≤ (1125899906842624 : Int)
                · have hE : Hid (goodX nest (.mk 3 n m xs) = ((N : Int) == 0)) := show _ = _ by rw [goodX, if_neg h4', if_neg k1, if_neg k2, if_pos rfl, HN.out, beq_dec0]; simp [he, h5, h6]
                  clear ih hr1 hz hx hN h4' k1 k1' k2 k2'
                  go_enter Try.func72, Try.ntmps72
                  go_wp2
                  go_ret
                  exact ⟨ret_bool hE.out.symm, hb0⟩
                · have hE : Hid (goodX nest (.mk 3 n m xs) = false) := show _ = _ by rw [goodX, if_neg h4', if_neg k1, if_neg k2, if_pos rfl]; simp [h6]
                  clear ih hr1 hz hx hN h4' k1 k1' k2 k2'
                  go_enter Try.func72, Try.ntmps72
                  go_wp2
                  go_ret
                  exact ⟨ret_bool hE.out.symm, hb0⟩
              · have hE : Hid (goodX nest (.mk 3 n m xs) = false) := show _ = _ by rw [goodX, if_neg h4', if_neg k1, if_neg k2, if_pos rfl]; simp [h5]
                clear ih hr1 hz hx hN h4' k1 k1' k2 k2'
                go_enter Try.func72, Try.ntmps72
                go_wp2
                go_ret
                exact ⟨ret_bool hE.out.symm, hb0⟩
            · have hE : Hid (goodX nest (.mk 3 n m xs) = false) := show _ = _ by rw [goodX, if_neg h4', if_neg k1, if_neg k2, if_pos rfl, decide_eq_false he]; simp
              clear ih hr1 hz hx hN h4' k1 k1' k2 k2'
              go_enter Try.func72, Try.ntmps72
              go_wp2
              go_ret
              exact ⟨ret_bool hE.out.symm, hb0⟩
          · have k3' : (k == 3) = false := beq_eq_false_iff_ne.2 k3
            by_cases k4 : k = 4
            · subst k4
              have hv := fun w1 => good_any n w1 hzn
              cases hW : goodS n with
              | false =>
                have hE : Hid (goodX nest (.mk 4 n m xs) = false) := show _ = _ by rw [goodX, if_neg h4', if_neg k1, if_neg k2, if_neg k3, if_pos rfl, hW]; rfl
                rw [hW] at hv
                clear ih hr1 hz hx hN hW h4' k1 k1' k2 k2' k3 k3'
                go_enter Try.func72, Try.ntmps72
                go_wp2_with (go_at_call 93; refine (hv _).mono ?_; rintro e w1 ⟨rfl, rfl⟩)
                go_ret
                exact ⟨ret_bool hE.out.symm, hb0⟩
              | true =>
                rw [hW] at hv
                by_cases hm : m = 0
                · subst hm
                  · have hga := xgoodArgs_any (fun x hx => ih x hx) hz.2 hr1 (nest + 1) (by omega)
                    have hE : Hid (goodX nest (.mk 4 n 0 xs) = (decide (1 ≤ xs.length) && (decide (xs.length ≤ 8) && goodXs (nest + 1) xs))) := show _ = _ by rw [goodX, if_neg h4', if_neg k1, if_neg k2, if_neg k3, if_pos rfl, hW]; simp
                    generalize (decide (1 ≤ xs.length) && (decide (xs.length ≤ 8) && goodXs (nest + 1) xs)) = R at hga hE
                    rw [show ((nest + 1 : Nat) : Int) = (nest : Int) + 1 by omega] at hga
                    clear ih hr1 hz hx hN hW h4' k1 k1' k2 k2' k3 k3'
                    go_enter Try.func72, Try.ntmps72
                    go_wp2_with (first | (go_at_call 93; refine (hv _).mono ?_; rintro e w1 ⟨rfl, rfl⟩) | (go_at_call 94; refine hga.mono ?_; rintro e w2 ⟨rfl, hb2⟩))
                    go_ret
                    exact ⟨ret_bool hE.out.symm, Below.next hb0 hb2⟩
                · have hE : Hid (goodX nest (.mk 4 n m xs) = false) := show _ = _ by rw [goodX, if_neg h4', if_neg k1, if_neg k2, if_neg k3, if_pos rfl, decide_eq_false hm]; simp
                  have hm' : (m == 0) = false := beq_eq_false_iff_ne.2 hm
                  clear ih hr1 hz hx hN hW h4' hm k1 k1' k2 k2' k3 k3'
                  go_enter Try.func72, Try.ntmps72
                  go_wp2_with (go_at_call 93; refine (hv _).mono ?_; rintro e w1 ⟨rfl, rfl⟩)
                  go_ret
                  exact ⟨ret_bool hE.out.symm, hb0⟩
            · have k4' : (k == 4) = false := beq_eq_false_iff_ne.2 k4
              have hE : Hid (goodX nest (.mk k n m xs) = false) := show _ = _ by rw [goodX, if_neg h4', if_neg k1, if_neg k2, if_neg k3, if_neg k4]
              clear ih hr1 hz hx hN h4' k1 k2 k3 k4
              go_enter Try.func72, Try.ntmps72
              go_wp2
              go_ret
              exact ⟨ret_bool hE.out.symm, hb0⟩
set_option maxHeartbeats 1000000 in
theorem goodE_any (x : Ex) {w : World} {v : Value} (hx : Xv w x v) (hz : szX x) :
    Calls Try.prog 45 #[v] w fun e w' => e = .returned (.bool (goodX 0 x)) ∧ Below w.heap.size w w' := by
  obtain ⟨k, n, m, xs⟩ := x
  obtain ⟨av, rfl, hr⟩ := hx.parts
  have hb0 := below_alloc w (.cells #[.int .i64 k, .string n, .int .i64 m, av] 48)
  have h1 := goodAt_any (.mk k n m xs) _ _ ((Xv.of hr).next hb0) hz 0 (by omega)
  rw [show ((0 : Nat) : Int) = 0 from rfl] at h1
  clear hx hr hz
  go_enter Try.func45, Try.ntmps45
  go_wp2_with (go_at_call 72; refine h1.mono ?_; rintro e w1 ⟨rfl, hb1⟩)
  go_ret
  exact ⟨rfl, Below.next hb0 hb1⟩
end Go.Proofs.Ytjkcffcedbcjmaa

namespace Go.Proofs.Ytjkcffcedbcjmaa
set_option maxRecDepth 100000
open Go.RowKit
theorem Ri.shape {w : World} {v : Value} {l : List Int} (h : Ri w v l) : ∃ ao n c, v = .slice ao n c := by
  obtain ⟨ao, c, rfl, _⟩ := h
  exact ⟨_, _, _, rfl⟩
structure Fits (g : Gf) : Prop where
  nodes : g.nodes.length ≤ 5000
  roots : g.roots.length ≤ 5000
  args : ∀ n ∈ g.nodes, n.args.length ≤ 5000
theorem gf_eq (a b : Gf) : eqG a b = (eqNds a.nodes b.nodes && decide (a.roots = b.roots)) := rfl
end Go.Proofs.Ytjkcffcedbcjmaa

namespace Go.Proofs.Ytjkcffcedbcjmaa
set_option maxRecDepth 100000
open Go.RowKit
structure Two (W w : World) (nv rv mv sv : Value) : Prop where
  n : w.cell? ⟨W.heap.size, 0, none⟩ = some nv
  r : w.cell? ⟨W.heap.size, 1, none⟩ = some rv
  m : w.cell? ⟨W.heap.size + 1, 0, none⟩ = some mv
  s : w.cell? ⟨W.heap.size + 1, 1, none⟩ = some sv
  b : Below W.heap.size W w
theorem Two.start (W : World) (nv rv mv sv : Value) : Two W ((W.alloc (.cells #[nv, rv] 29)).alloc (.cells #[mv, sv] 29)) nv rv mv sv :=
  ⟨by simp [go_sem], by simp [go_sem], by simp [go_sem], by simp [go_sem], (below_alloc W _).alloc (by simp) _⟩
theorem Two.below {W w w' : World} {nv rv mv sv : Value} (h : Two W w nv rv mv sv) (hb : Below w.heap.size w w') : Two W w' nv rv mv sv :=
  ⟨by rw [hb.cell (p := ⟨W.heap.size, 0, none⟩) (lt_of_cell h.n)]; exact h.n, by rw [hb.cell (p := ⟨W.heap.size, 1, none⟩) (lt_of_cell h.r)]; exact h.r,
    by rw [hb.cell (p := ⟨W.heap.size + 1, 0, none⟩) (lt_of_cell h.m)]; exact h.m, by rw [hb.cell (p := ⟨W.heap.size + 1, 1, none⟩) (lt_of_cell h.s)]; exact h.s, Below.next h.b hb⟩
theorem nd_ne {k k' n n' : Int} {s s' : ByteArray} {l l' : List Int} (h : (⟨k, s, n, l⟩ : Nd) ≠ ⟨k', s', n', l'⟩) : k ≠ k' ∨ (k = k' ∧ s.toList ≠ s'.toList) ∨ (k = k' ∧ s = s' ∧ n ≠ n') ∨ (k = k' ∧ s = s' ∧ n = n' ∧ l ≠ l') := by
  by_cases h1 : k = k'
  · by_cases h2 : s.toList = s'.toList
    · have h2' := text_eq h2
      by_cases h3 : n = n'
      · exact Or.inr (Or.inr (Or.inr ⟨h1, h2', h3, fun e => h (by rw [h1, h2', h3, e])⟩))
      · exact Or.inr (Or.inr (Or.inl ⟨h1, h2', h3⟩))
    · exact Or.inr (Or.inl ⟨h1, h2⟩)
  · exact Or.inl h1
set_option maxHeartbeats 4000000 in
theorem rsame_any {W : World} {nv rv mv sv : Value} {g h : Gf} (hG : Gr W nv rv g) (hH : Gr W mv sv h) (hF : Fits g) :
    Calls Try.prog 12 #[.agg #[nv, rv], .agg #[mv, sv]] W fun e w' => e = .returned (.bool (eqG g h)) ∧ Below W.heap.size W w' := by
  obtain ⟨l, lr⟩ := g
  obtain ⟨m, mr⟩ := h
  have hE := hid (gf_eq ⟨l, lr⟩ ⟨m, mr⟩)
  generalize eqG ⟨l, lr⟩ ⟨m, mr⟩ = R at hE ⊢
  have hl := hF.nodes
  have hx := Two.start W nv rv mv sv
  have hI := rints_any (hG.2.below hx.b) (hH.2.below hx.b) hF.roots
  obtain ⟨ua, uc, rfl, hu⟩ := hG.1
  obtain ⟨va, vc, rfl, hv⟩ := hH.1
  dsimp only at hE hl hI hu hv ⊢
  by_cases hlen : l.length = m.length
  · rw [← hlen] at hx hI ⊢
    have hlm := hid hlen
    clear hlen
    by_cases hr : lr = mr
    · rw [decide_eq_true hr] at hI hE
      go_enter Try.func12, Try.ntmps12
      go_wp2_with (go_at_call 37; refine hI.mono ?_; rintro e w1 ⟨rfl, hb1⟩)
      go_loopw [5] (fun i wr => ∃ k : Nat, k ≤ l.length ∧ i = .int .i64 k ∧ Hid (Two W wr (.slice ua l.length uc) rv (.slice va l.length vc) sv) ∧ Hid (∀ j, j < k → l.getD j nd0 = m.getD j nd0)) (fun i _ => l.length - (intOf i).toNat)
      case atStart => exact ⟨0, Nat.zero_le _, rfl, hx.below hb1, fun j hj => absurd hj (Nat.not_lt_zero _)⟩
      case round =>
        clear hx hI hb1
        obtain ⟨k, hk, rfl, hx, hp⟩ := hrel
        have c0 := hx.out.n
        have c1 := hx.out.m
        have z0 := lt_of_cell c0
        have z1 := lt_of_cell c1
        by_cases hlt : k < l.length
        · obtain ⟨ub, uo, uav, rfl, hcu⟩ := hu k hlt
          obtain ⟨vb, vo, vav, rfl, hcv⟩ := hv k (by rw [← hlm.out]; exact hlt)
          obtain ⟨p0, p1, p2, p3, hA⟩ := hcu.below hx.out.b
          obtain ⟨q0, q1, q2, q3, hB⟩ := hcv.below hx.out.b
          have hlp := lt_of_cell p0
          have hlq := lt_of_cell q0
          obtain ⟨ax, ay, az, rfl⟩ := hA.shape
          obtain ⟨bx, bz, bw, rfl⟩ := hB.shape
          have hcall : ∀ w1 : World, Below wr.heap.size wr w1 → _ := fun w1 hb => rints_any (W := w1) (l := (l.getD k nd0).args) (m := (m.getD k nd0).args) (hA.below hb) (hB.below hb) (hF.args _ (by simp [List.getD, hlt]))
          have hb2 : ∀ o1 o2 : Obj, Below wr.heap.size wr ((wr.alloc o1).alloc o2) := fun o1 o2 => (below_alloc wr _).alloc (by simp) _
          by_cases he : l.getD k nd0 = m.getD k nd0
          · have hp' : Hid (∀ j, j < k + 1 → l.getD j nd0 = m.getD j nd0) := fun j hj => by
              rcases Nat.lt_or_eq_of_le (Nat.le_of_lt_succ hj) with h | h
              · exact hp.out j h
              · subst h; exact he
            rw [← he] at q0 q1 q2 hcall
            generalize l.getD k nd0 = x at p0 p1 p2 p3 q0 q1 q2 hcall
            obtain ⟨xk, xs, xn, xl⟩ := x
            dsimp only at p0 p1 p2 p3 q0 q1 q2 q3 hcall
            rw [decide_eq_true rfl] at hcall
            clear hcu hcv hu hv he hp hA hB hr hG hH hF
            go_wp2_with (go_at_call 37; refine (hcall _ (hb2 _ _)).mono ?_; rintro e w2 ⟨rfl, hb3⟩)
            go_roundw
            case rel => exact ⟨k + 1, by omega, congrArg (Value.int .i64) (by omega), (hx.out.below (hb2 _ _)).below hb3, hp'⟩
            case measure => simp [intOf]; omega
          · have hR := hid (show R = false by rw [hE.out, eqNds_no (fun e => he (by rw [e]))]; rfl)
            generalize l.getD k nd0 = x at p0 p1 p2 p3 hcall he
            generalize m.getD k nd0 = y at q0 q1 q2 q3 hcall he
            obtain ⟨xk, xs, xn, xl⟩ := x
            obtain ⟨yk, ys, yn, yl⟩ := y
            dsimp only at p0 p1 p2 p3 q0 q1 q2 q3 hcall
            clear hcu hcv hu hv hp hA hB hr hG hH hF hE
            rcases nd_ne he with h1 | ⟨rfl, h2⟩ | ⟨rfl, rfl, h3⟩ | ⟨rfl, rfl, rfl, h4⟩
            · have h1' : (xk == yk) = false := by simpa using h1
              clear he
              go_wp2
              go_ret
              exact ⟨ret_bool hR.out.symm, Below.next hx.out.b (hb2 _ _)⟩
            · have h2' : (xs.toList == ys.toList) = false := by simpa using h2
              clear he
              go_wp2
              go_ret
              exact ⟨ret_bool hR.out.symm, Below.next hx.out.b (hb2 _ _)⟩
            · have h3' : (xn == yn) = false := by simpa using h3
              clear he
              go_wp2
              go_ret
              exact ⟨ret_bool hR.out.symm, Below.next hx.out.b (hb2 _ _)⟩
            · rw [decide_eq_false h4] at hcall
              clear he
              go_wp2_with (go_at_call 37; refine (hcall _ (hb2 _ _)).mono ?_; rintro e w2 ⟨rfl, hb3⟩)
              go_ret
              exact ⟨ret_bool hR.out.symm, Below.next (Below.next hx.out.b (hb2 _ _)) hb3⟩
        · have hT := hid (show R = true by rw [hE.out, eqNds_yes (nds_ext hlm.out (fun j hj => hp.out j (by omega)))]; rfl)
          clear hu hv hp hE
          go_wp2
          go_ret
          exact ⟨ret_bool hT.out.symm, hx.out.b⟩
    · have hR := hid (show R = false by rw [hE.out, decide_eq_false hr]; simp)
      rw [decide_eq_false hr] at hI
      clear hu hv hE
      go_enter Try.func12, Try.ntmps12
      go_wp2_with (go_at_call 37; refine hI.mono ?_; rintro e w1 ⟨rfl, hb1⟩)
      go_ret
      exact ⟨ret_bool hR.out.symm, Below.next hx.b hb1⟩
  · have hR := hid (show R = false by rw [hE.out, eqNds_no (fun e => hlen (by rw [e]))]; rfl)
    have hln : ((l.length : Int) == (m.length : Int)) = false := by simpa using (by omega : ¬ (l.length : Int) = (m.length : Int))
    clear hu hv hE
    go_enter Try.func12, Try.ntmps12
    go_wp2
    go_ret
    exact ⟨ret_bool hR.out.symm, hx.b⟩
end Go.Proofs.Ytjkcffcedbcjmaa

namespace Go.Proofs.Ytjkcffcedbcjmaa
set_option maxRecDepth 100000
open Go.ChangeShapes Go.WideShapes Go.ChangeAt Go.RowKit Go.Deep
theorem exprs_of_cells {H : Type} {enc : TypeId × Value → H} {W : World} {fuel : Nat} {u : Value} {x : DataW H × List MemPlace} (h : DataW.trod enc Try.prog W 0 (fun _ => true) true fuel 22 [u] = some x) (hw : Wt 22 x.1) : ∃ xs : List Ex, Rxs W u xs ∧ szXs xs ∧ xs.length ≤ 281474976710656 :=
  exprs_step (fun n _ cs x => expr_of_cells n cs x) h hw
theorem eq_of_cells {H : Type} {enc : TypeId × Value → H} {W : World} {fuel : Nat} {cs : List Value} {x : DataW H × List MemPlace} (h : DataW.trod enc Try.prog W 0 (fun _ => true) true fuel 51 cs = some x) (hw : Wt 51 x.1) :
    ∃ (q : ByteArray × Ex) (k : Int) (s : ByteArray) (m : Int) (a : Option Addr) (n c : Nat), cs = [.string q.1, .int .i64 k, .string s, .int .i64 m, .slice a n c] ∧ Xv W q.2 (.agg #[.int .i64 k, .string s, .int .i64 m, .slice a n c]) ∧ q.1.size ≤ 281474976710656 ∧ szX q.2 := by
  obtain ⟨xs, n, hn, hx, hl, hlen, hf⟩ := DataW.trod_struct Try.underlying51 h
  rw [c8Q] at hl
  match cs, hl with
  | [c0, c1, c2, c3, c4], _ =>
    match xs, hlen with
    | [y0, y1], _ =>
      rw [hx] at hw
      have h0 := hf 0 _ rfl
      have h1 := hf 1 _ rfl
      simp [c8S] at h0
      simp [c8X] at h1
      obtain ⟨a0, e0, d0, w0⟩ := DataW.trod_string Try.underlying9 h0
      have hw0 : Wt 9 y0.1 := hw.part Try.underlying51 (j := 0) rfl rfl
      have hw1 : Wt 48 y1.1 := hw.part Try.underlying51 (j := 1) rfl rfl
      rw [d0] at hw0
      have hs0 := hw0.str
      obtain ⟨X, k, s, m, a, n', c, e1, hX, hz⟩ := expr_of_cells n _ _ h1 hw1
      simp at e0 e1
      obtain ⟨rfl, rfl, rfl, rfl⟩ := e1
      subst e0
      exact ⟨(a0, X), k, s, m, a, n', c, rfl, hX, hs0, hz⟩
theorem eqs_of_cells {H : Type} {enc : TypeId × Value → H} {W : World} {fuel : Nat} {u : Value} {x : DataW H × List MemPlace} (h : DataW.trod enc Try.prog W 0 (fun _ => true) true fuel 23 [u] = some x) (hw : Wt 23 x.1) :
    ∃ qs : List (ByteArray × Ex), Rqs W u qs ∧ (∀ q ∈ qs, q.1.size ≤ 281474976710656 ∧ szX q.2) ∧ qs.length ≤ 281474976710656 := by
  rcases DataW.trod_slice Try.underlying23 h with ⟨hcs, _⟩ | ⟨ad, len, cap, els, rest, n, hn, hcs, hx, _, hl, hm, hlen, hel, _, _⟩
  · simp at hcs
    subst hcs
    exact ⟨[], Rqs.nil _, by simp, by simp⟩
  · simp at hcs
    subst hcs
    rw [hx] at hw
    rw [c8Q] at hel
    have hwl := hw.len Try.underlying23
    rw [b8Q, List.length_map, hlen] at hwl
    have each : ∀ i, ∃ q : ByteArray × Ex, i < len → (q.1.size ≤ 281474976710656 ∧ szX q.2) ∧ ∃ (k : Int) (s : ByteArray) (m : Int) (a : Option Addr) (n c : Nat), Xv W q.2 (.agg #[.int .i64 k, .string s, .int .i64 m, .slice a n c]) ∧ W.cells? 0 (ad.add (i * 5)) 5 = some [.string q.1, .int .i64 k, .string s, .int .i64 m, .slice a n c] := fun i => by
      by_cases hi : i < len
      · have hei := hel i hi
        rw [List.getElem?_eq_getElem (by omega)] at hei
        obtain ⟨cs', hc, ht⟩ := Option.bind_eq_some_iff.1 hei
        obtain ⟨q, k, s, m, a, n', c, rfl, hX, hs⟩ := eq_of_cells ht (hw.elem Try.underlying23 (List.mem_map.2 ⟨_, List.getElem_mem (by omega), rfl⟩))
        exact ⟨q, fun _ => ⟨hs, k, s, m, a, n', c, hX, hc⟩⟩
      · exact ⟨q0, fun h => absurd h hi⟩
    obtain ⟨f, hf⟩ : ∃ f : Nat → ByteArray × Ex, ∀ i, i < len → ((f i).1.size ≤ 281474976710656 ∧ szX (f i).2) ∧ ∃ (k : Int) (s : ByteArray) (m : Int) (a : Option Addr) (n c : Nat), Xv W (f i).2 (.agg #[.int .i64 k, .string s, .int .i64 m, .slice a n c]) ∧ W.cells? 0 (ad.add (i * 5)) 5 = some [.string (f i).1, .int .i64 k, .string s, .int .i64 m, .slice a n c] :=
      ⟨fun i => Classical.choose (each i), fun i => Classical.choose_spec (each i)⟩
    refine ⟨(List.range len).map f, ⟨some ad, cap, by simp, fun j hj => ?_⟩, fun x hx => ?_, by simp; omega⟩
    · have hj' : j < len := by simpa using hj
      have hg : ((List.range len).map f).getD j q0 = f j := by simp [List.getD, hj']
      obtain ⟨b, off, spot⟩ := ad
      obtain ⟨_, k, s, m, a, n', c, hX, hc⟩ := hf j hj'
      have hcj := (World.cells?_some hc).2.2
      have hspot : spot = none := by
        obtain ⟨_, k0, s0, m0, a0, n0, c0, _, hc0⟩ := hf 0 (by omega)
        have := (World.cells?_some hc0).2.2 0 (by omega)
        simp at this
        simpa [Addr.add] using World.cell?_spot this
      subst hspot
      have e : ∀ i, ((⟨b, off, none⟩ : Addr).add (j * 5)).add i = ⟨b, off + j * 5 + i, none⟩ := fun i => by rw [add_plain, add_plain]
      rw [hg]
      refine ⟨b, off, k, s, m, a, n', c, rfl, ?_, ?_, ?_, ?_, ?_, hX⟩
      · have := hcj 0 (by omega); rw [e] at this; simpa using this
      · have := hcj 1 (by omega); rw [e] at this; simpa using this
      · have := hcj 2 (by omega); rw [e] at this; simpa using this
      · have := hcj 3 (by omega); rw [e] at this; simpa using this
      · have := hcj 4 (by omega); rw [e] at this; simpa using this
    · obtain ⟨i, hi, rfl⟩ := List.mem_map.1 hx
      exact (hf i (List.mem_range.1 hi)).1
theorem wt_arg {H : Type} {ts : List TypeId} {ds : List (DataW H)} (hsz : (DataW.weightsEach Try.prog ts ds).all (· ≤ reachBytes) = true) {j : Nat} {t : TypeId} {d : DataW H} (ht : ts[j]? = some t) (hd : ds[j]? = some d) : Wt t d := fun n hn => by
  have := List.all_eq_true.1 hsz _ (DataW.weights_mem_each ht hd n hn)
  have r := reachBytes_lt
  simp at this
  omega
theorem exprs_of {H : Type} {enc : TypeId × Value → H} {W : World} {base : Nat} {u : Value} {d : DataW H} {p : List MemPlace} (hv : Value.okWide Try.prog W .any base 22 u) (h : DataW.Trod enc Try.prog W 0 (fun _ => true) true 22 u d p) (hw : Wt 22 d) :
    ∃ xs : List Ex, Rxs W u xs ∧ szXs xs ∧ xs.length ≤ 281474976710656 := by
  obtain ⟨a, len, cap, rfl⟩ := okWide_slice Try.underlying22 hv
  obtain ⟨fuel, hf⟩ := h
  have hf' : DataW.trod enc Try.prog W 0 (fun _ => true) true fuel 22 [.slice a len cap] = some (d, p) := by simpa [Value.cells] using hf
  exact exprs_of_cells hf' hw
theorem eqs_of {H : Type} {enc : TypeId × Value → H} {W : World} {base : Nat} {u : Value} {d : DataW H} {p : List MemPlace} (hv : Value.okWide Try.prog W .any base 23 u) (h : DataW.Trod enc Try.prog W 0 (fun _ => true) true 23 u d p) (hw : Wt 23 d) :
    ∃ qs : List (ByteArray × Ex), Rqs W u qs ∧ (∀ q ∈ qs, q.1.size ≤ 281474976710656 ∧ szX q.2) ∧ qs.length ≤ 281474976710656 := by
  obtain ⟨a, len, cap, rfl⟩ := okWide_slice Try.underlying23 hv
  obtain ⟨fuel, hf⟩ := h
  have hf' : DataW.trod enc Try.prog W 0 (fun _ => true) true fuel 23 [.slice a len cap] = some (d, p) := by simpa [Value.cells] using hf
  exact eqs_of_cells hf' hw
end Go.Proofs.Ytjkcffcedbcjmaa
