/- Same of the reference; the size of graphs. -/
import Derived.Test.YtebmnggjblellaaGrSame2
namespace Go.Proofs.Ytebmnggjblellaa
open Go.RowKit

/-- Two variables that hold a graph each. -/
structure Two (W w : World) (nv rv mv sv : Value) : Prop where
  n : w.cell? ⟨W.heap.size, 0, none⟩ = some nv
  r : w.cell? ⟨W.heap.size, 1, none⟩ = some rv
  m : w.cell? ⟨W.heap.size + 1, 0, none⟩ = some mv
  s : w.cell? ⟨W.heap.size + 1, 1, none⟩ = some sv
  b : Below W.heap.size W w
theorem Two.start (W : World) (nv rv mv sv : Value) : Two W ((W.alloc (.cells #[nv, rv] 25)).alloc (.cells #[mv, sv] 25)) nv rv mv sv :=
  ⟨by simp [go_sem], by simp [go_sem], by simp [go_sem], by simp [go_sem], (below_alloc W _).alloc (by simp) _⟩
theorem Two.below {W w w' : World} {nv rv mv sv : Value} (h : Two W w nv rv mv sv) (hb : Below w.heap.size w w') : Two W w' nv rv mv sv :=
  ⟨by rw [hb.cell (p := ⟨W.heap.size, 0, none⟩) (lt_of_cell h.n)]; exact h.n, by rw [hb.cell (p := ⟨W.heap.size, 1, none⟩) (lt_of_cell h.r)]; exact h.r,
    by rw [hb.cell (p := ⟨W.heap.size + 1, 0, none⟩) (lt_of_cell h.m)]; exact h.m, by rw [hb.cell (p := ⟨W.heap.size + 1, 1, none⟩) (lt_of_cell h.s)]; exact h.s, Below.next h.b hb⟩
theorem nd_ne {k k' n n' : Int} {s s' : ByteArray} {l l' : List Int} (h : (⟨k, s, n, l⟩ : Nd) ≠ ⟨k', s', n', l'⟩) : k ≠ k' ∨ (k = k' ∧ s.toList ≠ s'.toList) ∨ (k = k' ∧ s = s' ∧ n ≠ n') ∨ (k = k' ∧ s = s' ∧ n = n' ∧ l ≠ l') := by
  by_cases h1 : k = k'
  · by_cases h2 : s.toList = s'.toList
    · have h2' := text_eq h2
      by_cases h3 : n = n'
      · exact Or.inr (Or.inr (Or.inr ⟨h1, h2', h3, fun e => h (by rw [h1, h2', h3, e])⟩))
      · exact Or.inr (Or.inr (Or.inl ⟨h1, h2', h3⟩))
    · exact Or.inr (Or.inl ⟨h1, h2⟩)
  · exact Or.inl h1
set_option maxRecDepth 100000 in
set_option maxHeartbeats 4000000 in
theorem rsame_any {W : World} {nv rv mv sv : Value} {g h : Gf} (hG : Gr W nv rv g) (hH : Gr W mv sv h) (hF : Fits g) :
    Calls Try.prog 21 #[.agg #[nv, rv], .agg #[mv, sv]] W fun e w' => e = .returned (.bool (eqG g h)) ∧ Below W.heap.size W w' := by
  obtain ⟨l, lr⟩ := g
  obtain ⟨m, mr⟩ := h
  have hE := hid (gf_eq ⟨l, lr⟩ ⟨m, mr⟩)
  generalize eqG ⟨l, lr⟩ ⟨m, mr⟩ = R at hE ⊢
  have hl := hF.nodes
  have hx := Two.start W nv rv mv sv
  have hI := rints_any (hG.2.below hx.b) (hH.2.below hx.b) hF.roots
  obtain ⟨ua, uc, rfl, hu⟩ := hG.1
  obtain ⟨va, vc, rfl, hv⟩ := hH.1
  dsimp only at hE hl hI hu hv ⊢
  by_cases hlen : l.length = m.length
  · rw [← hlen] at hx hI ⊢
    have hlm := hid hlen
    clear hlen
    by_cases hr : lr = mr
    · rw [decide_eq_true hr] at hI hE
      go_enter Try.func21, Try.ntmps21
      go_wp2_with (go_at_call 18; refine hI.mono ?_; rintro e w1 ⟨rfl, hb1⟩)
      go_loopw [5] (fun i wr => ∃ k : Nat, k ≤ l.length ∧ i = .int .i64 k ∧ Hid (Two W wr (.slice ua l.length uc) rv (.slice va l.length vc) sv) ∧ Hid (∀ j, j < k → l.getD j nd0 = m.getD j nd0)) (fun i _ => l.length - (intOf i).toNat)
      case atStart => exact ⟨0, Nat.zero_le _, rfl, hx.below hb1, fun j hj => absurd hj (Nat.not_lt_zero _)⟩
      case round =>
        clear hx hI hb1
        obtain ⟨k, hk, rfl, hx, hp⟩ := hrel
        have c0 := hx.out.n
        have c1 := hx.out.m
        have z0 := lt_of_cell c0
        have z1 := lt_of_cell c1
        by_cases hlt : k < l.length
        · obtain ⟨ub, uo, uav, rfl, hcu⟩ := hu k hlt
          obtain ⟨vb, vo, vav, rfl, hcv⟩ := hv k (by rw [← hlm.out]; exact hlt)
          obtain ⟨p0, p1, p2, p3, hA⟩ := hcu.below hx.out.b
          obtain ⟨q0, q1, q2, q3, hB⟩ := hcv.below hx.out.b
          have hlp := lt_of_cell p0
          have hlq := lt_of_cell q0
          obtain ⟨ax, ay, az, rfl⟩ := hA.shape
          obtain ⟨bx, bz, bw, rfl⟩ := hB.shape
          have hcall : ∀ w1 : World, Below wr.heap.size wr w1 → _ := fun w1 hb => rints_any (W := w1) (l := (l.getD k nd0).args) (m := (m.getD k nd0).args) (hA.below hb) (hB.below hb) (hF.args _ (by simp [List.getD, hlt]))
          have hb2 : ∀ o1 o2 : Obj, Below wr.heap.size wr ((wr.alloc o1).alloc o2) := fun o1 o2 => (below_alloc wr _).alloc (by simp) _
          by_cases he : l.getD k nd0 = m.getD k nd0
          · have hp' : Hid (∀ j, j < k + 1 → l.getD j nd0 = m.getD j nd0) := fun j hj => by
              rcases Nat.lt_or_eq_of_le (Nat.le_of_lt_succ hj) with h | h
              · exact hp.out j h
              · subst h; exact he
            rw [← he] at q0 q1 q2 hcall
            generalize l.getD k nd0 = x at p0 p1 p2 p3 q0 q1 q2 hcall
            obtain ⟨xk, xs, xn, xl⟩ := x
            dsimp only at p0 p1 p2 p3 q0 q1 q2 q3 hcall
            rw [decide_eq_true rfl] at hcall
            clear hcu hcv hu hv he hp hA hB hr hG hH hF
            go_wp2_with (go_at_call 18; refine (hcall _ (hb2 _ _)).mono ?_; rintro e w2 ⟨rfl, hb3⟩)
            go_roundw
            case rel => exact ⟨k + 1, by omega, congrArg (Value.int .i64) (by omega), (hx.out.below (hb2 _ _)).below hb3, hp'⟩
            case measure => simp [intOf]; omega
          · have hR := hid (show R = false by rw [hE.out, eqNds_no (fun e => he (by rw [e]))]; rfl)
            generalize l.getD k nd0 = x at p0 p1 p2 p3 hcall he
            generalize m.getD k nd0 = y at q0 q1 q2 q3 hcall he
            obtain ⟨xk, xs, xn, xl⟩ := x
            obtain ⟨yk, ys, yn, yl⟩ := y
            dsimp only at p0 p1 p2 p3 q0 q1 q2 q3 hcall
            clear hcu hcv hu hv hp hA hB hr hG hH hF hE
            rcases nd_ne he with h1 | ⟨rfl, h2⟩ | ⟨rfl, rfl, h3⟩ | ⟨rfl, rfl, rfl, h4⟩
            · have h1' : (xk == yk) = false := by simpa using h1
              clear he
              go_wp2
              go_ret
              exact ⟨ret_bool hR.out.symm, Below.next hx.out.b (hb2 _ _)⟩
            · have h2' : (xs.toList == ys.toList) = false := by simpa using h2
              clear he
              go_wp2
              go_ret
              exact ⟨ret_bool hR.out.symm, Below.next hx.out.b (hb2 _ _)⟩
            · have h3' : (xn == yn) = false := by simpa using h3
              clear he
              go_wp2
              go_ret
              exact ⟨ret_bool hR.out.symm, Below.next hx.out.b (hb2 _ _)⟩
            · rw [decide_eq_false h4] at hcall
              clear he
              go_wp2_with (go_at_call 18; refine (hcall _ (hb2 _ _)).mono ?_; rintro e w2 ⟨rfl, hb3⟩)
              go_ret
              exact ⟨ret_bool hR.out.symm, Below.next (Below.next hx.out.b (hb2 _ _)) hb3⟩
        · have hT := hid (show R = true by rw [hE.out, eqNds_yes (nds_ext hlm.out (fun j hj => hp.out j (by omega)))]; rfl)
          clear hu hv hp hE
          go_wp2
          go_ret
          exact ⟨ret_bool hT.out.symm, hx.out.b⟩
    · have hR := hid (show R = false by rw [hE.out, decide_eq_false hr]; simp)
      rw [decide_eq_false hr] at hI
      clear hu hv hE
      go_enter Try.func21, Try.ntmps21
      go_wp2_with (go_at_call 18; refine hI.mono ?_; rintro e w1 ⟨rfl, hb1⟩)
      go_ret
      exact ⟨ret_bool hR.out.symm, Below.next hx.b hb1⟩
  · have hR := hid (show R = false by rw [hE.out, eqNds_no (fun e => hlen (by rw [e]))]; rfl)
    have hln : ((l.length : Int) == (m.length : Int)) = false := by simpa using (by omega : ¬ (l.length : Int) = (m.length : Int))
    clear hu hv hE
    go_enter Try.func21, Try.ntmps21
    go_wp2
    go_ret
    exact ⟨ret_bool hR.out.symm, hx.b⟩
/-- Is a graph small? -/
def smallG (g : Gf) : Bool := decide (g.nodes.length ≤ 300) && decide (g.roots.length ≤ 300) && g.nodes.all (fun n => decide (n.args.length ≤ 40))
theorem small_fits {g : Gf} (h : smallG g = true) : Fits g ∧ g.nodes.length ≤ 300 ∧ g.roots.length ≤ 300 := by
  simp only [smallG, Bool.and_eq_true, decide_eq_true_eq, List.all_eq_true] at h
  obtain ⟨⟨h1, h2⟩, h3⟩ := h
  exact ⟨⟨by omega, by omega, fun n hn => by have := h3 n hn; omega⟩, h1, h2⟩
set_option maxRecDepth 100000 in
set_option maxHeartbeats 2000000 in
theorem small_any {W : World} {nv rv : Value} {g : Gf} (hG : Gr W nv rv g) :
    Calls Try.prog 47 #[.agg #[nv, rv], .int .i64 300] W fun e w' => e = .returned (.bool (smallG g)) ∧ Below W.heap.size W w' := by
  obtain ⟨l, lr⟩ := g
  obtain ⟨ua, uc, rfl, hu⟩ := hG.1
  obtain ⟨ra, rc, rfl, _⟩ := hG.2
  dsimp only at hu ⊢
  have hE := hid (show smallG ⟨l, lr⟩ = (decide (l.length ≤ 300) && decide (lr.length ≤ 300) && l.all (fun n => decide (n.args.length ≤ 40))) from rfl)
  generalize smallG ⟨l, lr⟩ = R at hE ⊢
  by_cases h1 : 300 < l.length
  · have h1' : (300 : Int) < (l.length : Int) := by omega
    have hR := hid (show R = false by rw [hE.out, decide_eq_false (by omega : ¬ l.length ≤ 300)]; rfl)
    clear hE hu hG
    go_enter Try.func47, Try.ntmps47
    go_wp2
    go_ret
    exact ⟨ret_bool hR.out.symm, below_alloc _ _⟩
  · by_cases h2 : 300 < lr.length
    · have h1' : ¬ (300 : Int) < (l.length : Int) := by omega
      have h2' : (300 : Int) < (lr.length : Int) := by omega
      have hR := hid (show R = false by rw [hE.out, decide_eq_false (by omega : ¬ lr.length ≤ 300)]; simp)
      clear hE hu hG
      go_enter Try.func47, Try.ntmps47
      go_wp2
      go_ret
      exact ⟨ret_bool hR.out.symm, below_alloc _ _⟩
    · have h1' : ¬ (300 : Int) < (l.length : Int) := by omega
      have h2' : ¬ (300 : Int) < (lr.length : Int) := by omega
      go_enter Try.func47, Try.ntmps47
      go_wp2
      go_loopw [22] (fun i wr => ∃ k : Nat, k ≤ l.length ∧ i = .int .i64 k ∧ Hid (Below W.heap.size W wr) ∧ Hid (∀ j, j < k → (l.getD j nd0).args.length ≤ 40)) (fun i _ => l.length - (intOf i).toNat)
      case atStart => exact ⟨0, Nat.zero_le _, rfl, below_alloc _ _, fun j hj => absurd hj (Nat.not_lt_zero _)⟩
      case round =>
        obtain ⟨k, hk, rfl, hb, hp⟩ := hrel
        by_cases hlt : k < l.length
        · obtain ⟨ub, uo, uav, rfl, hcu⟩ := hu k hlt
          obtain ⟨p0, p1, p2, p3, hA⟩ := hcu.below hb.out
          obtain ⟨aa, ac, rfl, _⟩ := hA
          have hin : l.getD k nd0 ∈ l := by simp [List.getD, hlt]
          have hlp := lt_of_cell p0
          by_cases h40 : 40 < (l.getD k nd0).args.length
          · have hR := hid (show R = false by
              rw [hE.out]
              have : l.all (fun n => decide (n.args.length ≤ 40)) = false := List.all_eq_false.2 ⟨_, hin, by simpa using h40⟩
              rw [this]
              simp)
            clear hin hcu hu hp hE hG
            generalize l.getD k nd0 = x at p0 p1 p2 p3 h40
            obtain ⟨xk, xs, xn, xl⟩ := x
            dsimp only at p0 p1 p2 p3 h40
            have h40' : (40 : Int) < (xl.length : Int) := by omega
            go_wp2
            go_ret
            exact ⟨ret_bool hR.out.symm, hb.out.alloc hb.out.size _⟩
          · have hp' : Hid (∀ j, j < k + 1 → (l.getD j nd0).args.length ≤ 40) := fun j hj => by
              rcases Nat.lt_or_eq_of_le (Nat.le_of_lt_succ hj) with h | h
              · exact hp.out j h
              · subst h; omega
            clear hin hcu hu hp hE hG
            generalize l.getD k nd0 = x at p0 p1 p2 p3 h40
            obtain ⟨xk, xs, xn, xl⟩ := x
            dsimp only at p0 p1 p2 p3 h40
            have h40' : ¬ (40 : Int) < (xl.length : Int) := by omega
            go_wp2
            go_roundw
            case rel => exact ⟨k + 1, by omega, congrArg (Value.int .i64) (by omega), hb.out.alloc hb.out.size _, hp'⟩
            case measure => simp [intOf]; omega
        · have hR := hid (show R = true by
            rw [hE.out, decide_eq_true (by omega : l.length ≤ 300), decide_eq_true (by omega : lr.length ≤ 300)]
            simp only [Bool.true_and, List.all_eq_true, decide_eq_true_eq]
            intro n hn
            obtain ⟨i, hi, rfl⟩ := List.getElem_of_mem hn
            have := hp.out i (by omega)
            simpa [List.getD, hi] using this)
          clear hE hu hG hp
          go_wp2
          go_ret
          exact ⟨ret_bool hR.out.symm, hb.out⟩
set_option maxHeartbeats 400000 in
theorem large_any {W : World} {nv rv : Value} {g : Gf} (hG : Gr W nv rv g) :
    Calls Try.prog 10 #[.agg #[nv, rv]] W fun e w' => e = .returned (.bool (!smallG g)) ∧ Below W.heap.size W w' := by
  have hS := small_any (hG.below (below_alloc W (.cells #[nv, rv] 25)))
  generalize smallG g = r at hS ⊢
  clear hG
  go_enter Try.func10, Try.ntmps10
  go_wp2_with (go_at_call 47; refine hS.mono ?_; rintro e w1 ⟨rfl, hb⟩)
  go_ret
  exact ⟨rfl, Below.next (below_alloc _ _) hb⟩
end Go.Proofs.Ytebmnggjblellaa
