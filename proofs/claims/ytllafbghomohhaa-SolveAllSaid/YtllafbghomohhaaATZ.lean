/- Same of the reference; the size of graphs. -/
import Derived.Test.YtllafbghomohhaaAJZ
import Derived.Test.YtllafbghomohhaaASZ
import Derived.Test.YtllafbghomohhaaALZ
import Derived.Test.YtllafbghomohhaaAGZ
namespace Go.Proofs.Ytllafbghomohhaa
open Go.RowKit

/-- Two variables that hold a graph each. -/
structure Two (W w : World) (nv rv mv sv : Value) : Prop where
  n : w.cell? ⟨W.heap.size, 0, none⟩ = some nv
  r : w.cell? ⟨W.heap.size, 1, none⟩ = some rv
  m : w.cell? ⟨W.heap.size + 1, 0, none⟩ = some mv
  s : w.cell? ⟨W.heap.size + 1, 1, none⟩ = some sv
  b : Below W.heap.size W w
theorem Two.start (W : World) (nv rv mv sv : Value) : Two W ((W.alloc (.cells #[nv, rv] 25)).alloc (.cells #[mv, sv] 25)) nv rv mv sv :=
  ⟨by simp [go_sem], by simp [go_sem], by simp [go_sem], by simp [go_sem], (below_alloc W _).alloc (by simp) _⟩
theorem Two.below {W w w' : World} {nv rv mv sv : Value} (h : Two W w nv rv mv sv) (hb : Below w.heap.size w w') : Two W w' nv rv mv sv :=
  ⟨by rw [hb.cell (p := ⟨W.heap.size, 0, none⟩) (lt_of_cell h.n)]; exact h.n, by rw [hb.cell (p := ⟨W.heap.size, 1, none⟩) (lt_of_cell h.r)]; exact h.r,
    by rw [hb.cell (p := ⟨W.heap.size + 1, 0, none⟩) (lt_of_cell h.m)]; exact h.m, by rw [hb.cell (p := ⟨W.heap.size + 1, 1, none⟩) (lt_of_cell h.s)]; exact h.s, Below.next h.b hb⟩
theorem nd_ne {k k' n n' : Int} {s s' : ByteArray} {l l' : List Int} (h : (⟨k, s, n, l⟩ : Nd) ≠ ⟨k', s', n', l'⟩) : k ≠ k' ∨ (k = k' ∧ s.toList ≠ s'.toList) ∨ (k = k' ∧ s = s' ∧ n ≠ n') ∨ (k = k' ∧ s = s' ∧ n = n' ∧ l ≠ l') := by
  by_cases h1 : k = k'
  · by_cases h2 : s.toList = s'.toList
    · have h2' := text_eq h2
      by_cases h3 : n = n'
      · exact Or.inr (Or.inr (Or.inr ⟨h1, h2', h3, fun e => h (by rw [h1, h2', h3, e])⟩))
      · exact Or.inr (Or.inr (Or.inl ⟨h1, h2', h3⟩))
    · exact Or.inr (Or.inl ⟨h1, h2⟩)
  · exact Or.inl h1
set_option maxRecDepth 100000 in
set_option maxHeartbeats 4000000 in
theorem rsame_any {W : World} {nv rv mv sv : Value} {g h : Gf} (hG : Gr W nv rv g) (hH : Gr W mv sv h) (hF : Fits g) :
    Calls Try.prog 9 #[.agg #[nv, rv], .agg #[mv, sv]] W fun e w' => e = .returned (.bool (eqG g h)) ∧ Below W.heap.size W w' := by
  obtain ⟨l, lr⟩ := g
  obtain ⟨m, mr⟩ := h
  have hE := hid (gf_eq ⟨l, lr⟩ ⟨m, mr⟩)
  generalize eqG ⟨l, lr⟩ ⟨m, mr⟩ = R at hE ⊢
  have hl := hF.nodes
  have hx := Two.start W nv rv mv sv
  have hI := rints_any (hG.2.below hx.b) (hH.2.below hx.b) hF.roots
  obtain ⟨ua, uc, rfl, hu⟩ := hG.1
  obtain ⟨va, vc, rfl, hv⟩ := hH.1
  dsimp only at hE hl hI hu hv ⊢
  by_cases hlen : l.length = m.length
  · rw [← hlen] at hx hI ⊢
    have hlm := hid hlen
    clear hlen
    by_cases hr : lr = mr
    · rw [decide_eq_true hr] at hI hE
      go_enter Try.func9, Try.ntmps9
      go_wp2_with (go_at_call 32; refine hI.mono ?_; rintro e w1 ⟨rfl, hb1⟩)
      go_loopw [5] (fun i wr => ∃ k : Nat, k ≤ l.length ∧ i = .int .i64 k ∧ Hid (Two W wr (.slice ua l.length uc) rv (.slice va l.length vc) sv) ∧ Hid (∀ j, j < k → l.getD j nd0 = m.getD j nd0)) (fun i _ => l.length - (intOf i).toNat)
      case atStart => exact ⟨0, Nat.zero_le _, rfl, hx.below hb1, fun j hj => absurd hj (Nat.not_lt_zero _)⟩
      case round =>
        clear hx hI hb1
        obtain ⟨k, hk, rfl, hx, hp⟩ := hrel
        have c0 := hx.out.n
        have c1 := hx.out.m
        have z0 := lt_of_cell c0
        have z1 := lt_of_cell c1
        by_cases hlt : k < l.length
        · obtain ⟨ub, uo, uav, rfl, hcu⟩ := hu k hlt
          obtain ⟨vb, vo, vav, rfl, hcv⟩ := hv k (by rw [← hlm.out]; exact hlt)
          obtain ⟨p0, p1, p2, p3, hA⟩ := hcu.below hx.out.b
          obtain ⟨q0, q1, q2, q3, hB⟩ := hcv.below hx.out.b
          have hlp := lt_of_cell p0
          have hlq := lt_of_cell q0
          obtain ⟨ax, ay, az, rfl⟩ := hA.shape
          obtain ⟨bx, bz, bw, rfl⟩ := hB.shape
          have hcall : ∀ w1 : World, Below wr.heap.size wr w1 → _ := fun w1 hb => rints_any (W := w1) (l := (l.getD k nd0).args) (m := (m.getD k nd0).args) (hA.below hb) (hB.below hb) (hF.args _ (by simp [List.getD, hlt]))
          have hb2 : ∀ o1 o2 : Obj, Below wr.heap.size wr ((wr.alloc o1).alloc o2) := fun o1 o2 => (below_alloc wr _).alloc (by simp) _
          by_cases he : l.getD k nd0 = m.getD k nd0
          · have hp' : Hid (∀ j, j < k + 1 → l.getD j nd0 = m.getD j nd0) := fun j hj => by
              rcases Nat.lt_or_eq_of_le (Nat.le_of_lt_succ hj) with h | h
              · exact hp.out j h
              · subst h; exact he
            rw [← he] at q0 q1 q2 hcall
            generalize l.getD k nd0 = x at p0 p1 p2 p3 q0 q1 q2 hcall
            obtain ⟨xk, xs, xn, xl⟩ := x
            dsimp only at p0 p1 p2 p3 q0 q1 q2 q3 hcall
            rw [decide_eq_true rfl] at hcall
            clear hcu hcv hu hv he hp hA hB hr hG hH hF
            go_wp2_with (go_at_call 32; refine (hcall _ (hb2 _ _)).mono ?_; rintro e w2 ⟨rfl, hb3⟩)
            go_roundw
            case rel => exact ⟨k + 1, by omega, congrArg (Value.int .i64) (by omega), (hx.out.below (hb2 _ _)).below hb3, hp'⟩
            case measure => simp [intOf]; omega
          · have hR := hid (show R = false by rw [hE.out, eqNds_no (fun e => he (by rw [e]))]; rfl)
            generalize l.getD k nd0 = x at p0 p1 p2 p3 hcall he
            generalize m.getD k nd0 = y at q0 q1 q2 q3 hcall he
            obtain ⟨xk, xs, xn, xl⟩ := x
            obtain ⟨yk, ys, yn, yl⟩ := y
            dsimp only at p0 p1 p2 p3 q0 q1 q2 q3 hcall
            clear hcu hcv hu hv hp hA hB hr hG hH hF hE
            rcases nd_ne he with h1 | ⟨rfl, h2⟩ | ⟨rfl, rfl, h3⟩ | ⟨rfl, rfl, rfl, h4⟩
            · have h1' : (xk == yk) = false := by simpa using h1
              clear he
              go_wp2
              go_ret
              exact ⟨ret_bool hR.out.symm, Below.next hx.out.b (hb2 _ _)⟩
            · have h2' : (xs.toList == ys.toList) = false := by simpa using h2
              clear he
              go_wp2
              go_ret
              exact ⟨ret_bool hR.out.symm, Below.next hx.out.b (hb2 _ _)⟩
            · have h3' : (xn == yn) = false := by simpa using h3
              clear he
              go_wp2
              go_ret
              exact ⟨ret_bool hR.out.symm, Below.next hx.out.b (hb2 _ _)⟩
            · rw [decide_eq_false h4] at hcall
              clear he
              go_wp2_with (go_at_call 32; refine (hcall _ (hb2 _ _)).mono ?_; rintro e w2 ⟨rfl, hb3⟩)
              go_ret
              exact ⟨ret_bool hR.out.symm, Below.next (Below.next hx.out.b (hb2 _ _)) hb3⟩
        · have hT := hid (show R = true by rw [hE.out, eqNds_yes (nds_ext hlm.out (fun j hj => hp.out j (by omega)))]; rfl)
          clear hu hv hp hE
          go_wp2
          go_ret
          exact ⟨ret_bool hT.out.symm, hx.out.b⟩
    · have hR := hid (show R = false by rw [hE.out, decide_eq_false hr]; simp)
      rw [decide_eq_false hr] at hI
      clear hu hv hE
      go_enter Try.func9, Try.ntmps9
      go_wp2_with (go_at_call 32; refine hI.mono ?_; rintro e w1 ⟨rfl, hb1⟩)
      go_ret
      exact ⟨ret_bool hR.out.symm, Below.next hx.b hb1⟩
  · have hR := hid (show R = false by rw [hE.out, eqNds_no (fun e => hlen (by rw [e]))]; rfl)
    have hln : ((l.length : Int) == (m.length : Int)) = false := by simpa using (by omega : ¬ (l.length : Int) = (m.length : Int))
    clear hu hv hE
    go_enter Try.func9, Try.ntmps9
    go_wp2
    go_ret
    exact ⟨ret_bool hR.out.symm, hx.b⟩
end Go.Proofs.Ytllafbghomohhaa

/- SolveAll, walked. -/
namespace Go.Proofs.Ytllafbghomohhaa
open Go.RowKit

set_option maxRecDepth 100000 in
set_option maxHeartbeats 8000000 in
theorem sall_short {W : World} {na ra pa : Option Addr} {n r p nc rc pc : Nat} (hla : ∀ w, Below W.heap.size W w → Calls Try.prog 6 #[.agg #[.slice na n nc, .slice ra r rc], .slice pa p pc] w fun e w' => e = .returned (.bool true) ∧ Below w.heap.size w w') :
    Calls Try.prog 3 #[.agg #[.slice na n nc, .slice ra r rc], .slice pa p pc] W fun e w' => e = .returned (.bool true) ∧ Below W.heap.size W w' := by
  have HB : Hid (Below W.heap.size W (W.alloc (.cells #[.slice na n nc, .slice ra r rc] 25)) ∧ (W.alloc (.cells #[.slice na n nc, .slice ra r rc] 25)).heap[W.heap.size]? = some (.cells #[.slice na n nc, .slice ra r rc] 25)) := ⟨below_alloc W _, heap_alloc_new W _⟩
  have Hla := hid hla
  clear hla
  go_enter Try.func3, Try.ntmps3
  go_wp2_with (first
    | (go_at_call 5; refine (slives_any _).mono ?_; rintro e w1 ⟨rfl, hb1⟩; replace HB := hid (And.intro (Below.next HB.out.1 hb1) ((hb1.block _ (lt_of_block HB.out.2)).trans HB.out.2)); clear hb1; obtain ⟨⟨g0, g1⟩, _⟩ := blk2y HB.out.2; have g2 := lt_of_block HB.out.2)
    | (go_at_call 6; refine (Hla.out _ HB.out.1).mono ?_; rintro e w1 ⟨rfl, hb1⟩; replace HB := hid (And.intro (Below.next HB.out.1 hb1) ((hb1.block _ (lt_of_block HB.out.2)).trans HB.out.2)); clear hb1))
  go_ret
  exact ⟨rfl, HB.out.1⟩
set_option maxRecDepth 100000 in
set_option maxHeartbeats 16000000 in
theorem sall_main {W : World} {na ra pa : Option Addr} {n r p nc rc pc : Nat} (ok : Bool) (x : Int × Int) (P : Gf → Prop) (hu : ∀ h t, P h → P t → h = t) (hft : ∀ h, P h → Fits h) (k : Int) (H : List Nat) (hH : H.length ≤ 5000)
    (hla : ∀ w, Below W.heap.size W w → Calls Try.prog 6 #[.agg #[.slice na n nc, .slice ra r rc], .slice pa p pc] w fun e w' => e = .returned (.bool false) ∧ Below w.heap.size w w')
    (hso : ∀ w, Below W.heap.size W w → Calls Try.prog 7 #[.agg #[.slice na n nc, .slice ra r rc], .slice pa p pc] w fun e w' => (∃ a1 m1 c1 a2 m2 c2 ev h, e = .returned (.tuple #[.agg #[.slice a1 m1 c1, .slice a2 m2 c2], .bool ok, ev]) ∧ Gr w' (.slice a1 m1 c1) (.slice a2 m2 c2) h ∧ Er w' ev (one x) ∧ P h) ∧ Below w.heap.size w w')
    (hrs : ∀ w, Below W.heap.size W w → Calls Try.prog 8 #[.agg #[.slice na n nc, .slice ra r rc], .slice pa p pc] w fun e w' => (∃ a1 m1 c1 a2 m2 c2 t, e = .returned (.tuple #[.agg #[.slice a1 m1 c1, .slice a2 m2 c2], .bool ok, .agg #[.int .i64 x.1, .int .i64 x.2, .string ⟨#[]⟩, .slice none 0 0]]) ∧ Gr w' (.slice a1 m1 c1) (.slice a2 m2 c2) t ∧ P t) ∧ Below w.heap.size w w')
    (hve : ∀ w, Below W.heap.size W w → Calls Try.prog 11 #[.agg #[.slice na n nc, .slice ra r rc], .slice pa p pc] w fun e w' => (∃ ao c ev, e = .returned (.tuple #[.agg #[.int .i64 k, .slice ao H.length c], ev]) ∧ w'.ownsRow w.heap.size 3 1 (.slice ao H.length c) H.length ((ints H).map (Value.int .i64)) ∧ Er w' ev (one x)) ∧ Below w.heap.size w w')
    (hrv : ∀ w, Below W.heap.size W w → Calls Try.prog 12 #[.agg #[.slice na n nc, .slice ra r rc], .slice pa p pc] w fun e w' => (∃ ao c, e = .returned (.tuple #[.agg #[.int .i64 k, .slice ao H.length c], .agg #[.int .i64 x.1, .int .i64 x.2, .string ⟨#[]⟩, .slice none 0 0]]) ∧ w'.ownsRow w.heap.size 3 1 (.slice ao H.length c) H.length ((ints H).map (Value.int .i64))) ∧ Below w.heap.size w w') :
    Calls Try.prog 3 #[.agg #[.slice na n nc, .slice ra r rc], .slice pa p pc] W fun e w' => e = .returned (.bool true) ∧ Below W.heap.size W w' := by
  have HB : Hid (Below W.heap.size W (W.alloc (.cells #[.slice na n nc, .slice ra r rc] 25)) ∧ (W.alloc (.cells #[.slice na n nc, .slice ra r rc] 25)).heap[W.heap.size]? = some (.cells #[.slice na n nc, .slice ra r rc] 25)) := ⟨below_alloc W _, heap_alloc_new W _⟩
  have Hla := hid hla
  have Hso := hid hso
  have Hrs := hid hrs
  have Hve := hid hve
  have Hrv := hid hrv
  have Hu := hid hu
  have Hft := hid hft
  clear hla hso hrs hve hrv hu hft
  obtain ⟨c, a⟩ := x
  dsimp only at Hrs Hrv
  have hne : (ok != ok) = false := by simp
  go_enter Try.func3, Try.ntmps3
  go_wp2_with (first
    | (go_at_call 5; refine (slives_any _).mono ?_; rintro e w1 ⟨rfl, hb1⟩; replace HB := hid (And.intro (Below.next HB.out.1 hb1) ((hb1.block _ (lt_of_block HB.out.2)).trans HB.out.2)); clear hb1; obtain ⟨⟨g0, g1⟩, _⟩ := blk2y HB.out.2; have g2 := lt_of_block HB.out.2)
    | (go_at_call 6; refine (Hla.out _ HB.out.1).mono ?_; rintro e w2 ⟨rfl, hb1⟩; replace HB := hid (And.intro (Below.next HB.out.1 hb1) ((hb1.block _ (lt_of_block HB.out.2)).trans HB.out.2)); clear hb1 g0 g1 g2; obtain ⟨⟨g0, g1⟩, _⟩ := blk2y HB.out.2; have g2 := lt_of_block HB.out.2)
    | (go_at_call 7; refine (Hso.out _ HB.out.1).mono ?_; rintro e w3 ⟨⟨a1, m1, c1, a2, m2, c2, ev, h, rfl, hg, he, hp⟩, hb1⟩; replace HB := hid (And.intro (Below.next HB.out.1 (Below.next hb1 (below_alloc w3 (.cells #[.slice a1 m1 c1, .slice a2 m2 c2] 25)))) (((below_alloc w3 (.cells #[.slice a1 m1 c1, .slice a2 m2 c2] 25)).block _ (by have h1 := lt_of_block HB.out.2; have h2 := hb1.size; omega)).trans ((hb1.block _ (lt_of_block HB.out.2)).trans HB.out.2))); have Hg := hid (hg.below (below_alloc w3 (.cells #[.slice a1 m1 c1, .slice a2 m2 c2] 25))); have HE := hid (he.below (below_alloc w3 (.cells #[.slice a1 m1 c1, .slice a2 m2 c2] 25))); have Hp := hid hp; have HX := hid (heap_alloc_new w3 (.cells #[.slice a1 m1 c1, .slice a2 m2 c2] 25)); clear hb1 hg he hp g0 g1 g2; obtain ⟨⟨g0, g1⟩, _⟩ := blk2y HB.out.2; have g2 := lt_of_block HB.out.2)
    | (go_at_call 8; refine (Hrs.out _ HB.out.1).mono ?_; rintro e w4 ⟨⟨b1, k1, d1, b2, k2, d2, t, rfl, hg4, hp4⟩, hb4⟩; have HS := hid (Sa3.mk2 (c := c) (a := a) HB.out.1 HB.out.2 HX.out Hg.out HE.out hb4 hg4); have Ht := hid (Hu.out h t Hp.out hp4); have Hp4 := hid hp4; clear hb4 hg4 hp4 g0 g1 g2 HB Hg HE HX; obtain ⟨⟨⟨⟨g0, g1⟩, g2⟩, ⟨⟨x0, x1⟩, x2⟩, ⟨⟨y0, y1⟩, y2⟩⟩, ⟨f0, f1, f2, f3⟩, f4⟩ := HS.out.cells)
    | (go_at_call 9; have hsm := rsame_any HS.out.hx HS.out.hy (Hft.out _ Hp.out); rw [show eqG h t = true by rw [Ht.out]; exact eqG_yes t] at hsm; refine hsm.mono ?_; clear hsm; rintro e w5 ⟨rfl, hb5⟩; replace HS := hid (HS.out.next hb5); clear hb5 g0 g1 g2 x0 x1 x2 y0 y1 y2 f0 f1 f2 f3 f4; obtain ⟨⟨⟨⟨g0, g1⟩, g2⟩, _⟩, ⟨f0, f1, f2, f3⟩, f4⟩ := HS.out.cells)
    | (go_at_call 10; with_reducible refine (is_any HS.out.e (fl_one _ (c, a))).mono ?_; rintro e w6 ⟨rfl, hb6⟩; replace HS := hid (HS.out.next hb6); clear hb6 g0 g1 g2 f0 f1 f2 f3 f4; obtain ⟨⟨⟨⟨g0, g1⟩, g2⟩, _⟩, ⟨f0, f1, f2, f3⟩, f4⟩ := HS.out.cells)
    | (go_at_call 11; refine (Hve.out _ HS.out.b).mono ?_; rintro e w7 ⟨⟨ao, vc, ev2, rfl, ho7, he7⟩, hb7⟩; have HT := hid (Sa4.mk2 (k := k) HS.out hb7 ho7 he7); clear hb7 ho7 he7 g0 g1 g2 f0 f1 f2 f3 f4; obtain ⟨⟨⟨g0, g1⟩, g2⟩, ⟨f0, f1, f2, f3⟩, ⟨f4, f5, f6, f7⟩, f8⟩ := HT.out.cells)
    | (go_at_call 12; refine (Hrv.out _ HT.out.b).mono ?_; rintro e w8 ⟨⟨bo, vd, rfl, ho8⟩, hb8⟩; have HT8 := hid (HT.out.next hb8); have Ho8 := hid ho8; clear ho8 hb8 g0 g1 g2 f0 f1 f2 f3 f4 f5 f6 f7 f8; obtain ⟨⟨⟨g0, g1⟩, g2⟩, ⟨f0, f1, f2, f3⟩, ⟨f4, f5, f6, f7⟩, f8⟩ := HT8.out.cells; obtain ⟨⟨v0, v1⟩, _⟩ := blk2y HT8.out.x; have v2 := lt_of_block HT8.out.x; have v3 := HT8.out.lp; have H5 := hid (Sa5.mk2 HT8.out (B := (w7.alloc (vbo k (.slice ao H.length vc))).heap.size) (by simp; omega) Ho8.out); clear HS HT HT8 Ho8)
    | (go_at_call 13; refine (rvsame_any H5.out.hx H5.out.hy (by simp [ints]; exact hH)).mono ?_; rintro e w9 ⟨rfl, hb9⟩; replace H5 := hid (H5.out.next hb9); clear hb9 g0 g1 g2 f0 f1 f2 f3 f4 f5 f6 f7 f8 v0 v1 v2 v3; obtain ⟨_, ⟨f0, f1, f2, f3⟩, f4⟩ := H5.out.cells)
    | (go_at_call 10; refine (is_any H5.out.e (fl_one _ (c, a))).mono ?_; rintro e w10 ⟨rfl, hb10⟩; replace H5 := hid (H5.out.next hb10); clear hb10))
  go_ret
  exact ⟨rfl, H5.out.b⟩
end Go.Proofs.Ytllafbghomohhaa

/- Verdict of the reference, walked. -/
namespace Go.Proofs.Ytllafbghomohhaa
open Go.RowKit

theorem ret_vf {w : World} {fn : Func} {t r : Tmp} (hfn : fn.results = #[.cell t 41, .cell r 35]) {tmps : Array Value} {q p : Nat} {u0 u1 : Value} {c a : Int} (h4 : tmps[t]?.getD undef = .pointer (some ⟨q, 0, none⟩)) (h6 : tmps[r]?.getD undef = .pointer (some ⟨p, 0, none⟩)) (hq : w.heap[q]? = some (.cells #[u0, u1] 41)) (hp : w.heap[p]? = some (fbo c a)) : (results fn tmps).run Try.prog w = .ok (.tuple #[.agg #[u0, u1], flt (c, a)]) w := by
  obtain ⟨⟨z0, z1⟩, _⟩ := blk2y hq
  obtain ⟨f0, f1, f2, f3⟩ := flt_four hp
  simp [results, hfn, go_sem, h4, h6, z0, z1, f0, f1, f2, f3, flt]
set_option maxRecDepth 100000 in
set_option maxHeartbeats 8000000 in
theorem rver_bad {W : World} {nv rv pv : Value} {g : Gf} {ps : List (Int × Int)} (hG : Gr W nv rv g) (hS : Sized g) (hP : Rp W pv ps) (hl : ps.length ≤ 5000) (hc : chkS g ps ≠ []) :
    Calls Try.prog 12 #[.agg #[nv, rv], pv] W fun e w' => e = .returned (.tuple #[.agg #[.int .i64 0, .slice none 0 0], flt (chkP g ps)]) ∧ Below W.heap.size W w' := by
  have hB := Rbx.new W nv rv (.int .i64 0) (.slice none 0 0) 41
  have hck := rchk10_any (hG.below hB.b) hS (hP.below hB.b) hl
  have hbad := chkP_bad hc
  have HB := hid hB
  clear hG hP hS hc hB
  generalize chkP g ps = x at *
  obtain ⟨c, a⟩ := x
  dsimp only at hbad
  go_enter Try.func12, Try.ntmps12
  go_wp2_with (first
    | (go_at_call 26; go_must (refine hck.mono ?_; clear hck; rintro e w1 ⟨rfl, hb1⟩; have HB1 := hid (HB.out.next hb1); clear hb1 HB))
    | (go_at_call 27; go_must (refine (fbad_yes hbad a _).mono ?_; rintro e w2 ⟨rfl, hb2⟩; have hfb := (hb2.block _ (by simp)).trans (heap_alloc_new w1 (fbo c a)); have zq := lt_of_block hfb; obtain ⟨q0, q1, q2, q3⟩ := flt_four hfb; have HB2 := hid (HB1.out.next (Below.next (below_alloc w1 _) hb2)); have hne := lt_of_block HB1.out.f; obtain ⟨_, ⟨⟨r0, r1⟩, ⟨r2, r3⟩, r4⟩, ⟨f0, f1, f2, f3⟩, ⟨f4, f5, f6, f7⟩, f8⟩ := HB2.out.cells; clear hb2 HB1 hfb)))
  go_region
  all_goals go_wp2
  have hfin := (HB2.out.finA (.int .i64 0) (.slice none 0 0) c a).drew
  exact bodyPost_ret (ret_vf Try.results12 (by rfl) (by rfl) hfin.r hfin.f) rfl ⟨rfl, hfin.b⟩
set_option maxRecDepth 100000 in
set_option maxHeartbeats 8000000 in
theorem rver_no {W : World} {nv rv pv : Value} {g : Gf} {ps : List (Int × Int)} (hG : Gr W nv rv g) (hS : Sized g) (hP : Rp W pv ps) (hl : ps.length ≤ 5000) (hc : chkS g ps = []) (hn : NoSol g.nodes (ps.map natP)) :
    Calls Try.prog 12 #[.agg #[nv, rv], pv] W fun e w' => e = .returned (.tuple #[.agg #[.int .i64 1, .slice none 0 0], flt (0, 0)]) ∧ Below W.heap.size W w' := by
  have hB := Rbx.new W nv rv (.int .i64 0) (.slice none 0 0) 41
  have hck := rchk10_any (hG.below hB.b) hS (hP.below hB.b) hl
  rw [chkP_nil hc] at hck
  obtain ⟨hg, hpg⟩ := chkS_good hc
  have hN : g.nodes.length ≤ 10000 := by have := hg.nodes; omega
  have hcl := hid (fun w (hb : Below W.heap.size W w) => rclosed_no (hG.below hb) (hP.below hb) (goodA_of hg) hpg hN hl hn)
  have HB := hid hB
  clear hG hP hS hc hB hg hpg hn
  go_enter Try.func12, Try.ntmps12
  go_wp2_with (first
    | (go_at_call 26; go_must (refine hck.mono ?_; clear hck; rintro e w1 ⟨rfl, hb1⟩; have HB1 := hid (HB.out.next hb1); clear hb1 HB))
    | (go_at_call 27; go_must (refine (fbad_no 0 _).mono ?_; rintro e w2 ⟨rfl, hb2⟩; have hfb := hid ((hb2.block _ (by simp)).trans (heap_alloc_new w1 (fbo 0 0))); have HB2 := hid (HB1.out.next (Below.next (below_alloc w1 _) hb2)); have hne := lt_of_block HB1.out.f; obtain ⟨⟨⟨g0, g1⟩, g2⟩, _⟩ := HB2.out.cells; clear hb2 HB1))
    | (go_at_call 28; go_must (refine (hcl.out _ HB2.out.b).mono ?_; clear hcl; rintro e w3 ⟨rfl, hb3⟩; have hfb3 := (hb3.block _ (lt_of_block hfb.out)).trans hfb.out; have zq := lt_of_block hfb3; obtain ⟨q0, q1, q2, q3⟩ := flt_four hfb3; have HB3 := hid (HB2.out.next hb3); obtain ⟨_, ⟨⟨r0, r1⟩, ⟨r2, r3⟩, r4⟩, ⟨f0, f1, f2, f3⟩, ⟨f4, f5, f6, f7⟩, f8⟩ := HB3.out.cells; clear hb3 HB2 hfb hfb3)))
  go_region
  all_goals go_wp2
  have hfin := (HB3.out.finA (.int .i64 1) (.slice none 0 0) 0 0).drew
  exact bodyPost_ret (ret_vf Try.results12 (by rfl) (by rfl) hfin.r hfin.f) rfl ⟨rfl, hfin.b⟩
/-- The verdict that is built: what hangs so far. -/
structure Vh (w3 : World) (ao : Option Addr) (c : Nat) (H : List Nat) (w : World) : Prop where
  b : Below w3.heap.size w3 w
  x : w.heap[w3.heap.size]? = some (.cells #[.int .i64 (if H.length = 0 then 2 else 3), .slice ao H.length c] 41)
  o : w.ownsRow (w3.heap.size + 1) 3 1 (.slice ao H.length c) H.length ((ints H).map (Value.int .i64))
theorem Vh.next {w3 w w' : World} {ao : Option Addr} {c : Nat} {H : List Nat} (h : Vh w3 ao c H w) (hb : Below w.heap.size w w') : Vh w3 ao c H w' :=
  ⟨h.b.trans (hb.mono h.b.size), (hb.block _ (lt_of_block h.x)).trans h.x, row_keep h.o (fun k hk => hb.block k (h.o.lt k hk).2)⟩
theorem Vh.start (w3 : World) : Vh w3 none 0 [] (w3.alloc (.cells #[.int .i64 2, .slice none 0 0] 41)) :=
  ⟨below_alloc w3 _, heap_alloc_new w3 _, World.ownsRow_nil _ _ _ _⟩
theorem Vh.push {w3 w w6 : World} {ao : Option Addr} {c g6 cap j : Nat} {H : List Nat} {o : Obj} (h : Vh w3 ao c H w) (hown : w6.ownsRow (w3.heap.size + 1) 3 1 (.slice (some ⟨g6, 0, none⟩) (H.length + 1) cap) (H.length + 1) ((ints H).map (Value.int .i64) ++ [.int .i64 (j : Int)])) (hg : ((w.setCell ⟨w3.heap.size, 0, none⟩ (.int .i64 3)).alloc o).grownBy w6 (Value.slice ao H.length c).ownBlock) :
    w6.heap[w3.heap.size]? = some (.cells #[.int .i64 3, .slice ao H.length c] 41) ∧ Vh w3 (some ⟨g6, 0, none⟩) cap (H ++ [j]) (w6.setCell ⟨w3.heap.size, 1, none⟩ (.slice (some ⟨g6, 0, none⟩) (H.length + 1) cap)) := by
  have hz := lt_of_block h.x
  have hs := h.b.size
  have hlo := fun q hq => (h.o.lt q hq).1
  have hx0 : (w.setCell ⟨w3.heap.size, 0, none⟩ (.int .i64 3)).heap[w3.heap.size]? = some (.cells #[.int .i64 3, .slice ao H.length c] 41) := blk2_set0 h.x
  have b0 : Below w3.heap.size w3 (w.setCell ⟨w3.heap.size, 0, none⟩ (.int .i64 3)) := h.b.setCell (p := ⟨w3.heap.size, 0, none⟩) (Nat.le_refl _) _
  have hs0 : (w.setCell ⟨w3.heap.size, 0, none⟩ (.int .i64 3)).heap.size = w.heap.size := by simp
  have b6 : w6.heap[w3.heap.size]? = some (.cells #[.int .i64 3, .slice ao H.length c] 41) := by
    rw [hg.block _ (by simp; omega) (fun e => by have := hlo _ e.symm; omega)]
    exact (Below.heap_alloc _ _ _ (by rw [hs0]; omega)).trans hx0
  refine ⟨b6, ⟨?_, ?_, ?_⟩⟩
  · exact ((b0.alloc (by rw [hs0]; omega) o).grown hg (by simp; omega) (fun q hq => by have := hlo q hq; omega)).setCell (p := ⟨w3.heap.size, 1, none⟩) (Nat.le_refl _) _
  · have := blk2_set1 (v1 := .slice (some ⟨g6, 0, none⟩) (H.length + 1) cap) b6
    rw [List.length_append, List.length_singleton, if_neg (by omega)]
    exact this
  · rw [List.length_append, List.length_singleton, show (ints (H ++ [j])).map (Value.int .i64) = (ints H).map (Value.int .i64) ++ [.int .i64 (j : Int)] by simp [ints]]
    refine row_keep hown (fun q hq => Below.heap_setCell _ _ _ _ ?_)
    have := (hown.lt q hq).1
    show q ≠ w3.heap.size
    omega
/-- Has another one of the first nodes this node's class? -/
def othB (L : List Nat) (i : Nat) : Nat → Bool
  | 0 => false
  | j + 1 => othB L i j || (decide (j ≠ i) && decide (L.getD j 0 = L.getD i 0))
theorem othB_iff {L : List Nat} {i : Nat} : ∀ {j : Nat}, othB L i j = true ↔ ∃ k, k < j ∧ k ≠ i ∧ L.getD k 0 = L.getD i 0
  | 0 => ⟨fun h => (by cases h), fun ⟨_, h, _⟩ => absurd h (Nat.not_lt_zero _)⟩
  | j + 1 => by
    unfold othB
    rw [Bool.or_eq_true, othB_iff, Bool.and_eq_true, decide_eq_true_eq, decide_eq_true_eq]
    constructor
    · rintro (⟨k, h1, h2⟩ | ⟨h1, h2⟩)
      · exact ⟨k, by omega, h2⟩
      · exact ⟨j, by omega, h1, h2⟩
    · rintro ⟨k, h1, h2, h3⟩
      rcases Nat.lt_or_eq_of_le (Nat.le_of_lt_succ h1) with h | h
      · exact Or.inl ⟨k, h, h2, h3⟩
      · subst h; exact Or.inr ⟨h2, h3⟩
theorem hang_step {ns : List Nd} {L : List Nat} (hL : L.length = ns.length) {j : Nat} (hj : j < ns.length) : hangF ns (ldE ns L) (j + 1) = hangF ns (ldE ns L) j ++ (if (ndN ns j).kind = 1 ∧ othB L j ns.length = true then [j] else []) := by
  have h : 1 < cntN (ldE ns L) (ldE ns L j) ns.length ↔ othB L j ns.length = true := by
    rw [cntN_two hj, othB_iff]
    constructor
    · rintro ⟨k, h1, h2, h3⟩
      exact ⟨k, h1, h2, (ldE_ker (by omega) (by omega)).1 h3⟩
    · rintro ⟨k, h1, h2, h3⟩
      exact ⟨k, h1, h2, (ldE_ker (by omega) (by omega)).2 h3⟩
  show hangF ns (ldE ns L) j ++ (if (ndN ns j).kind = 1 ∧ 1 < cntN (ldE ns L) (ldE ns L j) ns.length then [j] else []) = _
  simp only [h]
set_option maxRecDepth 100000 in
set_option maxHeartbeats 8000000 in
theorem rver_yes {W : World} {nv rv pv : Value} {g : Gf} {ps : List (Int × Int)} (hG : Gr W nv rv g) (hS : Sized g) (hP : Rp W pv ps) (hl : ps.length ≤ 5000) (hc : chkS g ps = []) (hn : ¬ NoSol g.nodes (ps.map natP)) :
    Calls Try.prog 12 #[.agg #[nv, rv], pv] W fun e w' => (∃ E ao c, Un g.nodes (ps.map natP) E [] ∧ e = .returned (.tuple #[.agg #[.int .i64 (if (hangF g.nodes E g.nodes.length).length = 0 then 2 else 3), .slice ao (hangF g.nodes E g.nodes.length).length c], flt (0, 0)]) ∧ w'.ownsRow W.heap.size 3 1 (.slice ao (hangF g.nodes E g.nodes.length).length c) (hangF g.nodes E g.nodes.length).length ((ints (hangF g.nodes E g.nodes.length)).map (Value.int .i64))) ∧ Below W.heap.size W w' := by
  obtain ⟨i0, hi, hz0, hz1, hz2⟩ := info_parts infoI
  have hB := Rbx.new W nv rv (.int .i64 0) (.slice none 0 0) 41
  have hck := rchk10_any (hG.below hB.b) hS (hP.below hB.b) hl
  rw [chkP_nil hc] at hck
  obtain ⟨hg, hpg⟩ := chkS_good hc
  have hN : g.nodes.length ≤ 10000 := by have := hg.nodes; omega
  have hcl := hid (fun w (hb : Below W.heap.size W w) => rclosed_yes (hG.below hb) (hP.below hb) (goodA_of hg) hpg hN hl hn)
  have HB := hid hB
  have hUn := hid (fun L (hd : CloD g.nodes (ps.map natP) L) => ldE_un (goodA_of hg) (psg_nat hpg) hd)
  have HG := hid hG
  obtain ⟨na, nc, rfl, _⟩ := hG.1
  obtain ⟨ra, rc, rfl, _⟩ := hG.2
  clear hG hP hS hc hB hg hpg hn
  go_enter Try.func12, Try.ntmps12
  go_wp2_with (first
    | (go_at_call 26; go_must (refine hck.mono ?_; clear hck; rintro e w1 ⟨rfl, hb1⟩; have HB1 := hid (HB.out.next hb1); clear hb1 HB))
    | (go_at_call 27; go_must (refine (fbad_no 0 _).mono ?_; rintro e w2 ⟨rfl, hb2⟩; have hfb := hid ((hb2.block _ (by simp)).trans (heap_alloc_new w1 (fbo 0 0))); have HB2 := hid (HB1.out.next (Below.next (below_alloc w1 _) hb2)); have hne := lt_of_block HB1.out.f; obtain ⟨⟨⟨g0, g1⟩, g2⟩, _⟩ := HB2.out.cells; clear hb2 HB1))
    | (go_at_call 28; go_must (refine (hcl.out _ HB2.out.b).mono ?_; clear hcl; rintro e w3 ⟨⟨L, ca, cc, rfl, hri, hd⟩, hb3⟩; have Hfb := hid ((hb3.block _ (lt_of_block hfb.out)).trans hfb.out); have HB3 := hid (HB2.out.next hb3); have Hri := hid hri; have Hd := hid hd; clear hb3 HB2 hfb hri hd g0 g1 g2)))
  have HL : Hid (L.length = g.nodes.length) := Hd.out.clo.len
  have HU := hid (hUn.out L Hd.out)
  have hcl : Hid (∀ (w : World) (i : Nat), i < g.nodes.length → Below w3.heap.size w3 w → ∃ b o, ca = some ⟨b, o, none⟩ ∧ w.cell? ⟨b, o + i, none⟩ = some (.int .i64 ((L.getD i 0 : Nat) : Int))) := fun w i hi hb => by
    have hL := HL.out
    obtain ⟨ao, c, e, h⟩ := Hri.out.below hb
    injection e with e1 _ _
    subst e1
    obtain ⟨b, o, e, h⟩ := h i (by simp [ints, hL]; exact hi)
    rw [ints_get (by omega)] at h
    exact ⟨b, o, e, h⟩
  have hV0 := hid (Vh.start w3)
  clear hUn Hd Hri
  go_loopw [10] (fun i wr => ∃ (j : Nat) (ao : Option Addr) (c : Nat), j ≤ g.nodes.length ∧ i = .int .i64 (j : Int) ∧ Hid (Vh w3 ao c (hangF g.nodes (ldE g.nodes L) j) wr)) (fun i _ => g.nodes.length - (intOf i).toNat)
  case atStart => exact ⟨0, none, 0, Nat.zero_le _, rfl, hV0⟩
  case round =>
    clear hV0
    obtain ⟨j, ao, c, hj, rfl, hV⟩ := hrel
    have HBr := hid (HB3.out.next hV.out.b)
    obtain ⟨⟨⟨g0, g1⟩, g2⟩, _⟩ := HBr.out.cells
    by_cases hlt : j < g.nodes.length
    · have hji : (j : Int) < (g.nodes.length : Int) := by omega
      obtain ⟨nb, no, e, k0⟩ := gr_kind HG.out HBr.out.b hlt
      subst e
      have zk := lt_of_cell k0
      have hst := hid (hang_step HL.out hlt)
      by_cases hk : (ndN g.nodes j).kind = 1
      · rw [hk] at k0
        go_wp2
        clear k0 zk g0 g1 g2
        obtain ⟨wo, rfl⟩ : ∃ wo : World, wo = wr := ⟨_, rfl⟩
        go_loopw [11, 12] (fun s i wr => ∃ (k : Nat), k ≤ g.nodes.length ∧ i = .int .i64 (k : Int) ∧ s = .bool (othB L j k) ∧ Hid (Vh w3 ao c (hangF g.nodes (ldE g.nodes L) j) wr)) (fun _ i _ => g.nodes.length - (intOf i).toNat)
        case atStart => exact ⟨0, Nat.zero_le _, rfl, rfl, hV⟩
        case round =>
          clear hV HBr
          obtain ⟨k, hk2, rfl, rfl, hV⟩ := hrel
          have HBr := hid (HB3.out.next hV.out.b)
          obtain ⟨⟨⟨g0, g1⟩, g2⟩, _⟩ := HBr.out.cells
          by_cases hkl : k < g.nodes.length
          · have hki : (k : Int) < (g.nodes.length : Int) := by omega
            obtain ⟨cb, co, e, c0⟩ := hcl.out wr k hkl hV.out.b
            subst e
            obtain ⟨cb2, co2, e, c1⟩ := hcl.out wr j hlt hV.out.b
            injection e with e
            injection e with e1 e2 _
            subst e1
            subst e2
            have zc := lt_of_cell c0
            have zc1 := lt_of_cell c1
            have hos : Hid (othB L j (k + 1) = (othB L j k || (decide (k ≠ j) && decide (L.getD k 0 = L.getD j 0)))) := rfl
            generalize othB L j k = B at *
            generalize L.getD k 0 = x at *
            generalize L.getD j 0 = y at *
            cases B with
            | true =>
              have hR : Hid (othB L j (k + 1) = true) := by have := hos.out; rw [Bool.true_or] at this; exact this
              clear hos
              go_wp2
              go_quiet (fail)
              go_wp2
              go_roundw
              case rel => exact ⟨k + 1, by omega, by go_num, congrArg Value.bool hR.out.symm, hid (hV.out.next (below_drewN (Below.refl _ _) _))⟩
              case measure => simp [intOf]; omega
            | false =>
              by_cases hkj : k = j
              · subst hkj
                have hR : Hid (othB L k (k + 1) = false) := by have := hos.out; simp at this; exact this
                have d0 : ((k : Int) != (k : Int)) = false := by simp
                clear hos
                go_wp2
                go_quiet (fail)
                go_wp2
                go_roundw
                case rel => exact ⟨k + 1, by omega, by go_num, congrArg Value.bool hR.out.symm, hid (hV.out.next (below_drewN (Below.refl _ _) _))⟩
                case measure => simp [intOf]; omega
              · have d0 : ((k : Int) != (j : Int)) = true := by simp; omega
                have hR : Hid (othB L j (k + 1) = decide (x = y)) := by
                  have := hos.out
                  rw [Bool.false_or, decide_eq_true hkj, Bool.true_and] at this
                  exact this
                clear hos
                by_cases hxy : x = y
                · have d1 : ((x : Int) == (y : Int)) = true := by simp; omega
                  have hR2 : Hid (othB L j (k + 1) = true) := by rw [hR.out]; exact decide_eq_true hxy
                  clear hR hkj hxy
                  go_wp2
                  go_quiet (fail)
                  go_wp2
                  go_roundw
                  case rel => exact ⟨k + 1, by omega, by go_num, congrArg Value.bool hR2.out.symm, hid (hV.out.next (below_drewN (Below.refl _ _) _))⟩
                  case measure => simp [intOf]; omega
                · have d1 : ((x : Int) == (y : Int)) = false := by simp; omega
                  have hR2 : Hid (othB L j (k + 1) = false) := by rw [hR.out]; exact decide_eq_false hxy
                  clear hR hkj hxy
                  go_wp2
                  go_quiet (fail)
                  go_wp2
                  go_roundw
                  case rel => exact ⟨k + 1, by omega, by go_num, congrArg Value.bool hR2.out.symm, hid (hV.out.next (below_drewN (Below.refl _ _) _))⟩
                  case measure => simp [intOf]; omega
          · obtain rfl : k = g.nodes.length := by omega
            have hst2 : Hid (hangF g.nodes (ldE g.nodes L) (j + 1) = hangF g.nodes (ldE g.nodes L) j ++ (if othB L j g.nodes.length = true then [j] else [])) := by
              have := hst.out
              simp only [hk, true_and] at this
              exact this
            have hHl : (hangF g.nodes (ldE g.nodes L) j).length ≤ j := hangF_le _ _ _
            generalize othB L j g.nodes.length = B at *
            clear hst
            cases B with
            | true =>
              have hst3 : Hid (hangF g.nodes (ldE g.nodes L) (j + 1) = hangF g.nodes (ldE g.nodes L) j ++ [j]) := by have := hst2.out; rw [if_pos rfl] at this; exact this
              clear hst2
              generalize hangF g.nodes (ldE g.nodes L) j = H at *
              have hx := hV.out.x
              have zx := lt_of_block hx
              obtain ⟨⟨x0, x1⟩, x2, x3⟩ := blk2y hx
              have hO1 := World.ownsRow.alloc (row_keep (w' := wr.setCell ⟨w3.heap.size, 0, none⟩ (.int .i64 3)) hV.out.o (fun q hq => Below.heap_setCell _ _ _ _ (by have := (hV.out.o.lt q hq).1; show q ≠ w3.heap.size; omega))) (.cells #[.int .i64 (j : Int)] 3)
              have hpush := hid (fun (w6 : World) (g6 cap : Nat) => Vh.push (w6 := w6) (g6 := g6) (cap := cap) (j := j) (o := .cells #[.int .i64 (j : Int)] 3) hV.out)
              have hzr : w3.heap.size ≤ wr.heap.size := hV.out.b.size
              clear hx
              go_wp2_with (at_builtin; go_must (refine wpList_append_lies _ rfl _ _ 23 rfl (w3.heap.size + 1) 3 i0 (.int .i64 0) 1 8 Try.underlying23 hi hz0 hz1 hz2 rfl (by decide) _ H.length _ rfl hO1 ⟨wr.heap.size, 0, none⟩ 1 1 [.int .i64 (j : Int)] rfl rfl (World.news_of_block (cs := #[.int .i64 (j : Int)]) (t := 3) (fr := (0, 0)) (by have h9 := heap_alloc_new (wr.setCell ⟨w3.heap.size, 0, none⟩ (.int .i64 3)) (.cells #[.int .i64 (j : Int)] 3); simpa using h9)) (by simp [Value.oneCell']) (by decide) (by unfold maxLen; omega) (by omega) (by simp; omega) _ rfl ?_; intro g6 cap w6 hown6 hg6 hat6 hlt6; obtain ⟨hx6, HV6⟩ := hpush.out w6 g6 cap hown6 hg6; have HV7 := hid HV6; have zx6 := lt_of_block hx6; obtain ⟨⟨y0, y1⟩, y2, y3⟩ := blk2y hx6; clear hx6 HV6 hown6 hg6 hpush))
              exact ⟨⟨j + 1, some ⟨g6, 0, none⟩, cap, by omega, by go_num, (show Vh _ _ _ _ _ by rw [hst3.out]; exact HV7.out)⟩, by simp [intOf]; omega⟩
            | false =>
              have hst3 : Hid (hangF g.nodes (ldE g.nodes L) (j + 1) = hangF g.nodes (ldE g.nodes L) j) := by have := hst2.out; rw [if_neg (by decide), List.append_nil] at this; exact this
              clear hst2
              go_wp2
              exact ⟨⟨j + 1, ao, c, by omega, by go_num, (show Vh _ _ _ _ _ by rw [hst3.out]; exact hV.out)⟩, by simp [intOf]; omega⟩
      · have hst3 : Hid (hangF g.nodes (ldE g.nodes L) (j + 1) = hangF g.nodes (ldE g.nodes L) j) := by
          have := hst.out
          rw [if_neg (fun h => hk h.1), List.append_nil] at this
          exact this
        have d0 : ((ndN g.nodes j).kind != 1) = true := by simpa using hk
        generalize (ndN g.nodes j).kind = kj at *
        clear hst hk
        go_wp2
        go_roundw
        case rel => exact ⟨j + 1, ao, c, by omega, by go_num, (show Vh _ _ _ _ _ by rw [hst3.out]; exact hV.out)⟩
        case measure => simp [intOf]; omega
    · obtain rfl : j = g.nodes.length := by omega
      generalize hH : hangF g.nodes (ldE g.nodes L) g.nodes.length = H at *
      have hfbr := (hV.out.b.block _ (lt_of_block Hfb.out)).trans Hfb.out
      have zq := lt_of_block hfbr
      obtain ⟨q0, q1, q2, q3⟩ := flt_four hfbr
      have hx := hV.out.x
      have zx := lt_of_block hx
      obtain ⟨⟨x0, x1⟩, _⟩ := blk2y hx
      obtain ⟨_, ⟨⟨r0, r1⟩, ⟨r2, r3⟩, r4⟩, ⟨f0, f1, f2, f3⟩, ⟨f4, f5, f6, f7⟩, f8⟩ := HBr.out.cells
      have hne3 := lt_of_block HB3.out.f
      have hz1' := lt_of_block Hfb.out
      replace hH := hid hH
      generalize hkd : (if H.length = 0 then (2 : Int) else 3) = kd at *
      replace hkd := hid hkd
      clear hx hfbr
      go_wp2
      go_region
      all_goals go_wp2
      have hfin := (HBr.out.finA (.int .i64 kd) (.slice ao H.length c) 0 0).drew
      have hri := own_base (B' := W.heap.size) (row_keep hV.out.o (fun k hk => hfin.k k (by have := (hV.out.o.lt k hk).1; omega) (by have := (hV.out.o.lt k hk).1; omega))) (by omega)
      exact bodyPost_ret (ret_vf Try.results12 (by rfl) (by rfl) hfin.r hfin.f) rfl ⟨⟨ldE g.nodes L, ao, c, HU.out, by rw [hH.out, hkd.out], by rw [hH.out]; exact hri⟩, hfin.b⟩
end Go.Proofs.Ytllafbghomohhaa

/- Verdict of package solve. -/
namespace Go.Proofs.Ytllafbghomohhaa
open Go.RowKit

theorem ret_ve {w : World} {fn : Func} {t r : Tmp} (hfn : fn.results = #[.cell t 41, .tmp r]) {tmps : Array Value} {q : Nat} {u0 u1 v2 : Value} (h4 : tmps[t]?.getD undef = .pointer (some ⟨q, 0, none⟩)) (h6 : tmps[r]?.getD undef = v2) (hq : w.heap[q]? = some (.cells #[u0, u1] 41)) : (results fn tmps).run Try.prog w = .ok (.tuple #[.agg #[u0, u1], v2]) w := by
  obtain ⟨⟨z0, z1⟩, _⟩ := blk2y hq
  simp [results, hfn, go_sem, h4, h6, z0, z1]
abbrev veZ : Obj := .cells #[.int .i64 0, .slice none 0 0] 41
/-- The box of the graph and that of the answer. -/
structure Vb (W : World) (nv rv : Value) (w : World) : Prop where
  g : w.heap[W.heap.size]? = some (.cells #[nv, rv] 25)
  r : w.heap[W.heap.size + 1]? = some veZ
  b : Below W.heap.size W w
theorem Vb.new (W : World) (nv rv : Value) : Vb W nv rv ((W.alloc (.cells #[nv, rv] 25)).alloc veZ) := by
  have h1 := heap_alloc_new (W.alloc (.cells #[nv, rv] 25)) veZ
  rw [show (W.alloc (.cells #[nv, rv] 25)).heap.size = W.heap.size + 1 by simp] at h1
  exact ⟨(Below.heap_alloc _ _ _ (by simp)).trans (heap_alloc_new W _), h1, (below_alloc W _).alloc (by simp) _⟩
theorem Vb.next {W w w' : World} {nv rv : Value} (h : Vb W nv rv w) (hb : Below w.heap.size w w') : Vb W nv rv w' :=
  ⟨(hb.block _ (lt_of_block h.g)).trans h.g, (hb.block _ (lt_of_block h.r)).trans h.r, Below.next h.b hb⟩
theorem Vb.fin {W w : World} {nv rv : Value} (h : Vb W nv rv w) (u0 u1 : Value) : ((w.setCell ⟨W.heap.size + 1, 0, none⟩ u0).setCell ⟨W.heap.size + 1, 1, none⟩ u1).heap[W.heap.size + 1]? = some (.cells #[u0, u1] 41) ∧ Below W.heap.size W ((w.setCell ⟨W.heap.size + 1, 0, none⟩ u0).setCell ⟨W.heap.size + 1, 1, none⟩ u1) :=
  ⟨blk2_set h.r, (h.b.setCell (p := ⟨W.heap.size + 1, 0, none⟩) (Nat.le_succ _) _).setCell (p := ⟨W.heap.size + 1, 1, none⟩) (Nat.le_succ _) _⟩
theorem er_keepV {w : World} {q : Nat} {u0 u1 : Value} (hq : w.heap[q]? = some veZ) : ∀ {fs : Fs} {ev : Value}, Er w ev fs → Er ((w.setCell ⟨q, 0, none⟩ u0).setCell ⟨q, 1, none⟩ u1) ev fs
  | [], _, h => h
  | _ :: _, _, ⟨h0, b, ev, he, hb, hr⟩ => ⟨h0, b, ev, he, by
      have hne : b ≠ q := fun e => by
        subst e
        rw [hq] at hb
        injection hb with hb
        injection hb with _ hb
        exact absurd hb (by decide)
      rw [Below.heap_setCell _ _ _ _ hne, Below.heap_setCell _ _ _ _ hne]
      exact hb, er_keepV hq hr⟩
set_option maxRecDepth 100000 in
set_option maxHeartbeats 4000000 in
theorem verdict_bad {W : World} {nv rv pv : Value} {g : Gf} {ps : List (Int × Int)} (hG : Gr W nv rv g) (hS : Sized g) (hP : Rp W pv ps) (hl : ps.length ≤ 5000) (hc : chkS g ps ≠ []) :
    Calls Try.prog 11 #[.agg #[nv, rv], pv] W fun e w' => (∃ ev, e = .returned (.tuple #[.agg #[.int .i64 0, .slice none 0 0], ev]) ∧ Er w' ev (chkS g ps)) ∧ Below W.heap.size W w' := by
  obtain ⟨na, nc, rfl, _⟩ := hG.1
  obtain ⟨ra, rc, rfl, _⟩ := hG.2
  have hB := Vb.new W (.slice na g.nodes.length nc) (.slice ra g.roots.length rc)
  have hck := checked_any (hG.below hB.b) hS (hP.below hB.b) hl
  have hnil : Hid (∀ (w1 : World) (ev : Value), Er w1 ev (chkS g ps) → ∃ b, ev = .iface 70 (.pointer (some ⟨b, 0, none⟩))) := fun w1 ev h => by
    rcases h.isNil with ⟨h1, _⟩ | ⟨_, h2⟩
    · exact absurd h1 hc
    · exact h2
  have HB := hid hB
  clear hG hP hS hc hB
  go_enter Try.func11, Try.ntmps11
  go_wp2_with (go_at_call 21; go_must (refine hck.mono ?_; clear hck; rintro e w1 ⟨⟨ev, rfl, hev⟩, hb1⟩; obtain ⟨fb, rfl⟩ := hnil.out w1 ev hev; have HB1 := hid (HB.out.next hb1); have hE1 := hid hev; have hr1 := HB1.out.r; have zr1 := lt_of_block hr1; obtain ⟨⟨s0, s1⟩, s2, s3⟩ := blk2y hr1; clear hev hb1 hr1))
  obtain ⟨g1, g2⟩ := HB1.out.fin (.int .i64 0) (.slice none 0 0)
  exact bodyPost_ret (ret_ve Try.results11 (by rfl) (by rfl) g1) rfl ⟨⟨_, rfl, er_keepV HB1.out.r hE1.out⟩, g2⟩
set_option maxRecDepth 100000 in
set_option maxHeartbeats 4000000 in
theorem verdict_no {W : World} {nv rv pv : Value} {g : Gf} {ps : List (Int × Int)} (hG : Gr W nv rv g) (hS : Sized g) (hP : Rp W pv ps) (hl : ps.length ≤ 5000) (hc : chkS g ps = []) (hn : NoSol g.nodes (ps.map natP)) :
    Calls Try.prog 11 #[.agg #[nv, rv], pv] W fun e w' => e = .returned (.tuple #[.agg #[.int .i64 1, .slice none 0 0], .nilIface]) ∧ Below W.heap.size W w' := by
  obtain ⟨hg, hpg⟩ := chkS_good hc
  have hA := goodA_of hg
  obtain ⟨na, nc, rfl, _⟩ := hG.1
  obtain ⟨ra, rc, rfl, _⟩ := hG.2
  have hB := Vb.new W (.slice na g.nodes.length nc) (.slice ra g.roots.length rc)
  have hck := checked_any (hG.below hB.b) hS (hP.below hB.b) hl
  rw [hc] at hck
  have hN : g.nodes.length ≤ 10000 := by have := hg.nodes; omega
  have hap := hid (fun w1 (hb : Below W.heap.size W w1) => apart_any (w := w1) (hG.below hb).1 hN)
  have hal : Hid (∀ (w1 w2 : World) (mb : Nat) (lv : Value) (L : List Nat), Below W.heap.size W w1 → Mg w1 w2 mb (.slice na g.nodes.length nc) lv g.nodes L → Ld L id → Calls Try.prog 23 #[.pointer (some ⟨mb, 0, none⟩), pv] w2 fun e w' => e = .returned (.bool false) ∧ Below w1.heap.size w1 w') := fun w1 w2 mb lv L hb hm hl' => by
    refine (all_any hm hl' hA hN (Un.init _) (hP.below hb) hpg hl).mono ?_
    rintro e w' (⟨rfl, E, hU, _⟩ | ⟨rfl, _, hb', _⟩)
    · obtain ⟨h1, h2, _⟩ := hU.done
      exact absurd (hn _ h1 h2) (fun h => h)
    · exact ⟨rfl, hb'⟩
  have HB := hid hB
  clear hG hP hS hc hB hg hpg hA hn
  go_enter Try.func11, Try.ntmps11
  go_wp2_with (first
    | (go_at_call 21; go_must (refine hck.mono ?_; clear hck; rintro e w1 ⟨⟨ev, rfl, hev⟩, hb1⟩; have hev1 : ev = .nilIface := hev; subst hev1; have HB1 := hid (HB.out.next hb1); have hg1 := HB1.out.g; have zg1 := lt_of_block hg1; obtain ⟨⟨s0, s1⟩, _⟩ := blk2y hg1; clear hev hb1 hg1))
    | (go_at_call 22; go_must (refine (hap.out _ HB1.out.b).mono ?_; rintro e w2 ⟨mb, lv, L, rfl, hm, hld⟩; have hcall := hid (hal.out w1 w2 mb lv L HB1.out.b hm hld); clear hm hld))
    | (go_at_call 23; go_must (refine hcall.out.mono ?_; rintro e w3 ⟨rfl, hb3⟩; have HB3 := hid (HB1.out.next hb3); have hr3 := HB3.out.r; have zr3 := lt_of_block hr3; obtain ⟨⟨t0, t1⟩, t2, t3⟩ := blk2y hr3; clear hr3 hb3)))
  obtain ⟨g1, g2⟩ := HB3.out.fin (.int .i64 1) (.slice none 0 0)
  exact bodyPost_ret (ret_ve Try.results11 (by rfl) (by rfl) g1) rfl ⟨rfl, g2⟩
set_option maxRecDepth 100000 in
set_option maxHeartbeats 4000000 in
theorem verdict_yes {W : World} {nv rv pv : Value} {g : Gf} {ps : List (Int × Int)} (hG : Gr W nv rv g) (hS : Sized g) (hP : Rp W pv ps) (hl : ps.length ≤ 5000) (hc : chkS g ps = []) (hn : ¬ NoSol g.nodes (ps.map natP)) :
    Calls Try.prog 11 #[.agg #[nv, rv], pv] W fun e w' => (∃ E ao c, Un g.nodes (ps.map natP) E [] ∧ e = .returned (.tuple #[.agg #[.int .i64 (if (hangF g.nodes E g.nodes.length).length = 0 then 2 else 3), .slice ao (hangF g.nodes E g.nodes.length).length c], .nilIface]) ∧ w'.ownsRow W.heap.size 3 1 (.slice ao (hangF g.nodes E g.nodes.length).length c) (hangF g.nodes E g.nodes.length).length ((ints (hangF g.nodes E g.nodes.length)).map (Value.int .i64))) ∧ Below W.heap.size W w' := by
  obtain ⟨hg, hpg⟩ := chkS_good hc
  have hA := goodA_of hg
  obtain ⟨na, nc, rfl, _⟩ := hG.1
  obtain ⟨ra, rc, rfl, _⟩ := hG.2
  have hB := Vb.new W (.slice na g.nodes.length nc) (.slice ra g.roots.length rc)
  have hck := checked_any (hG.below hB.b) hS (hP.below hB.b) hl
  rw [hc] at hck
  have hN : g.nodes.length ≤ 10000 := by have := hg.nodes; omega
  have hap := hid (fun w1 (hb : Below W.heap.size W w1) => apart_any (w := w1) (hG.below hb).1 hN)
  have hal : Hid (∀ (w1 w2 : World) (mb : Nat) (lv : Value) (L : List Nat), Below W.heap.size W w1 → Mg w1 w2 mb (.slice na g.nodes.length nc) lv g.nodes L → Ld L id → Calls Try.prog 23 #[.pointer (some ⟨mb, 0, none⟩), pv] w2 fun e w' => e = .returned (.bool true) ∧ Below w1.heap.size w1 w' ∧ ∃ E, Un g.nodes (ps.map natP) E [] ∧ ∃ L, Mg w1 w' mb (.slice na g.nodes.length nc) lv g.nodes L ∧ Ld L E) := fun w1 w2 mb lv L hb hm hl' => by
    refine (all_any hm hl' hA hN (Un.init _) (hP.below hb) hpg hl).mono ?_
    rintro e w' (⟨rfl, E, hU, hL⟩ | ⟨rfl, h1, _, _⟩)
    · obtain ⟨L2, h3, h4⟩ := hL.mg
      exact ⟨rfl, h3.bel, E, hU, L2, h3, h4⟩
    · exact absurd h1 hn
  have hhg : Hid (∀ (w1 w2 : World) (mb : Nat) (lv : Value) (L : List Nat) (E : Nat → Nat), Mg w1 w2 mb (.slice na g.nodes.length nc) lv g.nodes L → Ld L E → Calls Try.prog 33 #[.pointer (some ⟨mb, 0, none⟩)] w2 fun e w' => (∃ ao c, e = .returned (.slice ao (hangF g.nodes E g.nodes.length).length c) ∧ w'.ownsRow w2.heap.size 3 1 (.slice ao (hangF g.nodes E g.nodes.length).length c) (hangF g.nodes E g.nodes.length).length ((ints (hangF g.nodes E g.nodes.length)).map (Value.int .i64))) ∧ Below w1.heap.size w1 w') := fun w1 w2 mb lv L E hm hl' => (shang_any hm hl' hN).mono (fun e w' ⟨h1, h2⟩ => ⟨h1, h2.bel⟩)
  have HB := hid hB
  clear hG hP hS hc hB hg hpg hA hn
  go_enter Try.func11, Try.ntmps11
  have hsplit : Hid (∀ (w3 : World) (E : Nat → Nat) (H : List Nat), H = hangF g.nodes E g.nodes.length → (H = [] ∨ ¬ ((H.length : Int) = 0))) := fun _ _ H _ => by
    cases H with
    | nil => exact Or.inl rfl
    | cons a r => exact Or.inr (by simp; omega)
  go_wp2_with (first
    | (go_at_call 21; go_must (refine hck.mono ?_; clear hck; rintro e w1 ⟨⟨ev, rfl, hev⟩, hb1⟩; have hev1 : ev = .nilIface := hev; subst hev1; have HB1 := hid (HB.out.next hb1); have hg1 := HB1.out.g; have zg1 := lt_of_block hg1; obtain ⟨⟨s0, s1⟩, _⟩ := blk2y hg1; clear hev hb1 hg1))
    | (go_at_call 22; go_must (refine (hap.out _ HB1.out.b).mono ?_; rintro e w2 ⟨mb, lv, L, rfl, hm, hld⟩; have hcall := hid (hal.out w1 w2 mb lv L HB1.out.b hm hld); clear hm hld))
    | (go_at_call 23; go_must (refine hcall.out.mono ?_; rintro e w3 ⟨rfl, hb3, E, hU, L3, hm3, hl3⟩; have HB3 := hid (HB1.out.next hb3); have hU3 := hid hU; have hch := hid (hhg.out w1 w3 mb lv L3 E hm3 hl3); have hs3 := hid (lt_of_block HB3.out.r); clear hb3 hU hm3 hl3))
    | (go_at_call 33; go_must (refine hch.out.mono ?_; rintro e w4 ⟨⟨ao, c, rfl, hrow⟩, hb4⟩; have HB4 := hid (HB1.out.next hb4); have hrow' := hid hrow; have hr4 := HB4.out.r; have zr4 := lt_of_block hr4; obtain ⟨⟨t0, t1⟩, t2, t3⟩ := blk2y hr4; clear hrow hb4 hr4; have hU3' := hid hU3.out; clear hU3; generalize hH : hangF g.nodes E g.nodes.length = H at *; have hHs := hsplit.out w4 E H hH.symm; clear hsplit)))
  · rename_i hz
    have hH0 : H = [] := by
      rcases hHs with h | h
      · exact h
      · exact absurd (by simpa using hz) h
    obtain ⟨g1, g2⟩ := HB4.out.fin (.int .i64 2) (.slice none 0 0)
    exact bodyPost_ret (ret_ve Try.results11 (by rfl) (by rfl) g1) rfl ⟨⟨E, none, 0, hU3'.out, by rw [hH, hH0]; rfl, by rw [hH, hH0]; exact World.ownsRow_nil _ _ _ _⟩, g2⟩
  · rename_i hz
    have hH0 : ¬ H.length = 0 := fun h => by rw [h] at hz; exact absurd hz (by decide)
    obtain ⟨g1, g2⟩ := HB4.out.fin (.int .i64 3) (.slice ao H.length c)
    have hrow4 : ((w4.setCell ⟨W.heap.size + 1, 0, none⟩ (.int .i64 3)).setCell ⟨W.heap.size + 1, 1, none⟩ (.slice ao H.length c)).ownsRow W.heap.size 3 1 (.slice ao H.length c) H.length ((ints H).map (Value.int .i64)) := by
      have h3 := hs3.out
      refine own_base (B := w3.heap.size) (row_keep (w := w4) hrow'.out (fun k hk => ?_)) (by omega)
      have h4 := (hrow'.out.lt k hk).1
      rw [Below.heap_setCell _ _ _ _ (by show k ≠ W.heap.size + 1; omega), Below.heap_setCell _ _ _ _ (by show k ≠ W.heap.size + 1; omega)]
    exact bodyPost_ret (ret_ve Try.results11 (by rfl) (by rfl) g1) rfl ⟨⟨E, ao, c, hU3'.out, by rw [hH, if_neg hH0]; rfl, by rw [hH]; exact hrow4⟩, g2⟩
end Go.Proofs.Ytllafbghomohhaa
