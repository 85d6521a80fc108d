/- Terms in memory whose rows lie in blocks of a set; rows of such terms of its own. -/
import Derived.Test.Ytncileojdighnaaow07Z
import Derived.Test.Ytncileojdighnaaow03Z
namespace Go.Proofs.Ytncileojdighnaa
set_option maxRecDepth 100000
open Go.RowKit
def Out (B : Nat) (v : Value) (b : Nat) : Prop := B ≤ b ∧ v.ownBlock ≠ some b
end Go.Proofs.Ytncileojdighnaa

namespace Go.Proofs.Ytncileojdighnaa
set_option maxRecDepth 100000
open Go.RowKit
set_option maxHeartbeats 2000000 in
theorem index_exprs (f : Nat) (cb : Array Value) (eg : ∀ args w, (callFunc f args).run Try.prog w = .ok (.enter f args) w) (v : Value) (xs : List Ex) (p : Nat → Bool) (W : World) (hl : xs.length ≤ 5000) (hv : Rxs W v xs)
    (hs : ∀ k w u, k < xs.length → Below W.heap.size W w → Xv w (xs.getD k x0) u → Calls Try.prog f (#[u] ++ cb) w fun e w' => e = .returned (.bool (p k)) ∧ Below w.heap.size w w') :
    Calls Try.prog 111 #[v, .func (.func f) #[] cb] W fun e w' => ((∃ k : Nat, k < xs.length ∧ p k = true ∧ e = .returned (.int .i64 k)) ∨ ((∀ j, j < xs.length → p j = false) ∧ e = .returned (.int .i64 (-1)))) ∧ Below W.heap.size W w' := by
  obtain ⟨ao, c, rfl, hat⟩ := hv
  have hAt := hid hat
  clear hat
  go_enter Try.func111, Try.ntmps111
  go_wp2
  go_loopw [5, 8] (fun _ i wr => ∃ k : Nat, k ≤ xs.length ∧ i = .int .i64 k ∧ Hid (Below W.heap.size W wr) ∧ Hid (∀ j, j < k → p j = false)) (fun _ i _ => xs.length - (intOf i).toNat)
  case atStart => exact ⟨0, Nat.zero_le _, rfl, Below.refl _ _, fun j hj => absurd hj (Nat.not_lt_zero _)⟩
  case round =>
    obtain ⟨k, hk, rfl, hB, hp⟩ := hrel
    by_cases hlt : k < xs.length
    · obtain ⟨b, o, k', n', m', aa, al, ac, rfl, d0, d1, d2, d3, hx⟩ := hAt.out k hlt
      have hz := lt_of_cell d0
      have c0 := ((bcell hB.out).1 b _ hz).trans d0
      have c1 := ((bcell hB.out).1 b _ hz).trans d1
      have c2 := ((bcell hB.out).1 b _ hz).trans d2
      have c3 := ((bcell hB.out).1 b _ hz).trans d3
      have hcall := hs k wr _ hlt hB.out (hx.next hB.out)
      clear d0 d1 d2 d3 hx hs
      cases hq : p k with
      | true =>
        have hq' : Hid (p k = true) := hq
        rw [hq] at hcall
        clear hq
        go_wp2_with (go_at_fn f; refine hcall.mono ?_; rintro e w' ⟨rfl, hb1⟩)
        go_ret
        exact ⟨Or.inl ⟨k, hlt, hq'.out, rfl⟩, Below.next hB.out hb1⟩
      | false =>
        have hq' : Hid (p k = false) := hq
        rw [hq] at hcall
        clear hq
        go_wp2_with (go_at_fn f; refine hcall.mono ?_; rintro e w' ⟨rfl, hb1⟩)
        go_roundw
        case rel =>
          refine ⟨k + 1, by omega, congrArg (Value.int .i64) (by omega), Below.next hB.out hb1, (show Hid _ from fun j hj => ?_)⟩
          rcases Nat.lt_or_eq_of_le (Nat.le_of_lt_succ hj) with h | h
          · exact hp.out j h
          · subst h; exact hq'.out
        case measure => simp [intOf]; omega
    · have hkl : Hid (k = xs.length) := show k = xs.length by omega
      clear hs
      go_wp2
      go_ret
      exact ⟨Or.inr ⟨by rw [← hkl.out]; exact hp.out, rfl⟩, hB.out⟩
set_option maxHeartbeats 1000000 in
theorem contains_exprs (f : Nat) (cb : Array Value) (eg : ∀ args w, (callFunc f args).run Try.prog w = .ok (.enter f args) w) (v : Value) (xs : List Ex) (p : Nat → Bool) (W : World) (hl : xs.length ≤ 5000) (hv : Rxs W v xs)
    (hs : ∀ k w u, k < xs.length → Below W.heap.size W w → Xv w (xs.getD k x0) u → Calls Try.prog f (#[u] ++ cb) w fun e w' => e = .returned (.bool (p k)) ∧ Below w.heap.size w w') :
    Calls Try.prog 106 #[v, .func (.func f) #[] cb] W fun e w' => ((∃ k : Nat, k < xs.length ∧ p k = true ∧ e = .returned (.bool true)) ∨ ((∀ j, j < xs.length → p j = false) ∧ e = .returned (.bool false))) ∧ Below W.heap.size W w' := by
  have hc := index_exprs f cb eg v xs p W hl hv hs
  clear hs hv
  go_enter Try.func106, Try.ntmps106
  go_wp2_with (go_at_call 111; refine hc.mono ?_; rintro e w' ⟨(⟨k, h1, h3, rfl⟩ | ⟨h1, rfl⟩), hb1⟩)
  · go_ret
    exact ⟨Or.inl ⟨k, h1, h3, rfl⟩, hb1⟩
  · go_ret
    exact ⟨Or.inr ⟨h1, rfl⟩, hb1⟩
theorem badX_eg : ∀ args w, (callFunc 105 args).run Try.prog w = .ok (.enter 105 args) w := enters_of Try.func105 (by kernel_rfl) rfl
def GoodAtC (x : Ex) : Prop := ∀ (w : World) (v : Value), Xv w x v → szX x → ∀ nest : Nat, nest ≤ 5000 →
    Calls Try.prog 72 #[v, .int .i64 (nest : Int)] w fun e w' => e = .returned (.bool (goodX nest x)) ∧ Below w.heap.size w w'
set_option maxHeartbeats 1000000 in
theorem badX_any {x : Ex} (hc : GoodAtC x) (hz : szX x) {w : World} {v : Value} (hx : Xv w x v) {q nest : Nat} (hn : nest ≤ 5000) (hq : w.cell? ⟨q, 0, none⟩ = some (.int .i64 (nest : Int))) :
    Calls Try.prog 105 #[v, .pointer (some ⟨q, 0, none⟩)] w fun e w' => e = .returned (.bool (!goodX nest x)) ∧ Below w.heap.size w w' := by
  obtain ⟨k, n, m, xs⟩ := x
  obtain ⟨av, rfl, hr⟩ := hx.parts
  have hb0 := below_alloc w (.cells #[.int .i64 k, .string n, .int .i64 m, av] 48)
  have h1 := hc _ _ ((Xv.of hr).next hb0) hz nest hn
  have hq2 := lt_of_cell hq
  clear hc hx hr hz
  go_enter Try.func105, Try.ntmps105
  go_wp2_with (go_at_call 72; refine h1.mono ?_; rintro e w1 ⟨rfl, hb1⟩)
  go_ret
  exact ⟨rfl, Below.next hb0 hb1⟩
set_option maxHeartbeats 2000000 in
theorem xgoodArgs_any {xs : List Ex} (hc : ∀ x ∈ xs, GoodAtC x) (hz : szXs xs) {w : World} {av : Value} (hr : Rxs w av xs) (nest : Nat) (hn : nest ≤ 5000) :
    Calls Try.prog 94 #[av, .int .i64 (nest : Int)] w fun e w' => e = .returned (.bool (decide (1 ≤ xs.length) && (decide (xs.length ≤ 8) && goodXs nest xs))) ∧ Below w.heap.size w w' := by
  have hb0 := below_alloc w (.cells #[.int .i64 (nest : Int)] 3)
  have hr1 := hr.next hb0
  obtain ⟨ao, c, rfl, _⟩ := hr
  have hcell : ∀ w1, Below (w.alloc (.cells #[.int .i64 (nest : Int)] 3)).heap.size (w.alloc (.cells #[.int .i64 (nest : Int)] 3)) w1 → w1.cell? ⟨w.heap.size, 0, none⟩ = some (.int .i64 (nest : Int)) := fun w1 hb => by
    rw [(bcell hb).1 _ _ (by simp)]
    exact cell_one_new w _ _ 0 _ rfl
  by_cases h1 : 1 ≤ xs.length
  · by_cases h8 : xs.length ≤ 8
    · have hk := contains_exprs 105 #[.pointer (some ⟨w.heap.size, 0, none⟩)] badX_eg _ xs (fun k => !goodX nest (xs.getD k x0)) _ (by omega) hr1 (fun k w1 u hk hb hx => badX_any (hc _ (xs_at hk)) (szXs_mem hz _ (xs_at hk)) hx hn (hcell w1 hb))
      have hE : Hid ((decide (1 ≤ xs.length) && (decide (xs.length ≤ 8) && goodXs nest xs)) = goodXs nest xs) := by rw [decide_eq_true h1, decide_eq_true h8]; rfl
      have hno : Hid (∀ j, j < xs.length → (!goodX nest (xs.getD j x0)) = true → goodXs nest xs = false) := fun j hj h => goodXs_no nest hj (by simpa using h)
      have hya : Hid ((∀ j, j < xs.length → (!goodX nest (xs.getD j x0)) = false) → goodXs nest xs = true) := fun h => goodXs_all nest (fun j hj => by simpa using h j hj)
      have i1 : (1 : Int) ≤ (xs.length : Int) := by omega
      have i8 : (xs.length : Int) ≤ 8 := by omega
      clear hc hz hcell hr1 h1 h8
      go_enter Try.func94, Try.ntmps94
      go_wp2_with (go_at_call 106; refine hk.mono ?_; rintro e w1 ⟨(⟨k, h1, h2, rfl⟩ | ⟨h1, rfl⟩), hb1⟩)
      · go_ret
        exact ⟨ret_bool (by rw [hE.out, hno.out k h1 h2]), Below.next hb0 hb1⟩
      · go_ret
        exact ⟨ret_bool (by rw [hE.out, hya.out h1]), Below.next hb0 hb1⟩
    · have hE : Hid ((decide (1 ≤ xs.length) && (decide (xs.length ≤ 8) && goodXs nest xs)) = false) := by rw [decide_eq_false h8, Bool.false_and, Bool.and_false]; exact rfl
      have i1 : (1 : Int) ≤ (xs.length : Int) := by omega
      have i8 : ¬ (xs.length : Int) ≤ 8 := by omega
      clear hc hz hcell hr1 h1 h8
      go_enter Try.func94, Try.ntmps94
      go_wp2
      go_ret
      exact ⟨ret_bool hE.out.symm, hb0⟩
  · have hE : Hid ((decide (1 ≤ xs.length) && (decide (xs.length ≤ 8) && goodXs nest xs)) = false) := by rw [decide_eq_false h1]; rfl
    have i1 : ¬ (1 : Int) ≤ (xs.length : Int) := by omega
    clear hc hz hcell hr1 h1
    go_enter Try.func94, Try.ntmps94
    go_wp2
    go_ret
    exact ⟨ret_bool hE.out.symm, hb0⟩
end Go.Proofs.Ytncileojdighnaa

namespace Go.Proofs.Ytncileojdighnaa
set_option maxRecDepth 100000
open Go.RowKit
theorem Ri.shape {w : World} {v : Value} {l : List Int} (h : Ri w v l) : ∃ ao n c, v = .slice ao n c := by
  obtain ⟨ao, c, rfl, _⟩ := h
  exact ⟨_, _, _, rfl⟩
structure Fits (g : Gf) : Prop where
  nodes : g.nodes.length ≤ 5000
  roots : g.roots.length ≤ 5000
  args : ∀ n ∈ g.nodes, n.args.length ≤ 5000
theorem same_eg : ∀ args w, (callFunc 39 args).run Try.prog w = .ok (.enter 39 args) w := enters_of Try.func39 (by kernel_rfl) rfl
set_option maxHeartbeats 2000000 in
theorem equal_nodes {W : World} {u v : Value} {l m : List Nd} (hu : Rn W u l) (hv : Rn W v m) (hl : l.length ≤ 5000) (ha : ∀ n ∈ l, n.args.length ≤ 5000) :
    Calls Try.prog 38 #[u, v, .func (.func 39) #[] #[]] W fun e w' => e = .returned (.bool (eqNds l m)) ∧ Below W.heap.size W w' := by
  obtain ⟨ua, uc, rfl, hu⟩ := hu
  obtain ⟨va, vc, rfl, hv⟩ := hv
  have eg := same_eg
  by_cases hlen : l.length = m.length
  · rw [← hlen]
    have hlm := hid hlen
    clear hlen
    go_enter Try.func38, Try.ntmps38
    go_wp2
    go_loopw [17] (fun i wr => ∃ k : Nat, k ≤ l.length ∧ i = .int .i64 k ∧ Hid (Below W.heap.size W wr) ∧ Hid (∀ j, j < k → l.getD j nd0 = m.getD j nd0)) (fun i _ => l.length - (intOf i).toNat)
    case atStart => exact ⟨0, Nat.zero_le _, rfl, Below.refl _ _, fun j hj => absurd hj (Nat.not_lt_zero _)⟩
    case round =>
      obtain ⟨k, hk, rfl, hb, hp⟩ := hrel
      by_cases hlt : k < l.length
      · obtain ⟨ub, uo, uav, rfl, hcu⟩ := hu k hlt
        obtain ⟨vb, vo, vav, rfl, hcv⟩ := hv k (by rw [← hlm.out]; exact hlt)
        obtain ⟨p0, p1, p2, p3, hA⟩ := hcu.below hb.out
        obtain ⟨q0, q1, q2, q3, hB⟩ := hcv.below hb.out
        have hlp := lt_of_cell p0
        have hlq := lt_of_cell q0
        obtain ⟨ax, ay, az, rfl⟩ := hA.shape
        obtain ⟨bx, bz, bw, rfl⟩ := hB.shape
        have hcall : ∀ w1 : World, Below wr.heap.size wr w1 → _ := fun w1 hb => sameNode_any (W := w1) (a := l.getD k nd0) (b := m.getD k nd0) (hA.below hb) (hB.below hb) (ha _ (by simp [List.getD, hlt]))
        have hb2 : ∀ o1 o2 : Obj, Below wr.heap.size wr ((wr.alloc o1).alloc o2) := fun o1 o2 => (below_alloc wr _).alloc (by simp) _
        by_cases he : l.getD k nd0 = m.getD k nd0
        · have hp' : Hid (∀ j, j < k + 1 → l.getD j nd0 = m.getD j nd0) := fun j hj => by
            rcases Nat.lt_or_eq_of_le (Nat.le_of_lt_succ hj) with h | h
            · exact hp.out j h
            · subst h; exact he
          rw [eqNd_yes he] at hcall
          generalize l.getD k nd0 = x at p0 p1 p2 p3 hcall
          generalize m.getD k nd0 = y at q0 q1 q2 q3 hcall
          obtain ⟨xk, xs, xn, xl⟩ := x
          obtain ⟨yk, ys, yn, yl⟩ := y
          dsimp only at p0 p1 p2 p3 q0 q1 q2 q3 hcall
          clear hcu hcv hu hv he hp hA hB ha
          go_wp2_with (go_at_call 39; refine (hcall _ (hb2 _ _)).mono ?_; rintro e w1 ⟨rfl, hb1⟩)
          go_roundw
          case rel => exact ⟨k + 1, by omega, congrArg (Value.int .i64) (by omega), Below.next (Below.next hb.out (hb2 _ _)) hb1, hp'⟩
          case measure => simp [intOf]; omega
        · have hF := hid (show eqNds l m = false from eqNds_no (fun e => he (by rw [e])))
          rw [eqNd_no he] at hcall
          clear he
          generalize l.getD k nd0 = x at p0 p1 p2 p3 hcall
          generalize m.getD k nd0 = y at q0 q1 q2 q3 hcall
          obtain ⟨xk, xs, xn, xl⟩ := x
          obtain ⟨yk, ys, yn, yl⟩ := y
          dsimp only at p0 p1 p2 p3 q0 q1 q2 q3 hcall
          clear hcu hcv hu hv hp hA hB ha
          go_wp2_with (go_at_call 39; refine (hcall _ (hb2 _ _)).mono ?_; rintro e w1 ⟨rfl, hb1⟩)
          go_ret
          exact ⟨ret_bool hF.out.symm, Below.next (Below.next hb.out (hb2 _ _)) hb1⟩
      · have hT := hid (show eqNds l m = true from eqNds_yes (nds_ext hlm.out (fun j hj => hp.out j (by omega))))
        clear hu hv hp
        go_wp2
        go_ret
        exact ⟨ret_bool hT.out.symm, hb.out⟩
  · have hF := hid (show eqNds l m = false from eqNds_no (fun e => hlen (by rw [e])))
    have hln : ((l.length : Int) == (m.length : Int)) = false := by simpa using (by omega : ¬ (l.length : Int) = (m.length : Int))
    clear hu hv
    go_enter Try.func38, Try.ntmps38
    go_wp2
    go_ret
    exact ⟨ret_bool hF.out.symm, Below.refl _ _⟩
theorem gf_eq (a b : Gf) : eqG a b = (eqNds a.nodes b.nodes && decide (a.roots = b.roots)) := rfl
set_option maxHeartbeats 2000000 in
theorem same_any {W : World} {nv rv mv sv : Value} {g h : Gf} (hG : Gr W nv rv g) (hH : Gr W mv sv h) (hF : Fits g) :
    Calls Try.prog 16 #[.agg #[nv, rv], .agg #[mv, sv]] W fun e w' => e = .returned (.bool (eqG g h)) ∧ Below W.heap.size W w' := by
  have hb2 : Below W.heap.size W ((W.alloc (.cells #[nv, rv] 29)).alloc (.cells #[mv, sv] 29)) := (below_alloc W _).alloc (by simp) _
  have hN := equal_nodes (hG.1.below hb2) (hH.1.below hb2) hF.nodes hF.args
  have hI : ∀ w1 : World, Below ((W.alloc (.cells #[nv, rv] 29)).alloc (.cells #[mv, sv] 29)).heap.size ((W.alloc (.cells #[nv, rv] 29)).alloc (.cells #[mv, sv] 29)) w1 →
      (w1.cell? ⟨W.heap.size, 1, none⟩ = some rv ∧ w1.cell? ⟨W.heap.size + 1, 1, none⟩ = some sv) ∧ Calls Try.prog 40 #[rv, sv] w1 fun e w' => e = .returned (.bool (decide (g.roots = h.roots))) ∧ Below w1.heap.size w1 w' := fun w1 hb =>
    ⟨⟨by rw [hb.cell (p := ⟨W.heap.size, 1, none⟩) (by simp; omega)]; simp [go_sem], by rw [hb.cell (p := ⟨W.heap.size + 1, 1, none⟩) (by simp)]; simp [go_sem]⟩, equal_ints ((hG.2.below hb2).below hb) ((hH.2.below hb2).below hb) hF.roots⟩
  have hE := hid (gf_eq g h)
  generalize eqG g h = R at hE ⊢
  generalize eqNds g.nodes h.nodes = r1 at hN hE
  generalize decide (g.roots = h.roots) = r2 at hI hE
  clear hG hH hF
  cases r1 with
  | true =>
    go_enter Try.func16, Try.ntmps16
    go_wp2_with (first | (go_at_call 38; refine hN.mono ?_; rintro e w1 ⟨rfl, hb1⟩; obtain ⟨⟨d1, d2⟩, hI'⟩ := hI w1 hb1) | (go_at_call 40; refine hI'.mono ?_; rintro e w2 ⟨rfl, hb3⟩))
    go_ret
    exact ⟨ret_bool (by rw [hE.out]; rfl), Below.next (Below.next hb2 hb1) hb3⟩
  | false =>
    go_enter Try.func16, Try.ntmps16
    go_wp2_with (go_at_call 38; refine hN.mono ?_; rintro e w1 ⟨rfl, hb1⟩)
    go_ret
    exact ⟨ret_bool (by rw [hE.out]; rfl), Below.next hb2 hb1⟩
end Go.Proofs.Ytncileojdighnaa

namespace Go.Proofs.Ytncileojdighnaa
set_option maxRecDepth 100000
open Go.ChangeShapes Go.WideShapes Go.ChangeAt Go.RowKit Go.Deep
theorem exprs_of_cells {H : Type} {enc : TypeId × Value → H} {W : World} {fuel : Nat} {u : Value} {x : DataW H × List MemPlace} (h : DataW.trod enc Try.prog W 0 (fun _ => true) true fuel 22 [u] = some x) (hw : Wt 22 x.1) : ∃ xs : List Ex, Rxs W u xs ∧ szXs xs ∧ xs.length ≤ 281474976710656 :=
  exprs_step (fun n _ cs x => expr_of_cells n cs x) h hw
theorem eq_of_cells {H : Type} {enc : TypeId × Value → H} {W : World} {fuel : Nat} {cs : List Value} {x : DataW H × List MemPlace} (h : DataW.trod enc Try.prog W 0 (fun _ => true) true fuel 51 cs = some x) (hw : Wt 51 x.1) :
    ∃ (q : ByteArray × Ex) (k : Int) (s : ByteArray) (m : Int) (a : Option Addr) (n c : Nat), cs = [.string q.1, .int .i64 k, .string s, .int .i64 m, .slice a n c] ∧ Xv W q.2 (.agg #[.int .i64 k, .string s, .int .i64 m, .slice a n c]) ∧ q.1.size ≤ 281474976710656 ∧ szX q.2 := by
  obtain ⟨xs, n, hn, hx, hl, hlen, hf⟩ := DataW.trod_struct Try.underlying51 h
  rw [c8Q] at hl
  match cs, hl with
  | [c0, c1, c2, c3, c4], _ =>
    match xs, hlen with
    | [y0, y1], _ =>
      rw [hx] at hw
      have h0 := hf 0 _ rfl
      have h1 := hf 1 _ rfl
      simp [c8S] at h0
      simp [c8X] at h1
      obtain ⟨a0, e0, d0, w0⟩ := DataW.trod_string Try.underlying9 h0
      have hw0 : Wt 9 y0.1 := hw.part Try.underlying51 (j := 0) rfl rfl
      have hw1 : Wt 48 y1.1 := hw.part Try.underlying51 (j := 1) rfl rfl
      rw [d0] at hw0
      have hs0 := hw0.str
      obtain ⟨X, k, s, m, a, n', c, e1, hX, hz⟩ := expr_of_cells n _ _ h1 hw1
      simp at e0 e1
      obtain ⟨rfl, rfl, rfl, rfl⟩ := e1
      subst e0
      exact ⟨(a0, X), k, s, m, a, n', c, rfl, hX, hs0, hz⟩
theorem eqs_of_cells {H : Type} {enc : TypeId × Value → H} {W : World} {fuel : Nat} {u : Value} {x : DataW H × List MemPlace} (h : DataW.trod enc Try.prog W 0 (fun _ => true) true fuel 23 [u] = some x) (hw : Wt 23 x.1) :
    ∃ qs : List (ByteArray × Ex), Rqs W u qs ∧ (∀ q ∈ qs, q.1.size ≤ 281474976710656 ∧ szX q.2) ∧ qs.length ≤ 281474976710656 := by
  rcases DataW.trod_slice Try.underlying23 h with ⟨hcs, _⟩ | ⟨ad, len, cap, els, rest, n, hn, hcs, hx, _, hl, hm, hlen, hel, _, _⟩
  · simp at hcs
    subst hcs
    exact ⟨[], Rqs.nil _, by simp, by simp⟩
  · simp at hcs
    subst hcs
    rw [hx] at hw
    rw [c8Q] at hel
    have hwl := hw.len Try.underlying23
    rw [b8Q, List.length_map, hlen] at hwl
    have each : ∀ i, ∃ q : ByteArray × Ex, i < len → (q.1.size ≤ 281474976710656 ∧ szX q.2) ∧ ∃ (k : Int) (s : ByteArray) (m : Int) (a : Option Addr) (n c : Nat), Xv W q.2 (.agg #[.int .i64 k, .string s, .int .i64 m, .slice a n c]) ∧ W.cells? 0 (ad.add (i * 5)) 5 = some [.string q.1, .int .i64 k, .string s, .int .i64 m, .slice a n c] := fun i => by
      by_cases hi : i < len
      · have hei := hel i hi
        rw [List.getElem?_eq_getElem (by omega)] at hei
        obtain ⟨cs', hc, ht⟩ := Option.bind_eq_some_iff.1 hei
        obtain ⟨q, k, s, m, a, n', c, rfl, hX, hs⟩ := eq_of_cells ht (hw.elem Try.underlying23 (List.mem_map.2 ⟨_, List.getElem_mem (by omega), rfl⟩))
        exact ⟨q, fun _ => ⟨hs, k, s, m, a, n', c, hX, hc⟩⟩
      · exact ⟨q0, fun h => absurd h hi⟩
    obtain ⟨f, hf⟩ : ∃ f : Nat → ByteArray × Ex, ∀ i, i < len → ((f i).1.size ≤ 281474976710656 ∧ szX (f i).2) ∧ ∃ (k : Int) (s : ByteArray) (m : Int) (a : Option Addr) (n c : Nat), Xv W (f i).2 (.agg #[.int .i64 k, .string s, .int .i64 m, .slice a n c]) ∧ W.cells? 0 (ad.add (i * 5)) 5 = some [.string (f i).1, .int .i64 k, .string s, .int .i64 m, .slice a n c] :=
      ⟨fun i => Classical.choose (each i), fun i => Classical.choose_spec (each i)⟩
    refine ⟨(List.range len).map f, ⟨some ad, cap, by simp, fun j hj => ?_⟩, fun x hx => ?_, by simp; omega⟩
    · have hj' : j < len := by simpa using hj
      have hg : ((List.range len).map f).getD j q0 = f j := by simp [List.getD, hj']
      obtain ⟨b, off, spot⟩ := ad
      obtain ⟨_, k, s, m, a, n', c, hX, hc⟩ := hf j hj'
      have hcj := (World.cells?_some hc).2.2
      have hspot : spot = none := by
        obtain ⟨_, k0, s0, m0, a0, n0, c0, _, hc0⟩ := hf 0 (by omega)
        have := (World.cells?_some hc0).2.2 0 (by omega)
        simp at this
        simpa [Addr.add] using World.cell?_spot this
      subst hspot
      have e : ∀ i, ((⟨b, off, none⟩ : Addr).add (j * 5)).add i = ⟨b, off + j * 5 + i, none⟩ := fun i => by rw [add_plain, add_plain]
      rw [hg]
      refine ⟨b, off, k, s, m, a, n', c, rfl, ?_, ?_, ?_, ?_, ?_, hX⟩
      · have := hcj 0 (by omega); rw [e] at this; simpa using this
      · have := hcj 1 (by omega); rw [e] at this; simpa using this
      · have := hcj 2 (by omega); rw [e] at this; simpa using this
      · have := hcj 3 (by omega); rw [e] at this; simpa using this
      · have := hcj 4 (by omega); rw [e] at this; simpa using this
    · obtain ⟨i, hi, rfl⟩ := List.mem_map.1 hx
      exact (hf i (List.mem_range.1 hi)).1
theorem wt_arg {H : Type} {ts : List TypeId} {ds : List (DataW H)} (hsz : (DataW.weightsEach Try.prog ts ds).all (· ≤ reachBytes) = true) {j : Nat} {t : TypeId} {d : DataW H} (ht : ts[j]? = some t) (hd : ds[j]? = some d) : Wt t d := fun n hn => by
  have := List.all_eq_true.1 hsz _ (DataW.weights_mem_each ht hd n hn)
  have r := reachBytes_lt
  simp at this
  omega
theorem exprs_of {H : Type} {enc : TypeId × Value → H} {W : World} {base : Nat} {u : Value} {d : DataW H} {p : List MemPlace} (hv : Value.okWide Try.prog W .any base 22 u) (h : DataW.Trod enc Try.prog W 0 (fun _ => true) true 22 u d p) (hw : Wt 22 d) :
    ∃ xs : List Ex, Rxs W u xs ∧ szXs xs ∧ xs.length ≤ 281474976710656 := by
  obtain ⟨a, len, cap, rfl⟩ := okWide_slice Try.underlying22 hv
  obtain ⟨fuel, hf⟩ := h
  have hf' : DataW.trod enc Try.prog W 0 (fun _ => true) true fuel 22 [.slice a len cap] = some (d, p) := by simpa [Value.cells] using hf
  exact exprs_of_cells hf' hw
theorem eqs_of {H : Type} {enc : TypeId × Value → H} {W : World} {base : Nat} {u : Value} {d : DataW H} {p : List MemPlace} (hv : Value.okWide Try.prog W .any base 23 u) (h : DataW.Trod enc Try.prog W 0 (fun _ => true) true 23 u d p) (hw : Wt 23 d) :
    ∃ qs : List (ByteArray × Ex), Rqs W u qs ∧ (∀ q ∈ qs, q.1.size ≤ 281474976710656 ∧ szX q.2) ∧ qs.length ≤ 281474976710656 := by
  obtain ⟨a, len, cap, rfl⟩ := okWide_slice Try.underlying23 hv
  obtain ⟨fuel, hf⟩ := h
  have hf' : DataW.trod enc Try.prog W 0 (fun _ => true) true fuel 23 [.slice a len cap] = some (d, p) := by simpa [Value.cells] using hf
  exact eqs_of_cells hf' hw
end Go.Proofs.Ytncileojdighnaa
