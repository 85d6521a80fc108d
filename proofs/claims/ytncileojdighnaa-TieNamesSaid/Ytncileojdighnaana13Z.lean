/- Good of package parse, at every term. -/
import Derived.Test.Ytncileojdighnaana09Z
import Derived.Test.Ytncileojdighnaana04Z
namespace Go.Proofs.Ytncileojdighnaa
set_option maxRecDepth 100000
open Go.RowKit
set_option maxHeartbeats 2000000 in
theorem index_exprs (f : Nat) (cb : Array Value) (eg : ∀ args w, (callFunc f args).run Try.prog w = .ok (.enter f args) w) (v : Value) (xs : List Ex) (p : Nat → Bool) (W : World) (hl : xs.length ≤ 5000) (hv : Rxs W v xs)
    (hs : ∀ k w u, k < xs.length → Below W.heap.size W w → Xv w (xs.getD k x0) u → Calls Try.prog f (#[u] ++ cb) w fun e w' => e = .returned (.bool (p k)) ∧ Below w.heap.size w w') :
    Calls Try.prog 111 #[v, .func (.func f) #[] cb] W fun e w' => ((∃ k : Nat, k < xs.length ∧ p k = true ∧ e = .returned (.int .i64 k)) ∨ ((∀ j, j < xs.length → p j = false) ∧ e = .returned (.int .i64 (-1)))) ∧ Below W.heap.size W w' := by
  obtain ⟨ao, c, rfl, hat⟩ := hv
  have hAt := hid hat
  clear hat
  go_enter Try.func111, Try.ntmps111
  go_wp2
  go_loopw [5, 8] (fun _ i wr => ∃ k : Nat, k ≤ xs.length ∧ i = .int .i64 k ∧ Hid (Below W.heap.size W wr) ∧ Hid (∀ j, j < k → p j = false)) (fun _ i _ => xs.length - (intOf i).toNat)
  case atStart => exact ⟨0, Nat.zero_le _, rfl, Below.refl _ _, fun j hj => absurd hj (Nat.not_lt_zero _)⟩
  case round =>
    obtain ⟨k, hk, rfl, hB, hp⟩ := hrel
    by_cases hlt : k < xs.length
    · obtain ⟨b, o, k', n', m', aa, al, ac, rfl, d0, d1, d2, d3, hx⟩ := hAt.out k hlt
      have hz := lt_of_cell d0
      have c0 := ((bcell hB.out).1 b _ hz).trans d0
      have c1 := ((bcell hB.out).1 b _ hz).trans d1
      have c2 := ((bcell hB.out).1 b _ hz).trans d2
      have c3 := ((bcell hB.out).1 b _ hz).trans d3
      have hcall := hs k wr _ hlt hB.out (hx.next hB.out)
      clear d0 d1 d2 d3 hx hs
      cases hq : p k with
      | true =>
        have hq' : Hid (p k = true) := hq
        rw [hq] at hcall
        clear hq
        go_wp2_with (go_at_fn f; refine hcall.mono ?_; rintro e w' ⟨rfl, hb1⟩)
        go_ret
        exact ⟨Or.inl ⟨k, hlt, hq'.out, rfl⟩, Below.next hB.out hb1⟩
      | false =>
        have hq' : Hid (p k = false) := hq
        rw [hq] at hcall
        clear hq
        go_wp2_with (go_at_fn f; refine hcall.mono ?_; rintro e w' ⟨rfl, hb1⟩)
        go_roundw
        case rel =>
          refine ⟨k + 1, by omega, congrArg (Value.int .i64) (by omega), Below.next hB.out hb1, (show Hid _ from fun j hj => ?_)⟩
          rcases Nat.lt_or_eq_of_le (Nat.le_of_lt_succ hj) with h | h
          · exact hp.out j h
          · subst h; exact hq'.out
        case measure => simp [intOf]; omega
    · have hkl : Hid (k = xs.length) := show k = xs.length by omega
      clear hs
      go_wp2
      go_ret
      exact ⟨Or.inr ⟨by rw [← hkl.out]; exact hp.out, rfl⟩, hB.out⟩
set_option maxHeartbeats 1000000 in
theorem contains_exprs (f : Nat) (cb : Array Value) (eg : ∀ args w, (callFunc f args).run Try.prog w = .ok (.enter f args) w) (v : Value) (xs : List Ex) (p : Nat → Bool) (W : World) (hl : xs.length ≤ 5000) (hv : Rxs W v xs)
    (hs : ∀ k w u, k < xs.length → Below W.heap.size W w → Xv w (xs.getD k x0) u → Calls Try.prog f (#[u] ++ cb) w fun e w' => e = .returned (.bool (p k)) ∧ Below w.heap.size w w') :
    Calls Try.prog 106 #[v, .func (.func f) #[] cb] W fun e w' => ((∃ k : Nat, k < xs.length ∧ p k = true ∧ e = .returned (.bool true)) ∨ ((∀ j, j < xs.length → p j = false) ∧ e = .returned (.bool false))) ∧ Below W.heap.size W w' := by
  have hc := index_exprs f cb eg v xs p W hl hv hs
  clear hs hv
  go_enter Try.func106, Try.ntmps106
  go_wp2_with (go_at_call 111; refine hc.mono ?_; rintro e w' ⟨(⟨k, h1, h3, rfl⟩ | ⟨h1, rfl⟩), hb1⟩)
  · go_ret
    exact ⟨Or.inl ⟨k, h1, h3, rfl⟩, hb1⟩
  · go_ret
    exact ⟨Or.inr ⟨h1, rfl⟩, hb1⟩
theorem badX_eg : ∀ args w, (callFunc 105 args).run Try.prog w = .ok (.enter 105 args) w := enters_of Try.func105 (by kernel_rfl) rfl
def GoodAtC (x : Ex) : Prop := ∀ (w : World) (v : Value), Xv w x v → szX x → ∀ nest : Nat, nest ≤ 5000 →
    Calls Try.prog 72 #[v, .int .i64 (nest : Int)] w fun e w' => e = .returned (.bool (goodX nest x)) ∧ Below w.heap.size w w'
set_option maxHeartbeats 1000000 in
theorem badX_any {x : Ex} (hc : GoodAtC x) (hz : szX x) {w : World} {v : Value} (hx : Xv w x v) {q nest : Nat} (hn : nest ≤ 5000) (hq : w.cell? ⟨q, 0, none⟩ = some (.int .i64 (nest : Int))) :
    Calls Try.prog 105 #[v, .pointer (some ⟨q, 0, none⟩)] w fun e w' => e = .returned (.bool (!goodX nest x)) ∧ Below w.heap.size w w' := by
  obtain ⟨k, n, m, xs⟩ := x
  obtain ⟨av, rfl, hr⟩ := hx.parts
  have hb0 := below_alloc w (.cells #[.int .i64 k, .string n, .int .i64 m, av] 48)
  have h1 := hc _ _ ((Xv.of hr).next hb0) hz nest hn
  have hq2 := lt_of_cell hq
  clear hc hx hr hz
  go_enter Try.func105, Try.ntmps105
  go_wp2_with (go_at_call 72; refine h1.mono ?_; rintro e w1 ⟨rfl, hb1⟩)
  go_ret
  exact ⟨rfl, Below.next hb0 hb1⟩
set_option maxHeartbeats 2000000 in
theorem xgoodArgs_any {xs : List Ex} (hc : ∀ x ∈ xs, GoodAtC x) (hz : szXs xs) {w : World} {av : Value} (hr : Rxs w av xs) (nest : Nat) (hn : nest ≤ 5000) :
    Calls Try.prog 94 #[av, .int .i64 (nest : Int)] w fun e w' => e = .returned (.bool (decide (1 ≤ xs.length) && (decide (xs.length ≤ 8) && goodXs nest xs))) ∧ Below w.heap.size w w' := by
  have hb0 := below_alloc w (.cells #[.int .i64 (nest : Int)] 3)
  have hr1 := hr.next hb0
  obtain ⟨ao, c, rfl, _⟩ := hr
  have hcell : ∀ w1, Below (w.alloc (.cells #[.int .i64 (nest : Int)] 3)).heap.size (w.alloc (.cells #[.int .i64 (nest : Int)] 3)) w1 → w1.cell? ⟨w.heap.size, 0, none⟩ = some (.int .i64 (nest : Int)) := fun w1 hb => by
    rw [(bcell hb).1 _ _ (by simp)]
    exact cell_one_new w _ _ 0 _ rfl
  by_cases h1 : 1 ≤ xs.length
  · by_cases h8 : xs.length ≤ 8
    · have hk := contains_exprs 105 #[.pointer (some ⟨w.heap.size, 0, none⟩)] badX_eg _ xs (fun k => !goodX nest (xs.getD k x0)) _ (by omega) hr1 (fun k w1 u hk hb hx => badX_any (hc _ (xs_at hk)) (szXs_mem hz _ (xs_at hk)) hx hn (hcell w1 hb))
      have hE : Hid ((decide (1 ≤ xs.length) && (decide (xs.length ≤ 8) && goodXs nest xs)) = goodXs nest xs) := by rw [decide_eq_true h1, decide_eq_true h8]; rfl
      have hno : Hid (∀ j, j < xs.length → (!goodX nest (xs.getD j x0)) = true → goodXs nest xs = false) := fun j hj h => goodXs_no nest hj (by simpa using h)
      have hya : Hid ((∀ j, j < xs.length → (!goodX nest (xs.getD j x0)) = false) → goodXs nest xs = true) := fun h => goodXs_all nest (fun j hj => by simpa using h j hj)
      have i1 : (1 : Int) ≤ (xs.length : Int) := by omega
      have i8 : (xs.length : Int) ≤ 8 := by omega
      clear hc hz hcell hr1 h1 h8
      go_enter Try.func94, Try.ntmps94
      go_wp2_with (go_at_call 106; refine hk.mono ?_; rintro e w1 ⟨(⟨k, h1, h2, rfl⟩ | ⟨h1, rfl⟩), hb1⟩)
      · go_ret
        exact ⟨ret_bool (by rw [hE.out, hno.out k h1 h2]), Below.next hb0 hb1⟩
      · go_ret
        exact ⟨ret_bool (by rw [hE.out, hya.out h1]), Below.next hb0 hb1⟩
    · have hE : Hid ((decide (1 ≤ xs.length) && (decide (xs.length ≤ 8) && goodXs nest xs)) = false) := by rw [decide_eq_false h8, Bool.false_and, Bool.and_false]; exact rfl
      have i1 : (1 : Int) ≤ (xs.length : Int) := by omega
      have i8 : ¬ (xs.length : Int) ≤ 8 := by omega
      clear hc hz hcell hr1 h1 h8
      go_enter Try.func94, Try.ntmps94
      go_wp2
      go_ret
      exact ⟨ret_bool hE.out.symm, hb0⟩
  · have hE : Hid ((decide (1 ≤ xs.length) && (decide (xs.length ≤ 8) && goodXs nest xs)) = false) := by rw [decide_eq_false h1]; rfl
    have i1 : ¬ (1 : Int) ≤ (xs.length : Int) := by omega
    clear hc hz hcell hr1 h1
    go_enter Try.func94, Try.ntmps94
    go_wp2
    go_ret
    exact ⟨ret_bool hE.out.symm, hb0⟩
end Go.Proofs.Ytncileojdighnaa

namespace Go.Proofs.Ytncileojdighnaa
set_option maxRecDepth 100000
open Go.RowKit
theorem Ri.shape {w : World} {v : Value} {l : List Int} (h : Ri w v l) : ∃ ao n c, v = .slice ao n c := by
  obtain ⟨ao, c, rfl, _⟩ := h
  exact ⟨_, _, _, rfl⟩
structure Fits (g : Gf) : Prop where
  nodes : g.nodes.length ≤ 5000
  roots : g.roots.length ≤ 5000
  args : ∀ n ∈ g.nodes, n.args.length ≤ 5000
theorem same_eg : ∀ args w, (callFunc 39 args).run Try.prog w = .ok (.enter 39 args) w := enters_of Try.func39 (by kernel_rfl) rfl
set_option maxHeartbeats 2000000 in
theorem equal_nodes {W : World} {u v : Value} {l m : List Nd} (hu : Rn W u l) (hv : Rn W v m) (hl : l.length ≤ 5000) (ha : ∀ n ∈ l, n.args.length ≤ 5000) :
    Calls Try.prog 38 #[u, v, .func (.func 39) #[] #[]] W fun e w' => e = .returned (.bool (eqNds l m)) ∧ Below W.heap.size W w' := by
  obtain ⟨ua, uc, rfl, hu⟩ := hu
  obtain ⟨va, vc, rfl, hv⟩ := hv
  have eg := same_eg
  by_cases hlen : l.length = m.length
  · rw [← hlen]
    have hlm := hid hlen
    clear hlen
    go_enter Try.func38, Try.ntmps38
    go_wp2
    go_loopw [17] (fun i wr => ∃ k : Nat, k ≤ l.length ∧ i = .int .i64 k ∧ Hid (Below W.heap.size W wr) ∧ Hid (∀ j, j < k → l.getD j nd0 = m.getD j nd0)) (fun i _ => l.length - (intOf i).toNat)
    case atStart => exact ⟨0, Nat.zero_le _, rfl, Below.refl _ _, fun j hj => absurd hj (Nat.not_lt_zero _)⟩
    case round =>
      obtain ⟨k, hk, rfl, hb, hp⟩ := hrel
      by_cases hlt : k < l.length
      · obtain ⟨ub, uo, uav, rfl, hcu⟩ := hu k hlt
        obtain ⟨vb, vo, vav, rfl, hcv⟩ := hv k (by rw [← hlm.out]; exact hlt)
        obtain ⟨p0, p1, p2, p3, hA⟩ := hcu.below hb.out
        obtain ⟨q0, q1, q2, q3, hB⟩ := hcv.below hb.out
        have hlp := lt_of_cell p0
        have hlq := lt_of_cell q0
        obtain ⟨ax, ay, az, rfl⟩ := hA.shape
        obtain ⟨bx, bz, bw, rfl⟩ := hB.shape
        have hcall : ∀ w1 : World, Below wr.heap.size wr w1 → _ := fun w1 hb => sameNode_any (W := w1) (a := l.getD k nd0) (b := m.getD k nd0) (hA.below hb) (hB.below hb) (ha _ (by simp [List.getD, hlt]))
        have hb2 : ∀ o1 o2 : Obj, Below wr.heap.size wr ((wr.alloc o1).alloc o2) := fun o1 o2 => (below_alloc wr _).alloc (by simp) _
        by_cases he : l.getD k nd0 = m.getD k nd0
        · have hp' : Hid (∀ j, j < k + 1 → l.getD j nd0 = m.getD j nd0) := fun j hj => by
            rcases Nat.lt_or_eq_of_le (Nat.le_of_lt_succ hj) with h | h
            · exact hp.out j h
            · subst h; exact he
          rw [eqNd_yes he] at hcall
          generalize l.getD k nd0 = x at p0 p1 p2 p3 hcall
          generalize m.getD k nd0 = y at q0 q1 q2 q3 hcall
          obtain ⟨xk, xs, xn, xl⟩ := x
          obtain ⟨yk, ys, yn, yl⟩ := y
          dsimp only at p0 p1 p2 p3 q0 q1 q2 q3 hcall
          clear hcu hcv hu hv he hp hA hB ha
          go_wp2_with (go_at_call 39; refine (hcall _ (hb2 _ _)).mono ?_; rintro e w1 ⟨rfl, hb1⟩)
          go_roundw
          case rel => exact ⟨k + 1, by omega, congrArg (Value.int .i64) (by omega), Below.next (Below.next hb.out (hb2 _ _)) hb1, hp'⟩
          case measure => simp [intOf]; omega
        · have hF := hid (show eqNds l m = false from eqNds_no (fun e => he (by rw [e])))
          rw [eqNd_no he] at hcall
          clear he
          generalize l.getD k nd0 = x at p0 p1 p2 p3 hcall
          generalize m.getD k nd0 = y at q0 q1 q2 q3 hcall
          obtain ⟨xk, xs, xn, xl⟩ := x
          obtain ⟨yk, ys, yn, yl⟩ := y
          dsimp only at p0 p1 p2 p3 q0 q1 q2 q3 hcall
          clear hcu hcv hu hv hp hA hB ha
          go_wp2_with (go_at_call 39; refine (hcall _ (hb2 _ _)).mono ?_; rintro e w1 ⟨rfl, hb1⟩)
          go_ret
          exact ⟨ret_bool hF.out.symm, Below.next (Below.next hb.out (hb2 _ _)) hb1⟩
      · have hT := hid (show eqNds l m = true from eqNds_yes (nds_ext hlm.out (fun j hj => hp.out j (by omega))))
        clear hu hv hp
        go_wp2
        go_ret
        exact ⟨ret_bool hT.out.symm, hb.out⟩
  · have hF := hid (show eqNds l m = false from eqNds_no (fun e => hlen (by rw [e])))
    have hln : ((l.length : Int) == (m.length : Int)) = false := by simpa using (by omega : ¬ (l.length : Int) = (m.length : Int))
    clear hu hv
    go_enter Try.func38, Try.ntmps38
    go_wp2
    go_ret
    exact ⟨ret_bool hF.out.symm, Below.refl _ _⟩
theorem gf_eq (a b : Gf) : eqG a b = (eqNds a.nodes b.nodes && decide (a.roots = b.roots)) := rfl
set_option maxHeartbeats 2000000 in
theorem same_any {W : World} {nv rv mv sv : Value} {g h : Gf} (hG : Gr W nv rv g) (hH : Gr W mv sv h) (hF : Fits g) :
    Calls Try.prog 16 #[.agg #[nv, rv], .agg #[mv, sv]] W fun e w' => e = .returned (.bool (eqG g h)) ∧ Below W.heap.size W w' := by
  have hb2 : Below W.heap.size W ((W.alloc (.cells #[nv, rv] 29)).alloc (.cells #[mv, sv] 29)) := (below_alloc W _).alloc (by simp) _
  have hN := equal_nodes (hG.1.below hb2) (hH.1.below hb2) hF.nodes hF.args
  have hI : ∀ w1 : World, Below ((W.alloc (.cells #[nv, rv] 29)).alloc (.cells #[mv, sv] 29)).heap.size ((W.alloc (.cells #[nv, rv] 29)).alloc (.cells #[mv, sv] 29)) w1 →
      (w1.cell? ⟨W.heap.size, 1, none⟩ = some rv ∧ w1.cell? ⟨W.heap.size + 1, 1, none⟩ = some sv) ∧ Calls Try.prog 40 #[rv, sv] w1 fun e w' => e = .returned (.bool (decide (g.roots = h.roots))) ∧ Below w1.heap.size w1 w' := fun w1 hb =>
    ⟨⟨by rw [hb.cell (p := ⟨W.heap.size, 1, none⟩) (by simp; omega)]; simp [go_sem], by rw [hb.cell (p := ⟨W.heap.size + 1, 1, none⟩) (by simp)]; simp [go_sem]⟩, equal_ints ((hG.2.below hb2).below hb) ((hH.2.below hb2).below hb) hF.roots⟩
  have hE := hid (gf_eq g h)
  generalize eqG g h = R at hE ⊢
  generalize eqNds g.nodes h.nodes = r1 at hN hE
  generalize decide (g.roots = h.roots) = r2 at hI hE
  clear hG hH hF
  cases r1 with
  | true =>
    go_enter Try.func16, Try.ntmps16
    go_wp2_with (first | (go_at_call 38; refine hN.mono ?_; rintro e w1 ⟨rfl, hb1⟩; obtain ⟨⟨d1, d2⟩, hI'⟩ := hI w1 hb1) | (go_at_call 40; refine hI'.mono ?_; rintro e w2 ⟨rfl, hb3⟩))
    go_ret
    exact ⟨ret_bool (by rw [hE.out]; rfl), Below.next (Below.next hb2 hb1) hb3⟩
  | false =>
    go_enter Try.func16, Try.ntmps16
    go_wp2_with (go_at_call 38; refine hN.mono ?_; rintro e w1 ⟨rfl, hb1⟩)
    go_ret
    exact ⟨ret_bool (by rw [hE.out]; rfl), Below.next hb2 hb1⟩
end Go.Proofs.Ytncileojdighnaa

namespace Go.Proofs.Ytncileojdighnaa
set_option maxRecDepth 100000
open Go.RowKit
mutual
def Xw (P : Nat → Prop) (w : World) : Ex → Value → Prop
  | .mk k n m xs, v => ∃ ao c, v = .agg #[.int .i64 k, .string n, .int .i64 m, .slice ao xs.length c] ∧ XwL P w ao xs 0
def XwL (P : Nat → Prop) (w : World) : Option Addr → List Ex → Nat → Prop
  | _, [], _ => True
  | ao, x :: r, i => (∃ b o k' n' m' aa al ac, ao = some ⟨b, o, none⟩ ∧ P b ∧ w.cell? ⟨b, o + i * 4, none⟩ = some (.int .i64 k') ∧ w.cell? ⟨b, o + i * 4 + 1, none⟩ = some (.string n') ∧ w.cell? ⟨b, o + i * 4 + 2, none⟩ = some (.int .i64 m') ∧ w.cell? ⟨b, o + i * 4 + 3, none⟩ = some (.slice aa al ac) ∧ Xw P w x (.agg #[.int .i64 k', .string n', .int .i64 m', .slice aa al ac])) ∧ XwL P w ao r (i + 1)
end
def XwA (P : Nat → Prop) (w : World) (ao : Option Addr) (x : Ex) (i : Nat) : Prop := ∃ b o k' n' m' aa al ac, ao = some ⟨b, o, none⟩ ∧ P b ∧ w.cell? ⟨b, o + i * 4, none⟩ = some (.int .i64 k') ∧ w.cell? ⟨b, o + i * 4 + 1, none⟩ = some (.string n') ∧ w.cell? ⟨b, o + i * 4 + 2, none⟩ = some (.int .i64 m') ∧ w.cell? ⟨b, o + i * 4 + 3, none⟩ = some (.slice aa al ac) ∧ Xw P w x (.agg #[.int .i64 k', .string n', .int .i64 m', .slice aa al ac])
theorem XwL_iff (P : Nat → Prop) (w : World) (ao : Option Addr) : ∀ (xs : List Ex) (i : Nat), XwL P w ao xs i ↔ ∀ j, j < xs.length → XwA P w ao (xs.getD j x0) (i + j)
  | [], i => ⟨fun _ j hj => absurd hj (Nat.not_lt_zero _), fun _ => trivial⟩
  | x :: r, i => by
    constructor
    · rintro ⟨h1, h2⟩ j hj
      cases j with
      | zero => exact h1
      | succ j =>
        have := (XwL_iff P w ao r (i + 1)).1 h2 j (by simpa using hj)
        rw [show i + (j + 1) = i + 1 + j by omega]
        simpa using this
    · intro h
      refine ⟨h 0 (by simp), (XwL_iff P w ao r (i + 1)).2 (fun j hj => ?_)⟩
      have := h (j + 1) (by simpa using hj)
      rw [show i + 1 + j = i + (j + 1) by omega]
      simpa using this
def Rxw (P : Nat → Prop) (w : World) (v : Value) (xs : List Ex) : Prop :=
  ∃ ao c, v = .slice ao xs.length c ∧ ∀ j, j < xs.length → XwA P w ao (xs.getD j x0) j
theorem Xw.parts {P : Nat → Prop} {w : World} {k : Int} {n : ByteArray} {m : Int} {xs : List Ex} {v : Value} (h : Xw P w (.mk k n m xs) v) : ∃ av, v = .agg #[.int .i64 k, .string n, .int .i64 m, av] ∧ Rxw P w av xs := by
  obtain ⟨ao, c, rfl, h⟩ := h
  exact ⟨_, rfl, ao, c, rfl, fun j hj => by have := (XwL_iff P w ao xs 0).1 h j hj; rwa [Nat.zero_add] at this⟩
theorem Xw.of {P : Nat → Prop} {w : World} {k : Int} {n : ByteArray} {m : Int} {xs : List Ex} {av : Value} (h : Rxw P w av xs) : Xw P w (.mk k n m xs) (.agg #[.int .i64 k, .string n, .int .i64 m, av]) := by
  obtain ⟨ao, c, rfl, h⟩ := h
  exact ⟨ao, c, rfl, (XwL_iff P w ao xs 0).2 (fun j hj => by rw [Nat.zero_add]; exact h j hj)⟩
theorem Xw.form {P : Nat → Prop} {w : World} {x : Ex} {v : Value} (h : Xw P w x v) : ∃ k n m ao l c, v = .agg #[.int .i64 k, .string n, .int .i64 m, .slice ao l c] := by
  obtain ⟨k, n, m, xs⟩ := x
  obtain ⟨ao, c, rfl, _⟩ := h
  exact ⟨_, _, _, _, _, _, rfl⟩
theorem Xw.keep {P P' : Nat → Prop} {w w' : World} (hk : ∀ b, P b → b < w.heap.size → P' b ∧ w'.heap[b]? = w.heap[b]?) {x : Ex} : ∀ {v : Value}, Xw P w x v → Xw P' w' x v := by
  induction x using Ex.ind with
  | h k n m xs ih =>
    intro v h
    obtain ⟨av, rfl, ao, c, rfl, h2⟩ := h.parts
    refine Xw.of ⟨ao, c, rfl, fun j hj => ?_⟩
    obtain ⟨b, o, k', n', m', aa, al, ac, e, hb, c0, c1, c2, c3, hx⟩ := h2 j hj
    obtain ⟨hp, hw⟩ := hk b hb (lt_of_cell c0)
    have hc : ∀ o', w'.cell? ⟨b, o', none⟩ = w.cell? ⟨b, o', none⟩ := fun o' => by simp only [World.cell?, hw]
    exact ⟨b, o, k', n', m', aa, al, ac, e, hp, by rw [hc]; exact c0, by rw [hc]; exact c1, by rw [hc]; exact c2, by rw [hc]; exact c3, ih _ (xs_at hj) hx⟩
theorem Xw.next {P : Nat → Prop} {w w' : World} (hb : Below w.heap.size w w') {x : Ex} {v : Value} (h : Xw P w x v) : Xw P w' x v := h.keep (fun b hp hl => ⟨hp, hb.block b hl⟩)
theorem Xw.weak {P P' : Nat → Prop} {w : World} (hP : ∀ b, P b → b < w.heap.size → P' b) {x : Ex} {v : Value} (h : Xw P w x v) : Xw P' w x v := h.keep (fun b hp hl => ⟨hP b hp hl, rfl⟩)
theorem Xw.xv {P : Nat → Prop} {w : World} {x : Ex} : ∀ {v : Value}, Xw P w x v → Xv w x v := by
  induction x using Ex.ind with
  | h k n m xs ih =>
    intro v h
    obtain ⟨av, rfl, ao, c, rfl, h2⟩ := h.parts
    refine Xv.of ⟨ao, c, rfl, fun j hj => ?_⟩
    obtain ⟨b, o, k', n', m', aa, al, ac, e, hb, c0, c1, c2, c3, hx⟩ := h2 j hj
    exact ⟨b, o, k', n', m', aa, al, ac, e, c0, c1, c2, c3, ih _ (xs_at hj) hx⟩
theorem Rxw.nil (P : Nat → Prop) (w : World) : Rxw P w (.slice none 0 0) [] := ⟨none, 0, rfl, fun _ h => absurd h (Nat.not_lt_zero _)⟩
theorem Rxw.keep {P P' : Nat → Prop} {w w' : World} (hk : ∀ b, P b → b < w.heap.size → P' b ∧ w'.heap[b]? = w.heap[b]?) {v : Value} {xs : List Ex} (h : Rxw P w v xs) : Rxw P' w' v xs := by
  obtain ⟨ao, c, rfl, h2⟩ := h
  refine ⟨ao, c, rfl, fun j hj => ?_⟩
  obtain ⟨b, o, k', n', m', aa, al, ac, e, hb, c0, c1, c2, c3, hx⟩ := h2 j hj
  obtain ⟨hp, hw⟩ := hk b hb (lt_of_cell c0)
  have hc : ∀ o', w'.cell? ⟨b, o', none⟩ = w.cell? ⟨b, o', none⟩ := fun o' => by simp only [World.cell?, hw]
  exact ⟨b, o, k', n', m', aa, al, ac, e, hp, by rw [hc]; exact c0, by rw [hc]; exact c1, by rw [hc]; exact c2, by rw [hc]; exact c3, hx.keep hk⟩
theorem Rxw.rxs {P : Nat → Prop} {w : World} {v : Value} {xs : List Ex} (h : Rxw P w v xs) : Rxs w v xs :=
  ((Xw.of (k := 0) (n := ⟨#[]⟩) (m := 0) h).xv).same.2.2.2
def XwC (P : Nat → Prop) (w : World) (x : Ex) (cs : List Value) : Prop := ∃ (k : Int) (n : ByteArray) (m : Int) (aa : Option Addr) (al ac : Nat), cs = [.int .i64 k, .string n, .int .i64 m, .slice aa al ac] ∧ Xw P w x (.agg #[.int .i64 k, .string n, .int .i64 m, .slice aa al ac])
theorem XwC.keep {P P' : Nat → Prop} {w w' : World} (hk : ∀ b, P b → b < w.heap.size → P' b ∧ w'.heap[b]? = w.heap[b]?) {x : Ex} {cs : List Value} (h : XwC P w x cs) : XwC P' w' x cs := by
  obtain ⟨k, n, m, aa, al, ac, e, hx⟩ := h
  exact ⟨k, n, m, aa, al, ac, e, hx.keep hk⟩
def Out (B : Nat) (v : Value) (b : Nat) : Prop := B ≤ b ∧ v.ownBlock ≠ some b
def Xo (B : Nat) (w : World) (v : Value) (xs : List Ex) : Prop := ∃ f : Nat → List Value, (∀ j, (f j).length = 4) ∧ (∀ j, j < xs.length → XwC (Out B v) w (xs.getD j x0) (f j)) ∧ w.ownsRow B 48 4 v xs.length (flatV f xs.length)
theorem Xo.rxw {B : Nat} {w : World} {v : Value} {xs : List Ex} (h : Xo B w v xs) : Rxw (B ≤ ·) w v xs := by
  obtain ⟨f, hf, hx, ho⟩ := h
  have ho' := ho
  rcases ho'.2 with ⟨h0, h1⟩ | ⟨g, c, cur, e, hB, hg, _⟩
  · rw [h0]
    cases xs with
    | nil => exact Rxw.nil _ w
    | cons y t => simp at h1
  · subst e
    refine ⟨_, _, rfl, fun j hj => ?_⟩
    obtain ⟨k, n, m, aa, al, ac, e, hv⟩ := hx j hj
    have at' : ∀ t, t < 4 → w.cell? ⟨g, j * 4 + t, none⟩ = (f j)[t]? := fun t ht => by
      rw [ho.cellAt _ (by omega)]
      exact flatV_at (z := 4) hf ht xs.length hj
    rw [e] at at'
    have c0 := at' 0 (by omega)
    rw [Nat.add_zero] at c0
    exact ⟨g, 0, k, n, m, aa, al, ac, rfl, hB, by rw [Nat.zero_add]; exact c0, by rw [Nat.zero_add]; exact at' 1 (by omega), by rw [Nat.zero_add]; exact at' 2 (by omega), by rw [Nat.zero_add]; exact at' 3 (by omega), hv.weak (fun b hb _ => hb.1)⟩
theorem xo_app {B D g c6 : Nat} {w5 w6 : World} {v : Value} {xs : List Ex} {x : Ex} {k : Int} {n : ByteArray} {m : Int} {aa : Option Addr} {al ac : Nat} {o : Obj} {f : Nat → List Value} (hf : ∀ j, (f j).length = 4) (hx : ∀ j, j < xs.length → XwC (Out B v) w5 (xs.getD j x0) (f j)) (hD : ∀ b, v.ownBlock = some b → b < D) (hBD : B ≤ D)
    (hv : Xw (D ≤ ·) w5 x (.agg #[.int .i64 k, .string n, .int .i64 m, .slice aa al ac])) (hown : w6.ownsRow B 48 4 (.slice (some ⟨g, 0, none⟩) (xs.length + 1) c6) (xs.length + 1) (flatV f xs.length ++ [.int .i64 k, .string n, .int .i64 m, .slice aa al ac]))
    (hg : (w5.alloc o).grownBy w6 v.ownBlock) (hat : v.ownBlock = some g ∨ g = w5.heap.size + 1) : Xo B w6 (.slice (some ⟨g, 0, none⟩) (xs.length + 1) c6) (xs ++ [x]) := by
  have key : ∀ b, b < w5.heap.size → v.ownBlock ≠ some b → (Value.slice (some ⟨g, 0, none⟩) (xs.length + 1) c6).ownBlock ≠ some b ∧ w6.heap[b]? = w5.heap[b]? := fun b hl hne => by
    refine ⟨fun e => ?_, ?_⟩
    · have e1 : g = b := by simpa [Value.ownBlock] using e
      rcases hat with h | h
      · exact hne (by rw [h, e1])
      · omega
    · rw [hg.block b (by simp; omega) (fun e => hne e.symm)]
      exact Below.heap_alloc _ _ _ hl
  have hnew : Xw (Out B (.slice (some ⟨g, 0, none⟩) (xs.length + 1) c6)) w6 x (.agg #[.int .i64 k, .string n, .int .i64 m, .slice aa al ac]) := hv.keep (fun b hb hl => by
    have hb' : D ≤ b := hb
    obtain ⟨h1, h2⟩ := key b hl (fun e => by have := hD b e; omega)
    exact ⟨⟨by omega, h1⟩, h2⟩)
  refine ⟨fun j => if j < xs.length then f j else [.int .i64 k, .string n, .int .i64 m, .slice aa al ac], fun j => ?_, fun j hj => ?_, ?_⟩
  · show List.length (if _ then _ else _) = 4
    split
    · exact hf j
    · rfl
  · by_cases e : j < xs.length
    · have e1 : (xs ++ [x]).getD j x0 = xs.getD j x0 := by rw [List.getD, List.getD, List.getElem?_append_left e]
      rw [e1]
      show XwC _ w6 _ (if _ then _ else _)
      rw [if_pos e]
      exact (hx j e).keep (fun b hb hl => by
        obtain ⟨h1, h2⟩ := key b hl hb.2
        exact ⟨⟨hb.1, h1⟩, h2⟩)
    · have e2 : j = xs.length := by simp at hj; omega
      subst e2
      have e1 : (xs ++ [x]).getD xs.length x0 = x := by simp [List.getD]
      rw [e1]
      show XwC _ w6 _ (if _ then _ else _)
      rw [if_neg e]
      exact ⟨k, n, m, aa, al, ac, rfl, hnew⟩
  · rw [List.length_append, List.length_singleton, flatV_succ]
    have e1 : flatV (fun j => if j < xs.length then f j else [.int .i64 k, .string n, .int .i64 m, .slice aa al ac]) xs.length = flatV f xs.length := flatV_congr _ (fun i hi => by simp [hi])
    rw [e1]
    simp only [Nat.lt_irrefl, if_false]
    exact hown
end Go.Proofs.Ytncileojdighnaa

namespace Go.Proofs.Ytncileojdighnaa
set_option maxRecDepth 100000
open Go.ChangeShapes Go.WideShapes Go.ChangeAt Go.RowKit Go.Deep
theorem exprs_of_cells {H : Type} {enc : TypeId × Value → H} {W : World} {fuel : Nat} {u : Value} {x : DataW H × List MemPlace} (h : DataW.trod enc Try.prog W 0 (fun _ => true) true fuel 22 [u] = some x) (hw : Wt 22 x.1) : ∃ xs : List Ex, Rxs W u xs ∧ szXs xs ∧ xs.length ≤ 281474976710656 :=
  exprs_step (fun n _ cs x => expr_of_cells n cs x) h hw
theorem eq_of_cells {H : Type} {enc : TypeId × Value → H} {W : World} {fuel : Nat} {cs : List Value} {x : DataW H × List MemPlace} (h : DataW.trod enc Try.prog W 0 (fun _ => true) true fuel 51 cs = some x) (hw : Wt 51 x.1) :
    ∃ (q : ByteArray × Ex) (k : Int) (s : ByteArray) (m : Int) (a : Option Addr) (n c : Nat), cs = [.string q.1, .int .i64 k, .string s, .int .i64 m, .slice a n c] ∧ Xv W q.2 (.agg #[.int .i64 k, .string s, .int .i64 m, .slice a n c]) ∧ q.1.size ≤ 281474976710656 ∧ szX q.2 := by
  obtain ⟨xs, n, hn, hx, hl, hlen, hf⟩ := DataW.trod_struct Try.underlying51 h
  rw [c8Q] at hl
  match cs, hl with
  | [c0, c1, c2, c3, c4], _ =>
    match xs, hlen with
    | [y0, y1], _ =>
      rw [hx] at hw
      have h0 := hf 0 _ rfl
      have h1 := hf 1 _ rfl
      simp [c8S] at h0
      simp [c8X] at h1
      obtain ⟨a0, e0, d0, w0⟩ := DataW.trod_string Try.underlying9 h0
      have hw0 : Wt 9 y0.1 := hw.part Try.underlying51 (j := 0) rfl rfl
      have hw1 : Wt 48 y1.1 := hw.part Try.underlying51 (j := 1) rfl rfl
      rw [d0] at hw0
      have hs0 := hw0.str
      obtain ⟨X, k, s, m, a, n', c, e1, hX, hz⟩ := expr_of_cells n _ _ h1 hw1
      simp at e0 e1
      obtain ⟨rfl, rfl, rfl, rfl⟩ := e1
      subst e0
      exact ⟨(a0, X), k, s, m, a, n', c, rfl, hX, hs0, hz⟩
theorem eqs_of_cells {H : Type} {enc : TypeId × Value → H} {W : World} {fuel : Nat} {u : Value} {x : DataW H × List MemPlace} (h : DataW.trod enc Try.prog W 0 (fun _ => true) true fuel 23 [u] = some x) (hw : Wt 23 x.1) :
    ∃ qs : List (ByteArray × Ex), Rqs W u qs ∧ (∀ q ∈ qs, q.1.size ≤ 281474976710656 ∧ szX q.2) ∧ qs.length ≤ 281474976710656 := by
  rcases DataW.trod_slice Try.underlying23 h with ⟨hcs, _⟩ | ⟨ad, len, cap, els, rest, n, hn, hcs, hx, _, hl, hm, hlen, hel, _, _⟩
  · simp at hcs
    subst hcs
    exact ⟨[], Rqs.nil _, by simp, by simp⟩
  · simp at hcs
    subst hcs
    rw [hx] at hw
    rw [c8Q] at hel
    have hwl := hw.len Try.underlying23
    rw [b8Q, List.length_map, hlen] at hwl
    have each : ∀ i, ∃ q : ByteArray × Ex, i < len → (q.1.size ≤ 281474976710656 ∧ szX q.2) ∧ ∃ (k : Int) (s : ByteArray) (m : Int) (a : Option Addr) (n c : Nat), Xv W q.2 (.agg #[.int .i64 k, .string s, .int .i64 m, .slice a n c]) ∧ W.cells? 0 (ad.add (i * 5)) 5 = some [.string q.1, .int .i64 k, .string s, .int .i64 m, .slice a n c] := fun i => by
      by_cases hi : i < len
      · have hei := hel i hi
        rw [List.getElem?_eq_getElem (by omega)] at hei
        obtain ⟨cs', hc, ht⟩ := Option.bind_eq_some_iff.1 hei
        obtain ⟨q, k, s, m, a, n', c, rfl, hX, hs⟩ := eq_of_cells ht (hw.elem Try.underlying23 (List.mem_map.2 ⟨_, List.getElem_mem (by omega), rfl⟩))
        exact ⟨q, fun _ => ⟨hs, k, s, m, a, n', c, hX, hc⟩⟩
      · exact ⟨q0, fun h => absurd h hi⟩
    obtain ⟨f, hf⟩ : ∃ f : Nat → ByteArray × Ex, ∀ i, i < len → ((f i).1.size ≤ 281474976710656 ∧ szX (f i).2) ∧ ∃ (k : Int) (s : ByteArray) (m : Int) (a : Option Addr) (n c : Nat), Xv W (f i).2 (.agg #[.int .i64 k, .string s, .int .i64 m, .slice a n c]) ∧ W.cells? 0 (ad.add (i * 5)) 5 = some [.string (f i).1, .int .i64 k, .string s, .int .i64 m, .slice a n c] :=
      ⟨fun i => Classical.choose (each i), fun i => Classical.choose_spec (each i)⟩
    refine ⟨(List.range len).map f, ⟨some ad, cap, by simp, fun j hj => ?_⟩, fun x hx => ?_, by simp; omega⟩
    · have hj' : j < len := by simpa using hj
      have hg : ((List.range len).map f).getD j q0 = f j := by simp [List.getD, hj']
      obtain ⟨b, off, spot⟩ := ad
      obtain ⟨_, k, s, m, a, n', c, hX, hc⟩ := hf j hj'
      have hcj := (World.cells?_some hc).2.2
      have hspot : spot = none := by
        obtain ⟨_, k0, s0, m0, a0, n0, c0, _, hc0⟩ := hf 0 (by omega)
        have := (World.cells?_some hc0).2.2 0 (by omega)
        simp at this
        simpa [Addr.add] using World.cell?_spot this
      subst hspot
      have e : ∀ i, ((⟨b, off, none⟩ : Addr).add (j * 5)).add i = ⟨b, off + j * 5 + i, none⟩ := fun i => by rw [add_plain, add_plain]
      rw [hg]
      refine ⟨b, off, k, s, m, a, n', c, rfl, ?_, ?_, ?_, ?_, ?_, hX⟩
      · have := hcj 0 (by omega); rw [e] at this; simpa using this
      · have := hcj 1 (by omega); rw [e] at this; simpa using this
      · have := hcj 2 (by omega); rw [e] at this; simpa using this
      · have := hcj 3 (by omega); rw [e] at this; simpa using this
      · have := hcj 4 (by omega); rw [e] at this; simpa using this
    · obtain ⟨i, hi, rfl⟩ := List.mem_map.1 hx
      exact (hf i (List.mem_range.1 hi)).1
theorem wt_arg {H : Type} {ts : List TypeId} {ds : List (DataW H)} (hsz : (DataW.weightsEach Try.prog ts ds).all (· ≤ reachBytes) = true) {j : Nat} {t : TypeId} {d : DataW H} (ht : ts[j]? = some t) (hd : ds[j]? = some d) : Wt t d := fun n hn => by
  have := List.all_eq_true.1 hsz _ (DataW.weights_mem_each ht hd n hn)
  have r := reachBytes_lt
  simp at this
  omega
theorem exprs_of {H : Type} {enc : TypeId × Value → H} {W : World} {base : Nat} {u : Value} {d : DataW H} {p : List MemPlace} (hv : Value.okWide Try.prog W .any base 22 u) (h : DataW.Trod enc Try.prog W 0 (fun _ => true) true 22 u d p) (hw : Wt 22 d) :
    ∃ xs : List Ex, Rxs W u xs ∧ szXs xs ∧ xs.length ≤ 281474976710656 := by
  obtain ⟨a, len, cap, rfl⟩ := okWide_slice Try.underlying22 hv
  obtain ⟨fuel, hf⟩ := h
  have hf' : DataW.trod enc Try.prog W 0 (fun _ => true) true fuel 22 [.slice a len cap] = some (d, p) := by simpa [Value.cells] using hf
  exact exprs_of_cells hf' hw
theorem eqs_of {H : Type} {enc : TypeId × Value → H} {W : World} {base : Nat} {u : Value} {d : DataW H} {p : List MemPlace} (hv : Value.okWide Try.prog W .any base 23 u) (h : DataW.Trod enc Try.prog W 0 (fun _ => true) true 23 u d p) (hw : Wt 23 d) :
    ∃ qs : List (ByteArray × Ex), Rqs W u qs ∧ (∀ q ∈ qs, q.1.size ≤ 281474976710656 ∧ szX q.2) ∧ qs.length ≤ 281474976710656 := by
  obtain ⟨a, len, cap, rfl⟩ := okWide_slice Try.underlying23 hv
  obtain ⟨fuel, hf⟩ := h
  have hf' : DataW.trod enc Try.prog W 0 (fun _ => true) true fuel 23 [.slice a len cap] = some (d, p) := by simpa [Value.cells] using hf
  exact eqs_of_cells hf' hw
end Go.Proofs.Ytncileojdighnaa
