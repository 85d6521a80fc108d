/- Written terms: plain data, and as they lie in memory. -/
import Derived.Deep.Strs
import Derived.Test.Ytjkcffcedbcjmaata00Z
import Derived.Test.Ytjkcffcedbcjmaata05Z
import Derived.Test.Ytjkcffcedbcjmaata01Z
namespace Go.Proofs.Ytjkcffcedbcjmaa
set_option maxRecDepth 100000
open Go.RowKit
inductive Ex where
  | mk (kind : Int) (name : ByteArray) (num : Int) (args : List Ex)
abbrev x0 : Ex := .mk 0 ⟨#[]⟩ 0 []
theorem Ex.ind {P : Ex → Prop} (h : ∀ k n m xs, (∀ x ∈ xs, P x) → P (.mk k n m xs)) : ∀ x, P x
  | .mk k n m xs => h k n m xs (fun x _ => Ex.ind h x)
mutual
def goodX : Nat → Ex → Bool
  | nest, .mk k n m xs =>
    if 4096 < nest then false
    else if k = 1 then isW n 4 && (decide (m = 0) && decide (xs.length = 0))
    else if k = 2 then goodS n && (decide (m = 0) && decide (xs.length = 0))
    else if k = 3 then decide (n.toList = []) && (decide (-1125899906842624 ≤ m) && (decide (m ≤ 1125899906842624) && decide (xs.length = 0)))
    else if k = 4 then goodS n && (decide (m = 0) && (decide (1 ≤ xs.length) && (decide (xs.length ≤ 8) && goodXs (nest + 1) xs)))
    else false
def goodXs : Nat → List Ex → Bool
  | _, [] => true
  | nest, x :: r => goodX nest x && goodXs nest r
end
mutual
def szX : Ex → Prop
  | .mk _ n _ xs => n.size ≤ 281474976710656 ∧ szXs xs
def szXs : List Ex → Prop
  | [] => True
  | x :: r => szX x ∧ szXs r
end
theorem szXs_mem : ∀ {xs : List Ex}, szXs xs → ∀ x ∈ xs, szX x
  | [], _, x, h => by cases h
  | y :: r, h, x, hx => by
    rcases List.mem_cons.1 hx with e | e
    · subst e; exact h.1
    · exact szXs_mem h.2 x e
theorem szXs_of : ∀ {xs : List Ex}, (∀ x ∈ xs, szX x) → szXs xs
  | [], _ => trivial
  | y :: r, h => ⟨h y (by simp), szXs_of (fun x hx => h x (by simp [hx]))⟩
theorem goodXs_mem (nest : Nat) : ∀ {xs : List Ex}, goodXs nest xs = true ↔ ∀ x ∈ xs, goodX nest x = true
  | [] => by simp [goodXs]
  | y :: r => by
    rw [goodXs, Bool.and_eq_true, goodXs_mem nest (xs := r)]
    simp
theorem xs_at {xs : List Ex} {j : Nat} (h : j < xs.length) : xs.getD j x0 ∈ xs := by simp [List.getD, h]
theorem goodXs_no (nest : Nat) {xs : List Ex} {j : Nat} (h : j < xs.length) (hb : goodX nest (xs.getD j x0) = false) : goodXs nest xs = false := by
  cases hg : goodXs nest xs with
  | false => rfl
  | true => rw [(goodXs_mem nest).1 hg _ (xs_at h)] at hb; cases hb
theorem goodXs_all (nest : Nat) {xs : List Ex} (h : ∀ j, j < xs.length → goodX nest (xs.getD j x0) = true) : goodXs nest xs = true :=
  (goodXs_mem nest).2 fun x hx => by
    obtain ⟨j, hj, rfl⟩ := List.getElem_of_mem hx
    have := h j hj
    simpa [List.getD, hj] using this
mutual
def Xv (w : World) : Ex → Value → Prop
  | .mk k n m xs, v => ∃ ao c, v = .agg #[.int .i64 k, .string n, .int .i64 m, .slice ao xs.length c] ∧ XvL w ao xs 0
def XvL (w : World) : Option Addr → List Ex → Nat → Prop
  | _, [], _ => True
  | ao, x :: r, i => (∃ b o k' n' m' aa al ac, ao = some ⟨b, o, none⟩ ∧ w.cell? ⟨b, o + i * 4, none⟩ = some (.int .i64 k') ∧ w.cell? ⟨b, o + i * 4 + 1, none⟩ = some (.string n') ∧ w.cell? ⟨b, o + i * 4 + 2, none⟩ = some (.int .i64 m') ∧ w.cell? ⟨b, o + i * 4 + 3, none⟩ = some (.slice aa al ac) ∧ Xv w x (.agg #[.int .i64 k', .string n', .int .i64 m', .slice aa al ac])) ∧ XvL w ao r (i + 1)
end
def XAt (w : World) (ao : Option Addr) (x : Ex) (i : Nat) : Prop := ∃ b o k' n' m' aa al ac, ao = some ⟨b, o, none⟩ ∧ w.cell? ⟨b, o + i * 4, none⟩ = some (.int .i64 k') ∧ w.cell? ⟨b, o + i * 4 + 1, none⟩ = some (.string n') ∧ w.cell? ⟨b, o + i * 4 + 2, none⟩ = some (.int .i64 m') ∧ w.cell? ⟨b, o + i * 4 + 3, none⟩ = some (.slice aa al ac) ∧ Xv w x (.agg #[.int .i64 k', .string n', .int .i64 m', .slice aa al ac])
theorem XvL_iff (w : World) (ao : Option Addr) : ∀ (xs : List Ex) (i : Nat), XvL w ao xs i ↔ ∀ j, j < xs.length → XAt w ao (xs.getD j x0) (i + j)
  | [], i => ⟨fun _ j hj => absurd hj (Nat.not_lt_zero _), fun _ => trivial⟩
  | x :: r, i => by
    constructor
    · rintro ⟨h1, h2⟩ j hj
      cases j with
      | zero => exact h1
      | succ j =>
        have := (XvL_iff w ao r (i + 1)).1 h2 j (by simpa using hj)
        rw [show i + (j + 1) = i + 1 + j by omega]
        simpa using this
    · intro h
      refine ⟨h 0 (by simp), (XvL_iff w ao r (i + 1)).2 (fun j hj => ?_)⟩
      have := h (j + 1) (by simpa using hj)
      rw [show i + 1 + j = i + (j + 1) by omega]
      simpa using this
def Rxs (w : World) (v : Value) (xs : List Ex) : Prop :=
  ∃ ao c, v = .slice ao xs.length c ∧ ∀ j, j < xs.length → XAt w ao (xs.getD j x0) j
theorem Xv.parts {w : World} {k : Int} {n : ByteArray} {m : Int} {xs : List Ex} {v : Value} (h : Xv w (.mk k n m xs) v) : ∃ av, v = .agg #[.int .i64 k, .string n, .int .i64 m, av] ∧ Rxs w av xs := by
  obtain ⟨ao, c, rfl, h⟩ := h
  exact ⟨_, rfl, ao, c, rfl, fun j hj => by have := (XvL_iff w ao xs 0).1 h j hj; rwa [Nat.zero_add] at this⟩
theorem Xv.of {w : World} {k : Int} {n : ByteArray} {m : Int} {xs : List Ex} {av : Value} (h : Rxs w av xs) : Xv w (.mk k n m xs) (.agg #[.int .i64 k, .string n, .int .i64 m, av]) := by
  obtain ⟨ao, c, rfl, h⟩ := h
  exact ⟨ao, c, rfl, (XvL_iff w ao xs 0).2 (fun j hj => by rw [Nat.zero_add]; exact h j hj)⟩
theorem Xv.same {w : World} {k k' : Int} {n n' : ByteArray} {m m' : Int} {xs : List Ex} {av : Value} (h : Xv w (.mk k n m xs) (.agg #[.int .i64 k', .string n', .int .i64 m', av])) : k' = k ∧ n' = n ∧ m' = m ∧ Rxs w av xs := by
  obtain ⟨av', e, hr⟩ := h.parts
  injection e with e
  simp at e
  obtain ⟨rfl, rfl, rfl, rfl⟩ := e
  exact ⟨rfl, rfl, rfl, hr⟩
theorem Xv.next {w w' : World} (hb : Below w.heap.size w w') {x : Ex} : ∀ {v : Value}, Xv w x v → Xv w' x v := by
  induction x using Ex.ind with
  | h k n m xs ih =>
    intro v h
    obtain ⟨av, rfl, ao, c, rfl, h2⟩ := h.parts
    refine Xv.of ⟨ao, c, rfl, fun j hj => ?_⟩
    obtain ⟨b, o, k', n', m', aa, al, ac, e, c0, c1, c2, c3, hx⟩ := h2 j hj
    have hl := lt_of_cell c0
    exact ⟨b, o, k', n', m', aa, al, ac, e, by rw [(bcell hb).1 b _ hl]; exact c0, by rw [(bcell hb).1 b _ hl]; exact c1, by rw [(bcell hb).1 b _ hl]; exact c2, by rw [(bcell hb).1 b _ hl]; exact c3, ih _ (xs_at hj) hx⟩
theorem Rxs.next {w w' : World} (hb : Below w.heap.size w w') {v : Value} {xs : List Ex} (h : Rxs w v xs) : Rxs w' v xs :=
  ((Xv.of (k := 0) (n := ⟨#[]⟩) (m := 0) h).next hb).same.2.2.2
theorem Rxs.nil (w : World) : Rxs w (.slice none 0 0) [] := ⟨none, 0, rfl, fun _ h => absurd h (Nat.not_lt_zero _)⟩
abbrev q0 : ByteArray × Ex := (⟨#[]⟩, x0)
def Rqs (w : World) (v : Value) (qs : List (ByteArray × Ex)) : Prop :=
  ∃ ao c, v = .slice ao qs.length c ∧ ∀ j, j < qs.length → ∃ b o k' n' m' aa al ac, ao = some ⟨b, o, none⟩ ∧ w.cell? ⟨b, o + j * 5, none⟩ = some (.string (qs.getD j q0).1) ∧ w.cell? ⟨b, o + j * 5 + 1, none⟩ = some (.int .i64 k') ∧ w.cell? ⟨b, o + j * 5 + 2, none⟩ = some (.string n') ∧ w.cell? ⟨b, o + j * 5 + 3, none⟩ = some (.int .i64 m') ∧ w.cell? ⟨b, o + j * 5 + 4, none⟩ = some (.slice aa al ac) ∧ Xv w (qs.getD j q0).2 (.agg #[.int .i64 k', .string n', .int .i64 m', .slice aa al ac])
theorem Rqs.next {w w' : World} (hb : Below w.heap.size w w') {v : Value} {qs : List (ByteArray × Ex)} (h : Rqs w v qs) : Rqs w' v qs := by
  obtain ⟨ao, c, e, h⟩ := h
  refine ⟨ao, c, e, fun j hj => ?_⟩
  obtain ⟨b, o, k', n', m', aa, al, ac, e, c0, c1, c2, c3, c4, hx⟩ := h j hj
  have hl := lt_of_cell c0
  exact ⟨b, o, k', n', m', aa, al, ac, e, by rw [(bcell hb).1 b _ hl]; exact c0, by rw [(bcell hb).1 b _ hl]; exact c1, by rw [(bcell hb).1 b _ hl]; exact c2, by rw [(bcell hb).1 b _ hl]; exact c3, by rw [(bcell hb).1 b _ hl]; exact c4, hx.next hb⟩
theorem Rqs.nil (w : World) : Rqs w (.slice none 0 0) [] := ⟨none, 0, rfl, fun _ h => absurd h (Nat.not_lt_zero _)⟩
end Go.Proofs.Ytjkcffcedbcjmaa

namespace Go.Proofs.Ytjkcffcedbcjmaa
set_option maxRecDepth 100000
open Go.RowKit
set_option maxHeartbeats 2000000 in
theorem index_exprs (f : Nat) (cb : Array Value) (eg : ∀ args w, (callFunc f args).run Try.prog w = .ok (.enter f args) w) (v : Value) (xs : List Ex) (p : Nat → Bool) (W : World) (hl : xs.length ≤ 5000) (hv : Rxs W v xs)
    (hs : ∀ k w u, k < xs.length → Below W.heap.size W w → Xv w (xs.getD k x0) u → Calls Try.prog f (#[u] ++ cb) w fun e w' => e = .returned (.bool (p k)) ∧ Below w.heap.size w w') :
    Calls Try.prog 111 #[v, .func (.func f) #[] cb] W fun e w' => ((∃ k : Nat, k < xs.length ∧ p k = true ∧ e = .returned (.int .i64 k)) ∨ ((∀ j, j < xs.length → p j = false) ∧ e = .returned (.int .i64 (-1)))) ∧ Below W.heap.size W w' := by
  obtain ⟨ao, c, rfl, hat⟩ := hv
  have hAt := hid hat
  clear hat
  go_enter Try.func111, Try.ntmps111
  go_wp2
  go_loopw [5, 8] (fun _ i wr => ∃ k : Nat, k ≤ xs.length ∧ i = .int .i64 k ∧ Hid (Below W.heap.size W wr) ∧ Hid (∀ j, j < k → p j = false)) (fun _ i _ => xs.length - (intOf i).toNat)
  case atStart => exact ⟨0, Nat.zero_le _, rfl, Below.refl _ _, fun j hj => absurd hj (Nat.not_lt_zero _)⟩
  case round =>
    obtain ⟨k, hk, rfl, hB, hp⟩ := hrel
    by_cases hlt : k < xs.length
    · obtain ⟨b, o, k', n', m', aa, al, ac, rfl, d0, d1, d2, d3, hx⟩ := hAt.out k hlt
      have hz := lt_of_cell d0
      have c0 := ((bcell hB.out).1 b _ hz).trans d0
      have c1 := ((bcell hB.out).1 b _ hz).trans d1
      have c2 := ((bcell hB.out).1 b _ hz).trans d2
      have c3 := ((bcell hB.out).1 b _ hz).trans d3
      have hcall := hs k wr _ hlt hB.out (hx.next hB.out)
      clear d0 d1 d2 d3 hx hs
      cases hq : p k with
      | true =>
        have hq' : Hid (p k = true) := hq
        rw [hq] at hcall
        clear hq
        go_wp2_with (go_at_fn f; refine hcall.mono ?_; rintro e w' ⟨rfl, hb1⟩)
        go_ret
        exact ⟨Or.inl ⟨k, hlt, hq'.out, rfl⟩, Below.next hB.out hb1⟩
      | false =>
        have hq' : Hid (p k = false) := hq
        rw [hq] at hcall
        clear hq
        go_wp2_with (go_at_fn f; refine hcall.mono ?_; rintro e w' ⟨rfl, hb1⟩)
        go_roundw
        case rel =>
          refine ⟨k + 1, by omega, congrArg (Value.int .i64) (by omega), Below.next hB.out hb1, (show Hid _ from fun j hj => ?_)⟩
          rcases Nat.lt_or_eq_of_le (Nat.le_of_lt_succ hj) with h | h
          · exact hp.out j h
          · subst h; exact hq'.out
        case measure => simp [intOf]; omega
    · have hkl : Hid (k = xs.length) := show k = xs.length by omega
      clear hs
      go_wp2
      go_ret
      exact ⟨Or.inr ⟨by rw [← hkl.out]; exact hp.out, rfl⟩, hB.out⟩
set_option maxHeartbeats 1000000 in
theorem contains_exprs (f : Nat) (cb : Array Value) (eg : ∀ args w, (callFunc f args).run Try.prog w = .ok (.enter f args) w) (v : Value) (xs : List Ex) (p : Nat → Bool) (W : World) (hl : xs.length ≤ 5000) (hv : Rxs W v xs)
    (hs : ∀ k w u, k < xs.length → Below W.heap.size W w → Xv w (xs.getD k x0) u → Calls Try.prog f (#[u] ++ cb) w fun e w' => e = .returned (.bool (p k)) ∧ Below w.heap.size w w') :
    Calls Try.prog 106 #[v, .func (.func f) #[] cb] W fun e w' => ((∃ k : Nat, k < xs.length ∧ p k = true ∧ e = .returned (.bool true)) ∨ ((∀ j, j < xs.length → p j = false) ∧ e = .returned (.bool false))) ∧ Below W.heap.size W w' := by
  have hc := index_exprs f cb eg v xs p W hl hv hs
  clear hs hv
  go_enter Try.func106, Try.ntmps106
  go_wp2_with (go_at_call 111; refine hc.mono ?_; rintro e w' ⟨(⟨k, h1, h3, rfl⟩ | ⟨h1, rfl⟩), hb1⟩)
  · go_ret
    exact ⟨Or.inl ⟨k, h1, h3, rfl⟩, hb1⟩
  · go_ret
    exact ⟨Or.inr ⟨h1, rfl⟩, hb1⟩
theorem badX_eg : ∀ args w, (callFunc 105 args).run Try.prog w = .ok (.enter 105 args) w := enters_of Try.func105 (by kernel_rfl) rfl
def GoodAtC (x : Ex) : Prop := ∀ (w : World) (v : Value), Xv w x v → szX x → ∀ nest : Nat, nest ≤ 5000 →
    Calls Try.prog 72 #[v, .int .i64 (nest : Int)] w fun e w' => e = .returned (.bool (goodX nest x)) ∧ Below w.heap.size w w'
set_option maxHeartbeats 1000000 in
theorem badX_any {x : Ex} (hc : GoodAtC x) (hz : szX x) {w : World} {v : Value} (hx : Xv w x v) {q nest : Nat} (hn : nest ≤ 5000) (hq : w.cell? ⟨q, 0, none⟩ = some (.int .i64 (nest : Int))) :
    Calls Try.prog 105 #[v, .pointer (some ⟨q, 0, none⟩)] w fun e w' => e = .returned (.bool (!goodX nest x)) ∧ Below w.heap.size w w' := by
  obtain ⟨k, n, m, xs⟩ := x
  obtain ⟨av, rfl, hr⟩ := hx.parts
  have hb0 := below_alloc w (.cells #[.int .i64 k, .string n, .int .i64 m, av] 48)
  have h1 := hc _ _ ((Xv.of hr).next hb0) hz nest hn
  have hq2 := lt_of_cell hq
  clear hc hx hr hz
  go_enter Try.func105, Try.ntmps105
  go_wp2_with (go_at_call 72; refine h1.mono ?_; rintro e w1 ⟨rfl, hb1⟩)
  go_ret
  exact ⟨rfl, Below.next hb0 hb1⟩
set_option maxHeartbeats 2000000 in
theorem xgoodArgs_any {xs : List Ex} (hc : ∀ x ∈ xs, GoodAtC x) (hz : szXs xs) {w : World} {av : Value} (hr : Rxs w av xs) (nest : Nat) (hn : nest ≤ 5000) :
    Calls Try.prog 94 #[av, .int .i64 (nest : Int)] w fun e w' => e = .returned (.bool (decide (1 ≤ xs.length) && (decide (xs.length ≤ 8) && goodXs nest xs))) ∧ Below w.heap.size w w' := by
  have hb0 := below_alloc w (.cells #[.int .i64 (nest : Int)] 3)
  have hr1 := hr.next hb0
  obtain ⟨ao, c, rfl, _⟩ := hr
  have hcell : ∀ w1, Below (w.alloc (.cells #[.int .i64 (nest : Int)] 3)).heap.size (w.alloc (.cells #[.int .i64 (nest : Int)] 3)) w1 → w1.cell? ⟨w.heap.size, 0, none⟩ = some (.int .i64 (nest : Int)) := fun w1 hb => by
    rw [(bcell hb).1 _ _ (by simp)]
    exact cell_one_new w _ _ 0 _ rfl
  by_cases h1 : 1 ≤ xs.length
  · by_cases h8 : xs.length ≤ 8
    · have hk := contains_exprs 105 #[.pointer (some ⟨w.heap.size, 0, none⟩)] badX_eg _ xs (fun k => !goodX nest (xs.getD k x0)) _ (by omega) hr1 (fun k w1 u hk hb hx => badX_any (hc _ (xs_at hk)) (szXs_mem hz _ (xs_at hk)) hx hn (hcell w1 hb))
      have hE : Hid ((decide (1 ≤ xs.length) && (decide (xs.length ≤ 8) && goodXs nest xs)) = goodXs nest xs) := by rw [decide_eq_true h1, decide_eq_true h8]; rfl
      have hno : Hid (∀ j, j < xs.length → (!goodX nest (xs.getD j x0)) = true → goodXs nest xs = false) := fun j hj h => goodXs_no nest hj (by simpa using h)
      have hya : Hid ((∀ j, j < xs.length → (!goodX nest (xs.getD j x0)) = false) → goodXs nest xs = true) := fun h => goodXs_all nest (fun j hj => by simpa using h j hj)
      have i1 : (1 : Int) ≤ (xs.length : Int) := by omega
      have i8 : (xs.length : Int) ≤ 8 := by omega
      clear hc hz hcell hr1 h1 h8
      go_enter Try.func94, Try.ntmps94
      go_wp2_with (go_at_call 106; refine hk.mono ?_; rintro e w1 ⟨(⟨k, h1, h2, rfl⟩ | ⟨h1, rfl⟩), hb1⟩)
      · go_ret
        exact ⟨ret_bool (by rw [hE.out, hno.out k h1 h2]), Below.next hb0 hb1⟩
      · go_ret
        exact ⟨ret_bool (by rw [hE.out, hya.out h1]), Below.next hb0 hb1⟩
    · have hE : Hid ((decide (1 ≤ xs.length) && (decide (xs.length ≤ 8) && goodXs nest xs)) = false) := by rw [decide_eq_false h8, Bool.false_and, Bool.and_false]; exact rfl
      have i1 : (1 : Int) ≤ (xs.length : Int) := by omega
      have i8 : ¬ (xs.length : Int) ≤ 8 := by omega
      clear hc hz hcell hr1 h1 h8
      go_enter Try.func94, Try.ntmps94
      go_wp2
      go_ret
      exact ⟨ret_bool hE.out.symm, hb0⟩
  · have hE : Hid ((decide (1 ≤ xs.length) && (decide (xs.length ≤ 8) && goodXs nest xs)) = false) := by rw [decide_eq_false h1]; rfl
    have i1 : ¬ (1 : Int) ≤ (xs.length : Int) := by omega
    clear hc hz hcell hr1 h1
    go_enter Try.func94, Try.ntmps94
    go_wp2
    go_ret
    exact ⟨ret_bool hE.out.symm, hb0⟩
end Go.Proofs.Ytjkcffcedbcjmaa

namespace Go.Proofs.Ytjkcffcedbcjmaa
set_option maxRecDepth 100000
open Go.ChangeShapes Go.WideShapes Go.ChangeAt Go.RowKit Go.Deep
theorem c8I : Try.prog.cellsOf 3 = 1 := by kernel_rfl
theorem c8S : Try.prog.cellsOf 9 = 1 := by kernel_rfl
theorem c8X : Try.prog.cellsOf 48 = 4 := by kernel_rfl
theorem c8Xs : Try.prog.cellsOf 22 = 1 := by kernel_rfl
theorem c8Q : Try.prog.cellsOf 51 = 5 := by kernel_rfl
theorem b8X : Try.prog.bytesOf 48 = 56 := by kernel_rfl
theorem b8Q : Try.prog.bytesOf 51 = 72 := by kernel_rfl
def Wt {H : Type} (t : TypeId) (d : DataW H) : Prop := ∀ n ∈ d.weights Try.prog t, n ≤ 281474976710656
theorem wAll_mem {H : Type} {e : TypeId} : ∀ {ds : List (DataW H)} {d : DataW H}, d ∈ ds → ∀ n ∈ d.weights Try.prog e, n ∈ DataW.weightsAll Try.prog e ds
  | y :: r, d, h, n, hn => by
    rw [DataW.weightsAll]
    rcases List.mem_cons.1 h with rfl | h
    · exact List.mem_append_left _ hn
    · exact List.mem_append_right _ (wAll_mem h n hn)
theorem Wt.elem {H : Type} {t e : TypeId} {els sp : List (DataW H)} (hu : Try.prog.underlying t = some (.slice e)) (h : Wt t (.slice els sp)) {d : DataW H} (hd : d ∈ els) : Wt e d := fun n hn => h n (by
  rw [DataW.weights, hu]
  exact List.mem_cons_of_mem _ (List.mem_append_left _ (wAll_mem hd n hn)))
theorem Wt.len {H : Type} {t e : TypeId} {els sp : List (DataW H)} (hu : Try.prog.underlying t = some (.slice e)) (h : Wt t (.slice els sp)) : (els.length + sp.length) * Try.prog.bytesOf e ≤ 281474976710656 := h _ (by
  rw [DataW.weights, hu]
  exact List.mem_cons_self)
theorem Wt.part {H : Type} {t : TypeId} {fs : Array Field} {ds : List (DataW H)} (hu : Try.prog.underlying t = some (.struct fs)) (h : Wt t (.agg ds)) {j : Nat} {e : TypeId} {d : DataW H} (hj : (fs.toList.map (·.type))[j]? = some e) (hd : ds[j]? = some d) : Wt e d := fun n hn => h n (by
  rw [DataW.weights, hu]
  exact DataW.weights_mem_each hj hd n hn)
theorem Wt.str {H : Type} {t : TypeId} {s : ByteArray} (h : Wt (H := H) t (.lit (.string s.data.toList))) : s.size ≤ 281474976710656 := by
  have := h s.data.toList.length (by simp [DataW.weights])
  simpa using this
def Xcs (W : World) (cs : List Value) : Prop := ∃ (X : Ex) (k : Int) (s : ByteArray) (m : Int) (a : Option Addr) (n c : Nat), cs = [.int .i64 k, .string s, .int .i64 m, .slice a n c] ∧ Xv W X (.agg #[.int .i64 k, .string s, .int .i64 m, .slice a n c]) ∧ szX X
theorem exprs_step {H : Type} {enc : TypeId × Value → H} {W : World} {fuel : Nat} (ih : ∀ n, n < fuel → ∀ (cs : List Value) (x : DataW H × List MemPlace), DataW.trod enc Try.prog W 0 (fun _ => true) true n 48 cs = some x → Wt 48 x.1 → Xcs W cs) {u : Value} {x : DataW H × List MemPlace} (h : DataW.trod enc Try.prog W 0 (fun _ => true) true fuel 22 [u] = some x) (hw : Wt 22 x.1) :
    ∃ xs : List Ex, Rxs W u xs ∧ szXs xs ∧ xs.length ≤ 281474976710656 := by
  rcases DataW.trod_slice Try.underlying22 h with ⟨hcs, _⟩ | ⟨ad, len, cap, els, rest, n, hn, hcs, hx, _, hl, hm, hlen, hel, _, _⟩
  · simp at hcs
    subst hcs
    exact ⟨[], Rxs.nil _, trivial, by simp⟩
  · simp at hcs
    subst hcs
    rw [hx] at hw
    rw [c8X] at hel
    have hwl := hw.len Try.underlying22
    rw [b8X, List.length_map, hlen] at hwl
    have each : ∀ i, ∃ X : Ex, i < len → szX X ∧ ∃ (k : Int) (s : ByteArray) (m : Int) (a : Option Addr) (n c : Nat), Xv W X (.agg #[.int .i64 k, .string s, .int .i64 m, .slice a n c]) ∧ W.cells? 0 (ad.add (i * 4)) 4 = some [.int .i64 k, .string s, .int .i64 m, .slice a n c] := fun i => by
      by_cases hi : i < len
      · have hei := hel i hi
        rw [List.getElem?_eq_getElem (by omega)] at hei
        obtain ⟨cs', hc, ht⟩ := Option.bind_eq_some_iff.1 hei
        obtain ⟨X, k, s, m, a, n', c, rfl, hX, hs⟩ := ih n (by omega) cs' _ ht (hw.elem Try.underlying22 (List.mem_map.2 ⟨_, List.getElem_mem (by omega), rfl⟩))
        exact ⟨X, fun _ => ⟨hs, k, s, m, a, n', c, hX, hc⟩⟩
      · exact ⟨x0, fun h => absurd h hi⟩
    obtain ⟨f, hf⟩ : ∃ f : Nat → Ex, ∀ i, i < len → szX (f i) ∧ ∃ (k : Int) (s : ByteArray) (m : Int) (a : Option Addr) (n c : Nat), Xv W (f i) (.agg #[.int .i64 k, .string s, .int .i64 m, .slice a n c]) ∧ W.cells? 0 (ad.add (i * 4)) 4 = some [.int .i64 k, .string s, .int .i64 m, .slice a n c] :=
      ⟨fun i => Classical.choose (each i), fun i => Classical.choose_spec (each i)⟩
    refine ⟨(List.range len).map f, ⟨some ad, cap, by simp, fun j hj => ?_⟩, szXs_of (fun x hx => ?_), by simp; omega⟩
    · have hj' : j < len := by simpa using hj
      have hg : ((List.range len).map f).getD j x0 = f j := by simp [List.getD, hj']
      obtain ⟨b, off, spot⟩ := ad
      obtain ⟨_, k, s, m, a, n', c, hX, hc⟩ := hf j hj'
      have hcj := (World.cells?_some hc).2.2
      have hspot : spot = none := by
        obtain ⟨_, k0, s0, m0, a0, n0, c0, _, hc0⟩ := hf 0 (by omega)
        have := (World.cells?_some hc0).2.2 0 (by omega)
        simp at this
        simpa [Addr.add] using World.cell?_spot this
      subst hspot
      have e : ∀ i, ((⟨b, off, none⟩ : Addr).add (j * 4)).add i = ⟨b, off + j * 4 + i, none⟩ := fun i => by rw [add_plain, add_plain]
      rw [hg]
      refine ⟨b, off, k, s, m, a, n', c, rfl, ?_, ?_, ?_, ?_, hX⟩
      · have := hcj 0 (by omega); rw [e] at this; simpa using this
      · have := hcj 1 (by omega); rw [e] at this; simpa using this
      · have := hcj 2 (by omega); rw [e] at this; simpa using this
      · have := hcj 3 (by omega); rw [e] at this; simpa using this
    · obtain ⟨i, hi, rfl⟩ := List.mem_map.1 hx
      exact (hf i (List.mem_range.1 hi)).1
theorem expr_of_cells {H : Type} {enc : TypeId × Value → H} {W : World} : ∀ (fuel : Nat) (cs : List Value) (x : DataW H × List MemPlace), DataW.trod enc Try.prog W 0 (fun _ => true) true fuel 48 cs = some x → Wt 48 x.1 → Xcs W cs := fun fuel => by
  induction fuel using Nat.strongRecOn with
  | ind fuel ih =>
    intro cs x h hw
    obtain ⟨xs, n, hn, hx, hl, hlen, hf⟩ := DataW.trod_struct Try.underlying48 h
    rw [c8X] at hl
    match cs, hl with
    | [c0, c1, c2, c3], _ =>
      match xs, hlen with
      | [y0, y1, y2, y3], _ =>
        rw [hx] at hw
        have h0 := hf 0 _ rfl
        have h1 := hf 1 _ rfl
        have h2 := hf 2 _ rfl
        have h3 := hf 3 _ rfl
        simp [c8I] at h0 h2
        simp [c8S] at h1
        simp [c8Xs] at h3
        obtain ⟨a0, e0, _, w0⟩ := DataW.trod_int Try.underlying3 h0
        obtain ⟨a1, e1, d1, w1⟩ := DataW.trod_string Try.underlying9 h1
        obtain ⟨a2, e2, _, w2⟩ := DataW.trod_int Try.underlying3 h2
        have hw1 : Wt 9 y1.1 := hw.part Try.underlying48 (j := 1) rfl rfl
        have hw3 : Wt 22 y3.1 := hw.part Try.underlying48 (j := 3) rfl rfl
        rw [d1] at hw1
        have hs1 := hw1.str
        obtain ⟨l, hr, hsz, _⟩ := exprs_step (fuel := n) (fun n' hn' => ih n' (by omega)) h3 hw3
        simp at e0 e1 e2
        subst e0 e1 e2
        obtain ⟨ao, c, rfl, hall⟩ := hr
        exact ⟨.mk a0 a1 a2 l, a0, a1, a2, ao, l.length, c, rfl, Xv.of ⟨ao, c, rfl, hall⟩, hs1, hsz⟩
end Go.Proofs.Ytjkcffcedbcjmaa
