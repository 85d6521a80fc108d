/- Written terms: plain data, and as they lie in memory. -/
import Derived.Test.YtmfgjemefjcblaaGrFn
import Derived.Test.YtmfgjemefjcblaaXAZ
import Derived.Test.YtmfgjemefjcblaaBiQuot
import Derived.Shelf.Strconv.Clone
import Derived.Test.YtmfgjemefjcblaaGrMem
import Derived.Maps.OwnSet
import Derived.Deep.AppendLies
import Derived.Deep.RegionHeld3
import Derived.StillTailTactics
namespace Go.Proofs.Ytmfgjemefjcblaa
open Go.RowKit

/-- A term: its kind, name, number and arguments. -/
inductive Ex where
  | mk (kind : Int) (name : ByteArray) (num : Int) (args : List Ex)
/-- No term. -/
abbrev x0 : Ex := .mk 0 ⟨#[]⟩ 0 []
theorem Ex.ind {P : Ex → Prop} (h : ∀ k n m xs, (∀ x ∈ xs, P x) → P (.mk k n m xs)) : ∀ x, P x
  | .mk k n m xs => h k n m xs (fun x _ => Ex.ind h x)
mutual
/-- Is a term good that stands in so many compounds? -/
def goodX : Nat → Ex → Bool
  | nest, .mk k n m xs =>
    if 4096 < nest then false
    else if k = 1 then isW n 4 && (decide (m = 0) && decide (xs.length = 0))
    else if k = 2 then goodS n && (decide (m = 0) && decide (xs.length = 0))
    else if k = 3 then decide (n.toList = []) && (decide (-1125899906842624 ≤ m) && (decide (m ≤ 1125899906842624) && decide (xs.length = 0)))
    else if k = 4 then goodS n && (decide (m = 0) && (decide (1 ≤ xs.length) && (decide (xs.length ≤ 8) && goodXs (nest + 1) xs)))
    else false
def goodXs : Nat → List Ex → Bool
  | _, [] => true
  | nest, x :: r => goodX nest x && goodXs nest r
end
mutual
/-- All names of a term are of a size that a machine can hold. -/
def szX : Ex → Prop
  | .mk _ n _ xs => n.size ≤ 281474976710656 ∧ szXs xs
def szXs : List Ex → Prop
  | [] => True
  | x :: r => szX x ∧ szXs r
end
theorem szXs_mem : ∀ {xs : List Ex}, szXs xs → ∀ x ∈ xs, szX x
  | [], _, x, h => by cases h
  | y :: r, h, x, hx => by
    rcases List.mem_cons.1 hx with e | e
    · subst e; exact h.1
    · exact szXs_mem h.2 x e
theorem szXs_of : ∀ {xs : List Ex}, (∀ x ∈ xs, szX x) → szXs xs
  | [], _ => trivial
  | y :: r, h => ⟨h y (by simp), szXs_of (fun x hx => h x (by simp [hx]))⟩
theorem goodXs_mem (nest : Nat) : ∀ {xs : List Ex}, goodXs nest xs = true ↔ ∀ x ∈ xs, goodX nest x = true
  | [] => by simp [goodXs]
  | y :: r => by
    rw [goodXs, Bool.and_eq_true, goodXs_mem nest (xs := r)]
    simp
theorem xs_at {xs : List Ex} {j : Nat} (h : j < xs.length) : xs.getD j x0 ∈ xs := by simp [List.getD, h]
theorem goodXs_no (nest : Nat) {xs : List Ex} {j : Nat} (h : j < xs.length) (hb : goodX nest (xs.getD j x0) = false) : goodXs nest xs = false := by
  cases hg : goodXs nest xs with
  | false => rfl
  | true => rw [(goodXs_mem nest).1 hg _ (xs_at h)] at hb; cases hb
theorem goodXs_all (nest : Nat) {xs : List Ex} (h : ∀ j, j < xs.length → goodX nest (xs.getD j x0) = true) : goodXs nest xs = true :=
  (goodXs_mem nest).2 fun x hx => by
    obtain ⟨j, hj, rfl⟩ := List.getElem_of_mem hx
    have := h j hj
    simpa [List.getD, hj] using this
mutual
/-- A value tells a term. -/
def Xv (w : World) : Ex → Value → Prop
  | .mk k n m xs, v => ∃ ao c, v = .agg #[.int .i64 k, .string n, .int .i64 m, .slice ao xs.length c] ∧ XvL w ao xs 0
/-- Terms lie one behind the other from a place on. -/
def XvL (w : World) : Option Addr → List Ex → Nat → Prop
  | _, [], _ => True
  | ao, x :: r, i => (∃ b o k' n' m' aa al ac, ao = some ⟨b, o, none⟩ ∧ w.cell? ⟨b, o + i * 4, none⟩ = some (.int .i64 k') ∧ w.cell? ⟨b, o + i * 4 + 1, none⟩ = some (.string n') ∧ w.cell? ⟨b, o + i * 4 + 2, none⟩ = some (.int .i64 m') ∧ w.cell? ⟨b, o + i * 4 + 3, none⟩ = some (.slice aa al ac) ∧ Xv w x (.agg #[.int .i64 k', .string n', .int .i64 m', .slice aa al ac])) ∧ XvL w ao r (i + 1)
end
/-- A term lies at a place of a row. -/
def XAt (w : World) (ao : Option Addr) (x : Ex) (i : Nat) : Prop := ∃ b o k' n' m' aa al ac, ao = some ⟨b, o, none⟩ ∧ w.cell? ⟨b, o + i * 4, none⟩ = some (.int .i64 k') ∧ w.cell? ⟨b, o + i * 4 + 1, none⟩ = some (.string n') ∧ w.cell? ⟨b, o + i * 4 + 2, none⟩ = some (.int .i64 m') ∧ w.cell? ⟨b, o + i * 4 + 3, none⟩ = some (.slice aa al ac) ∧ Xv w x (.agg #[.int .i64 k', .string n', .int .i64 m', .slice aa al ac])
theorem XvL_iff (w : World) (ao : Option Addr) : ∀ (xs : List Ex) (i : Nat), XvL w ao xs i ↔ ∀ j, j < xs.length → XAt w ao (xs.getD j x0) (i + j)
  | [], i => ⟨fun _ j hj => absurd hj (Nat.not_lt_zero _), fun _ => trivial⟩
  | x :: r, i => by
    constructor
    · rintro ⟨h1, h2⟩ j hj
      cases j with
      | zero => exact h1
      | succ j =>
        have := (XvL_iff w ao r (i + 1)).1 h2 j (by simpa using hj)
        rw [show i + (j + 1) = i + 1 + j by omega]
        simpa using this
    · intro h
      refine ⟨h 0 (by simp), (XvL_iff w ao r (i + 1)).2 (fun j hj => ?_)⟩
      have := h (j + 1) (by simpa using hj)
      rw [show i + 1 + j = i + (j + 1) by omega]
      simpa using this
/-- A slice tells a row of terms. -/
def Rxs (w : World) (v : Value) (xs : List Ex) : Prop :=
  ∃ ao c, v = .slice ao xs.length c ∧ ∀ j, j < xs.length → XAt w ao (xs.getD j x0) j
theorem Xv.parts {w : World} {k : Int} {n : ByteArray} {m : Int} {xs : List Ex} {v : Value} (h : Xv w (.mk k n m xs) v) : ∃ av, v = .agg #[.int .i64 k, .string n, .int .i64 m, av] ∧ Rxs w av xs := by
  obtain ⟨ao, c, rfl, h⟩ := h
  exact ⟨_, rfl, ao, c, rfl, fun j hj => by have := (XvL_iff w ao xs 0).1 h j hj; rwa [Nat.zero_add] at this⟩
theorem Xv.of {w : World} {k : Int} {n : ByteArray} {m : Int} {xs : List Ex} {av : Value} (h : Rxs w av xs) : Xv w (.mk k n m xs) (.agg #[.int .i64 k, .string n, .int .i64 m, av]) := by
  obtain ⟨ao, c, rfl, h⟩ := h
  exact ⟨ao, c, rfl, (XvL_iff w ao xs 0).2 (fun j hj => by rw [Nat.zero_add]; exact h j hj)⟩
theorem Xv.same {w : World} {k k' : Int} {n n' : ByteArray} {m m' : Int} {xs : List Ex} {av : Value} (h : Xv w (.mk k n m xs) (.agg #[.int .i64 k', .string n', .int .i64 m', av])) : k' = k ∧ n' = n ∧ m' = m ∧ Rxs w av xs := by
  obtain ⟨av', e, hr⟩ := h.parts
  injection e with e
  simp at e
  obtain ⟨rfl, rfl, rfl, rfl⟩ := e
  exact ⟨rfl, rfl, rfl, hr⟩
/-- What lies in blocks that stay is told as before. -/
theorem Xv.next {w w' : World} (hb : Below w.heap.size w w') {x : Ex} : ∀ {v : Value}, Xv w x v → Xv w' x v := by
  induction x using Ex.ind with
  | h k n m xs ih =>
    intro v h
    obtain ⟨av, rfl, ao, c, rfl, h2⟩ := h.parts
    refine Xv.of ⟨ao, c, rfl, fun j hj => ?_⟩
    obtain ⟨b, o, k', n', m', aa, al, ac, e, c0, c1, c2, c3, hx⟩ := h2 j hj
    have hl := lt_of_cell c0
    exact ⟨b, o, k', n', m', aa, al, ac, e, by rw [(bcell hb).1 b _ hl]; exact c0, by rw [(bcell hb).1 b _ hl]; exact c1, by rw [(bcell hb).1 b _ hl]; exact c2, by rw [(bcell hb).1 b _ hl]; exact c3, ih _ (xs_at hj) hx⟩
theorem Rxs.next {w w' : World} (hb : Below w.heap.size w w') {v : Value} {xs : List Ex} (h : Rxs w v xs) : Rxs w' v xs :=
  ((Xv.of (k := 0) (n := ⟨#[]⟩) (m := 0) h).next hb).same.2.2.2
theorem Rxs.nil (w : World) : Rxs w (.slice none 0 0) [] := ⟨none, 0, rfl, fun _ h => absurd h (Nat.not_lt_zero _)⟩
/-- An equation: its name and its right side. -/
abbrev q0 : ByteArray × Ex := (⟨#[]⟩, x0)
/-- A slice tells a row of equations. -/
def Rqs (w : World) (v : Value) (qs : List (ByteArray × Ex)) : Prop :=
  ∃ ao c, v = .slice ao qs.length c ∧ ∀ j, j < qs.length → ∃ b o k' n' m' aa al ac, ao = some ⟨b, o, none⟩ ∧ w.cell? ⟨b, o + j * 5, none⟩ = some (.string (qs.getD j q0).1) ∧ w.cell? ⟨b, o + j * 5 + 1, none⟩ = some (.int .i64 k') ∧ w.cell? ⟨b, o + j * 5 + 2, none⟩ = some (.string n') ∧ w.cell? ⟨b, o + j * 5 + 3, none⟩ = some (.int .i64 m') ∧ w.cell? ⟨b, o + j * 5 + 4, none⟩ = some (.slice aa al ac) ∧ Xv w (qs.getD j q0).2 (.agg #[.int .i64 k', .string n', .int .i64 m', .slice aa al ac])
theorem Rqs.next {w w' : World} (hb : Below w.heap.size w w') {v : Value} {qs : List (ByteArray × Ex)} (h : Rqs w v qs) : Rqs w' v qs := by
  obtain ⟨ao, c, e, h⟩ := h
  refine ⟨ao, c, e, fun j hj => ?_⟩
  obtain ⟨b, o, k', n', m', aa, al, ac, e, c0, c1, c2, c3, c4, hx⟩ := h j hj
  have hl := lt_of_cell c0
  exact ⟨b, o, k', n', m', aa, al, ac, e, by rw [(bcell hb).1 b _ hl]; exact c0, by rw [(bcell hb).1 b _ hl]; exact c1, by rw [(bcell hb).1 b _ hl]; exact c2, by rw [(bcell hb).1 b _ hl]; exact c3, by rw [(bcell hb).1 b _ hl]; exact c4, hx.next hb⟩
theorem Rqs.nil (w : World) : Rqs w (.slice none 0 0) [] := ⟨none, 0, rfl, fun _ h => absurd h (Nat.not_lt_zero _)⟩
end Go.Proofs.Ytmfgjemefjcblaa

/- Good of package parse, at every term. -/
namespace Go.Proofs.Ytmfgjemefjcblaa
open Go.RowKit

set_option maxRecDepth 100000 in
set_option maxHeartbeats 2000000 in
/-- slices.IndexFunc over terms, of a function that leaves what is there as it is. -/
theorem index_exprs (f : Nat) (cb : Array Value) (eg : ∀ args w, (callFunc f args).run Try.prog w = .ok (.enter f args) w) (v : Value) (xs : List Ex) (p : Nat → Bool) (W : World) (hl : xs.length ≤ 5000) (hv : Rxs W v xs)
    (hs : ∀ k w u, k < xs.length → Below W.heap.size W w → Xv w (xs.getD k x0) u → Calls Try.prog f (#[u] ++ cb) w fun e w' => e = .returned (.bool (p k)) ∧ Below w.heap.size w w') :
    Calls Try.prog 113 #[v, .func (.func f) #[] cb] W fun e w' => ((∃ k : Nat, k < xs.length ∧ p k = true ∧ e = .returned (.int .i64 k)) ∨ ((∀ j, j < xs.length → p j = false) ∧ e = .returned (.int .i64 (-1)))) ∧ Below W.heap.size W w' := by
  obtain ⟨ao, c, rfl, hat⟩ := hv
  have hAt := hid hat
  clear hat
  go_enter Try.func113, Try.ntmps113
  go_wp2
  go_loopw [5, 8] (fun _ i wr => ∃ k : Nat, k ≤ xs.length ∧ i = .int .i64 k ∧ Hid (Below W.heap.size W wr) ∧ Hid (∀ j, j < k → p j = false)) (fun _ i _ => xs.length - (intOf i).toNat)
  case atStart => exact ⟨0, Nat.zero_le _, rfl, Below.refl _ _, fun j hj => absurd hj (Nat.not_lt_zero _)⟩
  case round =>
    obtain ⟨k, hk, rfl, hB, hp⟩ := hrel
    by_cases hlt : k < xs.length
    · obtain ⟨b, o, k', n', m', aa, al, ac, rfl, d0, d1, d2, d3, hx⟩ := hAt.out k hlt
      have hz := lt_of_cell d0
      have c0 := ((bcell hB.out).1 b _ hz).trans d0
      have c1 := ((bcell hB.out).1 b _ hz).trans d1
      have c2 := ((bcell hB.out).1 b _ hz).trans d2
      have c3 := ((bcell hB.out).1 b _ hz).trans d3
      have hcall := hs k wr _ hlt hB.out (hx.next hB.out)
      clear d0 d1 d2 d3 hx hs
      cases hq : p k with
      | true =>
        have hq' : Hid (p k = true) := hq
        rw [hq] at hcall
        clear hq
        go_wp2_with (go_at_fn f; refine hcall.mono ?_; rintro e w' ⟨rfl, hb1⟩)
        go_ret
        exact ⟨Or.inl ⟨k, hlt, hq'.out, rfl⟩, Below.next hB.out hb1⟩
      | false =>
        have hq' : Hid (p k = false) := hq
        rw [hq] at hcall
        clear hq
        go_wp2_with (go_at_fn f; refine hcall.mono ?_; rintro e w' ⟨rfl, hb1⟩)
        go_roundw
        case rel =>
          refine ⟨k + 1, by omega, congrArg (Value.int .i64) (by omega), Below.next hB.out hb1, (show Hid _ from fun j hj => ?_)⟩
          rcases Nat.lt_or_eq_of_le (Nat.le_of_lt_succ hj) with h | h
          · exact hp.out j h
          · subst h; exact hq'.out
        case measure => simp [intOf]; omega
    · have hkl : Hid (k = xs.length) := show k = xs.length by omega
      clear hs
      go_wp2
      go_ret
      exact ⟨Or.inr ⟨by rw [← hkl.out]; exact hp.out, rfl⟩, hB.out⟩
set_option maxRecDepth 100000 in
set_option maxHeartbeats 1000000 in
theorem contains_exprs (f : Nat) (cb : Array Value) (eg : ∀ args w, (callFunc f args).run Try.prog w = .ok (.enter f args) w) (v : Value) (xs : List Ex) (p : Nat → Bool) (W : World) (hl : xs.length ≤ 5000) (hv : Rxs W v xs)
    (hs : ∀ k w u, k < xs.length → Below W.heap.size W w → Xv w (xs.getD k x0) u → Calls Try.prog f (#[u] ++ cb) w fun e w' => e = .returned (.bool (p k)) ∧ Below w.heap.size w w') :
    Calls Try.prog 108 #[v, .func (.func f) #[] cb] W fun e w' => ((∃ k : Nat, k < xs.length ∧ p k = true ∧ e = .returned (.bool true)) ∨ ((∀ j, j < xs.length → p j = false) ∧ e = .returned (.bool false))) ∧ Below W.heap.size W w' := by
  have hc := index_exprs f cb eg v xs p W hl hv hs
  clear hs hv
  go_enter Try.func108, Try.ntmps108
  go_wp2_with (go_at_call 113; refine hc.mono ?_; rintro e w' ⟨(⟨k, h1, h3, rfl⟩ | ⟨h1, rfl⟩), hb1⟩)
  · go_ret
    exact ⟨Or.inl ⟨k, h1, h3, rfl⟩, hb1⟩
  · go_ret
    exact ⟨Or.inr ⟨h1, rfl⟩, hb1⟩
theorem badX_eg : ∀ args w, (callFunc 107 args).run Try.prog w = .ok (.enter 107 args) w := enters_of Try.func107 (by kernel_rfl) rfl
/-- What is asked of goodAt at one term. -/
def GoodAtC (x : Ex) : Prop := ∀ (w : World) (v : Value), Xv w x v → szX x → ∀ nest : Nat, nest ≤ 5000 →
    Calls Try.prog 74 #[v, .int .i64 (nest : Int)] w fun e w' => e = .returned (.bool (goodX nest x)) ∧ Below w.heap.size w w'
set_option maxRecDepth 100000 in
set_option maxHeartbeats 1000000 in
theorem badX_any {x : Ex} (hc : GoodAtC x) (hz : szX x) {w : World} {v : Value} (hx : Xv w x v) {q nest : Nat} (hn : nest ≤ 5000) (hq : w.cell? ⟨q, 0, none⟩ = some (.int .i64 (nest : Int))) :
    Calls Try.prog 107 #[v, .pointer (some ⟨q, 0, none⟩)] w fun e w' => e = .returned (.bool (!goodX nest x)) ∧ Below w.heap.size w w' := by
  obtain ⟨k, n, m, xs⟩ := x
  obtain ⟨av, rfl, hr⟩ := hx.parts
  have hb0 := below_alloc w (.cells #[.int .i64 k, .string n, .int .i64 m, av] 48)
  have h1 := hc _ _ ((Xv.of hr).next hb0) hz nest hn
  have hq2 := lt_of_cell hq
  clear hc hx hr hz
  go_enter Try.func107, Try.ntmps107
  go_wp2_with (go_at_call 74; refine h1.mono ?_; rintro e w1 ⟨rfl, hb1⟩)
  go_ret
  exact ⟨rfl, Below.next hb0 hb1⟩
set_option maxRecDepth 100000 in
set_option maxHeartbeats 2000000 in
theorem xgoodArgs_any {xs : List Ex} (hc : ∀ x ∈ xs, GoodAtC x) (hz : szXs xs) {w : World} {av : Value} (hr : Rxs w av xs) (nest : Nat) (hn : nest ≤ 5000) :
    Calls Try.prog 96 #[av, .int .i64 (nest : Int)] w fun e w' => e = .returned (.bool (decide (1 ≤ xs.length) && (decide (xs.length ≤ 8) && goodXs nest xs))) ∧ Below w.heap.size w w' := by
  have hb0 := below_alloc w (.cells #[.int .i64 (nest : Int)] 3)
  have hr1 := hr.next hb0
  obtain ⟨ao, c, rfl, _⟩ := hr
  have hcell : ∀ w1, Below (w.alloc (.cells #[.int .i64 (nest : Int)] 3)).heap.size (w.alloc (.cells #[.int .i64 (nest : Int)] 3)) w1 → w1.cell? ⟨w.heap.size, 0, none⟩ = some (.int .i64 (nest : Int)) := fun w1 hb => by
    rw [(bcell hb).1 _ _ (by simp)]
    exact cell_one_new w _ _ 0 _ rfl
  by_cases h1 : 1 ≤ xs.length
  · by_cases h8 : xs.length ≤ 8
    · have hk := contains_exprs 107 #[.pointer (some ⟨w.heap.size, 0, none⟩)] badX_eg _ xs (fun k => !goodX nest (xs.getD k x0)) _ (by omega) hr1 (fun k w1 u hk hb hx => badX_any (hc _ (xs_at hk)) (szXs_mem hz _ (xs_at hk)) hx hn (hcell w1 hb))
      have hE : Hid ((decide (1 ≤ xs.length) && (decide (xs.length ≤ 8) && goodXs nest xs)) = goodXs nest xs) := by rw [decide_eq_true h1, decide_eq_true h8]; rfl
      have hno : Hid (∀ j, j < xs.length → (!goodX nest (xs.getD j x0)) = true → goodXs nest xs = false) := fun j hj h => goodXs_no nest hj (by simpa using h)
      have hya : Hid ((∀ j, j < xs.length → (!goodX nest (xs.getD j x0)) = false) → goodXs nest xs = true) := fun h => goodXs_all nest (fun j hj => by simpa using h j hj)
      have i1 : (1 : Int) ≤ (xs.length : Int) := by omega
      have i8 : (xs.length : Int) ≤ 8 := by omega
      clear hc hz hcell hr1 h1 h8
      go_enter Try.func96, Try.ntmps96
      go_wp2_with (go_at_call 108; refine hk.mono ?_; rintro e w1 ⟨(⟨k, h1, h2, rfl⟩ | ⟨h1, rfl⟩), hb1⟩)
      · go_ret
        exact ⟨ret_bool (by rw [hE.out, hno.out k h1 h2]), Below.next hb0 hb1⟩
      · go_ret
        exact ⟨ret_bool (by rw [hE.out, hya.out h1]), Below.next hb0 hb1⟩
    · have hE : Hid ((decide (1 ≤ xs.length) && (decide (xs.length ≤ 8) && goodXs nest xs)) = false) := by rw [decide_eq_false h8, Bool.false_and, Bool.and_false]; exact rfl
      have i1 : (1 : Int) ≤ (xs.length : Int) := by omega
      have i8 : ¬ (xs.length : Int) ≤ 8 := by omega
      clear hc hz hcell hr1 h1 h8
      go_enter Try.func96, Try.ntmps96
      go_wp2
      go_ret
      exact ⟨ret_bool hE.out.symm, hb0⟩
  · have hE : Hid ((decide (1 ≤ xs.length) && (decide (xs.length ≤ 8) && goodXs nest xs)) = false) := by rw [decide_eq_false h1]; rfl
    have i1 : ¬ (1 : Int) ≤ (xs.length : Int) := by omega
    clear hc hz hcell hr1 h1
    go_enter Try.func96, Try.ntmps96
    go_wp2
    go_ret
    exact ⟨ret_bool hE.out.symm, hb0⟩
end Go.Proofs.Ytmfgjemefjcblaa

/- Good of package parse, at every term. -/
namespace Go.Proofs.Ytmfgjemefjcblaa
open Go.RowKit

theorem beq_dec0 (n : Nat) : ((n : Int) == 0) = decide (n = 0) := by
  cases n with
  | zero => rfl
  | succ n => simp; omega
set_option maxRecDepth 100000 in
set_option maxHeartbeats 4000000 in
theorem goodAt_any (x : Ex) : GoodAtC x := by
  induction x using Ex.ind with
  | h k n m xs ih =>
    intro w v hx hz nest hn
    obtain ⟨av, rfl, hr⟩ := hx.parts
    have hb0 := below_alloc w (.cells #[.int .i64 k, .string n, .int .i64 m, av] 48)
    have hr1 := hr.next hb0
    have hzn : n.size ≤ 9223372036854775807 := Nat.le_trans hz.1 (by decide)
    obtain ⟨ao, c, rfl, _⟩ := hr
    generalize hN : xs.length = N at *
    have HN : Hid (xs.length = N) := hN
    by_cases h4 : (4096 : Int) < (nest : Int)
    · have hE : Hid (goodX nest (.mk k n m xs) = false) := show _ = _ by rw [goodX, if_pos (by omega)]
      clear ih hr1 hz hx hN
      go_enter Try.func74, Try.ntmps74
      go_wp2
      go_ret
      exact ⟨ret_bool hE.out.symm, hb0⟩
    · have h4' : ¬ 4096 < nest := by omega
      by_cases k1 : k = 1
      · subst k1
        have hv := fun w1 => isVar_big n w1 hzn
        cases hW : isW n 4 with
        | false =>
          have hE : Hid (goodX nest (.mk 1 n m xs) = false) := show _ = _ by rw [goodX, if_neg h4', if_pos rfl, hW]; rfl
          rw [hW] at hv
          clear ih hr1 hz hx hN hW h4'
          go_enter Try.func74, Try.ntmps74
          go_wp2_with (go_at_call 48; refine (hv _).mono ?_; rintro e w1 ⟨rfl, rfl⟩)
          go_ret
          exact ⟨ret_bool hE.out.symm, hb0⟩
        | true =>
          rw [hW] at hv
          by_cases hm : m = 0
          · subst hm
            have hE : Hid (goodX nest (.mk 1 n 0 xs) = ((N : Int) == 0)) := show _ = _ by rw [goodX, if_neg h4', if_pos rfl, hW, HN.out, beq_dec0]; simp
            clear ih hr1 hz hx hN hW h4'
            go_enter Try.func74, Try.ntmps74
            go_wp2_with (go_at_call 48; refine (hv _).mono ?_; rintro e w1 ⟨rfl, rfl⟩)
            go_ret
            exact ⟨ret_bool hE.out.symm, hb0⟩
          · have hE : Hid (goodX nest (.mk 1 n m xs) = false) := show _ = _ by rw [goodX, if_neg h4', if_pos rfl, decide_eq_false hm]; simp
            have hm' : (m == 0) = false := beq_eq_false_iff_ne.2 hm
            clear ih hr1 hz hx hN hW h4' hm
            go_enter Try.func74, Try.ntmps74
            go_wp2_with (go_at_call 48; refine (hv _).mono ?_; rintro e w1 ⟨rfl, rfl⟩)
            go_ret
            exact ⟨ret_bool hE.out.symm, hb0⟩
      · have k1' : (k == 1) = false := beq_eq_false_iff_ne.2 k1
        by_cases k2 : k = 2
        · subst k2
          have hv := fun w1 => good_any n w1 hzn
          cases hW : goodS n with
          | false =>
            have hE : Hid (goodX nest (.mk 2 n m xs) = false) := show _ = _ by rw [goodX, if_neg h4', if_neg k1, if_pos rfl, hW]; rfl
            rw [hW] at hv
            clear ih hr1 hz hx hN hW h4' k1 k1'
            go_enter Try.func74, Try.ntmps74
            go_wp2_with (go_at_call 95; refine (hv _).mono ?_; rintro e w1 ⟨rfl, rfl⟩)
            go_ret
            exact ⟨ret_bool hE.out.symm, hb0⟩
          | true =>
            rw [hW] at hv
            by_cases hm : m = 0
            · subst hm
              have hE : Hid (goodX nest (.mk 2 n 0 xs) = ((N : Int) == 0)) := show _ = _ by rw [goodX, if_neg h4', if_neg k1, if_pos rfl, hW, HN.out, beq_dec0]; simp
              clear ih hr1 hz hx hN hW h4' k1 k1'
              go_enter Try.func74, Try.ntmps74
              go_wp2_with (go_at_call 95; refine (hv _).mono ?_; rintro e w1 ⟨rfl, rfl⟩)
              go_ret
              exact ⟨ret_bool hE.out.symm, hb0⟩
            · have hE : Hid (goodX nest (.mk 2 n m xs) = false) := show _ = _ by rw [goodX, if_neg h4', if_neg k1, if_pos rfl, decide_eq_false hm]; simp
              have hm' : (m == 0) = false := beq_eq_false_iff_ne.2 hm
              clear ih hr1 hz hx hN hW h4' hm k1 k1'
              go_enter Try.func74, Try.ntmps74
              go_wp2_with (go_at_call 95; refine (hv _).mono ?_; rintro e w1 ⟨rfl, rfl⟩)
              go_ret
              exact ⟨ret_bool hE.out.symm, hb0⟩
        · have k2' : (k == 2) = false := beq_eq_false_iff_ne.2 k2
          by_cases k3 : k = 3
          · subst k3
            by_cases he : n.toList = []
            · by_cases h5 : (-1125899906842624 : Int) ≤ m
              · by_cases h6 : m ≤ (1125899906842624 : Int)
                · have hE : Hid (goodX nest (.mk 3 n m xs) = ((N : Int) == 0)) := show _ = _ by rw [goodX, if_neg h4', if_neg k1, if_neg k2, if_pos rfl, HN.out, beq_dec0]; simp [he, h5, h6]
                  clear ih hr1 hz hx hN h4' k1 k1' k2 k2'
                  go_enter Try.func74, Try.ntmps74
                  go_wp2
                  go_ret
                  exact ⟨ret_bool hE.out.symm, hb0⟩
                · have hE : Hid (goodX nest (.mk 3 n m xs) = false) := show _ = _ by rw [goodX, if_neg h4', if_neg k1, if_neg k2, if_pos rfl]; simp [h6]
                  clear ih hr1 hz hx hN h4' k1 k1' k2 k2'
                  go_enter Try.func74, Try.ntmps74
                  go_wp2
                  go_ret
                  exact ⟨ret_bool hE.out.symm, hb0⟩
              · have hE : Hid (goodX nest (.mk 3 n m xs) = false) := show _ = _ by rw [goodX, if_neg h4', if_neg k1, if_neg k2, if_pos rfl]; simp [h5]
                clear ih hr1 hz hx hN h4' k1 k1' k2 k2'
                go_enter Try.func74, Try.ntmps74
                go_wp2
                go_ret
                exact ⟨ret_bool hE.out.symm, hb0⟩
            · have hE : Hid (goodX nest (.mk 3 n m xs) = false) := show _ = _ by rw [goodX, if_neg h4', if_neg k1, if_neg k2, if_pos rfl, decide_eq_false he]; simp
              clear ih hr1 hz hx hN h4' k1 k1' k2 k2'
              go_enter Try.func74, Try.ntmps74
              go_wp2
              go_ret
              exact ⟨ret_bool hE.out.symm, hb0⟩
          · have k3' : (k == 3) = false := beq_eq_false_iff_ne.2 k3
            by_cases k4 : k = 4
            · subst k4
              have hv := fun w1 => good_any n w1 hzn
              cases hW : goodS n with
              | false =>
                have hE : Hid (goodX nest (.mk 4 n m xs) = false) := show _ = _ by rw [goodX, if_neg h4', if_neg k1, if_neg k2, if_neg k3, if_pos rfl, hW]; rfl
                rw [hW] at hv
                clear ih hr1 hz hx hN hW h4' k1 k1' k2 k2' k3 k3'
                go_enter Try.func74, Try.ntmps74
                go_wp2_with (go_at_call 95; refine (hv _).mono ?_; rintro e w1 ⟨rfl, rfl⟩)
                go_ret
                exact ⟨ret_bool hE.out.symm, hb0⟩
              | true =>
                rw [hW] at hv
                by_cases hm : m = 0
                · subst hm
                  · have hga := xgoodArgs_any (fun x hx => ih x hx) hz.2 hr1 (nest + 1) (by omega)
                    have hE : Hid (goodX nest (.mk 4 n 0 xs) = (decide (1 ≤ xs.length) && (decide (xs.length ≤ 8) && goodXs (nest + 1) xs))) := show _ = _ by rw [goodX, if_neg h4', if_neg k1, if_neg k2, if_neg k3, if_pos rfl, hW]; simp
                    generalize (decide (1 ≤ xs.length) && (decide (xs.length ≤ 8) && goodXs (nest + 1) xs)) = R at hga hE
                    rw [show ((nest + 1 : Nat) : Int) = (nest : Int) + 1 by omega] at hga
                    clear ih hr1 hz hx hN hW h4' k1 k1' k2 k2' k3 k3'
                    go_enter Try.func74, Try.ntmps74
                    go_wp2_with (first | (go_at_call 95; refine (hv _).mono ?_; rintro e w1 ⟨rfl, rfl⟩) | (go_at_call 96; refine hga.mono ?_; rintro e w2 ⟨rfl, hb2⟩))
                    go_ret
                    exact ⟨ret_bool hE.out.symm, Below.next hb0 hb2⟩
                · have hE : Hid (goodX nest (.mk 4 n m xs) = false) := show _ = _ by rw [goodX, if_neg h4', if_neg k1, if_neg k2, if_neg k3, if_pos rfl, decide_eq_false hm]; simp
                  have hm' : (m == 0) = false := beq_eq_false_iff_ne.2 hm
                  clear ih hr1 hz hx hN hW h4' hm k1 k1' k2 k2' k3 k3'
                  go_enter Try.func74, Try.ntmps74
                  go_wp2_with (go_at_call 95; refine (hv _).mono ?_; rintro e w1 ⟨rfl, rfl⟩)
                  go_ret
                  exact ⟨ret_bool hE.out.symm, hb0⟩
            · have k4' : (k == 4) = false := beq_eq_false_iff_ne.2 k4
              have hE : Hid (goodX nest (.mk k n m xs) = false) := show _ = _ by rw [goodX, if_neg h4', if_neg k1, if_neg k2, if_neg k3, if_neg k4]
              clear ih hr1 hz hx hN h4' k1 k2 k3 k4
              go_enter Try.func74, Try.ntmps74
              go_wp2
              go_ret
              exact ⟨ret_bool hE.out.symm, hb0⟩
set_option maxRecDepth 100000 in
set_option maxHeartbeats 1000000 in
/-- Good at every term. -/
theorem goodE_any (x : Ex) {w : World} {v : Value} (hx : Xv w x v) (hz : szX x) :
    Calls Try.prog 47 #[v] w fun e w' => e = .returned (.bool (goodX 0 x)) ∧ Below w.heap.size w w' := by
  obtain ⟨k, n, m, xs⟩ := x
  obtain ⟨av, rfl, hr⟩ := hx.parts
  have hb0 := below_alloc w (.cells #[.int .i64 k, .string n, .int .i64 m, av] 48)
  have h1 := goodAt_any (.mk k n m xs) _ _ ((Xv.of hr).next hb0) hz 0 (by omega)
  rw [show ((0 : Nat) : Int) = 0 from rfl] at h1
  clear hx hr hz
  go_enter Try.func47, Try.ntmps47
  go_wp2_with (go_at_call 74; refine h1.mono ?_; rintro e w1 ⟨rfl, hb1⟩)
  go_ret
  exact ⟨rfl, Below.next hb0 hb1⟩
end Go.Proofs.Ytmfgjemefjcblaa

/- Faults of package tie; strings.Clone. -/
namespace Go.Proofs.Ytmfgjemefjcblaa
open Go.RowKit Go.Shelf

/-- The shelf's numbers for Clone, at this program. -/
def scRen : Go.Shelf.Ren := ⟨fun _ => 77, fun n => if n = 37 then 151 else if n = 127 then 152 else n, fun n => n⟩
theorem scLays : LaysM.n316 Try.prog scRen := by
  constructor
  constructor
  all_goals (first | kernel_rfl | (intro _; kernel_rfl))
theorem tclone0_any (s : ByteArray) (w : World) (hs : s.size ≤ 281474976710656) :
    Calls Try.prog 77 #[.string s] w fun e w' => e = .returned (.string s) ∧ Below w.heap.size w w' := Any.stringslite_Clone scLays s w hs
set_option maxHeartbeats 400000 in
theorem tclone_any (s : ByteArray) (w : World) (hs : s.size ≤ 281474976710656) :
    Calls Try.prog 51 #[.string s] w fun e w' => e = .returned (.string s) ∧ Below w.heap.size w w' := by
  have h := tclone0_any s w hs
  go_enter Try.func51, Try.ntmps51
  go_wp2_with (go_at_call 77; refine h.mono ?_; rintro e w1 ⟨rfl, hb1⟩)
  go_ret
  exact ⟨rfl, hb1⟩
/-- An error that is just this fault. -/
def Ef (w : World) (e : Value) (c a : Int) (s : ByteArray) : Prop := ∃ b, e = .iface 53 (.pointer (some ⟨b, 0, none⟩)) ∧ w.heap[b]? = some (.cells #[.int .i64 c, .int .i64 a, .string s, .nilIface] 57)
theorem Ef.next {w w' : World} {e : Value} {c a : Int} {s : ByteArray} (h : Ef w e c a s) (hb : Below w.heap.size w w') : Ef w' e c a s := by
  obtain ⟨b, he, h⟩ := h
  exact ⟨b, he, (hb.block b (lt_of_block h)).trans h⟩
set_option maxHeartbeats 1000000 in
theorem tfault_any (c a : Int) (s : ByteArray) (w : World) (hs : s.size ≤ 281474976710656) :
    Calls Try.prog 31 #[.int .i64 c, .int .i64 a, .string s] w fun e w' => (∃ ev, e = .returned ev ∧ Ef w' ev c a s) ∧ Below w.heap.size w w' := by
  have h := tclone_any s w hs
  go_enter Try.func31, Try.ntmps31
  go_wp2_with (go_at_call 51; refine h.mono ?_; rintro e w1 ⟨rfl, hb1⟩)
  go_ret
  exact ⟨⟨_, rfl, _, rfl, heap_alloc_new w1 _⟩, Below.next hb1 (below_alloc w1 _)⟩
end Go.Proofs.Ytmfgjemefjcblaa

/- Written terms with equations as plain data: the first fault, names and parts. -/
namespace Go.Proofs.Ytmfgjemefjcblaa
open Go.RowKit

/-- Is a name the one that is set apart? -/
def isU (s : ByteArray) : Bool := decide (s.toList = [95])
/-- Is a name in a list? -/
def inN (l : List ByteArray) (s : ByteArray) : Bool := l.any (fun x => decide (x = s))
theorem inN_iff {l : List ByteArray} {s : ByteArray} : inN l s = true ↔ s ∈ l := by simp [inN]
theorem inN_snoc (l : List ByteArray) (s x : ByteArray) : inN (l ++ [s]) x = (inN l x || decide (s = x)) := by simp [inN]
/-- The place of a name in a list. -/
def ixN : List ByteArray → ByteArray → Nat
  | [], _ => 0
  | x :: r, s => if x = s then 0 else ixN r s + 1
theorem ixN_new : ∀ {l : List ByteArray} {s : ByteArray}, inN l s = false → ixN (l ++ [s]) s = l.length
  | [], s, _ => by simp [ixN]
  | x :: r, s, h => by
    simp only [inN, List.any_cons, Bool.or_eq_false_iff, decide_eq_false_iff_not] at h
    simp only [List.cons_append, ixN, if_neg h.1, List.length_cons]
    rw [ixN_new (l := r) (s := s) h.2]
theorem ixN_old : ∀ {l : List ByteArray} {s x : ByteArray}, inN l x = true → ixN (l ++ [s]) x = ixN l x
  | [], s, x, h => by simp [inN] at h
  | y :: r, s, x, h => by
    by_cases e : y = x
    · simp [ixN, e]
    · simp only [inN, List.any_cons, e, decide_false, Bool.false_or] at h
      simp only [List.cons_append, ixN, if_neg e]
      rw [ixN_old (l := r) (s := s) (x := x) h]
theorem ixN_lt : ∀ {l : List ByteArray} {s : ByteArray}, inN l s = true → ixN l s < l.length
  | [], s, h => by simp [inN] at h
  | y :: r, s, h => by
    by_cases e : y = s
    · simp [ixN, e]
    · simp only [inN, List.any_cons, e, decide_false, Bool.false_or] at h
      have := ixN_lt (l := r) (s := s) h
      simp only [ixN, if_neg e, List.length_cons]
      omega
theorem ixN_at : ∀ {l : List ByteArray} {s : ByteArray}, inN l s = true → l.getD (ixN l s) ⟨#[]⟩ = s
  | [], s, h => by simp [inN] at h
  | y :: r, s, h => by
    by_cases e : y = s
    · simp [ixN, e]
    · simp only [inN, List.any_cons, e, decide_false, Bool.false_or] at h
      have := ixN_at (l := r) (s := s) h
      simp only [ixN, if_neg e]
      simpa using this
theorem skey_ne {s s' : ByteArray} (h : s' ≠ s) : Lit.string s'.data.toList ≠ Lit.string s.data.toList := fun e => h (by
  have e' : s'.data.toList = s.data.toList := by injection e
  exact ByteArray.ext (Array.toList_inj.1 e'))
theorem skey_is (s : ByteArray) : WideAt.IsKeyLit (.string s.data.toList) := trivial
/-- The first fault of equations, those ahead being good: its code (0: none), its place, its name. -/
def chkQ (n : Nat) : List ByteArray → List (ByteArray × Ex) → Nat → Int × Int × ByteArray
  | _, [], _ => (0, 0, ⟨#[]⟩)
  | ahead, q :: r, i =>
    if isW q.1 4 = false ∨ isU q.1 = true then (83, i, q.1)
    else if inN ahead q.1 = true then (84, i, q.1)
    else if goodX 0 q.2 = false then (81, n + i, ⟨#[]⟩)
    else chkQ n (ahead ++ [q.1]) r (i + 1)
/-- The first fault but for ErrBig. -/
def chkT (xs : List Ex) (qs : List (ByteArray × Ex)) : Int × Int × ByteArray :=
  if 4096 < xs.length then (80, xs.length, ⟨#[]⟩)
  else if 4096 < qs.length then (82, qs.length, ⟨#[]⟩)
  else if 0 ≤ ixOf (fun x => !goodX 0 x) xs then (81, ixOf (fun x => !goodX 0 x) xs, ⟨#[]⟩)
  else chkQ xs.length [] qs 0
/-- Is a term a variable with a name that others may have, too? -/
def nmX : Ex → Bool
  | .mk k n _ _ => decide (k = 1) && !isU n
/-- A name put behind a list, unless it is there. -/
def putS (l : List ByteArray) (s : ByteArray) : List ByteArray := if inN l s = true then l else l ++ [s]
mutual
/-- The names of a term, put behind a list. -/
def namX : List ByteArray → Ex → List ByteArray
  | l, .mk k n _ xs => namXs (if (decide (k = 1) && !isU n) = true then putS l n else l) xs
def namXs : List ByteArray → List Ex → List ByteArray
  | l, [] => l
  | l, x :: r => namXs (namX l x) r
end
mutual
/-- How many other parts a term has. -/
def othX : Ex → Nat
  | .mk k n _ xs => (if (decide (k = 1) && !isU n) = true then 0 else 1) + othXs xs
def othXs : List Ex → Nat
  | [] => 0
  | x :: r => othX x + othXs r
end
/-- The names of equations, put behind a list. -/
def namQ : List ByteArray → List (ByteArray × Ex) → List ByteArray
  | l, [] => l
  | l, q :: r => namQ (namX (putS l q.1) q.2) r
def othQ : List (ByteArray × Ex) → Nat
  | [] => 0
  | q :: r => othX q.2 + othQ r
/-- All names, and how many other parts there are. -/
def namA (xs : List Ex) (qs : List (ByteArray × Ex)) : List ByteArray := namQ (namXs [] xs) qs
def othA (xs : List Ex) (qs : List (ByteArray × Ex)) : Nat := othXs xs + othQ qs
/-- A node without a name: a variable. -/
abbrev varN : Nd := ⟨1, ⟨#[]⟩, 0, []⟩
/-- Numbers as the model has them. -/
def setA (st : List Nd) (n : Nat) (al : List Int) : List Nd := st.set n { (st.getD n nd0) with args := al }
mutual
/-- A term is put down behind the nodes that are there: its node, and all nodes then. -/
def layX (ns : List ByteArray) : List Nd → Ex → Nat × List Nd
  | st, .mk k n m xs =>
    if (decide (k = 1) && !isU n) = true then (ixN ns n, st)
    else if k = 1 then (st.length, st ++ [varN])
    else (st.length, setA (layXs ns (st ++ [⟨k, n, m, []⟩]) xs).2 st.length (layXs ns (st ++ [⟨k, n, m, []⟩]) xs).1)
def layXs (ns : List ByteArray) : List Nd → List Ex → List Int × List Nd
  | st, [] => ([], st)
  | st, x :: r => (((layX ns st x).1 : Int) :: (layXs ns (layX ns st x).2 r).1, (layXs ns (layX ns st x).2 r).2)
end
/-- The right sides, put down one behind the other. -/
def layQ (ns : List ByteArray) : List Nd → List (ByteArray × Ex) → List (Nat × Nat) × List Nd
  | st, [] => ([], st)
  | st, q :: r => ((ixN ns q.1, (layX ns st q.2).1) :: (layQ ns (layX ns st q.2).2 r).1, (layQ ns (layX ns st q.2).2 r).2)
/-- A name is led to its right side, unless that leads back to it. -/
def bindE (E : Nat → Nat) (p : Nat × Nat) : Nat → Nat := fun x => if E x = p.1 then E p.2 else E x
def bindAll (E : Nat → Nat) (ps : List (Nat × Nat)) : Nat → Nat := ps.foldl bindE E
end Go.Proofs.Ytmfgjemefjcblaa

/- Frames: what a call may change. -/
namespace Go.Proofs.Ytmfgjemefjcblaa
open Go.RowKit

/-- Blocks outside of a set stay as they were; new ones may come. -/
structure Mo (S : Nat → Prop) (w w' : World) : Prop where
  os : w'.os = w.os
  tape : w'.tape = w.tape
  output : w'.output = w.output
  size : w.heap.size ≤ w'.heap.size
  block : ∀ k, k < w.heap.size → ¬ S k → w'.heap[k]? = w.heap[k]?
theorem Mo.refl (S : Nat → Prop) (w : World) : Mo S w w := ⟨rfl, rfl, rfl, Nat.le_refl _, fun _ _ _ => rfl⟩
theorem Mo.trans {S S' : Nat → Prop} {a b c : World} (h : Mo S a b) (k : Mo S' b c) (hs : ∀ x, S' x → S x ∨ a.heap.size ≤ x) : Mo S a c :=
  ⟨k.os.trans h.os, k.tape.trans h.tape, k.output.trans h.output, Nat.le_trans h.size k.size, fun i hi hn =>
    (k.block i (Nat.lt_of_lt_of_le hi h.size) (fun hx => by rcases hs i hx with h1 | h1; exact hn h1; omega)).trans (h.block i hi hn)⟩
theorem Mo.below {S : Nat → Prop} {w w' : World} {B : Nat} (h : Mo S w w') (hk : ∀ k, S k → B ≤ k) (hB : B ≤ w.heap.size) : Below B w w' :=
  ⟨h.os, h.tape, h.output, h.size, fun k hkB => h.block k (by omega) (fun hx => by have := hk k hx; omega)⟩
theorem Mo.ofBelow {S : Nat → Prop} {w w' : World} (h : Below w.heap.size w w') : Mo S w w' := ⟨h.os, h.tape, h.output, h.size, fun k hk _ => h.block k hk⟩
theorem Mo.grown {S : Nat → Prop} {a w w' : World} {row : Option Nat} (h : Mo S a w) (hg : w.grownBy w' row) (hr : ∀ k, row = some k → S k ∨ a.heap.size ≤ k) : Mo S a w' :=
  ⟨hg.os.trans h.os, hg.tape.trans h.tape, hg.output.trans h.output, Nat.le_trans h.size hg.size, fun k hk hn =>
    (hg.block k (Nat.lt_of_lt_of_le hk h.size) (fun e => by rcases hr k e.symm with h1 | h1; exact hn h1; omega)).trans (h.block k hk hn)⟩
theorem Mo.alloc {S : Nat → Prop} {a w : World} (h : Mo S a w) (o : Obj) : Mo S a (w.alloc o) := h.grown (World.grownBy_alloc w o none) (fun _ e => by cases e)
theorem Mo.setCell {S : Nat → Prop} {a w : World} (h : Mo S a w) {p : Addr} (hp : S p.block ∨ a.heap.size ≤ p.block) (u : Value) : Mo S a (w.setCell p u) :=
  ⟨h.os, h.tape, h.output, by simpa using h.size, fun k hk hn =>
    (Below.heap_setCell w p u k (fun e => by subst e; rcases hp with h1 | h1; exact hn h1; omega)).trans (h.block k hk hn)⟩
theorem Mo.drew {S : Nat → Prop} {a w : World} (h : Mo S a w) : Mo S a w.drew := ⟨h.os, h.tape, h.output, h.size, h.block⟩
theorem Mo.weak {S S' : Nat → Prop} {w w' : World} (h : Mo S w w') (hs : ∀ x, S x → S' x ∨ w.heap.size ≤ x) : Mo S' w w' := (Mo.refl S' w).trans h hs
end Go.Proofs.Ytmfgjemefjcblaa

/- Memory of a census and of a knot. -/
namespace Go.Proofs.Ytmfgjemefjcblaa
open Go.RowKit Go.Maps

theorem row_keep {w w' : World} {B z : Nat} {e : TypeId} {v : Value} {n : Nat} {xs : List Value} (h : w.ownsRow B e z v n xs) (hm : ∀ k, v.ownBlock = some k → w'.heap[k]? = w.heap[k]?) : w'.ownsRow B e z v n xs := by
  refine ⟨h.1, ?_⟩
  rcases h.2 with h0 | ⟨g, cap, cur, rfl, hb, hg, rest⟩
  · exact Or.inl h0
  · exact Or.inr ⟨g, cap, cur, rfl, hb, by rw [hm g rfl]; exact hg, rest⟩
theorem mapI_keep {w w' : World} {k : TypeId} {q n : Nat} {D : DataW Unit} (h : w.ownsMap Try.prog k (plainElem Try.prog 3) q n D) (hm : w'.heap[q]? = w.heap[q]?) : w'.ownsMap Try.prog k (plainElem Try.prog 3) q n D := by
  obtain ⟨es, clock, hb, rest⟩ := h
  exact ⟨es, clock, by rw [hm]; exact hb, rest⟩
theorem row_obj {w : World} {B z : Nat} {e : TypeId} {v : Value} {n : Nat} {xs : List Value} (h : w.ownsRow B e z v n xs) {k : Nat} (hk : v.ownBlock = some k) : ∃ cur, w.heap[k]? = some (.cells cur e (0, 0)) := by
  rcases h.2 with ⟨rfl, _⟩ | ⟨g, cap, cur, rfl, _, hg, _⟩
  · cases hk
  · have : g = k := by simpa [Value.ownBlock] using hk
    subst this
    exact ⟨cur, hg⟩
theorem obj_ne {w : World} {k j : Nat} {c c' : Array Value} {e e' : TypeId} {x x' : Nat × Nat} (h : w.heap[k]? = some (.cells c e x)) (h' : w.heap[j]? = some (.cells c' e' x')) (hne : e ≠ e') : k ≠ j := fun ek => by
  subst ek
  rw [h] at h'
  injection h' with h'
  injection h' with _ h'
  exact hne h'
theorem obj_map {w : World} {k j n : Nat} {c : Array Value} {e t : TypeId} {x : Nat × Nat} {R : Value → Option (DataW Unit × List MemPlace)} {D : DataW Unit} (h : w.heap[k]? = some (.cells c e x)) (h' : w.ownsMap Try.prog t R j n D) : k ≠ j := fun ek => by
  subst ek
  obtain ⟨es, clock, hb, _⟩ := h'
  rw [h] at hb
  cases hb
/-- A map that tells each name's number. -/
def MapN (l : List ByteArray) (D : DataW Unit) : Prop :=
  Maps.IsMap D ∧ (∀ s : ByteArray, Maps.has D (.string s.data.toList) = inN l s) ∧ ∀ s : ByteArray, inN l s = true → D.atKey (.string s.data.toList) (.lit (.int .i64 0)) = .lit (.int .i64 (ixN l s : Int))
theorem MapN.nil : MapN [] (.map []) := ⟨⟨[], rfl⟩, fun s => by simp [Maps.has, inN], fun s h => by simp [inN] at h⟩
theorem MapN.put {l : List ByteArray} {s : ByteArray} {D : DataW Unit} (h : MapN l D) (hD : Maps.IsMap (D.put (.string s.data.toList) (.lit (.int .i64 (l.length : Int))))) (hs : inN l s = false) : MapN (l ++ [s]) (D.put (.string s.data.toList) (.lit (.int .i64 (l.length : Int)))) := by
  refine ⟨hD, fun x => ?_, fun x hx => ?_⟩
  · rw [inN_snoc]
    by_cases e : x = s
    · subst e
      rw [Maps.has_put_same h.1 (skey_is x)]
      simp
    · rw [Maps.has_put_other (skey_ne e), h.2.1, decide_eq_false (fun h : s = x => e h.symm), Bool.or_false]
  · by_cases e : x = s
    · subst e
      rw [Maps.atKey_put_same h.1 (skey_is x), ixN_new hs]
    · rw [inN_snoc, decide_eq_false (fun h : s = x => e h.symm), Bool.or_false] at hx
      rw [Maps.atKey_put_other (skey_ne e), h.2.2 x hx, ixN_old hx]
/-- A census at block cb: its names in the slice v, its map in block q, how many others. -/
structure Cs (w : World) (B cb : Nat) (v : Value) (q : Nat) (l : List ByteArray) (oth : Nat) : Prop where
  blk : w.heap[cb]? = some (.cells #[v, .map (some q), .int .i64 (oth : Int)] 77)
  base : B ≤ cb
  mb : B ≤ q
  own : w.ownsRow B 9 1 v l.length (l.map Value.string)
  map : ∃ D, w.ownsMap Try.prog 9 (plainElem Try.prog 3) q l.length D ∧ MapN l D
section
variable {w w' : World} {B cb q oth : Nat} {v : Value} {l : List ByteArray}
/-- The blocks of a census. -/
def CsF (cb : Nat) (v : Value) (q : Nat) : Nat → Prop := fun k => k = cb ∨ k = q ∨ v.ownBlock = some k
theorem Cs.lt (h : Cs w B cb v q l oth) {k : Nat} (hk : CsF cb v q k) : B ≤ k ∧ k < w.heap.size := by
  rcases hk with rfl | rfl | hk
  · exact ⟨h.base, lt_of_block h.blk⟩
  · obtain ⟨D, hD, _⟩ := h.map
    exact ⟨h.mb, hD.lt⟩
  · exact h.own.lt k hk
theorem Cs.keep (h : Cs w B cb v q l oth) (hm : ∀ k, CsF cb v q k → w'.heap[k]? = w.heap[k]?) : Cs w' B cb v q l oth := by
  obtain ⟨D, hD, hM⟩ := h.map
  exact ⟨(hm cb (Or.inl rfl)).trans h.blk, h.base, h.mb, row_keep h.own (fun k hk => hm k (Or.inr (Or.inr hk))), D, mapI_keep hD (hm q (Or.inr (Or.inl rfl))), hM⟩
theorem Cs.next (h : Cs w B cb v q l oth) (hb : Below w.heap.size w w') : Cs w' B cb v q l oth := h.keep fun k hk => hb.block k (h.lt hk).2
theorem Cs.cells (h : Cs w B cb v q l oth) : (w.cell? ⟨cb, 0, none⟩ = some v ∧ w.cell? ⟨cb, 1, none⟩ = some (.map (some q)) ∧ w.cell? ⟨cb, 2, none⟩ = some (.int .i64 (oth : Int))) ∧ w.frozen? ⟨cb, 0, none⟩ = false ∧ w.frozen? ⟨cb, 1, none⟩ = false ∧ w.frozen? ⟨cb, 2, none⟩ = false := by
  have := h.blk
  refine ⟨⟨?_, ?_, ?_⟩, ?_, ?_, ?_⟩ <;> simp [World.cell?, World.frozen?, this]
theorem Cs.ne (h : Cs w B cb v q l oth) : cb ≠ q ∧ (∀ k, v.ownBlock = some k → k ≠ cb ∧ k ≠ q) := by
  obtain ⟨D, hD, _⟩ := h.map
  refine ⟨obj_map h.blk hD, fun k hk => ?_⟩
  obtain ⟨cur, hc⟩ := row_obj h.own hk
  exact ⟨obj_ne hc h.blk (by decide), obj_map hc hD⟩
end
/-- The new row is the old one, or new. -/
def Nx (w : World) (v v' : Value) : Prop := ∀ k, v'.ownBlock = some k → v.ownBlock = some k ∨ w.heap.size ≤ k
theorem Nx.refl (w : World) (v : Value) : Nx w v v := fun _ h => Or.inl h
theorem Nx.trans {w w1 : World} {v v1 v2 : Value} (h : Nx w v v1) (k : Nx w1 v1 v2) (hs : w.heap.size ≤ w1.heap.size) : Nx w v v2 := fun x hx => by
  rcases k x hx with h1 | h1
  · exact h x h1
  · exact Or.inr (Nat.le_trans hs h1)
/-- A census went on. -/
def CsU (w w' : World) (B cb q : Nat) (v : Value) (l : List ByteArray) (oth : Nat) : Prop := ∃ v', Cs w' B cb v' q l oth ∧ Mo (CsF cb v q) w w' ∧ Nx w v v'
theorem CsU.trans {w w1 w2 : World} {B cb q : Nat} {v v1 : Value} {l' : List ByteArray} {oth' : Nat} (h1 : Mo (CsF cb v q) w w1) (hn : Nx w v v1) (h : CsU w1 w2 B cb q v1 l' oth') : CsU w w2 B cb q v l' oth' := by
  obtain ⟨v2, hc, hm, hn2⟩ := h
  refine ⟨v2, hc, h1.trans hm (fun x hx => ?_), hn.trans hn2 h1.size⟩
  rcases hx with e | e | e
  · exact Or.inl (Or.inl e)
  · exact Or.inl (Or.inr (Or.inl e))
  · rcases hn x e with h2 | h2
    · exact Or.inl (Or.inr (Or.inr h2))
    · exact Or.inr h2
end Go.Proofs.Ytmfgjemefjcblaa

/- The census of package tie: names and other parts. -/
namespace Go.Proofs.Ytmfgjemefjcblaa
open Go.RowKit Go.Maps

theorem tret_void {w : World} {fn : Func} (hfn : fn.results = #[]) {tmps : Array Value} : (results fn tmps).run Try.prog w = .ok (.tuple #[]) w := by
  unfold results
  simp [hfn]
theorem infoStr : (Try.prog.info? 9).map (fun i => (i.zero, i.size, i.bytes)) = some (some (.string ⟨#[]⟩), 1, 16) := by kernel_rfl
theorem zeroI (w : World) : (zeroValue 3).run Try.prog w = .ok (.int .i64 0) w := by kernel_rfl
theorem wfNat {n : Nat} (h : n ≤ 1000000) : (Lit.int .i64 (n : Int)).wf = true := by
  have h1 : IntKind.i64.min = -9223372036854775808 := rfl
  have h2 : IntKind.i64.max = 9223372036854775807 := rfl
  simp only [Lit.wf, Bool.and_eq_true, decide_eq_true_eq]
  omega
set_option maxRecDepth 100000 in
set_option maxHeartbeats 1000000 in
theorem name_old {w : World} {B cb q oth : Nat} {v : Value} {l : List ByteArray} (h : Cs w B cb v q l oth) (s : ByteArray) (hs : s.size ≤ 281474976710656) (hin : inN l s = true) :
    Calls Try.prog 50 #[.pointer (some ⟨cb, 0, none⟩), .string s] w fun e w' => e = .returned (.tuple #[]) ∧ w' = w := by
  obtain ⟨⟨c0, c1, c2⟩, _⟩ := h.cells
  obtain ⟨D, hD, hM⟩ := h.map
  have hk := WideMaps.keyOf_string_mk (P := Try.prog) (k := 9) Try.underlying9 (s := s) (by unfold maxLen; omega)
  have hh := hM.2.1 s
  rw [hin] at hh
  have zc := lt_of_cell c0
  clear h hin hM
  go_enter Try.func50, Try.ntmps50
  go_wp2_with (at_lookup; refine wpList_lookup_own_ok_int _ rfl _ _ 75 rfl 9 3 .i64 (string_keyed Try.underlying9) Try.underlying75 Try.underlying3 (zeroI _) q l.length D rfl hD _ _ rfl hk ?_; intro c hat hwc)
  exact bodyPost_end (tret_void Try.results50) rfl ⟨rfl, rfl⟩
theorem cs_blk0 {w : World} {cb q oth : Nat} {v : Value} (v' : Value) (h : w.heap[cb]? = some (.cells #[v, .map (some q), .int .i64 (oth : Int)] 77)) : (w.setCell ⟨cb, 0, none⟩ v').heap[cb]? = some (.cells #[v', .map (some q), .int .i64 (oth : Int)] 77) := heap_setCell_same w cb 0 _ _ v' h
theorem cs_blk2 {w : World} {cb q oth : Nat} {v : Value} (u : Value) (h : w.heap[cb]? = some (.cells #[v, .map (some q), .int .i64 (oth : Int)] 77)) : (w.setCell ⟨cb, 2, none⟩ u).heap[cb]? = some (.cells #[v, .map (some q), u] 77) := heap_setCell_same w cb 2 _ _ u h
/-- All that a new name leaves. -/
theorem name_upd {w w1 w2 : World} {B cb q oth g cap : Nat} {v : Value} {l : List ByteArray} {s : ByteArray} {D : DataW Unit} {o : Obj} (h : Cs w B cb v q l oth) (hin : inN l s = false) (hM : MapN l D)
    (hm : w1.ownsMap Try.prog 9 (plainElem Try.prog 3) q (l.length + 1) (D.put (.string s.data.toList) (.lit (.int .i64 (l.length : Int))))) (hg1 : w.grownBy w1 (some q))
    (hown : w2.ownsRow B 9 1 (.slice (some ⟨g, 0, none⟩) (l.length + 1) cap) (l.length + 1) ((l ++ [s]).map Value.string)) (hg2 : (w1.alloc o).grownBy w2 v.ownBlock) (hat : v.ownBlock = some g ∨ (w1.alloc o).heap.size ≤ g) :
    CsU w (w2.setCell ⟨cb, 0, none⟩ (.slice (some ⟨g, 0, none⟩) (l.length + 1) cap)) B cb q v (l ++ [s]) oth := by
  have hne := h.ne
  have hc := h.lt (Or.inl rfl)
  have hq := h.lt (k := q) (Or.inr (Or.inl rfl))
  have hs1 := hg1.size
  have e1 : w1.heap[cb]? = w.heap[cb]? := hg1.block cb hc.2 (fun e => hne.1 (by injection e))
  have e2 : w2.heap[cb]? = w.heap[cb]? := by
    rw [hg2.block cb (by simp; omega) (fun e => (hne.2 cb e.symm).1 rfl), Below.heap_alloc _ _ _ (by omega), e1]
  have q2 : w2.heap[q]? = w1.heap[q]? := by
    rw [hg2.block q (by simp; omega) (fun e => (hne.2 q e.symm).2 rfl), Below.heap_alloc _ _ _ (by omega)]
  have hsg : g ≠ cb ∧ g ≠ q := by
    rcases hat with e | e
    · exact ⟨(hne.2 g e).1, (hne.2 g e).2⟩
    · simp at e
      omega
  have hM1 : Mo (CsF cb v q) w w1 := (Mo.refl _ w).grown hg1 (fun k e => by cases e; exact Or.inl (Or.inr (Or.inl rfl)))
  have hM2 : Mo (CsF cb v q) w w2 := (hM1.alloc o).grown hg2 (fun k e => Or.inl (Or.inr (Or.inr e)))
  have hM3 : Mo (CsF cb v q) w (w2.setCell ⟨cb, 0, none⟩ (.slice (some ⟨g, 0, none⟩) (l.length + 1) cap)) := hM2.setCell (p := ⟨cb, 0, none⟩) (Or.inl (Or.inl rfl)) _
  have far : ∀ k, k ≠ cb → (w2.setCell ⟨cb, 0, none⟩ (.slice (some ⟨g, 0, none⟩) (l.length + 1) cap)).heap[k]? = w2.heap[k]? := fun k hk => Below.heap_setCell w2 ⟨cb, 0, none⟩ _ k hk
  refine ⟨_, ⟨cs_blk0 _ (e2.trans h.blk), h.base, h.mb, ?_, _, mapI_keep (by simpa using hm) ((far q (fun e => hne.1 e.symm)).trans q2), hM.put (World.ownsMap.isMap hm) hin⟩, hM3, fun k hk => ?_⟩
  · have hr := row_keep hown (fun k hk => far k (by
      have : g = k := by simpa [Value.ownBlock] using hk
      subst this
      exact hsg.1))
    simpa using hr
  · have : g = k := by simpa [Value.ownBlock] using hk
    subst this
    rcases hat with e | e
    · exact Or.inl e
    · simp at e
      exact Or.inr (by omega)
set_option maxRecDepth 100000 in
set_option maxHeartbeats 2000000 in
theorem name_new {w : World} {B cb q oth : Nat} {v : Value} {l : List ByteArray} (h : Cs w B cb v q l oth) (s : ByteArray) (hs : s.size ≤ 281474976710656) (hin : inN l s = false) (hl : l.length ≤ 100000) (hB : B ≤ w.heap.size) :
    Calls Try.prog 50 #[.pointer (some ⟨cb, 0, none⟩), .string s] w fun e w' => e = .returned (.tuple #[]) ∧ CsU w w' B cb q v (l ++ [s]) oth := by
  obtain ⟨i0, hi, hz0, hz1, hz2⟩ := info_parts infoStr
  obtain ⟨⟨c0, c1, c2⟩, f0, f1, f2⟩ := h.cells
  obtain ⟨D, hD, hM⟩ := h.map
  have hk := WideMaps.keyOf_string_mk (P := Try.prog) (k := 9) Try.underlying9 (s := s) (by unfold maxLen; omega)
  have hh := hM.2.1 s
  rw [hin] at hh
  have zc := lt_of_cell c0
  have hwf : (Lit.int .i64 (l.length : Int)).wf = true := wfNat (by omega)
  have hne := h.ne
  have hown := h.own
  have hv : ∃ ao c, v = .slice ao l.length c := by
    rcases hown.2 with ⟨rfl, hn⟩ | ⟨g, cap, cur, rfl, _⟩
    · exact ⟨none, 0, by rw [hn]⟩
    · exact ⟨_, cap, rfl⟩
  obtain ⟨ao, c, rfl⟩ := hv
  have H := hid h
  have hM' := hid hM
  have hin' := hid hin
  have hD0 := World.ownsMap.drew hD
  have hzq := hD.lt
  have hst : ∀ w1 : World, w.drew.grownBy w1 (some q) → w1.cell? ⟨cb, 0, none⟩ = some (.slice ao l.length c) ∧ w1.frozen? ⟨cb, 0, none⟩ = false ∧ cb < w1.heap.size ∧ w1.ownsRow B 9 1 (.slice ao l.length c) l.length (l.map Value.string) ∧ B ≤ w1.heap.size := fun w1 hg => by
    have hb : w1.heap[cb]? = w.heap[cb]? := hg.block cb zc (fun e => hne.1 (by injection e))
    refine ⟨?_, ?_, Nat.lt_of_lt_of_le zc hg.size, row_keep hown (fun k hk => hg.block k (hown.lt k hk).2 (fun e => (hne.2 k hk).2 (by injection e))), Nat.le_trans hB hg.size⟩
    · have h3 := h.blk
      rw [← hb] at h3
      simp [World.cell?, h3]
    · have h3 := h.blk
      rw [← hb] at h3
      simp [World.frozen?, h3]
  have hs2 : Hid (∀ (w1 w2 : World) (o : Obj), w.drew.grownBy w1 (some q) → (w1.alloc o).grownBy w2 (Value.slice ao l.length c).ownBlock → w2.frozen? ⟨cb, 0, none⟩ = false ∧ cb < w2.heap.size ∧ w2.cell? ⟨cb, 0, none⟩ = some (.slice ao l.length c)) := fun w1 w2 o hg1 hg2 => by
    have hs1 : w.heap.size ≤ w1.heap.size := hg1.size
    have hs3 := hg2.size
    have hb1 : w1.heap[cb]? = w.heap[cb]? := hg1.block cb zc (fun e => hne.1 (by injection e))
    have hb2 : w2.heap[cb]? = w.heap[cb]? := by
      rw [hg2.block cb (by simp; omega) (fun e => (hne.2 cb e.symm).1 rfl), Below.heap_alloc _ _ _ (by omega), hb1]
    have h3 := h.blk
    rw [← hb2] at h3
    exact ⟨by simp [World.frozen?, h3], by simp at hs3; omega, by simp [World.cell?, h3]⟩
  clear h hin hM
  go_enter Try.func50, Try.ntmps50
  go_wp2_with (at_lookup; refine wpList_lookup_own_ok_int _ rfl _ _ 75 rfl 9 3 .i64 (string_keyed Try.underlying9) Try.underlying75 Try.underlying3 (zeroI _) q l.length D rfl hD _ _ rfl hk ?_; intro c hat hwc)
  go_still_tail 10, (by kernel_rfl)
  change wpList _ _ _ _ _ w.drew
  go_wp2_with (first
    | (at_mapUpdate; refine wpList_mapUpdate_own _ rfl _ _ _ 75 rfl 9 3 (string_keyed Try.underlying9) Try.underlying75 _ q l.length _ rfl hD0 (by unfold maxLen; omega) _ _ _ rfl rfl hk _ [] (plainElem_int Try.underlying3 hwf) ?_; intro w1 hm1 hg1; obtain ⟨k0, k1, k2, k3, k9⟩ := hst w1 hg1)
    | (at_builtin; go_must (refine wpList_append_lies _ rfl _ _ 74 rfl B 9 i0 (.string ⟨#[]⟩) 1 16 Try.underlying74 hi hz0 hz1 hz2 rfl (by decide) _ l.length (l.map Value.string) rfl (World.ownsRow.alloc k3 _) ⟨w1.heap.size, 0, none⟩ 1 1 [.string s] rfl rfl (cell_one_new w1 _ _) (by simp [Value.oneCell']) (by decide) (by unfold maxLen; omega) (by omega) (by simp; omega) _ rfl ?_; intro g cap w2 hown2 hg2 hat2 hlt2; have k4 := hs2.out w1 w2 _ hg1 hg2; obtain ⟨k5, k6, k7⟩ := k4)))
  have hM1 := hM'.out
  exact bodyPost_end (tret_void Try.results50) rfl ⟨rfl, name_upd H.out hin'.out hM1 hm1 ⟨hg1.os, hg1.tape, hg1.output, hg1.size, hg1.block⟩ (by simpa using hown2) hg2 (hat2.imp id (fun e => Nat.le_of_eq e.symm))⟩
end Go.Proofs.Ytmfgjemefjcblaa

/- The census of package tie: terms. -/
namespace Go.Proofs.Ytmfgjemefjcblaa
open Go.RowKit Go.Maps

theorem name_any {w : World} {B cb q oth : Nat} {v : Value} {l : List ByteArray} (h : Cs w B cb v q l oth) (s : ByteArray) (hs : s.size ≤ 281474976710656) (hl : l.length ≤ 100000) (hB : B ≤ w.heap.size) :
    Calls Try.prog 50 #[.pointer (some ⟨cb, 0, none⟩), .string s] w fun e w' => e = .returned (.tuple #[]) ∧ CsU w w' B cb q v (putS l s) oth := by
  unfold putS
  cases hin : inN l s with
  | true =>
    rw [if_pos rfl]
    refine (name_old h s hs hin).mono ?_
    rintro e w' ⟨rfl, rfl⟩
    exact ⟨rfl, v, h, Mo.refl _ _, Nx.refl _ _⟩
  | false =>
    rw [if_neg (by decide)]
    exact name_new h s hs hin hl hB
mutual
/-- How many parts a term has. -/
def prtX : Ex → Nat
  | .mk _ _ _ xs => 1 + prtXs xs
def prtXs : List Ex → Nat
  | [] => 0
  | x :: r => prtX x + prtXs r
end
theorem putS_len (l : List ByteArray) (s : ByteArray) : (putS l s).length ≤ l.length + 1 := by
  unfold putS
  split <;> simp
mutual
theorem namX_len : ∀ (l : List ByteArray) (x : Ex), (namX l x).length ≤ l.length + prtX x
  | l, .mk k n m xs => by
    rw [namX, prtX]
    have h1 := namXs_len (if (decide (k = 1) && !isU n) = true then putS l n else l) xs
    have h2 := putS_len l n
    split at h1 <;> split <;> simp_all <;> omega
theorem namXs_len : ∀ (l : List ByteArray) (xs : List Ex), (namXs l xs).length ≤ l.length + prtXs xs
  | l, [] => by rw [namXs]; omega
  | l, x :: r => by
    rw [namXs, prtXs]
    have h1 := namX_len l x
    have h2 := namXs_len (namX l x) r
    omega
end
mutual
theorem othX_le : ∀ x : Ex, othX x ≤ prtX x
  | .mk k n m xs => by
    rw [othX, prtX]
    have := othXs_le xs
    split <;> omega
theorem othXs_le : ∀ xs : List Ex, othXs xs ≤ prtXs xs
  | [] => by rw [othXs]; omega
  | x :: r => by
    rw [othXs, prtXs]
    have h1 := othX_le x
    have h2 := othXs_le r
    omega
end
theorem take_x {xs : List Ex} {j : Nat} (h : j < xs.length) : xs.take (j + 1) = xs.take j ++ [xs.getD j x0] := by
  rw [List.take_add_one]
  simp [List.getD, h]
theorem namXs_app (l : List ByteArray) : ∀ (xs : List Ex) (y : Ex), namXs l (xs ++ [y]) = namX (namXs l xs) y := by
  intro xs
  induction xs generalizing l with
  | nil => intro y; rfl
  | cons x r ih => intro y; rw [List.cons_append, namXs, ih, namXs]
theorem othXs_app : ∀ (xs : List Ex) (y : Ex), othXs (xs ++ [y]) = othXs xs + othX y
  | [], y => by rw [List.nil_append, othXs, othXs, othXs]; omega
  | x :: r, y => by rw [List.cons_append, othXs, othXs, othXs_app r y]; omega
theorem prtXs_app : ∀ (xs : List Ex) (y : Ex), prtXs (xs ++ [y]) = prtXs xs + prtX y
  | [], y => by rw [List.nil_append, prtXs, prtXs, prtXs]; omega
  | x :: r, y => by rw [List.cons_append, prtXs, prtXs, prtXs_app r y]; omega
theorem prtXs_take (xs : List Ex) : ∀ j, prtXs (xs.take j) ≤ prtXs xs := by
  induction xs with
  | nil => intro j; simp
  | cons x r ih =>
    intro j
    cases j with
    | zero => rw [List.take_zero, prtXs]; omega
    | succ j => rw [List.take_succ_cons, prtXs, prtXs]; have := ih j; omega
theorem prtX_pos (x : Ex) : 1 ≤ prtX x := by
  cases x
  rw [prtX]
  omega
set_option maxRecDepth 100000 in
set_option maxHeartbeats 1000000 in
theorem isNamed_any {w : World} {x : Ex} {v : Value} (hx : Xv w x v) :
    Calls Try.prog 76 #[v] w fun e w' => e = .returned (.bool (nmX x)) ∧ Below w.heap.size w w' := by
  obtain ⟨k, n, m, xs⟩ := x
  obtain ⟨av, rfl, hr⟩ := hx.parts
  obtain ⟨ao, c, rfl, _⟩ := hr
  have hb0 := below_alloc w (.cells #[.int .i64 k, .string n, .int .i64 m, .slice ao xs.length c] 48)
  clear hx
  by_cases hk : k = 1
  · subst hk
    by_cases hu : n.toList = [95]
    · have hE : Hid (nmX (.mk 1 n m xs) = false) := show _ = _ by simp [nmX, isU, hu]
      go_enter Try.func76, Try.ntmps76
      go_wp2
      go_ret
      exact ⟨ret_bool hE.out.symm, hb0⟩
    · have hE : Hid (nmX (.mk 1 n m xs) = true) := show _ = _ by simp [nmX, isU, hu]
      have hu' : (n.toList == [95]) = false := beq_eq_false_iff_ne.2 hu
      go_enter Try.func76, Try.ntmps76
      go_wp2
      go_ret
      exact ⟨ret_bool hE.out.symm, hb0⟩
  · have hE : Hid (nmX (.mk k n m xs) = false) := show _ = _ by simp [nmX, hk]
    have hk' : (k == 1) = false := beq_eq_false_iff_ne.2 hk
    clear hk
    go_enter Try.func76, Try.ntmps76
    go_wp2
    go_ret
    exact ⟨ret_bool hE.out.symm, hb0⟩
/-- What is asked of term at one term. -/
def CTermC (W0 : World) (x : Ex) : Prop := ∀ (w : World) (ev : Value) (cb : Nat) (v : Value) (q : Nat) (l : List ByteArray) (oth : Nat), Xv W0 x ev → szX x → Below W0.heap.size W0 w → Cs w W0.heap.size cb v q l oth → l.length + prtX x ≤ 100000 → oth + prtX x ≤ 100000 →
    Calls Try.prog 49 #[.pointer (some ⟨cb, 0, none⟩), ev] w fun e w' => e = .returned (.tuple #[]) ∧ CsU w w' W0.heap.size cb q v (namX l x) (oth + othX x)
theorem CsU.below {w w' : World} {B cb q : Nat} {v : Value} {l l' : List ByteArray} {oth oth' : Nat} (h : Cs w B cb v q l oth) (hu : CsU w w' B cb q v l' oth') {W0 : World} (hB : W0.heap.size = B) (hb : Below B W0 w) : Below B W0 w' := by
  obtain ⟨v', _, hm, _⟩ := hu
  refine hb.trans (hm.below (fun k hk => (h.lt hk).1) ?_)
  rw [← hB] at hb ⊢
  exact hb.size
end Go.Proofs.Ytmfgjemefjcblaa

/- check of package tie. -/
namespace Go.Proofs.Ytmfgjemefjcblaa
open Go.RowKit Go.Maps

/-- An error that is a fault, or none (code 0). -/
def Eo (w : World) (e : Value) (r : Int × Int × ByteArray) : Prop := (r.1 = 0 ∧ e = .nilIface) ∨ (r.1 ≠ 0 ∧ Ef w e r.1 r.2.1 r.2.2)
/-- A set of names. -/
def Sm (D : DataW Unit) (l : List ByteArray) : Prop := ∀ s : ByteArray, Maps.has D (.string s.data.toList) = inN l s
theorem Sm.nil : Sm (.map []) [] := fun s => by simp [Maps.has, inN]
theorem Sm.put {D : DataW Unit} {l : List ByteArray} (h : Sm D l) (hD : Maps.IsMap D) (s : ByteArray) (d : DataW Unit) : Sm (D.put (.string s.data.toList) d) (l ++ [s]) := fun x => by
  rw [inN_snoc]
  by_cases e : x = s
  · subst e
    rw [Maps.has_put_same hD (skey_is x)]
    simp
  · rw [Maps.has_put_other (skey_ne e), h x, decide_eq_false (fun h : s = x => e h.symm), Bool.or_false]
def ahdQ (qs : List (ByteArray × Ex)) (i : Nat) : List ByteArray := (qs.take i).map (·.1)
theorem ahdQ_succ {qs : List (ByteArray × Ex)} {i : Nat} (h : i < qs.length) : ahdQ qs (i + 1) = ahdQ qs i ++ [(qs.getD i q0).1] := by
  unfold ahdQ
  rw [List.take_add_one, List.map_append]
  simp [h]
theorem dropQ {qs : List (ByteArray × Ex)} {i : Nat} (h : i < qs.length) : qs.drop i = qs.getD i q0 :: qs.drop (i + 1) := by
  rw [List.drop_eq_getElem_cons h]
  simp [List.getD, h]
theorem zeroU (w : World) : (zeroValue 99).run Try.prog w = .ok (.agg #[]) w := by kernel_rfl
end Go.Proofs.Ytmfgjemefjcblaa

/- check of package tie, at all arguments. -/
namespace Go.Proofs.Ytmfgjemefjcblaa
open Go.RowKit Go.Maps

theorem Eo.bad {w : World} {e : Value} {c a : Int} {s : ByteArray} (hc : c ≠ 0) (h : Ef w e c a s) : Eo w e (c, a, s) := Or.inr ⟨hc, h⟩
theorem mapU_below {w w' : World} {q n : Nat} {D : DataW Unit} (h : w.ownsMap Try.prog 9 unitElem q n D) (hb : Below w.heap.size w w') : w'.ownsMap Try.prog 9 unitElem q n D := by
  obtain ⟨es, clock, hq, rest⟩ := h
  exact ⟨es, clock, by rw [hb.block q (lt_of_block hq)]; exact hq, rest⟩
theorem tblk5 {w : World} {q : Nat} {u0 u1 u2 u3 u4 : Value} {T : TypeId} (h : w.heap[q]? = some (.cells #[u0, u1, u2, u3, u4] T)) : (w.cell? ⟨q, 0, none⟩ = some u0 ∧ w.cell? ⟨q, 1, none⟩ = some u1 ∧ w.cell? ⟨q, 2, none⟩ = some u2 ∧ w.cell? ⟨q, 3, none⟩ = some u3 ∧ w.cell? ⟨q, 4, none⟩ = some u4) ∧ w.frozen? ⟨q, 0, none⟩ = false := by
  refine ⟨⟨?_, ?_, ?_, ?_, ?_⟩, ?_⟩ <;> simp [World.cell?, World.frozen?, h]
theorem chkQ_step {n : Nat} {qs : List (ByteArray × Ex)} {i : Nat} (h : i < qs.length) : chkQ n (ahdQ qs i) (qs.drop i) i =
    (if isW (qs.getD i q0).1 4 = false ∨ isU (qs.getD i q0).1 = true then (83, (i : Int), (qs.getD i q0).1)
    else if inN (ahdQ qs i) (qs.getD i q0).1 = true then (84, (i : Int), (qs.getD i q0).1)
    else if goodX 0 (qs.getD i q0).2 = false then (81, (n : Int) + i, ⟨#[]⟩)
    else chkQ n (ahdQ qs (i + 1)) (qs.drop (i + 1)) (i + 1)) := by
  rw [dropQ h, chkQ, ahdQ_succ h]
set_option maxRecDepth 100000 in
set_option maxHeartbeats 3000000 in
theorem tcheck_any {W : World} {xv qv : Value} {xs : List Ex} {qs : List (ByteArray × Ex)} (hX : Rxs W xv xs) (hQ : Rqs W qv qs) (hzx : szXs xs) (hzq : ∀ q ∈ qs, q.1.size ≤ 281474976710656 ∧ szX q.2) :
    Calls Try.prog 29 #[xv, qv] W fun e w' => (∃ ev, e = .returned ev ∧ Eo w' ev (chkT xs qs)) ∧ Below W.heap.size W w' := by
  obtain ⟨xa, xc, rfl, hXat⟩ := hX
  obtain ⟨qa, qc, rfl, hQat⟩ := hQ
  have hXA := hid hXat
  have hQA := hid hQat
  clear hXat hQat
  by_cases h1 : 4096 < xs.length
  · have hE : Hid (chkT xs qs = (80, (xs.length : Int), ⟨#[]⟩)) := show _ = _ by rw [chkT, if_pos h1]
    have i1 : (4096 : Int) < (xs.length : Int) := by omega
    have hf := tfault_any 80 (xs.length : Int) ⟨#[]⟩ W (by decide)
    clear h1 hzx hzq
    go_enter Try.func29, Try.ntmps29
    go_wp2_with (go_at_call 31; refine hf.mono ?_; rintro e w1 ⟨⟨ev, rfl, hef⟩, hb1⟩)
    go_ret
    exact ⟨⟨_, rfl, by rw [hE.out]; exact Eo.bad (by decide) hef⟩, hb1⟩
  · by_cases h2 : 4096 < qs.length
    · have hE : Hid (chkT xs qs = (82, (qs.length : Int), ⟨#[]⟩)) := show _ = _ by rw [chkT, if_neg h1, if_pos h2]
      have i1 : ¬ (4096 : Int) < (xs.length : Int) := by omega
      have i2 : (4096 : Int) < (qs.length : Int) := by omega
      have hf := tfault_any 82 (qs.length : Int) ⟨#[]⟩ W (by decide)
      clear h1 h2 hzx hzq
      go_enter Try.func29, Try.ntmps29
      go_wp2_with (go_at_call 31; refine hf.mono ?_; rintro e w1 ⟨⟨ev, rfl, hef⟩, hb1⟩)
      go_ret
      exact ⟨⟨_, rfl, by rw [hE.out]; exact Eo.bad (by decide) hef⟩, hb1⟩
    · have i1 : ¬ (4096 : Int) < (xs.length : Int) := by omega
      have i2 : ¬ (4096 : Int) < (qs.length : Int) := by omega
      have hT : Hid (chkT xs qs = if 0 ≤ ixOf (fun x => !goodX 0 x) xs then (81, ixOf (fun x => !goodX 0 x) xs, ⟨#[]⟩) else chkQ xs.length [] qs 0) := show _ = _ by rw [chkT, if_neg h1, if_neg h2]
      have hZX := hid (fun j (hj : j < xs.length) => szXs_mem hzx _ (xs_at hj))
      have hZQ := hid (fun j (hj : j < qs.length) => hzq (qs.getD j q0) (by simp [List.getD, hj]))
      have hall : Hid (∀ j, j < xs.length → (∀ i, i < j → goodX 0 (xs.getD i x0) = true) → goodX 0 (xs.getD j x0) = false → chkT xs qs = (81, (j : Int), ⟨#[]⟩)) := fun j hj ha hb => by
        have := ixOf_hit x0 (fun x => !goodX 0 x) xs j hj (fun i hi => by show (!goodX 0 _) = false; rw [ha i hi]; rfl) (by show (!goodX 0 _) = true; rw [hb]; rfl)
        rw [hT.out, this, if_pos (by omega)]
      have hnon : Hid ((∀ i, i < xs.length → goodX 0 (xs.getD i x0) = true) → chkT xs qs = chkQ xs.length (ahdQ qs 0) (qs.drop 0) 0) := fun ha => by
        have := ixOf_miss x0 (fun x => !goodX 0 x) xs (fun i hi => by show (!goodX 0 _) = false; rw [ha i hi]; rfl)
        rw [hT.out, this, if_neg (by omega)]
        rfl
      have hstep := hid (fun i (h : i < qs.length) => chkQ_step (n := xs.length) h)
      have hahd := hid (fun i (h : i < qs.length) => ahdQ_succ h)
      have hend : Hid (chkQ xs.length (ahdQ qs qs.length) (qs.drop qs.length) qs.length = (0, 0, ⟨#[]⟩)) := show _ = _ by rw [List.drop_length, chkQ]
      have hahl : Hid (∀ i, i ≤ qs.length → (ahdQ qs i).length = i) := fun i hi => by simp [ahdQ]; omega
      generalize hR : chkT xs qs = R at *
      clear hzx hzq h1 h2 hT hR
      go_enter Try.func29, Try.ntmps29
      go_wp2
      go_loopw [26] (fun i wr => ∃ k : Nat, k ≤ xs.length ∧ i = .int .i64 (k : Int) ∧ Hid (Below W.heap.size W wr) ∧ Hid (∀ j, j < k → goodX 0 (xs.getD j x0) = true)) (fun i _ => xs.length - (intOf i).toNat)
      case atStart => exact ⟨0, by omega, rfl, Below.refl _ _, fun j hj => absurd hj (Nat.not_lt_zero _)⟩
      case round =>
        obtain ⟨k, hk, rfl, hB, hG⟩ := hrel
        by_cases hlt : k < xs.length
        · obtain ⟨b, o, k', n', m', aa, al, ac, rfl, d0, d1, d2, d3, hx⟩ := hXA.out k hlt
          have hz := lt_of_cell d0
          have c0 := ((bcell hB.out).1 b _ hz).trans d0
          have c1 := ((bcell hB.out).1 b _ hz).trans d1
          have c2 := ((bcell hB.out).1 b _ hz).trans d2
          have c3 := ((bcell hB.out).1 b _ hz).trans d3
          have hb1 := below_alloc wr (.cells #[.int .i64 k', .string n', .int .i64 m', .slice aa al ac] 48)
          have hcall := goodE_any _ ((hx.next hB.out).next hb1) (hZX.out k hlt)
          have hbb := hall.out k hlt hG.out
          clear d0 d1 d2 d3 hx
          cases hq : goodX 0 (xs.getD k x0) with
          | true =>
            have hq' : Hid (goodX 0 (xs.getD k x0) = true) := hq
            rw [hq] at hcall
            clear hq hbb
            go_wp2_with (go_at_call 47; refine hcall.mono ?_; rintro e w2 ⟨rfl, hb2⟩)
            go_roundw
            case rel =>
              refine ⟨k + 1, by omega, by go_num, Below.next (Below.next hB.out hb1) hb2, (show Hid _ from fun j hj => ?_)⟩
              rcases Nat.lt_or_eq_of_le (Nat.le_of_lt_succ hj) with h | h
              · exact hG.out j h
              · subst h; exact hq'.out
            case measure => simp [intOf]; omega
          | false =>
            have hE := hid (hbb hq)
            have hf := fun w1 => tfault_any 81 (k : Int) ⟨#[]⟩ w1 (by decide)
            rw [hq] at hcall
            clear hq hbb
            go_wp2_with (first | (go_at_call 47; refine hcall.mono ?_; rintro e w2 ⟨rfl, hb2⟩) | (go_at_call 31; refine (hf _).mono ?_; rintro e w3 ⟨⟨ev, rfl, hef⟩, hb3⟩))
            go_ret
            exact ⟨⟨_, rfl, by rw [hE.out]; exact Eo.bad (by decide) hef⟩, Below.next (Below.next (Below.next hB.out hb1) hb2) hb3⟩
        · obtain rfl : k = xs.length := by omega
          have hC0 := hid (hnon.out hG.out)
          have hown0 : Hid (∃ D : DataW Unit, (wr.alloc (.map #[] 0)).ownsMap Try.prog 9 unitElem wr.heap.size 0 D ∧ Maps.IsMap D ∧ Sm D (ahdQ qs 0)) := ⟨_, World.ownsMap_made wr _ _ _, ⟨[], rfl⟩, Sm.nil⟩
          have hB0 := hid (Below.next hB.out (below_alloc wr (.map #[] 0)))
          obtain ⟨w5, hw5⟩ : ∃ w5, w5 = wr := ⟨wr, rfl⟩
          subst hw5
          have hw5s := hB.out.size
          clear hG hB hnon hall
          have hmm := @run_makeMap Try.prog
          go_wp2
          clear hmm
          go_loopw [40] (fun i wr => ∃ k : Nat, k ≤ qs.length ∧ i = .int .i64 (k : Int) ∧ Hid (Below W.heap.size W wr) ∧ Hid (∃ D : DataW Unit, wr.ownsMap Try.prog 9 unitElem w5.heap.size k D ∧ Maps.IsMap D ∧ Sm D (ahdQ qs k)) ∧ Hid (R = chkQ xs.length (ahdQ qs k) (qs.drop k) k)) (fun i _ => qs.length - (intOf i).toNat)
          case atStart => exact ⟨0, by omega, rfl, hB0, hown0, hC0⟩
          case round =>
            obtain ⟨k, hk, rfl, hB, hM, hC⟩ := hrel
            by_cases hlt : k < qs.length
            · obtain ⟨b, o, k', n', m', aa, al, ac, rfl, d0, d1, d2, d3, d4, hx⟩ := hQA.out k hlt
              have hz := lt_of_cell d0
              have c0 := ((bcell hB.out).1 b _ hz).trans d0
              have c1 := ((bcell hB.out).1 b _ hz).trans d1
              have c2 := ((bcell hB.out).1 b _ hz).trans d2
              have c3 := ((bcell hB.out).1 b _ hz).trans d3
              have c4 := ((bcell hB.out).1 b _ hz).trans d4
              have hst := hstep.out k hlt
              have hzk := hZQ.out k hlt
              have hah := hahd.out k hlt
              have hCk := hC.out
              rw [hst] at hCk
              clear d0 d1 d2 d3 d4 hst hC hown0 hC0 hB0
              generalize qs.getD k q0 = q at c0 hx hzk hah hCk
              obtain ⟨nm, r⟩ := q
              dsimp only at c0 hx hzk hah hCk
              obtain ⟨D, hown, hD, hSm⟩ := hM.out
              have hb1 := below_alloc wr (.cells #[.string nm, .int .i64 k', .string n', .int .i64 m', .slice aa al ac] 50)
              have hv := fun w1 => isVar_big nm w1 (Nat.le_trans hzk.1 (by decide))
              have hkey := WideMaps.keyOf_string_mk (P := Try.prog) (k := 9) Try.underlying9 (s := nm) (by unfold maxLen; have := hzk.1; omega)
              have hf3 := fun w1 => tfault_any 83 (k : Int) nm w1 hzk.1
              have hf4 := fun w1 => tfault_any 84 (k : Int) nm w1 hzk.1
              have hf1 := fun w1 => tfault_any 81 ((xs.length : Int) + (k : Int)) ⟨#[]⟩ w1 (by decide)
              clear hM
              cases hW : isW nm 4 with
              | false =>
                have hE : Hid (R = (83, (k : Int), nm)) := hCk.trans (if_pos (Or.inl hW))
                rw [hW] at hv
                clear hCk hW
                go_wp2_with (first | (go_at_call 48; refine (hv _).mono ?_; rintro e w2 ⟨rfl, rfl⟩) | (go_at_call 31; refine (hf3 _).mono ?_; rintro e w3 ⟨⟨ev, rfl, hef⟩, hb3⟩))
                go_ret
                exact ⟨⟨_, rfl, by rw [hE.out]; exact Eo.bad (by decide) hef⟩, Below.next (Below.next hB.out hb1) hb3⟩
              | true =>
                rw [hW] at hv
                by_cases hu : nm.toList = [95]
                · have hE : Hid (R = (83, (k : Int), nm)) := hCk.trans (if_pos (Or.inr (decide_eq_true hu)))
                  clear hCk hW
                  go_wp2_with (first | (go_at_call 48; refine (hv _).mono ?_; rintro e w2 ⟨rfl, rfl⟩) | (go_at_call 31; refine (hf3 _).mono ?_; rintro e w3 ⟨⟨ev, rfl, hef⟩, hb3⟩))
                  go_ret
                  exact ⟨⟨_, rfl, by rw [hE.out]; exact Eo.bad (by decide) hef⟩, Below.next (Below.next hB.out hb1) hb3⟩
                · rw [if_neg (fun h => h.elim (fun h => by rw [hW] at h; cases h) (fun h => hu (of_decide_eq_true h)))] at hCk
                  have hu' : (nm.toList == [95]) = false := beq_eq_false_iff_ne.2 hu
                  have hown1 := hown.alloc (.cells #[.string nm, .int .i64 k', .string n', .int .i64 m', .slice aa al ac] 50)
                  have hhas := hSm nm
                  cases hI : inN (ahdQ qs k) nm with
                  | true =>
                    rw [if_pos hI] at hCk
                    have hE : Hid (R = (84, (k : Int), nm)) := hCk
                    rw [hI] at hhas
                    clear hCk hW hI
                    go_wp2_with (first | (go_at_call 48; refine (hv _).mono ?_; rintro e w2 ⟨rfl, rfl⟩) | (at_lookup; refine wpList_lookup_own_unit _ rfl _ _ 97 rfl 9 99 (string_keyed Try.underlying9) Try.underlying97 (zeroU _) w5.heap.size k D rfl hown1 _ _ rfl hkey ?_) | (go_at_call 31; refine (hf4 _).mono ?_; rintro e w3 ⟨⟨ev, rfl, hef⟩, hb3⟩))
                    go_ret
                    exact ⟨⟨_, rfl, by rw [hE.out]; exact Eo.bad (by decide) hef⟩, Below.next (Below.next (Below.next hB.out hb1) (below_alloc _ _)) hb3⟩
                  | false =>
                    rw [if_neg (by rw [hI]; decide)] at hCk
                    rw [hI] at hhas
                    have hlm := hown.lt
                    have hown2 := hown1.alloc (.cells #[] 99)
                    have hb2 := below_alloc (wr.alloc (.cells #[.string nm, .int .i64 k', .string n', .int .i64 m', .slice aa al ac] 50)) (.cells #[] 99)
                    have hB2 := Below.next (Below.next hB.out hb1) hb2
                    have hx2 := (((hx.next hB.out).next hb1).next hb2)
                    have hq2 : ((wr.alloc (.cells #[.string nm, .int .i64 k', .string n', .int .i64 m', .slice aa al ac] 50)).alloc (.cells #[] 99)).heap[wr.heap.size]? = some (.cells #[.string nm, .int .i64 k', .string n', .int .i64 m', .slice aa al ac] 50) := by
                      rw [Below.heap_alloc _ _ _ (by simp)]
                      exact heap_alloc_new wr _
                    have hxm : ∀ w6, ((wr.alloc (.cells #[.string nm, .int .i64 k', .string n', .int .i64 m', .slice aa al ac] 50)).alloc (.cells #[] 99)).grownBy w6 (some w5.heap.size) → Below W.heap.size W w6 ∧ w6.heap[wr.heap.size]? = some (.cells #[.string nm, .int .i64 k', .string n', .int .i64 m', .slice aa al ac] 50) := fun w6 hg => ⟨hB2.grown hg hB2.size (fun j e => by cases e; exact hw5s), by rw [hg.block _ (lt_of_block hq2) (fun e => by injection e with e; omega)]; exact hq2⟩
                    have hcall := fun w6 (hb : Below W.heap.size W w6) => goodE_any _ (hx.next hb) hzk.2
                    clear hx2
                    cases hq : goodX 0 r with
                    | false =>
                      rw [if_pos hq] at hCk
                      have hE : Hid (R = (81, (xs.length : Int) + (k : Int), ⟨#[]⟩)) := hCk
                      rw [hq] at hcall
                      clear hCk hW hI hq
                      go_wp2_with (first
                        | (go_at_call 48; refine (hv _).mono ?_; rintro e w2 ⟨rfl, rfl⟩)
                        | (at_lookup; refine wpList_lookup_own_unit _ rfl _ _ 97 rfl 9 99 (string_keyed Try.underlying9) Try.underlying97 (zeroU _) w5.heap.size k D rfl hown1 _ _ rfl hkey ?_)
                        | (at_mapUpdate; refine wpList_mapUpdate_own _ rfl _ _ _ 97 rfl 9 99 (string_keyed Try.underlying9) Try.underlying97 (unitElem (H := Unit)) w5.heap.size k _ rfl hown2 (by unfold maxLen; omega) _ _ _ rfl rfl hkey _ [] unitElem_mk ?_; intro w6 hown6 hg6; obtain ⟨hB6, hq6⟩ := hxm w6 hg6; obtain ⟨⟨t0, t1, t2, t3, t4⟩, _⟩ := tblk5 hq6)
                        | (go_at_call 47; refine (hcall _ hB6).mono ?_; rintro e w7 ⟨rfl, hb7⟩)
                        | (go_at_call 31; refine (hf1 _).mono ?_; rintro e w3 ⟨⟨ev, rfl, hef⟩, hb3⟩))
                      go_ret
                      exact ⟨⟨_, rfl, by rw [hE.out]; exact Eo.bad (by decide) hef⟩, Below.next (Below.next hB6 hb7) hb3⟩
                    | true =>
                      rw [if_neg (by rw [hq]; decide)] at hCk
                      have hE := hid hCk
                      rw [hq] at hcall
                      have hah' := hid hah
                      clear hCk hW hI hq hah
                      go_wp2_with (first
                        | (go_at_call 48; refine (hv _).mono ?_; rintro e w2 ⟨rfl, rfl⟩)
                        | (at_lookup; refine wpList_lookup_own_unit _ rfl _ _ 97 rfl 9 99 (string_keyed Try.underlying9) Try.underlying97 (zeroU _) w5.heap.size k D rfl hown1 _ _ rfl hkey ?_)
                        | (at_mapUpdate; refine wpList_mapUpdate_own _ rfl _ _ _ 97 rfl 9 99 (string_keyed Try.underlying9) Try.underlying97 (unitElem (H := Unit)) w5.heap.size k _ rfl hown2 (by unfold maxLen; omega) _ _ _ rfl rfl hkey _ [] unitElem_mk ?_; intro w6 hown6 hg6; obtain ⟨hB6, hq6⟩ := hxm w6 hg6; obtain ⟨⟨t0, t1, t2, t3, t4⟩, _⟩ := tblk5 hq6)
                        | (go_at_call 47; refine (hcall _ hB6).mono ?_; rintro e w7 ⟨rfl, hb7⟩))
                      go_roundw
                      case rel => exact ⟨k + 1, by omega, by go_num, Below.next hB6 hb7, ⟨_, mapU_below hown6 hb7, World.ownsMap.isMap hown6, by rw [hah'.out]; exact hSm.put hD nm _⟩, hE⟩
                      case measure => simp [intOf]; omega
            · obtain rfl : k = qs.length := by omega
              have hE : Hid (R = (0, 0, ⟨#[]⟩)) := hC.out.trans hend.out
              clear hC hM hown0 hC0 hB0
              go_wp2
              go_ret
              exact ⟨⟨_, rfl, by rw [hE.out]; exact Or.inl ⟨rfl, rfl⟩⟩, hB.out⟩
end Go.Proofs.Ytmfgjemefjcblaa

/- The census of package tie: term and counted. -/
namespace Go.Proofs.Ytmfgjemefjcblaa
open Go.RowKit Go.Maps

theorem xblk {w : World} {q : Nat} {u0 u1 u2 u3 : Value} {T : TypeId} (h : w.heap[q]? = some (.cells #[u0, u1, u2, u3] T)) : (w.cell? ⟨q, 0, none⟩ = some u0 ∧ w.cell? ⟨q, 1, none⟩ = some u1 ∧ w.cell? ⟨q, 2, none⟩ = some u2 ∧ w.cell? ⟨q, 3, none⟩ = some u3) ∧ w.frozen? ⟨q, 0, none⟩ = false ∧ w.frozen? ⟨q, 3, none⟩ = false := by
  refine ⟨⟨?_, ?_, ?_, ?_⟩, ?_, ?_⟩ <;> simp [World.cell?, World.frozen?, h]
theorem prt_len : ∀ xs : List Ex, xs.length ≤ prtXs xs
  | [] => by simp
  | x :: r => by
    have h1 := prtX_pos x
    have h2 := prt_len r
    rw [prtXs, List.length_cons]
    omega
/-- A census whose others went up by one. -/
theorem oth_upd {w : World} {B cb q oth : Nat} {v : Value} {l : List ByteArray} (h : Cs w B cb v q l oth) : CsU w (w.setCell ⟨cb, 2, none⟩ (.int .i64 ((oth : Int) + 1))) B cb q v l (oth + 1) := by
  have hne := h.ne
  have far : ∀ k, k ≠ cb → (w.setCell ⟨cb, 2, none⟩ (.int .i64 ((oth : Int) + 1))).heap[k]? = w.heap[k]? := fun k hk => Below.heap_setCell w ⟨cb, 2, none⟩ _ k hk
  obtain ⟨D, hD, hM⟩ := h.map
  exact ⟨v, ⟨cs_blk2 _ h.blk, h.base, h.mb, row_keep h.own (fun k hk => far k (hne.2 k hk).1), D, mapI_keep hD (far q (fun e => hne.1 e.symm)), hM⟩, (Mo.refl _ w).setCell (p := ⟨cb, 2, none⟩) (Or.inl (Or.inl rfl)) _, Nx.refl _ _⟩
set_option maxRecDepth 100000 in
set_option maxHeartbeats 4000000 in
theorem cterm_any (W0 : World) (x : Ex) : CTermC W0 x := by
  induction x using Ex.ind with
  | h k n m xs ih =>
    intro w ev cb v q l oth hx hz hB hC hl ho
    obtain ⟨av, rfl, hr⟩ := hx.parts
    obtain ⟨ao, c, rfl, hat⟩ := hr
    have hAt := hid hat
    have hsz := hB.size
    have hb0 := below_alloc w (.cells #[.int .i64 k, .string n, .int .i64 m, .slice ao xs.length c] 48)
    have hC1 := hC.next hb0
    have hx1 : Xv (w.alloc (.cells #[.int .i64 k, .string n, .int .i64 m, .slice ao xs.length c] 48)) (.mk k n m xs) (.agg #[.int .i64 k, .string n, .int .i64 m, .slice ao xs.length c]) := hx.next (Below.next hB hb0)
    have hin := isNamed_any hx1
    have hql : Hid (∀ b, CsF cb v q b → b < w.heap.size) := fun b hb => (hC.lt hb).2
    have hbx := heap_alloc_new w (.cells #[.int .i64 k, .string n, .int .i64 m, .slice ao xs.length c] 48)
    rw [prtX] at hl ho
    have hxl := prt_len xs
    have IH : Hid (∀ x ∈ xs, CTermC W0 x) := ih
    have hzs := hid hz.2
    have hzn := hz.1
    clear hat ih hx
    by_cases hn : nmX (.mk k n m xs) = true
    · have hE : Hid (namX l (.mk k n m xs) = namXs (putS l n) xs ∧ othX (.mk k n m xs) = 0 + othXs xs) := by
        have hn' : (decide (k = 1) && !isU n) = true := hn
        exact ⟨by rw [namX, if_pos hn'], by rw [othX, if_pos hn']⟩
      have hps := putS_len l n
      rw [hn] at hin
      have HC := hid hC
      have HB := hid hB
      have hnm := fun (w1 : World) (h1 : Cs w1 W0.heap.size cb v q l oth) (h2 : W0.heap.size ≤ w1.heap.size) => name_any h1 n hzn (by omega) h2
      have hnx : Hid (∀ w1 : World, Below (w.alloc (.cells #[.int .i64 k, .string n, .int .i64 m, .slice ao xs.length c] 48)).heap.size (w.alloc (.cells #[.int .i64 k, .string n, .int .i64 m, .slice ao xs.length c] 48)) w1 → Cs w1 W0.heap.size cb v q l oth ∧ W0.heap.size ≤ w1.heap.size ∧ w1.heap[w.heap.size]? = some (.cells #[.int .i64 k, .string n, .int .i64 m, .slice ao xs.length c] 48) ∧ ∀ w2, CsU w1 w2 W0.heap.size cb q v (putS l n) oth → CsU w w2 W0.heap.size cb q v (putS l n) (oth + 0) ∧ w2.heap[w.heap.size]? = some (.cells #[.int .i64 k, .string n, .int .i64 m, .slice ao xs.length c] 48)) := fun w1 hb1 => by
        have hs1 := hb1.size
        have hbx1 := (hb1.block w.heap.size (by simp)).trans hbx
        refine ⟨hC1.next hb1, by simp at hs1; omega, hbx1, fun w2 hU => ⟨CsU.trans (Mo.ofBelow (Below.next hb0 hb1)) (Nx.refl _ _) hU, ?_⟩⟩
        obtain ⟨_, _, hm, _⟩ := hU
        rw [hm.block _ (lt_of_block hbx1) (fun h => Nat.lt_irrefl _ (hql.out _ h))]
        exact hbx1
      clear hn hC hC1 hx1 hB
      go_enter Try.func49, Try.ntmps49
      go_wp2_with (first
        | (go_at_call 76; refine hin.mono ?_; rintro e w1 ⟨rfl, hb1⟩; obtain ⟨hC2, hs2, hbx1, hnn⟩ := hnx.out w1 hb1; obtain ⟨⟨x0', x1', x2', x3'⟩, _⟩ := xblk hbx1; have hzz := lt_of_block hbx1)
        | (go_at_call 50; refine (hnm _ hC2 hs2).mono ?_; rintro e w2 ⟨rfl, hU⟩; obtain ⟨hU2, hbx2⟩ := hnn w2 hU; obtain ⟨⟨y0, y1, y2, y3⟩, _⟩ := xblk hbx2; have hzz2 := lt_of_block hbx2; clear hU hnn))
      have hlen : Hid (∀ j, j < xs.length → (namXs (putS l n) (xs.take j)).length + prtX (xs.getD j x0) ≤ 100000 ∧ (oth + 0) + othXs (xs.take j) + prtX (xs.getD j x0) ≤ 100000) := fun j hj => by
        have h1 := namXs_len (putS l n) (xs.take j)
        have h2 := othXs_le (xs.take j)
        have h3 := prtXs_take xs (j + 1)
        rw [take_x hj, prtXs_app] at h3
        constructor <;> omega
      have hU0 : Hid (CsU w w2 W0.heap.size cb q v (namXs (putS l n) (xs.take 0)) ((oth + 0) + othXs (xs.take 0))) := by
        rw [List.take_zero]
        exact hU2
      clear hU2
      go_loopw [22] (fun i wr => ∃ j : Nat, j ≤ xs.length ∧ i = .int .i64 (j : Int) ∧ Hid (CsU w wr W0.heap.size cb q v (namXs (putS l n) (xs.take j)) ((oth + 0) + othXs (xs.take j)))) (fun i _ => xs.length - (intOf i).toNat)
      case atStart => exact ⟨0, by omega, rfl, hU0⟩
      case round =>
        clear hU0
        obtain ⟨j, hj, rfl, hU⟩ := hrel
        by_cases hlt : j < xs.length
        · obtain ⟨b, o, k', n', m', aa, al, ac, rfl, d0, d1, d2, d3, hx⟩ := hAt.out j hlt
          have hBr := CsU.below HC.out hU.out rfl HB.out
          have hz := lt_of_cell d0
          have c0 := ((bcell hBr).1 b _ hz).trans d0
          have c1 := ((bcell hBr).1 b _ hz).trans d1
          have c2 := ((bcell hBr).1 b _ hz).trans d2
          have c3 := ((bcell hBr).1 b _ hz).trans d3
          have hzr : b < wr.heap.size := Nat.lt_of_lt_of_le hz hBr.size
          obtain ⟨v', hC', hm', hn'⟩ := hU.out
          have hb2 := below_alloc wr (.cells #[.int .i64 k', .string n', .int .i64 m', .slice aa al ac] 48)
          obtain ⟨hl1, hl2⟩ := hlen.out j hlt
          have hcall := IH.out _ (xs_at hlt) _ _ cb v' q _ _ hx (szXs_mem hzs.out _ (xs_at hlt)) (Below.next hBr hb2) (hC'.next hb2) hl1 hl2
          have hM' := hid (hm'.alloc (.cells #[.int .i64 k', .string n', .int .i64 m', .slice aa al ac] 48))
          have hN' := hid hn'
          clear d0 d1 d2 d3 hx hz hC' hm' hn' hU hl1 hl2 hBr hb2
          go_wp2_with (go_at_call 49; refine hcall.mono ?_; rintro e w3 ⟨rfl, hU3⟩)
          go_roundw
          case rel =>
            refine ⟨j + 1, by omega, by go_num, (show CsU _ _ _ _ _ _ _ _ from ?_)⟩
            rw [take_x hlt, namXs_app, othXs_app, ← Nat.add_assoc]
            exact CsU.trans hM'.out hN'.out hU3
          case measure => simp [intOf]; omega
        · obtain rfl : j = xs.length := by omega
          have hU' := hid hU.out
          clear hU
          go_wp2
          refine bodyPost_end (tret_void Try.results49) rfl ⟨rfl, ?_⟩
          have h9 := hU'.out
          rw [List.take_length] at h9
          rw [hE.out.1, hE.out.2, ← Nat.add_assoc]
          exact h9
    · have hn0 : nmX (.mk k n m xs) = false := by simpa using hn
      have hE : Hid (namX l (.mk k n m xs) = namXs l xs ∧ othX (.mk k n m xs) = 1 + othXs xs) := by
        have hn' : ¬ (decide (k = 1) && !isU n) = true := hn
        exact ⟨by rw [namX, if_neg hn'], by rw [othX, if_neg hn']⟩
      rw [hn0] at hin
      have HC := hid hC
      have HB := hid hB
      have hnx : Hid (∀ w1 : World, Below (w.alloc (.cells #[.int .i64 k, .string n, .int .i64 m, .slice ao xs.length c] 48)).heap.size (w.alloc (.cells #[.int .i64 k, .string n, .int .i64 m, .slice ao xs.length c] 48)) w1 → (w1.cell? ⟨cb, 2, none⟩ = some (.int .i64 (oth : Int)) ∧ w1.frozen? ⟨cb, 2, none⟩ = false ∧ cb < w1.heap.size) ∧ CsU w (w1.setCell ⟨cb, 2, none⟩ (.int .i64 ((oth : Int) + 1))) W0.heap.size cb q v l (oth + 1) ∧ (w1.setCell ⟨cb, 2, none⟩ (.int .i64 ((oth : Int) + 1))).heap[w.heap.size]? = some (.cells #[.int .i64 k, .string n, .int .i64 m, .slice ao xs.length c] 48)) := fun w1 hb1 => by
        have hbx1 := (hb1.block w.heap.size (by simp)).trans hbx
        have hC2 := hC1.next hb1
        have hcl := hC2.cells
        refine ⟨⟨hcl.1.2.2, hcl.2.2.2, lt_of_block hC2.blk⟩, CsU.trans (Mo.ofBelow (Below.next hb0 hb1)) (Nx.refl _ _) (oth_upd hC2), ?_⟩
        rw [Below.heap_setCell _ _ _ _ (by have := hql.out cb (Or.inl rfl); show w.heap.size ≠ cb; omega)]
        exact hbx1
      have hoth : (oth : Int) + 1 ≤ 200000 := by omega
      clear hn hn0 hC hC1 hx1 hB
      go_enter Try.func49, Try.ntmps49
      go_wp2_with (go_at_call 76; refine hin.mono ?_; rintro e w1 ⟨rfl, hb1⟩; obtain ⟨⟨g0, g1, g2⟩, hU2, hbx2⟩ := hnx.out w1 hb1; obtain ⟨⟨y0, y1, y2, y3⟩, _⟩ := xblk hbx2; have hzz2 := lt_of_block hbx2)
      generalize w1.setCell ⟨cb, 2, none⟩ (.int .i64 ((oth : Int) + 1)) = w2 at *
      have hlen : Hid (∀ j, j < xs.length → (namXs (l) (xs.take j)).length + prtX (xs.getD j x0) ≤ 100000 ∧ (oth + 1) + othXs (xs.take j) + prtX (xs.getD j x0) ≤ 100000) := fun j hj => by
        have h1 := namXs_len (l) (xs.take j)
        have h2 := othXs_le (xs.take j)
        have h3 := prtXs_take xs (j + 1)
        rw [take_x hj, prtXs_app] at h3
        constructor <;> omega
      have hU0 : Hid (CsU w w2 W0.heap.size cb q v (namXs (l) (xs.take 0)) ((oth + 1) + othXs (xs.take 0))) := by
        rw [List.take_zero]
        exact hU2
      clear hU2
      go_loopw [22] (fun i wr => ∃ j : Nat, j ≤ xs.length ∧ i = .int .i64 (j : Int) ∧ Hid (CsU w wr W0.heap.size cb q v (namXs (l) (xs.take j)) ((oth + 1) + othXs (xs.take j)))) (fun i _ => xs.length - (intOf i).toNat)
      case atStart => exact ⟨0, by omega, rfl, hU0⟩
      case round =>
        clear hU0
        obtain ⟨j, hj, rfl, hU⟩ := hrel
        by_cases hlt : j < xs.length
        · obtain ⟨b, o, k', n', m', aa, al, ac, rfl, d0, d1, d2, d3, hx⟩ := hAt.out j hlt
          have hBr := CsU.below HC.out hU.out rfl HB.out
          have hz := lt_of_cell d0
          have c0 := ((bcell hBr).1 b _ hz).trans d0
          have c1 := ((bcell hBr).1 b _ hz).trans d1
          have c2 := ((bcell hBr).1 b _ hz).trans d2
          have c3 := ((bcell hBr).1 b _ hz).trans d3
          have hzr : b < wr.heap.size := Nat.lt_of_lt_of_le hz hBr.size
          obtain ⟨v', hC', hm', hn'⟩ := hU.out
          have hb2 := below_alloc wr (.cells #[.int .i64 k', .string n', .int .i64 m', .slice aa al ac] 48)
          obtain ⟨hl1, hl2⟩ := hlen.out j hlt
          have hcall := IH.out _ (xs_at hlt) _ _ cb v' q _ _ hx (szXs_mem hzs.out _ (xs_at hlt)) (Below.next hBr hb2) (hC'.next hb2) hl1 hl2
          have hM' := hid (hm'.alloc (.cells #[.int .i64 k', .string n', .int .i64 m', .slice aa al ac] 48))
          have hN' := hid hn'
          clear d0 d1 d2 d3 hx hz hC' hm' hn' hU hl1 hl2 hBr hb2
          go_wp2_with (go_at_call 49; refine hcall.mono ?_; rintro e w3 ⟨rfl, hU3⟩)
          go_roundw
          case rel =>
            refine ⟨j + 1, by omega, by go_num, (show CsU _ _ _ _ _ _ _ _ from ?_)⟩
            rw [take_x hlt, namXs_app, othXs_app, ← Nat.add_assoc]
            exact CsU.trans hM'.out hN'.out hU3
          case measure => simp [intOf]; omega
        · obtain rfl : j = xs.length := by omega
          have hU' := hid hU.out
          clear hU
          go_wp2
          refine bodyPost_end (tret_void Try.results49) rfl ⟨rfl, ?_⟩
          have h9 := hU'.out
          rw [List.take_length] at h9
          rw [hE.out.1, hE.out.2, ← Nat.add_assoc]
          exact h9
end Go.Proofs.Ytmfgjemefjcblaa

/- The census of package tie: counted. -/
namespace Go.Proofs.Ytmfgjemefjcblaa
open Go.RowKit Go.Maps

def prtQ : List (ByteArray × Ex) → Nat
  | [] => 0
  | q :: r => 1 + prtX q.2 + prtQ r
theorem take_q {qs : List (ByteArray × Ex)} {j : Nat} (h : j < qs.length) : qs.take (j + 1) = qs.take j ++ [qs.getD j q0] := by
  rw [List.take_add_one]
  simp [List.getD, h]
theorem namQ_app (l : List ByteArray) (qs : List (ByteArray × Ex)) (y : ByteArray × Ex) : namQ l (qs ++ [y]) = namX (putS (namQ l qs) y.1) y.2 := by
  induction qs generalizing l with
  | nil => rfl
  | cons x r ih => rw [List.cons_append, namQ, ih, namQ]
theorem othQ_app : ∀ (qs : List (ByteArray × Ex)) (y : ByteArray × Ex), othQ (qs ++ [y]) = othQ qs + othX y.2
  | [], y => by rw [List.nil_append, othQ, othQ, othQ]; omega
  | x :: r, y => by rw [List.cons_append, othQ, othQ, othQ_app r y]; omega
theorem prtQ_app : ∀ (qs : List (ByteArray × Ex)) (y : ByteArray × Ex), prtQ (qs ++ [y]) = prtQ qs + (1 + prtX y.2)
  | [], y => by rw [List.nil_append, prtQ, prtQ, prtQ]; omega
  | x :: r, y => by rw [List.cons_append, prtQ, prtQ, prtQ_app r y]; omega
theorem prtQ_take (qs : List (ByteArray × Ex)) : ∀ j, prtQ (qs.take j) ≤ prtQ qs := by
  induction qs with
  | nil => intro j; simp
  | cons x r ih =>
    intro j
    cases j with
    | zero => rw [List.take_zero, prtQ]; omega
    | succ j => rw [List.take_succ_cons, prtQ, prtQ]; have := ih j; omega
theorem namQ_len : ∀ (l : List ByteArray) (qs : List (ByteArray × Ex)), (namQ l qs).length ≤ l.length + prtQ qs
  | l, [] => by rw [namQ]; omega
  | l, q :: r => by
    rw [namQ, prtQ]
    have h1 := putS_len l q.1
    have h2 := namX_len (putS l q.1) q.2
    have h3 := namQ_len (namX (putS l q.1) q.2) r
    omega
theorem othQ_le : ∀ qs : List (ByteArray × Ex), othQ qs ≤ prtQ qs
  | [] => by rw [othQ]; omega
  | q :: r => by
    rw [othQ, prtQ]
    have h1 := othX_le q.2
    have h2 := othQ_le r
    omega
theorem prtQ_len : ∀ qs : List (ByteArray × Ex), qs.length ≤ prtQ qs
  | [] => by simp
  | q :: r => by
    have h2 := prtQ_len r
    rw [prtQ, List.length_cons]
    omega
/-- The empty census. -/
theorem Cs.start (W : World) : Cs ((W.alloc (.map #[] 0)).alloc (.cells #[.slice none 0 0, .map (some W.heap.size), .int .i64 0] 77)) W.heap.size (W.heap.size + 1) (.slice none 0 0) W.heap.size [] 0 := by
  refine ⟨?_, by omega, Nat.le_refl _, World.ownsRow_nil _ _ _ _, _, (World.ownsMap_made (H := Unit) W Try.prog 9 (plainElem Try.prog 3)).alloc _, MapN.nil⟩
  have h := heap_alloc_new (W.alloc (.map #[] 0)) (.cells #[.slice none 0 0, .map (some W.heap.size), .int .i64 0] 77)
  rw [show (W.alloc (.map #[] 0)).heap.size = W.heap.size + 1 by simp] at h
  exact h
set_option maxRecDepth 100000 in
set_option maxHeartbeats 4000000 in
theorem counted_any {W : World} {xv qv : Value} {xs : List Ex} {qs : List (ByteArray × Ex)} (hX : Rxs W xv xs) (hQ : Rqs W qv qs) (hzx : szXs xs) (hzq : ∀ q ∈ qs, q.1.size ≤ 281474976710656 ∧ szX q.2) (hp : prtXs xs + prtQ qs ≤ 100000) :
    Calls Try.prog 30 #[xv, qv] W fun e w' => (∃ cb v q, e = .returned (.pointer (some ⟨cb, 0, none⟩)) ∧ Cs w' W.heap.size cb v q (namA xs qs) (othA xs qs)) ∧ Below W.heap.size W w' := by
  obtain ⟨xa, xc, rfl, hXat⟩ := hX
  obtain ⟨qa, qc, rfl, hQat⟩ := hQ
  have hXA := hid hXat
  have hQA := hid hQat
  have hxl := prt_len xs
  have hql := prtQ_len qs
  have hZX := hid (fun j (hj : j < xs.length) => szXs_mem hzx _ (xs_at hj))
  have hZQ := hid (fun j (hj : j < qs.length) => hzq (qs.getD j q0) (by simp [List.getD, hj]))
  have hmm := @run_makeMap Try.prog
  have hS := hid (Cs.start W)
  have hb1 : Hid (Below W.heap.size W ((W.alloc (.map #[] 0)).alloc (.cells #[.slice none 0 0, .map (some W.heap.size), .int .i64 0] 77))) := (below_alloc W _).alloc (by simp) _
  have hlen : Hid (∀ j, j < xs.length → (namXs [] (xs.take j)).length + prtX (xs.getD j x0) ≤ 100000 ∧ 0 + othXs (xs.take j) + prtX (xs.getD j x0) ≤ 100000) := fun j hj => by
    have h1 := namXs_len [] (xs.take j)
    have h2 := othXs_le (xs.take j)
    have h3 := prtXs_take xs (j + 1)
    rw [take_x hj, prtXs_app] at h3
    simp at h1
    constructor <;> omega
  have hlenq : Hid (∀ j, j < qs.length → (namQ (namXs [] xs) (qs.take j)).length + (1 + prtX (qs.getD j q0).2) ≤ 100000 ∧ othXs xs + othQ (qs.take j) + prtX (qs.getD j q0).2 ≤ 100000) := fun j hj => by
    have h0 := namXs_len [] xs
    have h1 := namQ_len (namXs [] xs) (qs.take j)
    have h2 := othQ_le (qs.take j)
    have h4 := othXs_le xs
    have h3 := prtQ_take qs (j + 1)
    rw [take_q hj, prtQ_app] at h3
    simp at h0
    constructor <;> omega
  clear hXat hQat hzx hzq
  go_enter Try.func30, Try.ntmps30
  go_wp2
  clear hmm
  generalize hw1 : (W.alloc (.map #[] 0)).alloc (.cells #[.slice none 0 0, .map (some W.heap.size), .int .i64 0] 77) = w1 at *
  clear hw1
  have hU0 : Hid (CsU w1 w1 W.heap.size (W.heap.size + 1) W.heap.size (.slice none 0 0) (namXs [] (xs.take 0)) (0 + othXs (xs.take 0))) := ⟨_, hS.out, Mo.refl _ _, Nx.refl _ _⟩
  go_loopw [15] (fun i wr => ∃ j : Nat, j ≤ xs.length ∧ i = .int .i64 (j : Int) ∧ Hid (CsU w1 wr W.heap.size (W.heap.size + 1) W.heap.size (.slice none 0 0) (namXs [] (xs.take j)) (0 + othXs (xs.take j)))) (fun i _ => xs.length - (intOf i).toNat)
  case atStart => exact ⟨0, by omega, rfl, hU0⟩
  case round =>
    clear hU0
    obtain ⟨j, hj, rfl, hU⟩ := hrel
    by_cases hlt : j < xs.length
    · obtain ⟨b, o, k', n', m', aa, al, ac, rfl, d0, d1, d2, d3, hx⟩ := hXA.out j hlt
      have hBr := CsU.below hS.out hU.out rfl hb1.out
      have hz := lt_of_cell d0
      have c0 := ((bcell hBr).1 b _ hz).trans d0
      have c1 := ((bcell hBr).1 b _ hz).trans d1
      have c2 := ((bcell hBr).1 b _ hz).trans d2
      have c3 := ((bcell hBr).1 b _ hz).trans d3
      have hzr : b < wr.heap.size := Nat.lt_of_lt_of_le hz hBr.size
      obtain ⟨v', hC', hm', hn'⟩ := hU.out
      have hb2 := below_alloc wr (.cells #[.int .i64 k', .string n', .int .i64 m', .slice aa al ac] 48)
      obtain ⟨hl1, hl2⟩ := hlen.out j hlt
      have hcall := cterm_any W _ _ _ (W.heap.size + 1) v' W.heap.size _ _ hx (hZX.out j hlt) (Below.next hBr hb2) (hC'.next hb2) hl1 hl2
      have hM' := hid (hm'.alloc (.cells #[.int .i64 k', .string n', .int .i64 m', .slice aa al ac] 48))
      have hN' := hid hn'
      clear d0 d1 d2 d3 hx hz hC' hm' hn' hU hl1 hl2 hBr hb2
      go_wp2_with (go_at_call 49; refine hcall.mono ?_; rintro e w3 ⟨rfl, hU3⟩)
      go_roundw
      case rel =>
        refine ⟨j + 1, by omega, by go_num, (show CsU _ _ _ _ _ _ _ _ from ?_)⟩
        rw [take_x hlt, namXs_app, othXs_app, ← Nat.add_assoc]
        exact CsU.trans hM'.out hN'.out hU3
      case measure => simp [intOf]; omega
    · obtain rfl : j = xs.length := by omega
      have hV0 : Hid (CsU w1 wr W.heap.size (W.heap.size + 1) W.heap.size (.slice none 0 0) (namQ (namXs [] xs) (qs.take 0)) (othXs xs + othQ (qs.take 0))) := by
        have h9 := hU.out
        rw [List.take_length, Nat.zero_add] at h9
        exact h9
      clear hU
      go_wp2
      go_loopw [25] (fun i wr => ∃ j : Nat, j ≤ qs.length ∧ i = .int .i64 (j : Int) ∧ Hid (CsU w1 wr W.heap.size (W.heap.size + 1) W.heap.size (.slice none 0 0) (namQ (namXs [] xs) (qs.take j)) (othXs xs + othQ (qs.take j)))) (fun i _ => qs.length - (intOf i).toNat)
      case atStart => exact ⟨0, by omega, rfl, hV0⟩
      case round =>
        clear hV0
        obtain ⟨j, hj, rfl, hU⟩ := hrel
        by_cases hlt : j < qs.length
        · obtain ⟨b, o, k', n', m', aa, al, ac, rfl, d0, d1, d2, d3, d4, hx⟩ := hQA.out j hlt
          have hBr := CsU.below hS.out hU.out rfl hb1.out
          have hz := lt_of_cell d0
          have c0 := ((bcell hBr).1 b _ hz).trans d0
          have c1 := ((bcell hBr).1 b _ hz).trans d1
          have c2 := ((bcell hBr).1 b _ hz).trans d2
          have c3 := ((bcell hBr).1 b _ hz).trans d3
          have c4 := ((bcell hBr).1 b _ hz).trans d4
          have hzr : b < wr.heap.size := Nat.lt_of_lt_of_le hz hBr.size
          obtain ⟨v', hC', hm', hn'⟩ := hU.out
          have hzk := hZQ.out j hlt
          obtain ⟨hl1, hl2⟩ := hlenq.out j hlt
          have htq := hid (take_q hlt)
          generalize hQJ : qs.getD j q0 = Q at *
          obtain ⟨nm, r⟩ := Q
          dsimp only at c0 hx hzk hl1 hl2
          clear hQJ
          have hb2 := below_alloc wr (.cells #[.string nm, .int .i64 k', .string n', .int .i64 m', .slice aa al ac] 50)
          have hbx := heap_alloc_new wr (.cells #[.string nm, .int .i64 k', .string n', .int .i64 m', .slice aa al ac] 50)
          have hsW : W.heap.size ≤ wr.heap.size := hBr.size
          have hnm := name_any (hC'.next hb2) nm hzk.1 (by omega) (by simp; omega)
          have hM' := hid (hm'.alloc (.cells #[.string nm, .int .i64 k', .string n', .int .i64 m', .slice aa al ac] 50))
          have hN' := hid hn'
          have hps := putS_len (namQ (namXs [] xs) (qs.take j)) nm
          have hql9 : Hid (∀ k, CsF (W.heap.size + 1) v' W.heap.size k → k < wr.heap.size) := fun k hk => (hC'.lt hk).2
          have hnx : Hid (∀ w2, CsU (wr.alloc (.cells #[.string nm, .int .i64 k', .string n', .int .i64 m', .slice aa al ac] 50)) w2 W.heap.size (W.heap.size + 1) W.heap.size v' (putS (namQ (namXs [] xs) (qs.take j)) nm) (othXs xs + othQ (qs.take j)) → w2.heap[wr.heap.size]? = some (.cells #[.string nm, .int .i64 k', .string n', .int .i64 m', .slice aa al ac] 50) ∧ Calls Try.prog 49 #[.pointer (some ⟨W.heap.size + 1, 0, none⟩), .agg #[.int .i64 k', .string n', .int .i64 m', .slice aa al ac]] w2 fun e w' => e = .returned (.tuple #[]) ∧ CsU w1 w' W.heap.size (W.heap.size + 1) W.heap.size (.slice none 0 0) (namX (putS (namQ (namXs [] xs) (qs.take j)) nm) r) (othXs xs + othQ (qs.take j) + othX r)) := fun w2 hU2 => by
            have hB2 := CsU.below (hC'.next hb2) hU2 rfl (Below.next hBr hb2)
            obtain ⟨v2, hC2, hm2, hn2⟩ := hU2
            refine ⟨?_, (cterm_any W _ _ _ (W.heap.size + 1) v2 W.heap.size _ _ hx hzk.2 hB2 hC2 (by omega) (by omega)).mono ?_⟩
            · rw [hm2.block _ (by simp) (fun h => Nat.lt_irrefl _ (hql9.out _ h))]
              exact hbx
            · rintro e w' ⟨rfl, hU3⟩
              refine ⟨rfl, CsU.trans hM'.out hN'.out (CsU.trans hm2 hn2 hU3)⟩
          clear d0 d1 d2 d3 d4 hx hz hC' hm' hn' hU hl1 hl2 hBr hb2 hbx
          go_wp2_with (first
            | (go_at_call 50; refine hnm.mono ?_; rintro e w2 ⟨rfl, hU2⟩; obtain ⟨hbx2, hcall⟩ := hnx.out w2 hU2; obtain ⟨⟨y0, y1, y2, y3, y4⟩, _⟩ := tblk5 hbx2; have hzz2 := lt_of_block hbx2)
            | (go_at_call 49; refine hcall.mono ?_; rintro e w3 ⟨rfl, hU3⟩))
          go_roundw
          case rel =>
            refine ⟨j + 1, by omega, by go_num, (show CsU _ _ _ _ _ _ _ _ from ?_)⟩
            rw [htq.out, namQ_app, othQ_app, ← Nat.add_assoc]
            exact hU3
          case measure => simp [intOf]; omega
        · obtain rfl : j = qs.length := by omega
          have hU' := hid hU.out
          clear hU
          go_wp2
          go_ret
          have hB9 := CsU.below hS.out hU'.out rfl hb1.out
          obtain ⟨v', hC', _, _⟩ := hU'.out
          rw [List.take_length] at hC'
          exact ⟨⟨_, _, _, rfl, hC'⟩, hB9⟩
end Go.Proofs.Ytmfgjemefjcblaa
