/- What the law's told does: it goes over a table's names, all of them or the first ones, and gives them as a row of its own. -/
import Derived.Test.YtobimnfjfinphaaNmIter
import Derived.RangeFuncNested
import Derived.RangeFuncBound
import Derived.Maps.AppendAt
namespace Go.Proofs.Ytobimnfjfinphaa
open Go.RowKit Go.Shelf

attribute [local go_sem] Oper.semAt_some

/-- The boxes of told's variables between two rounds. -/
def TI (w : World) (stop : Int) (pre : List (Nat × ByteArray)) (W : World) : Prop :=
  (∃ u, Boxed W (w.heap.size + 4) 22 u ∧ W.ownsRow w.heap.size 9 1 u pre.length (pre.map fun x => Value.string x.2) ∧ True) ∧
  (Boxed W w.heap.size 3 (.int .i64 stop) ∧ Boxed W (w.heap.size + 1) 22 (.slice none 0 0) ∧ Boxed W (w.heap.size + 2) 4 (.bool false)) ∧ Below w.heap.size w W
theorem ti_own (w : World) (stop : Int) (B : Nat) (hB : w.heap.size ≤ B) : OwnFrom B (TI w stop) := by
  have h1 : OwnFrom B (fun (pre : List (Nat × ByteArray)) W => ∃ u, Boxed W (w.heap.size + 4) 22 u ∧ W.ownsRow w.heap.size 9 1 u pre.length (pre.map fun x => Value.string x.2) ∧ True) :=
    Own.from (holdsRow_own w.heap.size (w.heap.size + 4) 22 9 1 (fun (pre : List (Nat × ByteArray)) => pre.length) (fun pre => pre.map fun x => Value.string x.2) (fun _ _ => True)) B
  have h2 : OwnFrom B (fun (_ : List (Nat × ByteArray)) W => Boxed W w.heap.size 3 (.int .i64 stop)) := Own.from (boxed_own _ _ (fun _ => Value.int .i64 stop)) B
  have h3 : OwnFrom B (fun (_ : List (Nat × ByteArray)) W => Boxed W (w.heap.size + 1) 22 (.slice none 0 0)) := Own.from (boxed_own _ _ (fun _ => Value.slice none 0 0)) B
  have h4 : OwnFrom B (fun (_ : List (Nat × ByteArray)) W => Boxed W (w.heap.size + 2) 4 (.bool false)) := Own.from (boxed_own _ _ (fun _ => Value.bool false)) B
  exact h1.and ((h2.and (h3.and h4)).and (ownFrom_below (Nat.le_refl _) hB))
/-- A box is kept while a text is appended to the row of another. -/
theorem boxed_appended {W w1 : World} {B B' : Nat} {t : TypeId} {x u v' : Value} {n₀ k : Nat} {xs : List Value} {tmp : Obj} (h : Boxed W B t x) (ht : t ≠ 9) (hne : B ≠ B') (hrow : W.ownsRow n₀ 9 1 u k xs) (hg : (W.alloc tmp).grownBy w1 u.ownBlock) : Boxed (w1.setCell ⟨B', 0, none⟩ v') B t x :=
  ((h.alloc tmp).kept hg (h.not_row ht hrow)).other hne v'
theorem own_shape {W : World} {n₀ : Nat} {e : TypeId} {u : Value} {k : Nat} {xs : List Value} (h : W.ownsRow n₀ e 1 u k xs) : ∃ ao c, u = .slice ao k c := by
  rcases h.2 with ⟨rfl, rfl⟩ | ⟨g, cap, cur, rfl, _⟩
  · exact ⟨none, 0, rfl⟩
  · exact ⟨_, cap, rfl⟩
theorem upto_rows (l : List ByteArray) {k : Nat} (hk : k ≤ l.length) : ((upto l k).map fun x => Value.string x.2) = (l.take k).map Value.string := by
  rw [← upto_texts l hk, List.map_map]
  rfl
/-- The names that are told. -/
def cutL (stop : Int) (l : List ByteArray) : List ByteArray := if 0 < stop then l.take stop.toNat else l
theorem cut_all {stop : Int} (l : List ByteArray) (h : stop ≤ 0 ∨ (l.length : Int) < stop) : cutL stop l = l := by
  unfold cutL
  split
  · exact List.take_of_length_le (by omega)
  · rfl
theorem cut_some {stop : Int} (l : List ByteArray) {k : Nat} (h : (k : Int) = stop) (h0 : 0 < stop) : cutL stop l = l.take k := by
  unfold cutL
  rw [if_pos h0, ← h]
  rfl
theorem boxed_putObj {W : World} {B D : Nat} {t : TypeId} {x : Value} {o o' : Obj} (h : Boxed W B t x) (hD : W.heap[D]? = some o) (ho : o.isCells = false) : Boxed (W.putObj D o') B t x :=
  h.kept (grownBy_putObj' W D o') (fun e => by
    have e' : B = D := by simpa using e
    subst e'
    rw [show W.heap[B]? = _ from h] at hD
    cases hD
    cases ho)
/-- The end of told: the row and 'true' in the results' boxes. -/
theorem told_end {w W : World} {u : Value} {k : Nat} {xs : List Value} {D : Nat} (hrow : W.ownsRow w.heap.size 9 1 u k xs)
    (b1 : Boxed W (w.heap.size + 1) 22 (.slice none 0 0)) (b2 : Boxed W (w.heap.size + 2) 4 (.bool false)) (hB : Below w.heap.size w W) (hD : w.heap.size ≤ D) (hK : W.heap[D]? = some (.deferred (some []))) :
    ((((W.setCell ⟨w.heap.size + 1, 0, none⟩ u).setCell ⟨w.heap.size + 2, 0, none⟩ (.bool true)).putObj D (.deferred none)).cell? ⟨w.heap.size + 1, 0, none⟩ = some u) ∧
    ((((W.setCell ⟨w.heap.size + 1, 0, none⟩ u).setCell ⟨w.heap.size + 2, 0, none⟩ (.bool true)).putObj D (.deferred none)).cell? ⟨w.heap.size + 2, 0, none⟩ = some (.bool true)) ∧
    (((W.setCell ⟨w.heap.size + 1, 0, none⟩ u).setCell ⟨w.heap.size + 2, 0, none⟩ (.bool true)).putObj D (.deferred none)).ownsRow w.heap.size 9 1 u k xs ∧
    Below w.heap.size w (((W.setCell ⟨w.heap.size + 1, 0, none⟩ u).setCell ⟨w.heap.size + 2, 0, none⟩ (.bool true)).putObj D (.deferred none)) ∧
    ((W.setCell ⟨w.heap.size + 1, 0, none⟩ u).setCell ⟨w.heap.size + 2, 0, none⟩ (.bool true)).heap[D]? = some (.deferred (some [])) := by
  have hk1 := (KeepsOthers.setCell W ⟨w.heap.size + 1, 0, none⟩ u).same D _ hK rfl
  have hk2 := (KeepsOthers.setCell (W.setCell ⟨w.heap.size + 1, 0, none⟩ u) ⟨w.heap.size + 2, 0, none⟩ (.bool true)).same D _ hk1 rfl
  have c1 : Boxed ((W.setCell ⟨w.heap.size + 1, 0, none⟩ u).setCell ⟨w.heap.size + 2, 0, none⟩ (.bool true)) (w.heap.size + 1) 22 u := (b1.set u).other (by omega) _
  have c2 : Boxed ((W.setCell ⟨w.heap.size + 1, 0, none⟩ u).setCell ⟨w.heap.size + 2, 0, none⟩ (.bool true)) (w.heap.size + 2) 4 (.bool true) := (b2.other (by omega) u).set _
  have r1 := hrow.kept (grownBy_setCell' W (w.heap.size + 1) u) (.inr (b1.not_row (by decide) hrow).symm)
  have b2' := b2.other (B' := w.heap.size + 1) (by omega) u
  have r2 := r1.kept (grownBy_setCell' _ (w.heap.size + 2) (.bool true)) (.inr (b2'.not_row (by decide) r1).symm)
  refine ⟨(boxed_putObj c1 hk2 rfl).cell, (boxed_putObj c2 hk2 rfl).cell, ownsRow_putObj r2 _ hk2 rfl, ?_, hk2⟩
  exact ((hB.setCell (p := ⟨w.heap.size + 1, 0, none⟩) (by simp) _).setCell (p := ⟨w.heap.size + 2, 0, none⟩) (by simp) _).trans (belowK_b (w := w) (Nat.le_refl _) _ D _ _ hD hk2 rfl rfl)
/-- A function held against nil. -/
theorem func_nil_in {P : Program} (w : World) (d : Nat) (t : TypeId) {x : TypeDesc} (h : P.underlying t = some x) (hx : ∃ a b c, x = .func a b c) (g : Fn) (a b : Array Value) : (Op.equalIn (d + 1) t (.func g a b) .nilFunc).run P w = .ok false w := by
  obtain ⟨x1, x2, x3, rfl⟩ := hx
  simp [Op.equalIn, run_underlying h]
theorem func_nil (w : World) (g : Fn) (a b : Array Value) : (binOp .eql 50 (.func g a b) .nilFunc).run Try.prog w = .ok (.bool false) w := by
  simp only [binOp]
  simp [show Op.equal 50 (.func g a b) .nilFunc = Op.equalIn (9999 + 1) 50 (.func g a b) .nilFunc from rfl, func_nil_in w 9999 50 Try.underlying50 ⟨_, _, _, rfl⟩]
set_option maxRecDepth 100000 in
set_option maxHeartbeats 4000000 in
theorem told_in (tp : Option Addr) (stop : Int) (v : Value) (l : List ByteArray) (w : World) (hr : Rs w v l) (hl : l.length ≤ 1024)
    (hall : ∀ W', Below w.heap.size w W' → Calls Try.prog 21 #[.pointer tp] W' fun e w' => e = .returned (.func (.func 31) #[] #[.pointer (some ⟨W'.heap.size, 0, none⟩)]) ∧ w' = W'.alloc (.cells #[v] 22)) :
    CallsIn Fence.wide 4 Try.prog 19 #[.pointer tp, .int .i64 stop] w fun e w' => ∃ u, e = .returned (.tuple #[u, .bool true]) ∧ w'.ownsRow w.heap.size 9 1 u (cutL stop l).length ((cutL stop l).map Value.string) ∧ Below w.heap.size w w' := by
  obtain ⟨i0, hi, hz0, hz1, hz2⟩ := info_parts infoS
  have f31 : Fence.wide.fn 31 := trivial
  have f21 : Fence.wide.fn 21 := trivial
  have hfn := func_nil
  obtain ⟨ao, c, rfl⟩ := hr.shape
  refine callsIn_of_wp_marks Try.func19 rfl trivial ?_ rfl
  simp only [Try.ntmps19, List.size_toArray, List.length_cons, List.length_nil, Nat.reduceAdd, Nat.reduceSub, Array.replicate_succ, Array.replicate_zero, List.push_toArray, List.append_toArray, List.nil_append, List.cons_append]
  have hB0 : Below w.heap.size w (((((w.alloc (.cells #[.int .i64 stop] 3)).alloc (.cells #[.slice none 0 0] 22)).alloc (.cells #[.bool false] 4)).alloc (.cells #[] 9)).alloc (.cells #[.slice (some ⟨w.heap.size + 3, 0, none⟩) 0 0] 22)) :=
    (((((Below.refl _ w).alloc (Nat.le_refl _) _).alloc (by simp) _).alloc (by simp; omega) _).alloc (by simp; omega) _).alloc (by simp; omega) _
  gi_wp2_with (gi_at_call 21; refine (callsIn_wide.2 (hall _ hB0)).mono ?_; rintro e w' ⟨rfl, rfl⟩)
  simp only [Nat.add_assoc, Nat.reduceAdd]
  have hB6 := hB0.alloc (by simp; omega) (.cells #[.slice ao l.length c] 22)
  have x0 : Boxed (w.alloc (.cells #[.int .i64 stop] 3)) w.heap.size 3 (.int .i64 stop) := Boxed.new w _ _
  have x1 : Boxed ((w.alloc (.cells #[.int .i64 stop] 3)).alloc (.cells #[.slice none 0 0] 22)) (w.heap.size + 1) 22 (.slice none 0 0) := by
    have h := Boxed.new (w.alloc (.cells #[.int .i64 stop] 3)) 22 (.slice none 0 0)
    rwa [World.size_alloc] at h
  have x2 : Boxed (((w.alloc (.cells #[.int .i64 stop] 3)).alloc (.cells #[.slice none 0 0] 22)).alloc (.cells #[.bool false] 4)) (w.heap.size + 2) 4 (.bool false) := by
    have h := Boxed.new ((w.alloc (.cells #[.int .i64 stop] 3)).alloc (.cells #[.slice none 0 0] 22)) 4 (.bool false)
    simpa only [World.size_alloc, Nat.add_assoc, Nat.reduceAdd] using h
  have x3 := heap_alloc_new (((w.alloc (.cells #[.int .i64 stop] 3)).alloc (.cells #[.slice none 0 0] 22)).alloc (.cells #[.bool false] 4)) (.cells #[] 9)
  simp only [World.size_alloc, Nat.add_assoc, Nat.reduceAdd] at x3
  have x4 : Boxed (((((w.alloc (.cells #[.int .i64 stop] 3)).alloc (.cells #[.slice none 0 0] 22)).alloc (.cells #[.bool false] 4)).alloc (.cells #[] 9)).alloc (.cells #[.slice (some ⟨w.heap.size + 3, 0, none⟩) 0 0] 22)) (w.heap.size + 4) 22 (.slice (some ⟨w.heap.size + 3, 0, none⟩) 0 0) := by
    have h := Boxed.new ((((w.alloc (.cells #[.int .i64 stop] 3)).alloc (.cells #[.slice none 0 0] 22)).alloc (.cells #[.bool false] 4)).alloc (.cells #[] 9)) 22 (.slice (some ⟨w.heap.size + 3, 0, none⟩) 0 0)
    simpa only [World.size_alloc, Nat.add_assoc, Nat.reduceAdd] using h
  have x5 : Boxed ((((((w.alloc (.cells #[.int .i64 stop] 3)).alloc (.cells #[.slice none 0 0] 22)).alloc (.cells #[.bool false] 4)).alloc (.cells #[] 9)).alloc (.cells #[.slice (some ⟨w.heap.size + 3, 0, none⟩) 0 0] 22)).alloc (.cells #[.slice ao l.length c] 22)) (w.heap.size + 5) 22 (.slice ao l.length c) := by
    have h := Boxed.new (((((w.alloc (.cells #[.int .i64 stop] 3)).alloc (.cells #[.slice none 0 0] 22)).alloc (.cells #[.bool false] 4)).alloc (.cells #[] 9)).alloc (.cells #[.slice (some ⟨w.heap.size + 3, 0, none⟩) 0 0] 22)) 22 (.slice ao l.length c)
    simpa only [World.size_alloc, Nat.add_assoc, Nat.reduceAdd] using h
  have y0 := ((((x0.alloc (.cells #[.slice none 0 0] 22)).alloc (.cells #[.bool false] 4)).alloc (.cells #[] 9)).alloc (.cells #[.slice (some ⟨w.heap.size + 3, 0, none⟩) 0 0] 22)).alloc (.cells #[.slice ao l.length c] 22)
  have y1 := (((x1.alloc (.cells #[.bool false] 4)).alloc (.cells #[] 9)).alloc (.cells #[.slice (some ⟨w.heap.size + 3, 0, none⟩) 0 0] 22)).alloc (.cells #[.slice ao l.length c] 22)
  have y2 := ((x2.alloc (.cells #[] 9)).alloc (.cells #[.slice (some ⟨w.heap.size + 3, 0, none⟩) 0 0] 22)).alloc (.cells #[.slice ao l.length c] 22)
  have y4 := x4.alloc (.cells #[.slice ao l.length c] 22)
  have o3 : ((((((w.alloc (.cells #[.int .i64 stop] 3)).alloc (.cells #[.slice none 0 0] 22)).alloc (.cells #[.bool false] 4)).alloc (.cells #[] 9)).alloc (.cells #[.slice (some ⟨w.heap.size + 3, 0, none⟩) 0 0] 22)).alloc (.cells #[.slice ao l.length c] 22)).ownsRow w.heap.size 9 1 (.slice (some ⟨w.heap.size + 3, 0, none⟩) 0 0) 0 [] :=
    World.ownsRow.alloc (World.ownsRow.alloc ⟨rfl, Or.inr ⟨w.heap.size + 3, 0, #[], rfl, by omega, x3, Nat.le_refl _, Nat.zero_le _, rfl, rfl⟩⟩ _) _
  have hsz : ((((((w.alloc (.cells #[.int .i64 stop] 3)).alloc (.cells #[.slice none 0 0] 22)).alloc (.cells #[.bool false] 4)).alloc (.cells #[] 9)).alloc (.cells #[.slice (some ⟨w.heap.size + 3, 0, none⟩) 0 0] 22)).alloc (.cells #[.slice ao l.length c] 22)).heap.size = w.heap.size + 6 := by simp
  obtain ⟨W0, hW0⟩ : ∃ W0, ((((((w.alloc (.cells #[.int .i64 stop] 3)).alloc (.cells #[.slice none 0 0] 22)).alloc (.cells #[.bool false] 4)).alloc (.cells #[] 9)).alloc (.cells #[.slice (some ⟨w.heap.size + 3, 0, none⟩) 0 0] 22)).alloc (.cells #[.slice ao l.length c] 22)) = W0 := ⟨_, rfl⟩
  rw [hW0] at hB6 x5 y0 y1 y2 y4 o3 hsz ⊢
  clear hW0 x0 x1 x2 x3 x4 hB0 hall
  have hlow : l ≠ [] → Low w.heap.size (.slice ao l.length c) := hr.low
  refine wpIn_rangeFunc_ownG rfl (by omega) (gf := 31) (lb := #[.pointer (some ⟨w.heap.size + 5, 0, none⟩)]) rfl f31 (enters_of Try.func31 (by kernel_rfl) rfl)
    (iter_stops Fence.wide 3 f31 rfl (by omega) (w.heap.size + 5) w.heap.size (.slice ao l.length c) l (by omega) W0 (by omega) (by omega) x5.cell (hr.below hB6) hlow) belowK_t (belowK_b (by omega)) (Below.refl _ _) (fun _ => rfl)
    (fun pre W => TI w stop pre W ∧ (stop ≤ 0 ∨ (pre.length : Int) < stop))
    (fun cd pre W => (TI w stop pre W ∧ cd = .exit 0 ∧ (pre.length : Int) = stop ∧ 0 < stop) ∨ (cd = .ret ∧ ∃ ini last, pre = ini ++ [last] ∧ last.1 ≠ ini.length))
    (OwnFrom.and (ti_own w stop _ (by omega)) (ownFrom_pure _ _))
    (fun cd s X Y row hs hg hrow => hs.imp (fun h => ⟨ti_own w stop _ (by omega) s X Y row h.1 hg hrow, h.2⟩) id)
    ⟨⟨⟨_, y4, o3, trivial⟩, ⟨y0, y1, y2⟩, hB6⟩, by simp; omega⟩
    (fun x => { tmps := #[.pointer tp, .int .i64 stop, undef, .pointer (some ⟨w.heap.size, 0, none⟩), .pointer (some ⟨w.heap.size + 1, 0, none⟩), .pointer (some ⟨w.heap.size + 2, 0, none⟩), .pointer (some ⟨w.heap.size + 4, 0, none⟩), .func (.func 31) #[] #[.pointer (some ⟨w.heap.size + 5, 0, none⟩)], .int .i64 (x.1 : Int), .string x.2, .slice (some ⟨w.heap.size + 3, 0, none⟩) 0 0, .pointer tp, .func (.func 31) #[] #[.pointer (some ⟨w.heap.size + 5, 0, none⟩)], .func (.func 31) #[] #[.pointer (some ⟨w.heap.size + 5, 0, none⟩)], .bool false, undef, .func (.func 31) #[] #[.pointer (some ⟨w.heap.size + 5, 0, none⟩)], .int .i64 (x.1 : Int), .string x.2, undef, undef, undef, undef, undef, undef, undef, undef, undef, undef, undef, undef, undef, undef], defers := [] }) ?assign ?body ?done ?stop
  case assign =>
    intro r x W K hK
    gi_wp2
    exact hK
  case body =>
    rintro r pre ⟨xi, xs⟩ W ⟨⟨⟨u, hv, hrow, _⟩, ⟨b0, b1, b2⟩, hB⟩, hst⟩ hlt
    obtain ⟨uo, uc, rfl⟩ := own_shape hrow
    have hc := hv.cell
    have c0 := b0.cell
    have hs0 := hB.size
    have hpl : pre.length < 1024 := by omega
    by_cases hx : xi = pre.length
    · subst hx
      by_cases hs : (pre.length : Int) + 1 = stop
      · have hs1 : (((pre.length : Int) + 1) == stop) = true := by simp [hs]
        have hs2 : (((pre.length + 1 : Nat) : Int) == stop) = true := by simp [hs]
        have HS : Hid ((pre.length : Int) + 1 = stop) := hs
        clear hs
        gi_wp2_with (gi_at_builtin; refine wpListIn_append_own _ rfl _ _ 22 rfl w.heap.size 9 i0 (.string ⟨#[]⟩) 1 16 Try.underlying22 hi hz0 hz1 hz2 rfl (by decide) _ _ _ rfl (hrow.alloc _) ⟨W.heap.size, 0, none⟩ 1 1 [.string xs] rfl rfl (cell_one_new _ _ _) (by simp [Value.oneCell']) (by unfold maxLen; omega) (by omega) (by simp; omega) ?_; intro v' w1 hown' hgrow _; obtain ⟨g', cap', rfl⟩ := ownsRow_succ hown'; obtain ⟨hv1, hv2, hr2, hk2, hb2⟩ := hv.appended (by decide) hrow hB.size (by omega) hown' hgrow; have hc1 := hv1.cell; have hf1 := hv1.frozen; have hc2 := hv2.cell; have d0 := boxed_appended (B' := w.heap.size + 4) (v' := .slice (some ⟨g', 0, none⟩) (pre.length + 1) cap') b0 (by decide) (by omega) hrow hgrow; have d1 := boxed_appended (B' := w.heap.size + 4) (v' := .slice (some ⟨g', 0, none⟩) (pre.length + 1) cap') b1 (by decide) (by omega) hrow hgrow; have d2 := boxed_appended (B' := w.heap.size + 4) (v' := .slice (some ⟨g', 0, none⟩) (pre.length + 1) cap') b2 (by decide) (by omega) hrow hgrow; have e0 := d0.cell)
        exact ⟨hk2.from _, .inl ⟨⟨⟨_, hv2, by simpa using hr2, trivial⟩, ⟨d0, d1, d2⟩, hB.trans hb2⟩, rfl, by have := HS.out; simp; omega, by have := HS.out; omega⟩⟩
      · have hs1 : (((pre.length : Int) + 1) == stop) = false := beq_eq_false_iff_ne.2 hs
        have hs2 : (((pre.length + 1 : Nat) : Int) == stop) = false := beq_eq_false_iff_ne.2 (by simpa using hs)
        gi_wp2_with (gi_at_builtin; refine wpListIn_append_own _ rfl _ _ 22 rfl w.heap.size 9 i0 (.string ⟨#[]⟩) 1 16 Try.underlying22 hi hz0 hz1 hz2 rfl (by decide) _ _ _ rfl (hrow.alloc _) ⟨W.heap.size, 0, none⟩ 1 1 [.string xs] rfl rfl (cell_one_new _ _ _) (by simp [Value.oneCell']) (by unfold maxLen; omega) (by omega) (by simp; omega) ?_; intro v' w1 hown' hgrow _; obtain ⟨g', cap', rfl⟩ := ownsRow_succ hown'; obtain ⟨hv1, hv2, hr2, hk2, hb2⟩ := hv.appended (by decide) hrow hB.size (by omega) hown' hgrow; have hc1 := hv1.cell; have hf1 := hv1.frozen; have hc2 := hv2.cell; have d0 := boxed_appended (B' := w.heap.size + 4) (v' := .slice (some ⟨g', 0, none⟩) (pre.length + 1) cap') b0 (by decide) (by omega) hrow hgrow; have d1 := boxed_appended (B' := w.heap.size + 4) (v' := .slice (some ⟨g', 0, none⟩) (pre.length + 1) cap') b1 (by decide) (by omega) hrow hgrow; have d2 := boxed_appended (B' := w.heap.size + 4) (v' := .slice (some ⟨g', 0, none⟩) (pre.length + 1) cap') b2 (by decide) (by omega) hrow hgrow; have e0 := d0.cell)
        exact ⟨hk2.from _, hb2, ⟨⟨_, hv2, by simpa using hr2, trivial⟩, ⟨d0, d1, d2⟩, hB.trans hb2⟩, by simp; omega⟩
    · have hx' : ((xi : Int) == (pre.length : Int)) = false := beq_eq_false_iff_ne.2 (by omega)
      have c1 := b1.cell
      have f1 := b1.frozen
      have b2' := b2.other (B' := w.heap.size + 1) (by omega) (.slice uo pre.length uc)
      have c2 := b2'.cell
      have f2 := b2'.frozen
      gi_wp2
      exact ⟨((KeepsOthers.setCell _ _ _).trans (KeepsOthers.setCell _ _ _)).from _, .inr ⟨rfl, pre, _, rfl, hx⟩⟩
  case done =>
    rintro D ys W hD rfl ⟨⟨⟨u, hv, hrow, _⟩, ⟨b0, b1, b2⟩, hB⟩, hst⟩ hK
    rw [upto_rows l (Nat.le_refl _), upto_length, List.take_length] at hrow
    rw [upto_length] at hst
    obtain ⟨uo, uc, rfl⟩ := own_shape hrow
    have hc := hv.cell
    have c1 := b1.cell
    have f1 := b1.frozen
    have b2' := b2.other (B' := w.heap.size + 1) (by omega) (.slice uo l.length uc)
    have c2 := b2'.cell
    have f2 := b2'.frozen
    obtain ⟨e1, e2, e3, e4, e5⟩ := told_end hrow b1 b2 hB (by omega) hK
    gi_wp2
    refine ⟨by simp, .inl ⟨_, _, rfl, run_takeDeferred e5, ?_⟩⟩
    refine ⟨.tuple #[.slice uo l.length uc, .bool true], ?_, .slice uo l.length uc, rfl, ?_, e4⟩
    · simp [results, Try.results19, go_sem, e1, e2]
    · rw [cut_all l hst]
      exact e3
  case stop =>
    rintro D cd pre W hD ⟨k, hk, rfl⟩ (⟨⟨⟨u, hv, hrow, _⟩, ⟨b0, b1, b2⟩, hB⟩, rfl, hst, hpos⟩ | ⟨_, ini, last, e1, e2⟩) hK
    · rw [upto_rows l hk, upto_length] at hrow
      rw [upto_length] at hst
      obtain ⟨uo, uc, rfl⟩ := own_shape hrow
      have hc := hv.cell
      have c1 := b1.cell
      have f1 := b1.frozen
      have b2' := b2.other (B' := w.heap.size + 1) (by omega) (.slice uo k uc)
      have c2 := b2'.cell
      have f2 := b2'.frozen
      obtain ⟨e1, e2, e3, e4, e5⟩ := told_end hrow b1 b2 hB (by omega) hK
      gi_wp2
      refine ⟨by simp, .inl ⟨_, _, rfl, run_takeDeferred e5, ?_⟩⟩
      refine ⟨.tuple #[.slice uo k uc, .bool true], ?_, .slice uo k uc, rfl, ?_, e4⟩
      · simp [results, Try.results19, go_sem, e1, e2]
      · rw [cut_some l hst hpos, List.length_take, Nat.min_eq_left hk]
        exact e3
    · exfalso
      cases k with
      | zero => simp [upto] at e1
      | succ k' =>
        rw [upto_succ] at e1
        obtain ⟨h1, h2⟩ := List.append_inj' e1 rfl
        have h3 : (k', l.getD k' ⟨#[]⟩) = last := by simpa using h2
        rw [← h1, upto_length, ← h3] at e2
        exact e2 rfl
theorem told_any {w : World} {B p q : Nat} {v : Value} {l : List ByteArray} (h : Tb w B p v q l) (stop : Int) :
    Calls Try.prog 19 #[.pointer (some ⟨p, 0, none⟩), .int .i64 stop] w fun e w' => ∃ u, e = .returned (.tuple #[u, .bool true]) ∧ w'.ownsRow w.heap.size 9 1 u (cutL stop l).length ((cutL stop l).map Value.string) ∧ Below w.heap.size w w' :=
  callsIn_wide.1 (told_in (some ⟨p, 0, none⟩) stop v l w h.rs h.len (fun _ hb => all_any (h.below hb)))
theorem told_nil (w : World) (stop : Int) :
    Calls Try.prog 19 #[.pointer none, .int .i64 stop] w fun e w' => ∃ u, e = .returned (.tuple #[u, .bool true]) ∧ w'.ownsRow w.heap.size 9 1 u 0 [] ∧ Below w.heap.size w w' := by
  have hc : cutL stop [] = [] := by simp [cutL]
  have h := callsIn_wide.1 (told_in none stop (.slice none 0 0) [] w (Or.inl ⟨rfl, rfl⟩) (by simp) (fun _ _ => all_nil _))
  rwa [hc] at h
end Go.Proofs.Ytobimnfjfinphaa
