/- What the package-level variables hold that the texts of words read; it stays so while memory grows. Itoa and Atoi at every argument, in such worlds. -/
import Derived.Test.YtpmpdbdblfgpcaaDoorShelf
import Derived.Test.YtpmpdbdblfgpcaaDoorTexts
import Derived.Test.YtpmpdbdblfgpcaaDoorHeads
import Derived.Shelf.Strconv.ErrVarAll
import Derived.Lib.SmallJoins
import Derived.Lib.LaidTab
import Derived.WalkSmall
namespace Go.Proofs.YtpmpdbdblfgpcaaDoor
open Go.RowKit

/-- The six labels of package word. -/
def labBytes : List (List UInt8) := [[114, 101, 102], [97, 116, 111, 109], [105, 110, 116], [115, 116, 114], [102, 117, 110], [102, 119, 100]]
theorem globLab : Tryd.prog.globalNamed "tendril/word.labels" = some 0 := by kernel_rfl
theorem globPow : Tryd.prog.globalNamed "internal/strconv.uint64pow10" = some 1 := by kernel_rfl
theorem globSyn : Tryd.prog.globalNamed "strconv.ErrSyntax" = some 3 := by kernel_rfl
theorem globRan : Tryd.prog.globalNamed "strconv.ErrRange" = some 4 := by kernel_rfl

/-- What the variables hold. -/
structure Ready (w : World) : Prop where
  labs : w.var? Tryd.prog "tendril/word.labels" = some (labBytes.map fun z => Value.string ⟨z.toArray⟩).toArray
  tab : Lib.TabIs Tryd.prog w "internal/strconv.uint64pow10" .u64 Lib.pow10Tab
  syn : ∃ tp p, w.var? Tryd.prog "strconv.ErrSyntax" = some #[.iface tp p]
  ran : ∃ tp p, w.var? Tryd.prog "strconv.ErrRange" = some #[.iface tp p]
theorem var_lt {P : Program} {w : World} {n : String} {g : Nat} {cs : Array Value} (hg : P.globalNamed n = some g) (hv : w.var? P n = some cs) : g < w.heap.size := by
  unfold World.var? at hv
  simp only [hg, Option.bind_some] at hv
  cases h : w.heap[g]? with
  | none => rw [h] at hv; cases hv
  | some o => exact (Array.getElem?_eq_some_iff.1 h).1
theorem Ready.below {w w' : World} (h : Ready w) (hq : Below w.heap.size w w') : Ready w' := by
  obtain ⟨h1, h2, ⟨tp, p, h3⟩, ⟨tq, q, h4⟩⟩ := h
  exact ⟨var?_below hq globLab (var_lt globLab h1) h1, var?_below hq globPow (var_lt globPow h2) h2, ⟨tp, p, var?_below hq globSyn (var_lt globSyn h3) h3⟩, ⟨tq, q, var?_below hq globRan (var_lt globRan h4) h4⟩⟩
theorem Ready.label {w : World} (h : Ready w) (i : Nat) (s : List UInt8) (hs : labBytes[i]? = some s) : w.cell? ⟨0, i, none⟩ = some (.string ⟨s.toArray⟩) := by
  rw [World.var?_cell globLab h.labs i, List.getElem?_toArray, List.getElem?_map, hs]
  rfl
theorem below_grow (w : World) (q : Nat) (os : Array Obj) : Below w.heap.size w (Sort.grow (w.drewN q) os) := by
  refine ⟨rfl, rfl, rfl, ?_, fun i hi => ?_⟩
  · show w.heap.size ≤ (w.heap ++ os).size
    simp
  · show (w.heap ++ os)[i]? = w.heap[i]?
    exact Array.getElem?_append_left hi
theorem itoa_any (n : Int) (w : World) (h : Ready w) (h0 : -9223372036854775808 ≤ n) (h1 : n ≤ 9223372036854775807) :
    Calls Tryd.prog 36 #[.int .i64 n] w fun e w' => e = .returned (.string ⟨(Lib.itoa n).toArray⟩) ∧ Below w.heap.size w w' := by
  refine (Tryd.strconv_Itoa n h0 h1 w h.tab).mono ?_
  rintro e w' ⟨he, k, os, rfl⟩
  exact ⟨he, below_grow w k os⟩
theorem atoi_ok (s : ByteArray) (v : Int) (w : World) (hs : s.size ≤ 281474976710656) (h : Lib.atoiAll s.data.toList = .ok v) :
    Calls Tryd.prog 48 #[.string s] w fun e w' => e = .returned (.tuple #[.int .i64 v, .nilIface]) ∧ Below w.heap.size w w' := by
  refine (Tryd.strconv_Atoi_ok s (by omega) v h w).mono ?_
  rintro e w' ⟨he, rfl | ⟨t, rfl⟩⟩
  · exact ⟨he, Below.refl _ _⟩
  · exact ⟨he, Joins.below_bytesWorld _ w _ t (Nat.le_refl _)⟩
theorem atoi_no (s : ByteArray) (w : World) (hr : Ready w) (hs : s.size ≤ 281474976710656) (hno : ∀ v, Lib.atoiAll s.data.toList ≠ .ok v) :
    Calls Tryd.prog 48 #[.string s] w fun e w' => (∃ n t v, e = .returned (.tuple #[.int .i64 n, .iface t v])) ∧ Below w.heap.size w w' := by
  obtain ⟨_, _, ⟨tp, p, h3⟩, ⟨tq, q, h4⟩⟩ := hr
  cases h : Lib.atoiAll s.data.toList
  · exact absurd h (hno _)
  · refine (show Calls Tryd.prog 48 #[.string s] w _ from Any.strconv_Atoi_syntax_var Tryd.laysC172 s hs h tp p w h3).mono ?_
    rintro e w' ⟨N, he, _, _, hb⟩
    exact ⟨⟨_, _, _, he⟩, hb⟩
  · refine (Tryd.strconv_Atoi_range_var s hs h tq q w h4).mono ?_
    rintro e w' ⟨N, he, _, _, hb⟩
    exact ⟨⟨_, _, _, he⟩, hb⟩
end Go.Proofs.YtpmpdbdblfgpcaaDoor
