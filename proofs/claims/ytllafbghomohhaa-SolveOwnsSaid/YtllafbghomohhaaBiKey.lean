/- Labels as keys of a map. -/
import Derived.Test.YtllafbghomohhaaBiFn
import Derived.Maps.OwnSet
import Derived.Maps.OwnOps
import Derived.DeepKeys4
namespace Go.Proofs.Ytllafbghomohhaa
open Go.RowKit Go.Maps

theorem labRow : (131 : TypeId) < Try.prog.types.size := of_decide_eq_true (by kernel_rfl)
theorem labWide : (match Try.prog.underlying 131 with | some (.array _ _) | some (.struct _) => true | _ => false) = true := by kernel_rfl
theorem labLaid : laidOutB Try.prog = true := by kernel_rfl
set_option maxRecDepth 100000 in
theorem labLaw : Keyed Try.prog 131 := Keyed.of_law (deep_law_laid labLaid (m := 3) (by omega) labRow (by kernel_rfl) labWide)
theorem labKt : Try.prog.keyType 131 = true := by kernel_rfl
theorem labCells : Try.prog.cellsOf 131 = 5 := by kernel_rfl
theorem intCells : Try.prog.cellsOf 3 = 1 := by kernel_rfl
theorem strCells : Try.prog.cellsOf 9 = 1 := by kernel_rfl
theorem lits_int (d : Nat) (q : Int) (hq : (Lit.int .i64 q).wf = true) : Try.prog.keyLits (d + 1) 3 [.int .i64 q] = some [.int .i64 q] := by
  simp [Program.keyLits, Try.underlying3, hq]
theorem lits_str (d : Nat) (s : ByteArray) (hs : s.size ≤ maxLen) : Try.prog.keyLits (d + 1) 9 [.string s] = some [.string s.data.toList] := by
  simp [Program.keyLits, Try.underlying9, hs]
theorem label_lits (d : Nat) (a b c e : Int) (s : ByteArray) (ha : (Lit.int .i64 a).wf = true) (hb : (Lit.int .i64 b).wf = true) (hc : (Lit.int .i64 c).wf = true) (he : (Lit.int .i64 e).wf = true) (hs : s.size ≤ maxLen) :
    Try.prog.keyLits (d + 1 + 1) 131 [.int .i64 a, .int .i64 b, .int .i64 c, .int .i64 e, .string s] = some [.int .i64 a, .int .i64 b, .int .i64 c, .int .i64 e, .string s.data.toList] := by
  simp [Program.keyLits, Try.underlying131, Try.underlying3, Try.underlying9, labCells, intCells, strCells, ha, hb, hc, he, hs]
theorem label_key (a b c e : Int) (s : ByteArray) (ha : (Lit.int .i64 a).wf = true) (hb : (Lit.int .i64 b).wf = true) (hc : (Lit.int .i64 c).wf = true) (he : (Lit.int .i64 e).wf = true) (hs : s.size ≤ maxLen) :
    ∃ kl, keyOf Try.prog 131 (.agg #[.int .i64 a, .int .i64 b, .int .i64 c, .int .i64 e, .string s]) = some kl := by
  obtain ⟨d, hd⟩ : ∃ d, Try.prog.types.size = d + 1 := Nat.exists_eq_add_one.2 (Nat.lt_of_le_of_lt (Nat.zero_le _) labRow)
  unfold keyOf
  simp only [Try.underlying131]
  have hf : (Value.agg #[.int .i64 a, .int .i64 b, .int .i64 c, .int .i64 e, .string s]).formed Try.prog 131 = true := by
    simp [Value.formed, Try.underlying131, labCells]
  rw [labKt, hf, hd]
  have := label_lits d a b c e s ha hb hc he hs
  exact ⟨.string (keyBytes [.int .i64 a, .int .i64 b, .int .i64 c, .int .i64 e, .string s.data.toList]), by simp [Value.cells, this]⟩
end Go.Proofs.Ytllafbghomohhaa
