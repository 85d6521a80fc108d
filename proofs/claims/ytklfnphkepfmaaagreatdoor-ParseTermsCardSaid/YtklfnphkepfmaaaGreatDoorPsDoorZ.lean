/- What the rows' condition on package-level variables gives the parser, and that the program's own start meets it. -/
import Derived.Test.YtklfnphkepfmaaaGreatDoorRows
import Derived.Test.YtklfnphkepfmaaaGreatDoorTie
import Derived.Test.YtklfnphkepfmaaaGreatDoorCards
import Derived.Test.YtklfnphkepfmaaaGreatDoorPFZ
import Derived.ProofKit
import Derived.LaidMore
import Derived.LaidHandle
import Derived.OpenShut
import Derived.Stop.Joined
import Derived.Stop.LaidErr
namespace Go.Proofs.YtklfnphkepfmaaaGreatDoor
open Go.ChangeShapes Go.WideShapes Go.ChangeAt Go.RowKit

theorem own : ownKnob Tryz.prog.godebug = none := by kernel_rfl
theorem tyPow : (Tryz.prog.globals[1]?).map (·.type) = some 207 := by kernel_rfl
theorem ceU64 : Tryz.prog.cellsOf 194 = 1 := by kernel_rfl
theorem cePow : Tryz.prog.cellsOf 207 = 20 := by kernel_rfl
theorem pow_data : (Rows.laid_internal_strconv_uint64pow10 : DataW Unit) = Lib.tabData .u64 Lib.pow10Tab := by kernel_rfl
theorem globEt : Tryz.prog.globalNamed "errors.errorType" = some 0 := by kernel_rfl
theorem rtEt : (Tryz.prog.cutTypes.find? (·.1 == "internal/reflectlite.rtype")).map (·.2) = some 177 := by kernel_rfl
theorem oneEt : ((List.range 244).filter fun t => Tryz.prog.rowNamed t [101, 114, 114, 111, 114]) = [29] := by kernel_rfl
theorem sizeEt : Tryz.prog.types.size = 244 := by kernel_rfl
set_option maxRecDepth 100000 in
theorem ready_of_laid {W : World} (h : laidMetH Tryz.prog Rows.parseTermsRow.laid W) : ErrT W ∧ PowT W := by
  have h' : laidMet Tryz.prog [("math/bits.deBruijn32tab", Rows.laid_math_bits_deBruijn32tab), ("math/bits.deBruijn64tab", Rows.laid_math_bits_deBruijn64tab), ("internal/strconv.uint64pow10", Rows.laid_internal_strconv_uint64pow10)] W ∧ handlesMet Tryz.prog [("errors.errorType", Rows.laid_errors_errorType)] W := h
  constructor
  · obtain ⟨name, u, ty, e1, e2, e3, e4, e5⟩ := h'.2 _ (List.mem_singleton.2 rfl)
    have en : name = [101, 114, 114, 111, 114] := (Option.some.inj e1).symm
    subst en
    obtain rfl := Option.some.inj (rtEt.symm.trans e2)
    have hm : ty ∈ (List.range 244).filter fun t => Tryz.prog.rowNamed t [101, 114, 114, 111, 114] := List.mem_filter.2 ⟨List.mem_range.2 (by rw [← sizeEt]; exact e3), e4⟩
    rw [oneEt] at hm
    obtain rfl := List.mem_singleton.1 hm
    have hh : typeHandle Tryz.prog 29 = .pointer (some ⟨5, 29, none⟩) := by kernel_rfl
    rw [hh] at e5
    have := World.var?_cell globEt e5 0
    show W.cell? _ = _
    simpa using this
  · have h2 := laidMet.tail (laidMet.tail h'.1)
    rw [pow_data] at h2
    exact Lib.tabIs_of_head globPow tyPow Tryz.underlying207 Tryz.underlying194 ceU64 cePow h2
/-- The door's own heap meets the condition. -/
theorem door_met (os : Os) (args : Array Value) : laidMetH Tryz.prog Rows.parseTermsRow.laid ((World.doorLaid Tryz.prog 31 os).forCall (fun _ _ => 0) ⟨#[], args, []⟩).memory :=
  laidMetH_of_parts3 (fuel := 8) (laidMet_of_run' 8 (by kernel_rfl) (by kernel_rfl)) (by kernel_rfl) (by kernel_rfl)
end Go.Proofs.YtklfnphkepfmaaaGreatDoor
