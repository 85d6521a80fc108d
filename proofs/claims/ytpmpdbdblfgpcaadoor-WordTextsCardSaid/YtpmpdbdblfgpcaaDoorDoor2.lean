/- What the rows' condition on package-level variables gives the texts of words, and that the program's own start meets it. -/
import Derived.Test.YtpmpdbdblfgpcaaDoorRows
import Derived.Test.YtpmpdbdblfgpcaaDoorReady
import Derived.Test.YtpmpdbdblfgpcaaDoorStrs
import Derived.Stop.LaidErr
import Derived.ProofKit
import Derived.LaidMore
import Derived.OpenShut
import Derived.Stop.Joined
namespace Go.Proofs.YtpmpdbdblfgpcaaDoor
open Go.ChangeShapes Go.WideShapes Go.ChangeAt Go.RowKit

theorem own2 : ownKnob Tryd.prog.godebug = none := by kernel_rfl
theorem tyLab : (Tryd.prog.globals[0]?).map (·.type) = some 57 := by kernel_rfl
theorem tyPow : (Tryd.prog.globals[1]?).map (·.type) = some 82 := by kernel_rfl
theorem tySyn : (Tryd.prog.globals[3]?).map (·.type) = some 25 := by kernel_rfl
theorem tyRan : (Tryd.prog.globals[4]?).map (·.type) = some 25 := by kernel_rfl
theorem ceStr : Tryd.prog.cellsOf 9 = 1 := by kernel_rfl
theorem ceLab : Tryd.prog.cellsOf 57 = 6 := by kernel_rfl
theorem ceU64 : Tryd.prog.cellsOf 23 = 1 := by kernel_rfl
theorem cePow : Tryd.prog.cellsOf 82 = 20 := by kernel_rfl
theorem ceErr : Tryd.prog.cellsOf 100 = 1 := by kernel_rfl
theorem star : "*" ++ "errors.errorString" = "*errors.errorString" := by decide
theorem rowErr (u : TypeId) (h : Tryd.prog.typeName? 3 u = some "*errors.errorString") : u = 98 :=
  typeName_ptr_named (nm := "errors.errorString") (by rw [star]; kernel_rfl) (by kernel_rfl) (by decide) u (by rw [star]; exact h)
theorem pow_data : (Rows.laid_internal_strconv_uint64pow10 : DataW Unit) = Lib.tabData .u64 Lib.pow10Tab := by kernel_rfl
theorem ready_of_laid {W : World} (h : laidMetH Tryd.prog Rows.wordThereRow.laid W) : Ready W := by
  rw [MakeChecks.laidMetH_plain _ _ _ (by kernel_rfl)] at h
  have h2 := tail_of_laid (tail_of_laid h)
  have h3 := tail_of_laid h2
  have h4 := tail_of_laid h3
  have h5 := tail_of_laid h4
  rw [pow_data] at h2
  have t2 := Lib.tabIs_of_head globPow tyPow Tryd.underlying82 Tryd.underlying23 ceU64 cePow h2
  obtain ⟨a3, s3, v3, -, -, -⟩ := laid_sentinel h3 globRan tyRan Tryd.underlying25 rowErr Tryd.underlying98 Tryd.underlying100 rfl rfl Tryd.underlying9 ceErr ceStr
  obtain ⟨a4, s4, v4, -, -, -⟩ := laid_sentinel h4 globSyn tySyn Tryd.underlying25 rowErr Tryd.underlying98 Tryd.underlying100 rfl rfl Tryd.underlying9 ceErr ceStr
  have v5 := strs_of_head (zs := labBytes) globLab tyLab Tryd.underlying57 Tryd.underlying9 ceStr ceLab h5
  exact ⟨v5, t2, ⟨_, _, v4⟩, ⟨_, _, v3⟩⟩
/-- The door's own heap meets the condition. -/
theorem door_met2 (os : Os) (args : Array Value) : laidMetH Tryd.prog Rows.wordThereRow.laid ((World.doorLaid Tryd.prog 67 os).forCall (fun _ _ => 0) ⟨#[], args, []⟩).memory :=
  laidMetH_of_parts3 (fuel := 8) (laidMet_of_run' 8 (by kernel_rfl) (by kernel_rfl)) (by kernel_rfl) (by kernel_rfl)
end Go.Proofs.YtpmpdbdblfgpcaaDoor
