/- The six labels of package word out of the rows' condition, and that the program's own start meets it. -/
import Derived.Test.YtpmpdbdblfgpcabDoorRows
import Derived.Test.YtpmpdbdblfgpcabDoorStrs
import Derived.ProofKit
import Derived.LaidMore
import Derived.OpenShut
import Derived.Stop.Joined
namespace Go.Proofs.YtpmpdbdblfgpcabDoor
open Go.ChangeShapes Go.WideShapes Go.ChangeAt Go.RowKit

theorem own : ownKnob Tryd.prog.godebug = none := by kernel_rfl
/-- The six labels of package word, where they lie. -/
def LabelsAt (W : World) : Prop := ∀ i : Nat, ∀ s : List UInt8, ([[114, 101, 102], [97, 116, 111, 109], [105, 110, 116], [115, 116, 114], [102, 117, 110], [102, 119, 100]] : List (List UInt8))[i]? = some s → W.cell? ⟨0, i, none⟩ = some (.string ⟨s.toArray⟩)
theorem gLab : Tryd.prog.globalNamed "tendril/word.labels" = some 0 := by kernel_rfl
theorem tLab : (Tryd.prog.globals[0]?).map (·.type) = some 41 := by kernel_rfl
theorem cStr : Tryd.prog.cellsOf 9 = 1 := by kernel_rfl
theorem cLab : Tryd.prog.cellsOf 41 = 6 := by kernel_rfl
theorem labels_of_laid {W : World} (h : laidMetH Tryd.prog Rows.wordHeadsRow.laid W) : LabelsAt W := by
  rw [MakeChecks.laidMetH_plain _ _ _ (by kernel_rfl)] at h
  have h3 := tail_of_laid (tail_of_laid (tail_of_laid h))
  have hv := strs_of_head (zs := [[114, 101, 102], [97, 116, 111, 109], [105, 110, 116], [115, 116, 114], [102, 117, 110], [102, 119, 100]]) gLab tLab Tryd.underlying41 Tryd.underlying9 cStr cLab h3
  intro i s hs
  have := World.var?_cell gLab hv i
  rw [this, List.getElem?_toArray, List.getElem?_map, hs]
  rfl

/-- The door's own heap meets the condition. -/
theorem door_met (os : Os) (args : Array Value) : laidMetH Tryd.prog Rows.wordHeadsRow.laid ((World.doorLaid Tryd.prog 29 os).forCall (fun _ _ => 0) ⟨#[], args, []⟩).memory :=
  laidMetH_of_parts3 (fuel := 8) (laidMet_of_run' 8 (by kernel_rfl) (by kernel_rfl)) (by kernel_rfl) (by kernel_rfl)
end Go.Proofs.YtpmpdbdblfgpcabDoor
