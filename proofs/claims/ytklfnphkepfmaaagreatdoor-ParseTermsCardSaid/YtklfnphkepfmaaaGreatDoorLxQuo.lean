/- isWord, IsVar and Quote of package lex; IsVar and Quote of the reference. -/
import Derived.Test.YtklfnphkepfmaaaGreatDoorLxR
import Derived.Test.YtklfnphkepfmaaaGreatDoorLxR2
import Derived.Test.YtklfnphkepfmaaaGreatDoorLxQ
import Derived.Shelf.Strings.Builder1
namespace Go.Proofs.YtklfnphkepfmaaaGreatDoor
open Go.RowKit

/-- The shelf's numbers for a Builder's WriteByte and String, at this program. -/
def wbRen : Go.Shelf.Ren := ⟨fun n => if n = 167 then 51 else if n = 240 then 88 else if n = 276 then 116 else n, fun n => if n = 72 then 91 else if n = 70 then 89 else if n = 37 then 49 else if n = 20 then 20 else if n = 75 then 29 else if n = 80 then 93 else if n = 164 then 147 else n, fun n => n⟩
theorem wbLays : Lays.n167 Tryz.prog wbRen :=
  ⟨(by kernel_rfl), (by kernel_rfl), (by kernel_rfl), (by kernel_rfl),
    (by kernel_rfl), (fun _ => by kernel_rfl), (fun _ => by kernel_rfl), (fun _ => by kernel_rfl), (by kernel_rfl), (fun _ => by kernel_rfl), (fun _ => by kernel_rfl), (fun _ => by kernel_rfl),
    (by kernel_rfl), (fun _ => by kernel_rfl), (fun _ => by kernel_rfl), (fun _ => by kernel_rfl), (by kernel_rfl), (fun _ => by kernel_rfl), (fun _ => by kernel_rfl), (fun _ => by kernel_rfl),
    (by kernel_rfl), (fun _ => by kernel_rfl), (fun _ => by kernel_rfl), (fun _ => by kernel_rfl), (by kernel_rfl), (fun _ => by kernel_rfl), (fun _ => by kernel_rfl), (fun _ => by kernel_rfl),
    (by kernel_rfl), (fun _ => by kernel_rfl), (fun _ => by kernel_rfl), (fun _ => by kernel_rfl), (by kernel_rfl), (fun _ => by kernel_rfl), (fun _ => by kernel_rfl), (fun _ => by kernel_rfl),
    (by kernel_rfl), (fun _ => by kernel_rfl), (fun _ => by kernel_rfl), (fun _ => by kernel_rfl), (by kernel_rfl), (fun _ => by kernel_rfl), (fun _ => by kernel_rfl), (fun _ => by kernel_rfl)⟩
theorem wbExtra : Builder.Extra Tryz.prog wbRen where
  sizeBuilder := by kernel_rfl
  liesBuilder := by kernel_rfl
  t5 := by kernel_rfl
  a5 := fun _ => by kernel_rfl
  z5 := fun _ => by kernel_rfl
  v5 := fun _ => by kernel_rfl
  infoByte := by kernel_rfl
  cellsByte := by kernel_rfl
  sizeByte := by kernel_rfl
  neB5 := by decide
def bsRen : Go.Shelf.Ren := ⟨fun _ => 38, fun n => if n = 72 then 91 else if n = 70 then 89 else if n = 37 then 49 else if n = 127 then 126 else n, fun n => n⟩
theorem bsLays : Lays.n169 Tryz.prog bsRen :=
  ⟨(by kernel_rfl), (by kernel_rfl),
    (by kernel_rfl), (fun _ => by kernel_rfl), (fun _ => by kernel_rfl), (fun _ => by kernel_rfl), (by kernel_rfl), (fun _ => by kernel_rfl), (fun _ => by kernel_rfl), (fun _ => by kernel_rfl),
    (by kernel_rfl), (fun _ => by kernel_rfl), (fun _ => by kernel_rfl), (fun _ => by kernel_rfl), (by kernel_rfl), (fun _ => by kernel_rfl), (fun _ => by kernel_rfl), (fun _ => by kernel_rfl),
    (by kernel_rfl), (fun _ => by kernel_rfl), (fun _ => by kernel_rfl), (fun _ => by kernel_rfl), (by kernel_rfl), (fun _ => by kernel_rfl), (fun _ => by kernel_rfl), (fun _ => by kernel_rfl),
    (by kernel_rfl), (fun _ => by kernel_rfl), (fun _ => by kernel_rfl), (fun _ => by kernel_rfl)⟩
theorem bsExtra : Builder.Extra Tryz.prog bsRen where
  sizeBuilder := by kernel_rfl
  liesBuilder := by kernel_rfl
  t5 := by kernel_rfl
  a5 := fun _ => by kernel_rfl
  z5 := fun _ => by kernel_rfl
  v5 := fun _ => by kernel_rfl
  infoByte := by kernel_rfl
  cellsByte := by kernel_rfl
  sizeByte := by kernel_rfl
  neB5 := by decide
/-- A builder's text so far. -/
abbrev Bd (w : World) (B b : Nat) (l : List UInt8) : Prop := Lib.IsBuilder 91 5 B b (Lib.byteCells l) w
theorem writeByte_any {w : World} {B b : Nat} {l : List UInt8} (h : Bd w B b l) (c : UInt8) (hl : l.length + 1 ≤ 140737488355328) (hB : B ≤ w.heap.size) :
    Calls Tryz.prog 51 #[.pointer (some ⟨b, 0, none⟩), .int .u8 (c.toNat : Int)] w fun e w' => e = .returned .nilIface ∧ Bd w' B b (l ++ [c]) ∧ Below B w w' := by
  refine (Any.Builder_WriteByte wbLays wbExtra B b (Lib.byteCells l) (c.toNat : Int) w h (by rw [Lib.byteCells_length]; exact hl) hB).mono ?_
  rintro e w' ⟨rfl, h1, h2⟩
  refine ⟨rfl, ?_, h2⟩
  show Lib.IsBuilder _ _ _ _ (Lib.byteCells (l ++ [c])) _
  rw [Lib.byteCells_append]
  exact Or.inr h1
theorem bstring_any {w : World} {B b : Nat} {l : List UInt8} (h : Bd w B b l) (hl : l ≠ []) :
    Calls Tryz.prog 38 #[.pointer (some ⟨b, 0, none⟩)] w fun e w' => e = .returned (.string ⟨l.toArray⟩) ∧ Below B w w' :=
  Any.Builder_String bsLays bsExtra B b l w h hl
end Go.Proofs.YtklfnphkepfmaaaGreatDoor
