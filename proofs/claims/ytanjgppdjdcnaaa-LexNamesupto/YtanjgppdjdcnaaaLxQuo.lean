/- isWord, IsVar and Quote of package lex; IsVar and Quote of the reference. -/
import Derived.Test.YtanjgppdjdcnaaaLxR
import Derived.Test.YtanjgppdjdcnaaaLxR2
import Derived.Test.YtanjgppdjdcnaaaLxQ
import Derived.Shelf.Strings.Builder1
namespace Go.Proofs.Ytanjgppdjdcnaaa
open Go.RowKit

/-- The shelf's numbers for a Builder's WriteByte and String, at this program. -/
def wbRen : Go.Shelf.Ren := ⟨fun n => if n = 167 then 30 else if n = 240 then 48 else if n = 276 then 53 else n, fun n => if n = 72 then 61 else if n = 70 then 58 else if n = 37 then 59 else if n = 20 then 20 else if n = 75 then 25 else if n = 80 then 64 else if n = 164 then 74 else n, fun n => n⟩
theorem wbLays : Lays.n167 Try.prog wbRen :=
  ⟨(by kernel_rfl), (by kernel_rfl), (by kernel_rfl), (by kernel_rfl),
    (by kernel_rfl), (fun _ => by kernel_rfl), (fun _ => by kernel_rfl), (fun _ => by kernel_rfl), (by kernel_rfl), (fun _ => by kernel_rfl), (fun _ => by kernel_rfl), (fun _ => by kernel_rfl),
    (by kernel_rfl), (fun _ => by kernel_rfl), (fun _ => by kernel_rfl), (fun _ => by kernel_rfl), (by kernel_rfl), (fun _ => by kernel_rfl), (fun _ => by kernel_rfl), (fun _ => by kernel_rfl),
    (by kernel_rfl), (fun _ => by kernel_rfl), (fun _ => by kernel_rfl), (fun _ => by kernel_rfl), (by kernel_rfl), (fun _ => by kernel_rfl), (fun _ => by kernel_rfl), (fun _ => by kernel_rfl),
    (by kernel_rfl), (fun _ => by kernel_rfl), (fun _ => by kernel_rfl), (fun _ => by kernel_rfl), (by kernel_rfl), (fun _ => by kernel_rfl), (fun _ => by kernel_rfl), (fun _ => by kernel_rfl),
    (by kernel_rfl), (fun _ => by kernel_rfl), (fun _ => by kernel_rfl), (fun _ => by kernel_rfl), (by kernel_rfl), (fun _ => by kernel_rfl), (fun _ => by kernel_rfl), (fun _ => by kernel_rfl)⟩
theorem wbExtra : Builder.Extra Try.prog wbRen where
  sizeBuilder := by kernel_rfl
  liesBuilder := by kernel_rfl
  t5 := by kernel_rfl
  a5 := fun _ => by kernel_rfl
  z5 := fun _ => by kernel_rfl
  v5 := fun _ => by kernel_rfl
  infoByte := by kernel_rfl
  cellsByte := by kernel_rfl
  sizeByte := by kernel_rfl
  neB5 := by decide
def bsRen : Go.Shelf.Ren := ⟨fun _ => 32, fun n => if n = 72 then 61 else if n = 70 then 58 else if n = 37 then 59 else if n = 127 then 71 else n, fun n => n⟩
theorem bsLays : Lays.n169 Try.prog bsRen :=
  ⟨(by kernel_rfl), (by kernel_rfl),
    (by kernel_rfl), (fun _ => by kernel_rfl), (fun _ => by kernel_rfl), (fun _ => by kernel_rfl), (by kernel_rfl), (fun _ => by kernel_rfl), (fun _ => by kernel_rfl), (fun _ => by kernel_rfl),
    (by kernel_rfl), (fun _ => by kernel_rfl), (fun _ => by kernel_rfl), (fun _ => by kernel_rfl), (by kernel_rfl), (fun _ => by kernel_rfl), (fun _ => by kernel_rfl), (fun _ => by kernel_rfl),
    (by kernel_rfl), (fun _ => by kernel_rfl), (fun _ => by kernel_rfl), (fun _ => by kernel_rfl), (by kernel_rfl), (fun _ => by kernel_rfl), (fun _ => by kernel_rfl), (fun _ => by kernel_rfl),
    (by kernel_rfl), (fun _ => by kernel_rfl), (fun _ => by kernel_rfl), (fun _ => by kernel_rfl)⟩
theorem bsExtra : Builder.Extra Try.prog bsRen where
  sizeBuilder := by kernel_rfl
  liesBuilder := by kernel_rfl
  t5 := by kernel_rfl
  a5 := fun _ => by kernel_rfl
  z5 := fun _ => by kernel_rfl
  v5 := fun _ => by kernel_rfl
  infoByte := by kernel_rfl
  cellsByte := by kernel_rfl
  sizeByte := by kernel_rfl
  neB5 := by decide
/-- A builder's text so far. -/
abbrev Bd (w : World) (B b : Nat) (l : List UInt8) : Prop := Lib.IsBuilder 61 5 B b (Lib.byteCells l) w
theorem writeByte_any {w : World} {B b : Nat} {l : List UInt8} (h : Bd w B b l) (c : UInt8) (hl : l.length + 1 ≤ 140737488355328) (hB : B ≤ w.heap.size) :
    Calls Try.prog 30 #[.pointer (some ⟨b, 0, none⟩), .int .u8 (c.toNat : Int)] w fun e w' => e = .returned .nilIface ∧ Bd w' B b (l ++ [c]) ∧ Below B w w' := by
  refine (Any.Builder_WriteByte wbLays wbExtra B b (Lib.byteCells l) (c.toNat : Int) w h (by rw [Lib.byteCells_length]; exact hl) hB).mono ?_
  rintro e w' ⟨rfl, h1, h2⟩
  refine ⟨rfl, ?_, h2⟩
  show Lib.IsBuilder _ _ _ _ (Lib.byteCells (l ++ [c])) _
  rw [Lib.byteCells_append]
  exact Or.inr h1
theorem bstring_any {w : World} {B b : Nat} {l : List UInt8} (h : Bd w B b l) (hl : l ≠ []) :
    Calls Try.prog 32 #[.pointer (some ⟨b, 0, none⟩)] w fun e w' => e = .returned (.string ⟨l.toArray⟩) ∧ Below B w w' :=
  Any.Builder_String bsLays bsExtra B b l w h hl
end Go.Proofs.Ytanjgppdjdcnaaa
