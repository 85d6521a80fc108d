/- Package cells: what is put down is read as it was. -/
import Derived.Deep.RegionWith
import Derived.Test.YtlibjdilicfcdaaGreatDoornb31Z
import Derived.Test.YtlibjdilicfcdaaGreatDoornb33Z
import Derived.Test.YtlibjdilicfcdaaGreatDoornb08Z
namespace Go.Proofs.YtlibjdilicfcdaaGreatDoor
set_option maxRecDepth 100000
open Go.RowKit
theorem getD_mapI (f : Int → Int) {L : List Int} {i : Nat} (h : i < L.length) : (L.map f).getD i 0 = f (L.getD i 0) := by simp [List.getD, h]
end Go.Proofs.YtlibjdilicfcdaaGreatDoor

namespace Go.Proofs.YtlibjdilicfcdaaGreatDoor
set_option maxRecDepth 100000
open Go.RowKit
def pcells (l : List (Nat × Nat)) : List Value := l.flatMap fun p => [.int .i64 (p.1 : Int), .int .i64 (p.2 : Int)]
theorem pcells_snoc (l : List (Nat × Nat)) (p : Nat × Nat) : pcells (l ++ [p]) = pcells l ++ [.int .i64 (p.1 : Int), .int .i64 (p.2 : Int)] := by simp [pcells]
theorem infoPr : (Tryz.prog.info? 42).map (fun i => (i.zero, i.size, i.bytes)) = some (some (.agg #[.int .i64 0, .int .i64 0]), 2, 16) := by kernel_rfl
end Go.Proofs.YtlibjdilicfcdaaGreatDoor

namespace Go.Proofs.YtlibjdilicfcdaaGreatDoor
set_option maxRecDepth 100000
open Go.RowKit
abbrev fSC : ByteArray := ⟨#[102]⟩
end Go.Proofs.YtlibjdilicfcdaaGreatDoor
