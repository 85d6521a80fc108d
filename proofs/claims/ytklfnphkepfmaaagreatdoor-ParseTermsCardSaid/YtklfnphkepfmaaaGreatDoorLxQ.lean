/- quoted of package lex. -/
import Derived.Test.YtklfnphkepfmaaaGreatDoorLxTok2
import Derived.Maps.AppendAt
import Derived.Laws.AppendOwnNone
import Derived.Laws.IdiomStrings
namespace Go.Proofs.YtklfnphkepfmaaaGreatDoor
open Go.RowKit

theorem infoB : (Tryz.prog.info? 5).map (fun i => (i.zero, i.size, i.bytes)) = some (some (.int .u8 0), 1, 1) := by kernel_rfl
/-- Bytes as cells. -/
def bcells (l : List UInt8) : List Value := l.map fun b => Value.int .u8 (b.toNat : Int)
theorem bcells_snoc (l : List UInt8) (b : UInt8) : bcells (l ++ [b]) = bcells l ++ [Value.int .u8 (b.toNat : Int)] := by simp [bcells]
theorem bcells_length (l : List UInt8) : (bcells l).length = l.length := by simp [bcells]
/-- A row of its own, told by a slice. -/
theorem own_shape {w : World} {B : Nat} {e : TypeId} {s : Nat} {v : Value} {n : Nat} {xs : List Value} (h : w.ownsRow B e s v n xs) : ∃ ao c, v = .slice ao n c := by
  rcases h.2 with ⟨rfl, rfl⟩ | ⟨g, cap, cur, rfl, _⟩
  · exact ⟨none, 0, rfl⟩
  · exact ⟨_, _, rfl⟩
/-- The result's block and what lies below, behind an append to a row that lies above. -/
theorem row_next {w wr w1 : World} {o o' : Obj} {e : TypeId} {v : Value} {n : Nat} {xs : List Value} (hrow : wr.ownsRow (w.heap.size + 1) e 1 v n xs) (hB : Below w.heap.size w wr) (hq : wr.heap[w.heap.size]? = some o') (hg : (wr.alloc o).grownBy w1 v.ownBlock) :
    Below w.heap.size w w1 ∧ w1.heap[w.heap.size]? = some o' := by
  refine ⟨(hB.alloc hB.size o).grown hg (by have := hB.size; simp; omega) (fun k e => by have := (hrow.lt k e).1; omega), ?_⟩
  have hl := lt_of_block hq
  rw [hg.block _ (by simp; omega) (fun e => by have := (hrow.lt _ e.symm).1; omega), Below.heap_alloc _ _ _ hl]
  exact hq
/-- 'string(name)'. -/
theorem conv_row {w : World} {B : Nat} {v : Value} {l : List UInt8} (h : w.ownsRow B 5 1 v l.length (bcells l)) (hl : 1 ≤ l.length) : (convert 49 9 v).run Tryz.prog w = .ok (.string ⟨l.toArray⟩) w := by
  have h0 := h
  rcases h.2 with ⟨_, hn⟩ | ⟨g, cap, cur, rfl, _⟩
  · omega
  · refine run_convert_bytes_back w _ _ 5 ⟨g, 0, none⟩ cap l Tryz.underlying49 Tryz.underlying5 Tryz.underlying9 (fun j hj => ?_)
    have hc := h0.cellAt j (by omega)
    rw [Addr.add_lit, Nat.zero_add, hc]
    simp [bcells, hj]
end Go.Proofs.YtklfnphkepfmaaaGreatDoor
