/- Package cells: the graph that is read, as plain data. -/
import Derived.Deep.RegionWith
import Derived.Test.YtlibjdilicfcdaaGreatDoorns21Z
import Derived.Test.YtlibjdilicfcdaaGreatDoorns15Z
import Derived.Test.YtlibjdilicfcdaaGreatDoorns09Z
import Derived.Test.YtlibjdilicfcdaaGreatDoorns03Z
namespace Go.Proofs.YtlibjdilicfcdaaGreatDoor
set_option maxRecDepth 100000
open Go.RowKit
def ndT (l : List Int) (ns : List ByteArray) (TS : List Int) (t : Int) : Nd := ⟨tdK t, tdS l ns t, tdN t, (tdL l t).map (fun c => posF TS (tmC l c))⟩
section
variable {l : List Int} {ns : List ByteArray} {TS : List Int} {V : Nat → Bool}
theorem args_ok (hs : Snd l V) {t : Int} (ht : Tw l ns t) : ∀ c ∈ tdL l t, 0 ≤ c ∧ c < (l.length : Int) := fun c hc => by
  unfold tdL at hc
  split at hc
  · rename_i h3
    obtain ⟨_, hy, h4, hg, _⟩ := ht.str h3
    have h4' : wdN l (valOf t).toNat % 8 = 4 := h4
    have hfv := fun_val (wdN l (valOf t).toNat) hg h4'
    obtain ⟨a1, _⟩ := hs.args _ hy h4
    unfold rchL at hc
    rw [if_neg (by omega), if_pos h4'] at hc
    obtain ⟨i, hi, rfl⟩ := List.mem_map.1 hc
    rw [List.mem_range] at hi
    unfold arN' vlN at a1
    omega
  · cases hc
theorem args_eight {t : Int} (ht : Tw l ns t) : (tdL l t).length ≤ 8 := by
  unfold tdL
  split
  · rename_i h3
    obtain ⟨_, hy, h4, hg, _⟩ := ht.str h3
    have h4' : wdN l (valOf t).toNat % 8 = 4 := h4
    have hfv := fun_val (wdN l (valOf t).toNat) hg h4'
    unfold rchL
    rw [if_neg (by omega), if_pos h4']
    simp
    omega
  · exact Nat.zero_le _
end
end Go.Proofs.YtlibjdilicfcdaaGreatDoor

namespace Go.Proofs.YtlibjdilicfcdaaGreatDoor
set_option maxRecDepth 100000
open Go.RowKit
section
variable {l : List Int} {ns : List ByteArray} {cs TS : List Int} {V : Nat → Bool}
theorem posF_in {x : Int} (h : x ∈ TS) : 0 ≤ posF TS x ∧ posF TS x < (TS.length : Int) := by
  unfold posF
  rw [if_pos h]
  have := pos_lt h
  omega
end
end Go.Proofs.YtlibjdilicfcdaaGreatDoor

namespace Go.Proofs.YtlibjdilicfcdaaGreatDoor
set_option maxRecDepth 100000
open Go.RowKit
theorem blk2y {w : World} {q : Nat} {u0 u1 : Value} {T : TypeId} (h : w.heap[q]? = some (.cells #[u0, u1] T)) : (w.cell? ⟨q, 0, none⟩ = some u0 ∧ w.cell? ⟨q, 1, none⟩ = some u1) ∧ w.frozen? ⟨q, 0, none⟩ = false ∧ w.frozen? ⟨q, 1, none⟩ = false := by
  refine ⟨⟨?_, ?_⟩, ?_, ?_⟩ <;> simp [World.cell?, World.frozen?, h]
end Go.Proofs.YtlibjdilicfcdaaGreatDoor

namespace Go.Proofs.YtlibjdilicfcdaaGreatDoor
set_option maxRecDepth 100000
open Go.RowKit
def pcells (l : List (Nat × Nat)) : List Value := l.flatMap fun p => [.int .i64 (p.1 : Int), .int .i64 (p.2 : Int)]
theorem pcells_snoc (l : List (Nat × Nat)) (p : Nat × Nat) : pcells (l ++ [p]) = pcells l ++ [.int .i64 (p.1 : Int), .int .i64 (p.2 : Int)] := by simp [pcells]
theorem infoPr : (Tryz.prog.info? 42).map (fun i => (i.zero, i.size, i.bytes)) = some (some (.agg #[.int .i64 0, .int .i64 0]), 2, 16) := by kernel_rfl
end Go.Proofs.YtlibjdilicfcdaaGreatDoor
