/- Package cells: the words of a heap, read. -/
import Derived.Test.YtlibjdilicfcdaaGreatDoornu15Z
import Derived.Test.YtlibjdilicfcdaaGreatDoornu01Z
namespace Go.Proofs.YtlibjdilicfcdaaGreatDoor
set_option maxRecDepth 100000
open Go.RowKit
abbrev blkV (p : Nat) : Value := .agg #[.pointer (some ⟨p, 0, none⟩)]
def cellB (l : List Int) (n : Int) : Bool := inB n l.length && decide (l.getD n.toNat 0 % 8 ≠ 4) && decide (l.getD n.toNat 0 % 8 ≠ 5)
section
variable {w : World} {B p : Nat} {m : Int} {v : Value} {l : List Int}
set_option maxHeartbeats 800000 in
theorem bword_ok (h : Ar 159 w B p m v l) (k : Nat) (hk : k < l.length) :
    Calls Tryz.prog 66 #[blkV p, .int .i64 (k : Int)] w fun e w' => e = .returned (.int .u64 (l.getD k 0)) ∧ Below w.heap.size w w' := by
  have hb := hid (below_alloc w (.cells #[.pointer (some ⟨p, 0, none⟩)] 73))
  have hld := hid (load_ok (h.below hb.out) k hk)
  generalize l.getD k 0 = x at *
  clear h hk
  go_enter Tryz.func66, Tryz.ntmps66
  go_wp2_with (go_at_call 97; refine hld.out.mono ?_; rintro e w1 ⟨rfl, rfl⟩)
  go_ret
  exact ⟨rfl, hb.out⟩
set_option maxHeartbeats 800000 in
theorem iscell_any (h : Ar 159 w B p m v l) (n : Int) :
    Calls Tryz.prog 62 #[blkV p, .int .i64 n] w fun e w' => e = .returned (.bool (cellB l n)) ∧ Below w.heap.size w w' := by
  have hb := hid (below_alloc w (.cells #[.pointer (some ⟨p, 0, none⟩)] 73))
  by_cases hi : inB n l.length = true
  · have hn : 0 ≤ n ∧ n < (l.length : Int) := by simpa [inB] using hi
    obtain ⟨k, rfl⟩ : ∃ k : Nat, n = (k : Int) := ⟨n.toNat, by omega⟩
    have hk : k < l.length := by omega
    have hld := hid (load_ok (h.below hb.out) k hk)
    have hr := h.rng (l.getD k 0) (by simp [List.getD, hk])
    have hc : Hid (cellB l (k : Int) = (decide (l.getD k 0 % 8 ≠ 4) && decide (l.getD k 0 % 8 ≠ 5))) := show _ = _ by
      unfold cellB
      rw [hi, Bool.true_and, Int.toNat_natCast]
    generalize cellB l (k : Int) = C at *
    generalize l.getD k 0 = x at *
    have htg := hid (fun w => tag_any x w hr.1 hr.2)
    clear hi hn hk h
    by_cases h4 : x % 8 = 4
    · have hC : Hid (C = false) := show _ = _ by rw [hc.out]; simp [h4]
      have d0 : (x % 8 != 4) = false := by simp [h4]
      clear hc
      generalize x % 8 = y at *
      go_enter Tryz.func62, Tryz.ntmps62
      go_wp2_with (first
        | (go_at_call 97; refine hld.out.mono ?_; rintro e w1 ⟨rfl, rfl⟩)
        | (go_at_call 98; refine (htg.out _).mono ?_; rintro e w1 ⟨rfl, rfl⟩))
      go_ret
      exact ⟨ret_bool hC.out.symm, hb.out⟩
    · by_cases h5 : x % 8 = 5
      · have hC : Hid (C = false) := show _ = _ by rw [hc.out]; simp [h5]
        have d0 : (x % 8 != 4) = true := by simp [h4]
        have d1 : (x % 8 != 5) = false := by simp [h5]
        clear hc
        generalize x % 8 = y at *
        go_enter Tryz.func62, Tryz.ntmps62
        go_wp2_with (first
          | (go_at_call 97; refine hld.out.mono ?_; rintro e w1 ⟨rfl, rfl⟩)
          | (go_at_call 98; refine (htg.out _).mono ?_; rintro e w1 ⟨rfl, rfl⟩))
        go_ret
        exact ⟨ret_bool hC.out.symm, hb.out⟩
      · have hC : Hid (C = true) := show _ = _ by rw [hc.out]; simp [h4, h5]
        have d0 : (x % 8 != 4) = true := by simp [h4]
        have d1 : (x % 8 != 5) = true := by simp [h5]
        clear hc
        generalize x % 8 = y at *
        go_enter Tryz.func62, Tryz.ntmps62
        go_wp2_with (first
          | (go_at_call 97; refine hld.out.mono ?_; rintro e w1 ⟨rfl, rfl⟩)
          | (go_at_call 98; refine (htg.out _).mono ?_; rintro e w1 ⟨rfl, rfl⟩))
        go_ret
        exact ⟨ret_bool hC.out.symm, hb.out⟩
  · have hi' : inB n l.length = false := by simpa using hi
    have hld := hid (load_no (h.below hb.out) n hi')
    have hC : Hid (cellB l n = false) := show _ = _ by unfold cellB; rw [hi', Bool.false_and, Bool.false_and]
    have hb2 := hid (hb.out.alloc (by simp) (faultAtObj 23 n))
    clear h hi hi'
    go_enter Tryz.func62, Tryz.ntmps62
    go_wp2_with (go_at_call 97; refine hld.out.mono ?_; rintro e w1 ⟨rfl, rfl⟩)
    go_ret
    exact ⟨ret_bool hC.out.symm, hb2.out⟩
end
set_option maxHeartbeats 400000 in
theorem packed_ok (a b : Int) (w : World) (hf : fitsB a b = true) :
    Calls Tryz.prog 127 #[.int .i64 a, .int .i64 b] w fun e w' => e = .returned (.int .u64 (wordOf a b)) ∧ w' = w := by
  go_enter Tryz.func127, Tryz.ntmps127
  go_wp2_with (go_at_call 125; refine (pack_ok a b _ hf).mono ?_; rintro e w' ⟨rfl, rfl⟩)
  go_ret
  exact ⟨rfl, rfl⟩
set_option maxHeartbeats 400000 in
theorem cfault_any (c a : Int) (w : World) :
    Calls Tryz.prog 35 #[.int .i64 c, .int .i64 a] w fun e w' => e = .returned (.iface 84 (.pointer (some ⟨w.heap.size, 0, none⟩))) ∧ w' = w.alloc (faultAtObj c a) := by
  go_enter Tryz.func35, Tryz.ntmps35
  go_wp2
  go_ret
  exact ⟨rfl, rfl⟩
end Go.Proofs.YtlibjdilicfcdaaGreatDoor

namespace Go.Proofs.YtlibjdilicfcdaaGreatDoor
set_option maxRecDepth 100000
open Go.RowKit
theorem Tryz.infoU : (Tryz.prog.info? 123).map (fun i => (i.zero, i.size, i.bytes)) = some (some (.int .u64 0), 1, 8) := by kernel_rfl
end Go.Proofs.YtlibjdilicfcdaaGreatDoor
