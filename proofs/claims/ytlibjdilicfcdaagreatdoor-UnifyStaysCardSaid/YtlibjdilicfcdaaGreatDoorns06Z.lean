/- What Pack of package word does where the tag may have the value. -/
import Derived.RangeFuncBox
import Derived.RangeFuncLeaves
import Derived.RangeFuncCalls
import Derived.Shelf.Abstract
import Derived.OwnWalkIn
import Derived.TacticsInMore
import Derived.LoopNIn
import Derived.LoopIn
import Derived.Test.YtlibjdilicfcdaaGreatDoorns05Z
namespace Go.Proofs.YtlibjdilicfcdaaGreatDoor
set_option maxRecDepth 100000
open Go.RowKit
theorem ret_pair {a b : Int} {v : Value} (h : a = b) : Ending.returned (.tuple #[.int .u64 a, v]) = .returned (.tuple #[.int .u64 b, v]) := by rw [h]
theorem or_word (a b : Int) (h0 : 0 ≤ a) (h1 : a ≤ 5) : bits .or .u64 (IntKind.u64.wrap (IntKind.u64.wrap b * 8)) a = wordOf a b := by
  have hw : IntKind.u64.wrap (IntKind.u64.wrap b * 8) = (b * 8) % 18446744073709551616 := by
    rw [IntKind.wrap_u64, IntKind.wrap_u64]; omega
  rw [hw, bits_join .u64 64 (by decide) wraps64u 3 _ a (by omega) (by omega) (by omega) h0 (by omega) (by omega)]
  unfold wordOf; omega
set_option maxHeartbeats 400000 in
theorem pack_ok (a b : Int) (w : World) (hf : fitsB a b = true) :
    Calls Tryz.prog 125 #[.int .i64 a, .int .i64 b] w fun e w' => e = .returned (.tuple #[.int .u64 (wordOf a b), .nilIface]) ∧ w' = w := by
  have hb := fits_bd a b hf
  have ht := fits_tag a b hf
  have H : Hid (bits .or .u64 (IntKind.u64.wrap (IntKind.u64.wrap b * 8)) a = wordOf a b) := or_word a b ht.1 ht.2
  go_enter Tryz.func125, Tryz.ntmps125
  go_wp2_with (go_at_call 150; refine (fits_any _ _ _ (by omega) (by omega)).mono ?_; rintro e w' ⟨rfl, rfl⟩)
  go_ret2
  exact ⟨ret_pair H.out, rfl⟩
end Go.Proofs.YtlibjdilicfcdaaGreatDoor

namespace Go.Proofs.YtlibjdilicfcdaaGreatDoor
set_option maxRecDepth 100000
open Go.RowKit Go.Shelf
attribute [local go_sem] Oper.semAt_some
def upto (l : List ByteArray) (k : Nat) : List (Nat × ByteArray) := (List.range k).map (fun j => (j, l.getD j ⟨#[]⟩))
theorem upto_succ (l : List ByteArray) (k : Nat) : upto l (k + 1) = upto l k ++ [(k, l.getD k ⟨#[]⟩)] := by simp [upto, List.range_succ]
theorem upto_length (l : List ByteArray) (k : Nat) : (upto l k).length = k := by simp [upto]
theorem upto_texts (l : List ByteArray) {k : Nat} (hk : k ≤ l.length) : (upto l k).map Prod.snd = l.take k := by
  apply List.ext_getElem
  · simp [upto, hk]
  · intro i h1 h2
    have : i < l.length := by simp [upto] at h1; omega
    simp [upto, List.getD, this]
set_option maxHeartbeats 1000000 in
theorem sall_any (v : Value) (w : World) (hv : ∃ ao n c, v = .slice ao n c) :
    Calls Tryz.prog 117 #[v] w fun e w' => e = .returned (.func (.func 147) #[] #[.pointer (some ⟨w.heap.size, 0, none⟩)]) ∧ w' = w.alloc (.cells #[v] 94) := by
  obtain ⟨ao, n, c, rfl⟩ := hv
  go_enter Tryz.func117, Tryz.ntmps117
  go_wp2
  go_ret
  exact ⟨rfl, rfl⟩
set_option maxHeartbeats 1000000 in
theorem n_all_any {w : World} {B p q : Nat} {v : Value} {l : List ByteArray} (h : Tb w B p v q l) :
    Calls Tryz.prog 79 #[.pointer (some ⟨p, 0, none⟩)] w fun e w' => e = .returned (.func (.func 147) #[] #[.pointer (some ⟨w.heap.size, 0, none⟩)]) ∧ w' = w.alloc (.cells #[v] 94) := by
  obtain ⟨ao, cap, rfl, _⟩ := h.val
  have c0 := h.c0
  go_enter Tryz.func79, Tryz.ntmps79
  go_wp2_with (go_at_call 117; refine (sall_any _ _ ⟨_, _, _, rfl⟩).mono ?_; rintro e w' ⟨rfl, rfl⟩)
  go_ret
  exact ⟨rfl, rfl⟩
end Go.Proofs.YtlibjdilicfcdaaGreatDoor
