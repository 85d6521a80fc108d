/- What the small functions of package arena do, each at every argument; faults and the question whether an error is just a fault. -/
import Derived.Test.YtnoggmeffindbabGreatDoorKArMem
import Derived.Deep.QuietTactic
import Derived.BigQuiet
namespace Go.Proofs.YtnoggmeffindbabGreatDoor
open Go.RowKit

/-- Does a good word tell a place? -/
def tellsB (n : Int) : Bool := decide (n % 8 = 0 ∨ n % 8 = 3 ∨ n % 8 = 5)
/-- May a word stand where so many are allocated? -/
def mayB (n t : Int) : Bool := goodB n && (!tellsB n || decide (valOf n < t))
set_option maxRecDepth 100000 in
set_option maxHeartbeats 400000 in
theorem afault_any (c a : Int) (w : World) :
    Calls Tryz.prog 90 #[.int .i64 c, .int .i64 a] w fun e w' => e = .returned (.iface 126 (.pointer (some ⟨w.heap.size, 0, none⟩))) ∧ w' = w.alloc (faultAtObj c a) := by
  go_enter Tryz.func90, Tryz.ntmps90
  go_wp2
  go_ret
  exact ⟨rfl, rfl⟩
set_option maxRecDepth 100000 in
set_option maxHeartbeats 400000 in
theorem at_any (c a : Int) (w : World) :
    Calls Tryz.prog 31 #[.int .i64 c, .int .i64 a] w fun e w' => e = .returned (a_flt c a) ∧ Below w.heap.size w w' := by
  go_enter Tryz.func31, Tryz.ntmps31
  go_wp2
  exact bodyPost_ret (v := a_flt c a) (by simp [results, Tryz.results31, go_sem, a_flt]) rfl ⟨rfl, (Below.refl _ _).alloc (Nat.le_refl _) _⟩
/-- An error asked for the very pointer type that it has. -/
theorem a_assert_ptr {P : Program} (w : World) (t xT e : TypeId) (v : Value) (h : P.underlying t = some (.pointer e)) : (Instr.typeAssert (.iface t v) xT t true).run P w = .ok (.tuple #[v, .bool true]) w := by
  simp [Instr.typeAssert, run_underlying h, go_sem, Result.andThen]
set_option maxRecDepth 100000 in
set_option maxHeartbeats 400000 in
theorem a_is_no (a : Int) (w : World) :
    Calls Tryz.prog 25 #[.nilIface, a_flt 0 a] w fun e w' => e = .returned (.bool true) ∧ Below w.heap.size w w' := by
  go_enter Tryz.func25, Tryz.ntmps25
  go_wp2
  go_loop [0] (fun e => e = .nilIface) (fun _ => 0)
  case atStart => rfl
  case round =>
    subst hrel
    go_wp2
    go_ret
    exact ⟨rfl, (Below.refl _ _).alloc (Nat.le_refl _) _⟩
set_option maxRecDepth 100000 in
set_option maxRecDepth 100000 in
set_option maxHeartbeats 1000000 in
theorem a_is_yes (c a : Int) (b : Nat) (w : World) (hc : (c == 0) = false) (hb : w.heap[b]? = some (faultAtObj c a)) :
    Calls Tryz.prog 25 #[.iface 126 (.pointer (some ⟨b, 0, none⟩)), a_flt c a] w fun e w' => e = .returned (.bool true) ∧ Below w.heap.size w w' := by
  have hlt : b < w.heap.size := lt_of_block hb
  have h0 : w.cell? ⟨b, 0, none⟩ = some (.int .i64 c) := by simp [World.cell?, hb, faultAtObj]
  have h1 : w.cell? ⟨b, 1, none⟩ = some (.int .i64 a) := by simp [World.cell?, hb, faultAtObj]
  have h2 : w.cell? ⟨b, 2, none⟩ = some (.string ⟨#[]⟩) := by simp [World.cell?, hb, faultAtObj]
  have h3 : w.cell? ⟨b, 3, none⟩ = some .nilIface := by simp [World.cell?, hb, faultAtObj]
  clear hb
  have hta := fun (w : World) (v : Value) => a_assert_ptr (P := Tryz.prog) w 126 37 129 v Tryz.underlying126
  go_enter Tryz.func25, Tryz.ntmps25
  go_wp2
  go_loop [0] (fun e => e = .iface 126 (.pointer (some ⟨b, 0, none⟩))) (fun _ => 0)
  case atStart => rfl
  case round =>
    subst hrel
    go_wp2
    go_quiet (fail)
    go_wp2
    go_ret
    exact ⟨rfl, below_drewN ((Below.refl _ _).alloc (Nat.le_refl _) _) _⟩
theorem a_is_any {w : World} {e : Value} {c a : Int} (h : a_Err w e c a) :
    Calls Tryz.prog 25 #[e, a_flt c a] w fun e w' => e = .returned (.bool true) ∧ Below w.heap.size w w' := by
  rcases h with ⟨rfl, rfl⟩ | ⟨hc, b, rfl, hb⟩
  · exact a_is_no a w
  · exact a_is_yes c a b w (by simpa using hc) hb
set_option maxRecDepth 100000 in
set_option maxHeartbeats 1000000 in
theorem may_any (n t : Int) (w : World) (h0 : 0 ≤ n) (h1 : n ≤ 18446744073709551615) :
    Calls Tryz.prog 146 #[.int .u64 n, .int .i64 t] w fun e w' => e = .returned (.bool (mayB n t)) ∧ w' = w := by
  by_cases hg : goodB n = true
  · by_cases ht : n % 8 = 0 ∨ n % 8 = 3 ∨ n % 8 = 5
    · have hB : Hid (mayB n t = decide (valOf n < t)) := by simp [Hid, mayB, hg, tellsB, ht]
      go_enter Tryz.func146, Tryz.ntmps146
      go_wp2_with (first | (go_at_call 136; refine (place_yes _ _ h0 h1 hg ht).mono ?_; rintro e w' ⟨rfl, rfl⟩) | (go_at_call 134; refine (w_good_any _ _ h0 h1).mono ?_; rintro e w' ⟨rfl, rfl⟩))
      go_ret
      exact ⟨w_ret_bool hB.out.symm, rfl⟩
    · have hB : Hid (mayB n t = true) := by simp [Hid, mayB, hg, tellsB, ht]
      have ht' : goodB n = false ∨ (n % 8 ≠ 0 ∧ n % 8 ≠ 3 ∧ n % 8 ≠ 5) := Or.inr (by omega)
      have HT : Hid (goodB n = false ∨ (n % 8 ≠ 0 ∧ n % 8 ≠ 3 ∧ n % 8 ≠ 5)) := ht'
      clear ht ht'
      go_enter Tryz.func146, Tryz.ntmps146
      go_wp2_with (first | (go_at_call 136; refine (place_no _ _ h0 h1 HT.out).mono ?_; rintro e w' ⟨rfl, rfl⟩) | (go_at_call 134; refine (w_good_any _ _ h0 h1).mono ?_; rintro e w' ⟨rfl, rfl⟩))
      go_ret
      exact ⟨w_ret_bool hB.out.symm, rfl⟩
  · have hg' : goodB n = false := by simpa using hg
    have hB : Hid (mayB n t = false) := by simp [Hid, mayB, hg']
    clear hg
    go_enter Tryz.func146, Tryz.ntmps146
    go_wp2_with (first | (go_at_call 136; refine (place_no _ _ h0 h1 (Or.inl hg')).mono ?_; rintro e w' ⟨rfl, rfl⟩) | (go_at_call 134; refine (w_good_any _ _ h0 h1).mono ?_; rintro e w' ⟨rfl, rfl⟩))
    go_ret
    exact ⟨w_ret_bool hB.out.symm, rfl⟩
set_option maxRecDepth 100000 in
set_option maxHeartbeats 400000 in
theorem fresh_any (n : Int) (w : World) (h0 : 0 ≤ n) (h1 : n < 65536) :
    Calls Tryz.prog 91 #[.int .i64 n] w fun e w' => e = .returned (.int .u64 (8 * n)) ∧ w' = w := by
  have hf : fitsB 0 n = true := by simp [fitsB]; omega
  have HW : Hid (wordOf 0 n = 8 * n) := by show _ = _; unfold wordOf; omega
  go_enter Tryz.func91, Tryz.ntmps91
  go_wp2_with (go_at_call 112; refine (pack_ok _ _ _ hf).mono ?_; rintro e w' ⟨rfl, rfl⟩)
  go_ret
  exact ⟨w_ret_int HW.out, rfl⟩
set_option maxRecDepth 100000 in
set_option maxHeartbeats 400000 in
theorem new_no (m : Int) (w : World) (h : m < 1 ∨ 65536 < m) :
    Calls Tryz.prog 81 #[.int .i64 m] w fun e w' => e = .returned (.tuple #[.pointer none, .iface 126 (.pointer (some ⟨w.heap.size, 0, none⟩))]) ∧ w' = w.alloc (faultAtObj 20 m) := by
  rcases h with h | h
  · go_enter Tryz.func81, Tryz.ntmps81
    go_wp2_with (go_at_call 90; refine (afault_any _ _ _).mono ?_; rintro e w' ⟨rfl, rfl⟩)
    go_ret2
    exact ⟨rfl, rfl⟩
  · have h' : ¬ m < 1 := by omega
    go_enter Tryz.func81, Tryz.ntmps81
    go_wp2_with (go_at_call 90; refine (afault_any _ _ _).mono ?_; rintro e w' ⟨rfl, rfl⟩)
    go_ret2
    exact ⟨rfl, rfl⟩
set_option maxRecDepth 100000 in
set_option maxHeartbeats 400000 in
theorem new_ok (m : Int) (w : World) (B : Nat) (hB : B ≤ w.heap.size) (h1 : 1 ≤ m) (h2 : m ≤ 65536) :
    Calls Tryz.prog 81 #[.int .i64 m] w fun e w' => e = .returned (.tuple #[.pointer (some ⟨w.heap.size, 0, none⟩), .nilIface]) ∧ Ar 150 w' B w.heap.size m (.slice none 0 0) [] ∧ Below w.heap.size w w' := by
  go_enter Tryz.func81, Tryz.ntmps81
  go_wp2
  go_ret2
  exact ⟨rfl, ⟨by decide, heap_alloc_new w _, hB, World.ownsRow_nil _ _ _ _, h1, h2, by simp; omega, by simp⟩, a_below_alloc _ _⟩
set_option maxRecDepth 100000 in
set_option maxHeartbeats 400000 in
theorem top_any {w : World} {B p : Nat} {m : Int} {v : Value} {l : List Int} (h : Ar 150 w B p m v l) :
    Calls Tryz.prog 79 #[.pointer (some ⟨p, 0, none⟩)] w fun e w' => e = .returned (.int .i64 (l.length : Int)) ∧ w' = w := by
  obtain ⟨ao, cap, rfl, _⟩ := h.val
  have c1 := h.c1
  go_enter Tryz.func79, Tryz.ntmps79
  go_wp2
  go_ret
  exact ⟨rfl, rfl⟩
/-- Is a place below so many? -/
def inB (n k : Int) : Bool := decide (0 ≤ n ∧ n < k)
set_option maxRecDepth 100000 in
set_option maxHeartbeats 400000 in
theorem holds_any {w : World} {B p : Nat} {m : Int} {v : Value} {l : List Int} (h : Ar 150 w B p m v l) (n : Int) :
    Calls Tryz.prog 145 #[.pointer (some ⟨p, 0, none⟩), .int .i64 n] w fun e w' => e = .returned (.bool (inB n l.length)) ∧ w' = w := by
  by_cases hn : 0 ≤ n
  · go_enter Tryz.func145, Tryz.ntmps145
    go_wp2_with (go_at_call 79; refine (top_any h).mono ?_; rintro e w' ⟨rfl, rfl⟩)
    go_ret
    exact ⟨w_ret_bool (by simp [inB, hn]), rfl⟩
  · have hB : Hid (inB n l.length = false) := by show _ = _; simp [inB]; omega
    go_enter Tryz.func145, Tryz.ntmps145
    go_wp2_with (go_at_call 79; refine (top_any h).mono ?_; rintro e w' ⟨rfl, rfl⟩)
    go_ret
    exact ⟨w_ret_bool hB.out.symm, rfl⟩
end Go.Proofs.YtnoggmeffindbabGreatDoor
