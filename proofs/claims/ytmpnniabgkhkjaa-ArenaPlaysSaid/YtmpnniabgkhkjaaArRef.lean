/- What the reference's small functions of layer 2 do, each at every argument. -/
import Derived.Test.YtmpnniabgkhkjaaArRes
import Derived.Test.YtmpnniabgkhkjaaRefW
import Derived.Deep.RegionLaw
import Derived.Deep.DrawnRows
namespace Go.Proofs.Ytmpnniabgkhkjaa
open Go.ChangeShapes Go.WideShapes Go.ChangeAt Go.RowKit
attribute [local go_sem ↓] Go.wp_at_zero Go.wp_at_succ

/-- The block of a reference's fault. -/
abbrev fltObj (c a : Int) : Obj := .cells #[.int .i64 c, .int .i64 a, .string ⟨#[]⟩, .slice none 0 0] 34
set_option maxHeartbeats 400000 in
theorem at_ex (c a : Int) (w : World) :
    Calls Try.prog 25 #[.int .i64 c, .int .i64 a] w fun e w' => e = .returned (flt c a) ∧ w' = w.alloc (fltObj c a) := by
  go_enter Try.func25, Try.ntmps25
  go_wp2
  exact bodyPost_ret (v := flt c a) (by simp [results, Try.results25, go_sem, flt]) rfl ⟨rfl, rfl⟩
set_option maxHeartbeats 400000 in
theorem no_ex (w : World) :
    Calls Try.prog 27 #[] w fun e w' => e = .returned (flt 0 0) ∧ w' = w.alloc (fltObj 0 0) := by
  go_enter Try.func27, Try.ntmps27
  go_wp2
  exact bodyPost_ret (v := flt 0 0) (by simp [results, Try.results27, go_sem, flt]) rfl ⟨rfl, rfl⟩
set_option maxHeartbeats 1000000 in
theorem rmay_any (n t : Int) (w : World) (h0 : 0 ≤ n) (h1 : n ≤ 18446744073709551615) :
    Calls Try.prog 39 #[.int .u64 n, .int .i64 t] w fun e w' => e = .returned (.bool (mayB n t)) ∧ w' = w := by
  by_cases hg : goodB n = true
  · by_cases ht : n % 8 = 0 ∨ n % 8 = 3 ∨ n % 8 = 5
    · have hB : Hid (mayB n t = decide (valOf n < t)) := by simp [Hid, mayB, hg, tellsB, ht]
      go_enter Try.func39, Try.ntmps39
      go_wp2_with (first | (go_at_call 43; refine (rplc_yes _ _ h0 h1 hg ht).mono ?_; rintro e w' ⟨rfl, rfl⟩) | (go_at_call 44; refine (rgood_any _ _ h0 h1).mono ?_; rintro e w' ⟨rfl, rfl⟩))
      go_ret
      exact ⟨ret_bool hB.out.symm, rfl⟩
    · have hB : Hid (mayB n t = true) := by simp [Hid, mayB, hg, tellsB, ht]
      have HT : Hid (goodB n = false ∨ (n % 8 ≠ 0 ∧ n % 8 ≠ 3 ∧ n % 8 ≠ 5)) := Or.inr (by omega)
      clear ht
      go_enter Try.func39, Try.ntmps39
      go_wp2_with (first | (go_at_call 43; refine (rplc_no _ _ h0 h1 HT.out).mono ?_; rintro e w' ⟨rfl, rfl⟩) | (go_at_call 44; refine (rgood_any _ _ h0 h1).mono ?_; rintro e w' ⟨rfl, rfl⟩))
      go_ret
      exact ⟨ret_bool hB.out.symm, rfl⟩
  · have hg' : goodB n = false := by simpa using hg
    have hB : Hid (mayB n t = false) := by simp [Hid, mayB, hg']
    clear hg
    go_enter Try.func39, Try.ntmps39
    go_wp2_with (first | (go_at_call 43; refine (rplc_no _ _ h0 h1 (Or.inl hg')).mono ?_; rintro e w' ⟨rfl, rfl⟩) | (go_at_call 44; refine (rgood_any _ _ h0 h1).mono ?_; rintro e w' ⟨rfl, rfl⟩))
    go_ret
    exact ⟨ret_bool hB.out.symm, rfl⟩
set_option maxHeartbeats 400000 in
theorem self_any (n : Int) (w : World) (h0 : 0 ≤ n) (h1 : n < 65536) :
    Calls Try.prog 38 #[.int .i64 n] w fun e w' => e = .returned (.int .u64 (8 * n)) ∧ w' = w := by
  have hw1 : IntKind.u64.wrap n = n := by rw [IntKind.wrap_u64]; omega
  have hw2 : IntKind.u64.wrap (8 * n) = 8 * n := by rw [IntKind.wrap_u64]; omega
  go_enter Try.func38, Try.ntmps38
  go_wp2
  go_ret
  exact ⟨rfl, rfl⟩
set_option maxHeartbeats 800000 in
theorem rnew_no (m : Int) (w : World) (h : m < 1 ∨ (1 ≤ m ∧ 65536 < m)) :
    Calls Try.prog 11 #[.int .i64 m] w fun e w' => e = .returned (.tuple #[.agg #[.int .i64 0, .slice none 0 0], flt 20 m]) ∧ Below w.heap.size w w' := by
  rcases h with h | ⟨h', h⟩
  all_goals
    go_enter Try.func11, Try.ntmps11
    go_wp2_with (go_at_call 25; refine (at_ex _ _ _).mono ?_; rintro e w' ⟨rfl, rfl⟩)
    refine bodyPost_ret (v := .tuple #[.agg #[.int .i64 0, .slice none 0 0], flt 20 m]) (by simp [results, Try.results11, go_sem, flt]) rfl ⟨rfl, ?_⟩
    repeat (first | exact Below.refl _ _ | refine Below.setCell ?_ (by first | (simp; done) | (simp; omega)) _ | refine Below.alloc ?_ (by first | (simp; done) | (simp; omega)) _)
set_option maxHeartbeats 800000 in
theorem rnew_ok (m : Int) (w : World) (h1 : 1 ≤ m) (h2 : m ≤ 65536) :
    Calls Try.prog 11 #[.int .i64 m] w fun e w' => e = .returned (.tuple #[.agg #[.int .i64 m, .slice none 0 0], flt 0 0]) ∧ Below w.heap.size w w' := by
  go_enter Try.func11, Try.ntmps11
  go_wp2_with (go_at_call 27; refine (no_ex _).mono ?_; rintro e w' ⟨rfl, rfl⟩)
  refine bodyPost_ret (v := .tuple #[.agg #[.int .i64 m, .slice none 0 0], flt 0 0]) (by simp [results, Try.results11, go_sem, flt]) rfl ⟨rfl, ?_⟩
  repeat (first | exact Below.refl _ _ | refine Below.setCell ?_ (by first | (simp; done) | (simp; omega)) _ | refine Below.alloc ?_ (by first | (simp; done) | (simp; omega)) _)
section
variable {w : World} {B p : Nat} {m : Int} {v : Value} {l : List Int}
set_option maxHeartbeats 800000 in
theorem rload_no (h : Ar 31 w B p m v l) (n : Int) (hi : n < 0 ∨ (0 ≤ n ∧ (l.length : Int) ≤ n)) :
    Calls Try.prog 29 #[.pointer (some ⟨p, 0, none⟩), .int .i64 n] w fun e w' => e = .returned (.tuple #[.int .u64 0, flt 23 n]) ∧ Below w.heap.size w w' := by
  have c1 := h.c1
  have hp := h.lt
  obtain ⟨ao, cap, rfl, _⟩ := h.val
  rcases hi with hi | ⟨hi0, hi⟩
  all_goals
    go_enter Try.func29, Try.ntmps29
    go_wp2_with (go_at_call 25; refine (at_ex _ _ _).mono ?_; rintro e w' ⟨rfl, rfl⟩)
    refine bodyPost_ret (v := .tuple #[.int .u64 0, flt 23 n]) (by simp [results, Try.results29, go_sem, flt]) rfl ⟨rfl, ?_⟩
    repeat (first | exact Below.refl _ _ | refine Below.setCell ?_ (by first | (simp; done) | (simp; omega)) _ | refine Below.alloc ?_ (by first | (simp; done) | (simp; omega)) _)
set_option maxHeartbeats 1600000 in
theorem rload_ok (h : Ar 31 w B p m v l) (k : Nat) (hk : k < l.length) :
    Calls Try.prog 29 #[.pointer (some ⟨p, 0, none⟩), .int .i64 (k : Int)] w fun e w' => e = .returned (.tuple #[.int .u64 (l.getD k 0), flt 0 0]) ∧ Below w.heap.size w w' := by
  obtain ⟨g, cap, rfl, hcap, hg, hne, _, hc, _⟩ := h.form hk
  have c1 := h.c1
  have hp := h.lt
  obtain ⟨x, hx⟩ : ∃ x, x = l.getD k 0 := ⟨_, rfl⟩
  rw [← hx] at hc
  rw [← hx]
  clear hx
  have hk0 : (0 : Int) ≤ (k : Int) := by omega
  have hk' : (k : Int) < (l.length : Int) := by omega
  go_enter Try.func29, Try.ntmps29
  go_wp2
  go_region_law (go_simp; go_at_call 27; refine (no_ex _).mono ?_; rintro e wq ⟨rfl, hq⟩; subst hq)
  all_goals go_wp2
  all_goals
    refine bodyPost_ret (v := .tuple #[.int .u64 x, flt 0 0]) (by simp [results, Try.results29, go_sem, flt]) rfl ⟨rfl, ?_⟩
    repeat (first | exact Below.refl _ _ | refine Below.drew ?_ | refine Below.setCell ?_ (by first | (simp; done) | (simp; omega)) _ | refine Below.alloc ?_ (by first | (simp; done) | (simp; omega)) _)
end
end Go.Proofs.Ytmpnniabgkhkjaa
