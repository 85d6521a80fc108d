/- What the calls of a nil arena answer. -/
import Derived.Test.YtmpnniabgkhkjaaArFill
namespace Go.Proofs.Ytmpnniabgkhkjaa
open Go.RowKit

set_option maxHeartbeats 400000 in
theorem top_nil (w : World) : Calls Try.prog 15 #[.pointer none] w fun e w' => e = .returned (.int .i64 0) ∧ w' = w := by
  go_enter Try.func15, Try.ntmps15
  go_wp2
  go_ret
  exact ⟨rfl, rfl⟩
set_option maxHeartbeats 400000 in
theorem max_nil (w : World) : Calls Try.prog 16 #[.pointer none] w fun e w' => e = .returned (.int .i64 65536) ∧ w' = w := by
  go_enter Try.func16, Try.ntmps16
  go_wp2
  go_ret
  exact ⟨rfl, rfl⟩
set_option maxHeartbeats 400000 in
theorem acheck_nil (w : World) : Calls Try.prog 22 #[.pointer none] w fun e w' => e = .returned .nilIface ∧ w' = w := by
  go_enter Try.func22, Try.ntmps22
  go_wp2
  go_ret
  exact ⟨rfl, rfl⟩
set_option maxHeartbeats 400000 in
theorem words_nil (w : World) : Calls Try.prog 18 #[.pointer none] w fun e w' => e = .returned (.slice none 0 0) ∧ w' = w := by
  go_enter Try.func18, Try.ntmps18
  go_wp2
  go_ret
  exact ⟨rfl, rfl⟩
set_option maxHeartbeats 400000 in
theorem holds_nil (n : Int) (w : World) : Calls Try.prog 35 #[.pointer none, .int .i64 n] w fun e w' => e = .returned (.bool false) ∧ w' = w := by
  by_cases hn : 0 ≤ n
  · go_enter Try.func35, Try.ntmps35
    go_wp2_with (go_at_call 15; refine (top_nil _).mono ?_; rintro e w' ⟨rfl, rfl⟩)
    go_ret
    exact ⟨ret_bool (by simp; omega), rfl⟩
  · go_enter Try.func35, Try.ntmps35
    go_wp2_with (go_at_call 15; refine (top_nil _).mono ?_; rintro e w' ⟨rfl, rfl⟩)
    go_ret
    exact ⟨rfl, rfl⟩
set_option maxHeartbeats 400000 in
theorem load_nil (n : Int) (w : World) : Calls Try.prog 23 #[.pointer none, .int .i64 n] w fun e w' => ∃ er, e = .returned (.tuple #[.int .u64 0, er]) ∧ Err w' er 23 n ∧ Below w.heap.size w w' := by
  go_enter Try.func23, Try.ntmps23
  go_wp2_with (first | (go_at_call 35; refine (holds_nil _ _).mono ?_; rintro e w ⟨rfl, rfl⟩) | (go_at_call 26; refine (afault_any _ _ _).mono ?_; rintro e w' ⟨rfl, rfl⟩))
  go_ret2
  exact ⟨_, rfl, err_new _ _ _ (by decide), below_alloc _ _⟩
set_option maxHeartbeats 400000 in
theorem alloc_nil (n : Int) (w : World) : Calls Try.prog 19 #[.pointer none, .int .i64 n] w fun e w' => ∃ er, e = .returned (.tuple #[.int .i64 0, er]) ∧ Err w' er 1 (-1) ∧ Below w.heap.size w w' := by
  go_enter Try.func19, Try.ntmps19
  go_wp2_with (go_at_call 26; refine (afault_any _ _ _).mono ?_; rintro e w' ⟨rfl, rfl⟩)
  go_ret2
  exact ⟨_, rfl, err_new _ _ _ (by decide), below_alloc _ _⟩
set_option maxHeartbeats 400000 in
theorem store_nil (n u : Int) (w : World) : Calls Try.prog 20 #[.pointer none, .int .i64 n, .int .u64 u] w fun e w' => ∃ er, e = .returned er ∧ Err w' er 1 (-1) ∧ Below w.heap.size w w' := by
  go_enter Try.func20, Try.ntmps20
  go_wp2_with (go_at_call 26; refine (afault_any _ _ _).mono ?_; rintro e w' ⟨rfl, rfl⟩)
  go_ret
  exact ⟨_, rfl, err_new _ _ _ (by decide), below_alloc _ _⟩
set_option maxHeartbeats 400000 in
theorem cut_nil (n : Int) (w : World) : Calls Try.prog 24 #[.pointer none, .int .i64 n] w fun e w' => ∃ er, e = .returned er ∧ Err w' er 1 (-1) ∧ Below w.heap.size w w' := by
  go_enter Try.func24, Try.ntmps24
  go_wp2_with (go_at_call 26; refine (afault_any _ _ _).mono ?_; rintro e w' ⟨rfl, rfl⟩)
  go_ret
  exact ⟨_, rfl, err_new _ _ _ (by decide), below_alloc _ _⟩
set_option maxHeartbeats 400000 in
theorem fill_nil (v : Value) (w : World) : Calls Try.prog 21 #[.pointer none, v] w fun e w' => ∃ er, e = .returned er ∧ Err w' er 1 (-1) ∧ Below w.heap.size w w' := by
  go_enter Try.func21, Try.ntmps21
  go_wp2_with (go_at_call 26; refine (afault_any _ _ _).mono ?_; rintro e w' ⟨rfl, rfl⟩)
  go_ret
  exact ⟨_, rfl, err_new _ _ _ (by decide), below_alloc _ _⟩
theorem alloc_two {w : World} {B p : Nat} {m : Int} {v : Value} (h : Ar 64 w B p m v []) (hB : B ≤ w.heap.size) (hm : 2 ≤ m) :
    Calls Try.prog 19 #[.pointer (some ⟨p, 0, none⟩), .int .i64 2] w fun e w' => ∃ v', e = .returned (.tuple #[.int .i64 0, .nilIface]) ∧ Upd 64 w w' B p m v [0, 8] v' :=
  (alloc_ok h hB 2 (by omega) (by simpa using hm)).mono fun e w' ⟨v', he, hU⟩ => ⟨v', by simpa using he, by simpa [frsh, List.range_succ] using hU⟩
theorem load_one {w : World} {B p : Nat} {m : Int} {v : Value} (h : Ar 64 w B p m v [0, 8]) :
    Calls Try.prog 23 #[.pointer (some ⟨p, 0, none⟩), .int .i64 1] w fun e w' => e = .returned (.tuple #[.int .u64 8, .nilIface]) ∧ w' = w :=
  (load_ok h 1 (by simp)).mono fun e w' ⟨he, hw⟩ => ⟨by simpa using he, hw⟩
set_option maxHeartbeats 1000000 in
theorem lives_any (w : World) : Calls Try.prog 9 #[] w fun e w' => e = .returned (.bool true) ∧ Below w.heap.size w w' := by
  go_enter Try.func9, Try.ntmps9
  go_wp2_with (first
    | (go_at_call 10; refine (new_ok 4 _ _ (Nat.le_refl _) (by omega) (by omega)).mono ?_; rintro e w1 ⟨rfl, hA1, hb1⟩)
    | (go_at_call 19; refine (alloc_two hA1 hb1.size (by omega)).mono ?_; rintro e w2 ⟨v2, rfl, hU2⟩; have hA2 := hU2.ar; have hb2 := hb1.trans (hU2.below hA1 hb1.size); clear hU2)
    | (go_at_call 23; refine (load_one hA2).mono ?_; rintro e w2 ⟨rfl, rfl⟩)
    | (go_at_call 15; refine (top_any hA2).mono ?_; rintro e w2 ⟨rfl, rfl⟩)
    | (go_at_call 16; refine (max_any hA2).mono ?_; rintro e w2 ⟨rfl, rfl⟩))
  go_ret
  exact ⟨ret_bool (by simp), hb2⟩
set_option maxHeartbeats 1000000 in
theorem same_some (b o c b' o' c' : Nat) (l : List Int) (w : World) (hl : l.length ≤ 4611686018427387904) (hc : ∀ j, j < l.length → w.cell? ⟨b, o + j, none⟩ = some (.int .u64 (l.getD j 0))) (hc' : ∀ j, j < l.length → w.cell? ⟨b', o' + j, none⟩ = some (.int .u64 (l.getD j 0))) :
    Calls Try.prog 17 #[.slice (some ⟨b, o, none⟩) l.length c, .slice (some ⟨b', o', none⟩) l.length c'] w fun e w' => e = .returned (.bool true) ∧ ∃ d, w' = w.drewN d := by
  go_enter Try.func17, Try.ntmps17
  go_wp2
  go_loopw [5] (fun i wr => ∃ k : Nat, k ≤ l.length ∧ i = .int .i64 k ∧ ∃ d, wr = w.drewN d) (fun i _ => l.length - (intOf i).toNat)
  case atStart => exact ⟨0, Nat.zero_le _, rfl, 0, rfl⟩
  case round =>
    obtain ⟨k, hk, rfl, d, rfl⟩ := hrel
    by_cases hlt : k < l.length
    · have h1 := hc k hlt
      have h2 := hc' k hlt
      obtain ⟨x, hx⟩ : ∃ x, x = l.getD k 0 := ⟨_, rfl⟩
      rw [← hx] at h1 h2
      clear hc hc' hx
      have hk0 : (0 : Int) ≤ (k : Int) := by omega
      have hlt' : (k : Int) < (l.length : Int) := by omega
      go_wp2
      go_quiet (fail)
      go_wp2
      go_roundw
      case rel => exact ⟨k + 1, by omega, by go_num, _, rfl⟩
      case measure => simp [intOf]; omega
    · have hlt' : ¬ (k : Int) < (l.length : Int) := by omega
      go_wp2
      go_ret
      exact ⟨rfl, d, rfl⟩
set_option maxHeartbeats 400000 in
theorem same_none (ao ao' : Option Addr) (c c' : Nat) (w : World) :
    Calls Try.prog 17 #[.slice ao 0 c, .slice ao' 0 c'] w fun e w' => e = .returned (.bool true) ∧ w' = w := by
  go_enter Try.func17, Try.ntmps17
  go_wp2
  refine wp_loop_rounds 1 ?_
  rw [rounds_succ]
  go_wp2
  go_ret
  exact ⟨rfl, rfl⟩
theorem same_any {w : World} {u u' : Value} {l : List Int} (h : Rd w u l) (h' : Rd w u' l) (hl : l.length ≤ 4611686018427387904) :
    Calls Try.prog 17 #[u, u'] w fun e w' => e = .returned (.bool true) ∧ ∃ d, w' = w.drewN d := by
  by_cases h0 : l = []
  · subst h0
    obtain ⟨ao, c, rfl⟩ := h.shape
    obtain ⟨ao', c', rfl⟩ := h'.shape
    exact (same_none ao ao' c c' w).mono fun e w' ⟨he, hw⟩ => ⟨he, 0, hw⟩
  · rcases h.2 with ⟨_, h1⟩ | ⟨_, _, _, h1⟩ | ⟨b, o, c, rfl, hc⟩
    · exact absurd h1 h0
    · exact absurd h1 h0
    · rcases h'.2 with ⟨_, h1⟩ | ⟨_, _, _, h1⟩ | ⟨b', o', c', rfl, hc'⟩
      · exact absurd h1 h0
      · exact absurd h1 h0
      · exact same_some b o c b' o' c' l w hl hc hc'
end Go.Proofs.Ytmpnniabgkhkjaa
