/- What the reference's Check, Fill and Alloc of layer 2 do, each at every argument. -/
import Derived.Test.YtmpnniabgkhkjaaArRef3
namespace Go.Proofs.Ytmpnniabgkhkjaa
open Go.ChangeShapes Go.WideShapes Go.ChangeAt Go.RowKit
attribute [local go_sem ↓] Go.wp_at_zero Go.wp_at_succ

set_option maxHeartbeats 1000000 in
theorem rcheck_ok (b o c : Nat) (l : List Int) (w : World) (hl : l.length ≤ 4611686018427387904) (hr : ∀ x ∈ l, 0 ≤ x ∧ x ≤ 18446744073709551615) (hc : ∀ j, j < l.length → w.cell? ⟨b, o + j, none⟩ = some (.int .u64 (l.getD j 0)))
    (hm : AllMay l l.length) :
    Calls Try.prog 33 #[.slice (some ⟨b, o, none⟩) l.length c] w fun e w' => e = .returned (flt 0 0) ∧ w' = (w.alloc (fltObj 0 0)).alloc (fltObj 0 0) := by
  go_enter Try.func33, Try.ntmps33
  go_wp2
  go_loop [3] (fun i => ∃ k : Nat, k ≤ l.length ∧ i = .int .i64 k) (fun i => l.length - (intOf i).toNat)
  case atStart => exact ⟨0, Nat.zero_le _, rfl⟩
  case round =>
    obtain ⟨k, hk, rfl⟩ := hrel
    by_cases hlt : k < l.length
    · have hck := hc k hlt
      have hbl := lt_of_cell hck
      have hx := getD_rng hr k hlt
      obtain ⟨x, hxe⟩ : ∃ x, x = l.getD k 0 := ⟨_, rfl⟩
      have hmk := hm k hlt
      rw [← hxe] at hck hx hmk
      clear hxe hc
      have hlt' : (k : Int) < (l.length : Int) := by omega
      go_wp2_with (go_at_call 39; refine (rmay_any _ _ _ hx.1 hx.2).mono ?_; rintro e wq ⟨rfl, hq⟩; subst hq)
      go_round
      case rel => exact ⟨k + 1, by omega, by go_num⟩
      case measure => simp [intOf]; omega
    · have hlt' : ¬ (k : Int) < (l.length : Int) := by omega
      go_wp2_with (go_at_call 27; refine (no_ex _).mono ?_; rintro e wq ⟨rfl, hq⟩; subst hq)
      exact bodyPost_ret (v := flt 0 0) (by simp [results, Try.results33, go_sem, flt]) rfl ⟨rfl, rfl⟩
set_option maxHeartbeats 1000000 in
theorem rcheck_no (b o c : Nat) (l : List Int) (w : World) (hl : l.length ≤ 4611686018427387904) (hr : ∀ x ∈ l, 0 ≤ x ∧ x ≤ 18446744073709551615) (hc : ∀ j, j < l.length → w.cell? ⟨b, o + j, none⟩ = some (.int .u64 (l.getD j 0)))
    (n : Nat) (hm : FirstBad l l.length n) :
    Calls Try.prog 33 #[.slice (some ⟨b, o, none⟩) l.length c] w fun e w' => e = .returned (flt 24 n) ∧ w' = (w.alloc (fltObj 24 n)).alloc (fltObj 24 n) := by
  obtain ⟨hn, hb, hm⟩ := hm
  have HB : Hid (mayB (l.getD n 0) l.length = false) := hb
  clear hb
  go_enter Try.func33, Try.ntmps33
  go_wp2
  go_loop [3] (fun i => ∃ k : Nat, k ≤ n ∧ i = .int .i64 k) (fun i => l.length - (intOf i).toNat)
  case atStart => exact ⟨0, Nat.zero_le _, rfl⟩
  case round =>
    obtain ⟨k, hk, rfl⟩ := hrel
    have hlt : k < l.length := by omega
    have hck := hc k hlt
    have hbl := lt_of_cell hck
    have hx := getD_rng hr k hlt
    obtain ⟨x, hxe⟩ : ∃ x, x = l.getD k 0 := ⟨_, rfl⟩
    rw [← hxe] at hck hx
    clear hc
    have hlt' : (k : Int) < (l.length : Int) := by omega
    by_cases hkn : k < n
    · have hmk : mayB x l.length = true := by rw [hxe]; exact hm k hkn
      clear hxe
      go_wp2_with (go_at_call 39; refine (rmay_any _ _ _ hx.1 hx.2).mono ?_; rintro e wq ⟨rfl, hq⟩; subst hq)
      go_round
      case rel => exact ⟨k + 1, by omega, by go_num⟩
      case measure => simp [intOf]; omega
    · obtain rfl : k = n := by omega
      have hmk : mayB x l.length = false := by rw [hxe]; exact HB.out
      clear hxe
      go_wp2_with (first | (go_at_call 39; refine (rmay_any _ _ _ hx.1 hx.2).mono ?_; rintro e wq ⟨rfl, hq⟩; subst hq) | (go_at_call 25; refine (at_ex _ _ _).mono ?_; rintro e wq ⟨rfl, hq⟩; subst hq))
      exact bodyPost_ret (v := flt 24 k) (by simp [results, Try.results33, go_sem, flt]) rfl ⟨rfl, rfl⟩
set_option maxHeartbeats 400000 in
theorem rcheck_nil (ao : Option Addr) (c : Nat) (w : World) :
    Calls Try.prog 33 #[.slice ao 0 c] w fun e w' => e = .returned (flt 0 0) ∧ w' = (w.alloc (fltObj 0 0)).alloc (fltObj 0 0) := by
  go_enter Try.func33, Try.ntmps33
  go_wp2
  refine wp_loop_rounds 1 ?_
  rw [rounds_succ]
  go_wp2_with (go_at_call 27; refine (no_ex _).mono ?_; rintro e wq ⟨rfl, hq⟩; subst hq)
  exact bodyPost_ret (v := flt 0 0) (by simp [results, Try.results33, go_sem, flt]) rfl ⟨rfl, rfl⟩
theorem rcheck_r {w : World} {u : Value} {l : List Int} {c a : Int} (h : Rd w u l) (hl : l.length ≤ 4611686018427387904) (hR : CheckR l c a) :
    Calls Try.prog 33 #[u] w fun e w' => e = .returned (flt c a) ∧ w' = (w.alloc (fltObj c a)).alloc (fltObj c a) := by
  rcases hR with ⟨ha, rfl, rfl⟩ | ⟨i, hb, rfl, rfl⟩
  · rcases h.2 with ⟨rfl, rfl⟩ | ⟨_, c, rfl, rfl⟩ | ⟨b, o, c, rfl, hc⟩
    · exact rcheck_nil _ _ w
    · exact rcheck_nil _ _ w
    · exact rcheck_ok b o c l w hl h.1 hc ha
  · rcases h.2 with ⟨rfl, rfl⟩ | ⟨_, c, rfl, rfl⟩ | ⟨b, o, c, rfl, hc⟩
    · exact absurd hb.1 (by simp)
    · exact absurd hb.1 (by simp)
    · exact rcheck_no b o c l w hl h.1 hc i hb
section
variable {w : World} {B p : Nat} {m : Int} {v : Value} {l : List Int}
set_option maxHeartbeats 800000 in
theorem ralloc_few (h : Ar 31 w B p m v l) (n : Int) (hn : n < 1) :
    Calls Try.prog 28 #[.pointer (some ⟨p, 0, none⟩), .int .i64 n] w fun e w' => e = .returned (.tuple #[.int .i64 0, flt 21 n]) ∧ Below w.heap.size w w' := by
  have c0 := h.c0
  go_enter Try.func28, Try.ntmps28
  go_wp2_with (go_at_call 25; refine (at_ex _ _ _).mono ?_; rintro e w' ⟨rfl, rfl⟩)
  refine bodyPost_ret (v := .tuple #[.int .i64 0, flt 21 n]) (by simp [results, Try.results28, go_sem, flt]) rfl ⟨rfl, ?_⟩
  repeat (first | exact Below.refl _ _ | refine Below.setCell ?_ (by first | (simp; done) | (simp; omega)) _ | refine Below.alloc ?_ (by first | (simp; done) | (simp; omega)) _)
set_option maxHeartbeats 800000 in
theorem ralloc_full (h : Ar 31 w B p m v l) (n : Int) (hn : 1 ≤ n) (hf : m - l.length < n) :
    Calls Try.prog 28 #[.pointer (some ⟨p, 0, none⟩), .int .i64 n] w fun e w' => e = .returned (.tuple #[.int .i64 0, flt 22 n]) ∧ Below w.heap.size w w' := by
  have c0 := h.c0
  have c1 := h.c1
  have hp := h.lt
  have h1 := h.m1
  have h2 := h.m2
  have h3 := h.len
  obtain ⟨ao, cap, rfl, _⟩ := h.val
  go_enter Try.func28, Try.ntmps28
  go_wp2_with (go_at_call 25; refine (at_ex _ _ _).mono ?_; rintro e w' ⟨rfl, rfl⟩)
  refine bodyPost_ret (v := .tuple #[.int .i64 0, flt 22 n]) (by simp [results, Try.results28, go_sem, flt]) rfl ⟨rfl, ?_⟩
  repeat (first | exact Below.refl _ _ | refine Below.setCell ?_ (by first | (simp; done) | (simp; omega)) _ | refine Below.alloc ?_ (by first | (simp; done) | (simp; omega)) _)
set_option maxRecDepth 100000 in
set_option maxHeartbeats 3200000 in
theorem ralloc_ok (h : Ar 31 w B p m v l) (hB : B ≤ w.heap.size) (n : Nat) (hn : 1 ≤ n) (hf : (l.length : Int) + n ≤ m) :
    Calls Try.prog 28 #[.pointer (some ⟨p, 0, none⟩), .int .i64 (n : Int)] w fun e w' => ∃ v', e = .returned (.tuple #[.int .i64 (l.length : Int), flt 0 0]) ∧ Upd 31 w w' B p m v (l ++ frsh l.length n) v' := by
  obtain ⟨i0, hi, hz0, hz1, hz2⟩ := info_parts Try.infoU
  have c0 := h.c0
  have c1 := h.c1
  have hp0 := h.lt
  have h1 := h.m1
  have h2 := h.m2
  have h3 := h.len
  have hft := h.foot_lt
  have hn' : (1 : Int) ≤ (n : Int) := by omega
  obtain ⟨ao0, cap00, hv0, _⟩ := h.val
  have HV : Hid (v = .slice ao0 l.length cap00) := hv0
  rw [hv0] at c1
  clear hv0
  go_enter Try.func28, Try.ntmps28
  go_wp2
  go_loopw [7] (fun i wr => ∃ k : Nat, k ≤ n ∧ i = .int .i64 k ∧ ∃ v1, Upd 31 (w.alloc (fltObj 0 0)) wr B p m v (l ++ frsh l.length k) v1) (fun i _ => n - (intOf i).toNat)
  case atStart => exact ⟨0, Nat.zero_le _, rfl, v, by simpa [frsh] using Upd.refl (h.alloc _)⟩
  case round =>
    obtain ⟨k, hk, rfl, v1, hU⟩ := hrel
    by_cases hlt : k < n
    · have hA := hU.ar
      have hlen : (l ++ frsh l.length k).length = l.length + k := by simp [frsh_len]
      obtain ⟨L, hL⟩ : ∃ L, L = l ++ frsh l.length k := ⟨_, rfl⟩
      rw [← hL] at hA hlen
      have hsz : w.heap.size + 1 ≤ wr.heap.size := by have := hU.mod.size; simpa using this
      have HL : Hid (L = l ++ frsh l.length k) := hL
      have HU : Hid (Upd 31 (w.alloc (fltObj 0 0)) wr B p m v L v1) := by rw [hL]; exact hU
      clear hL hU
      have hown := hA.own
      rw [hlen] at hown
      have hp := hA.lt
      have hrow : v1.ownBlock ≠ some p := fun e => (hA.row e).2.2 rfl
      have a1 := hA.c1
      have af := hA.f1
      have hlt' : (k : Int) < (n : Int) := by omega
      obtain ⟨ao, cap0, hv1, _⟩ := hA.val
      rw [hlen] at hv1
      have HA : Hid (Ar 31 wr B p m v1 L) := hA
      clear hA hlen
      subst hv1
      have hwr : IntKind.i64.wrap ((l.length : Int) + k) = (l.length : Int) + k := by rw [IntKind.wrap_i64]; omega
      go_wp2
      go_region_law
        (first
          | (go_simp; go_at_call 38; refine (self_any _ _ (by omega) (by omega)).mono ?_; rintro e wq ⟨rfl, hwq⟩; subst hwq)
          | (refine step_append_lies _ (by rfl) _ _ _ (by rfl) B 38 i0 (.int .u64 0) 1 8 Try.underlying29 hi hz0 hz1 hz2 rfl (by omega) _ (l.length + k) (L.map (Value.int .u64)) (by rfl) ((hown.alloc _).drew) ⟨wr.heap.size, 0, none⟩ 1 1 [.int .u64 (8 * ((l.length : Int) + k))] (by rfl) (by rfl) (World.news_of_block (cs := #[.int .u64 (8 * ((l.length : Int) + k))]) (t := 38) (fr := (0, 0)) (heap_alloc_new wr _)) (by simp [Value.oneCell']) (by omega) (by unfold maxLen; omega) (by omega) (by simp; omega) (wr.heap.size + 1) (by simp) ?_; intro g cap w1 hown1 hgrow hat hlt1; obtain ⟨hc1, hf1⟩ := far_field hgrow hp hrow a1 af))
      all_goals go_wp2
      all_goals
        go_roundw
        case rel =>
          have hA := HA.out
          have hLl : L.length = l.length + k := by rw [HL.out]; simp [frsh_len]
          have R := push_one (w1 := w1) (x := 8 * ((l.length : Int) + k)) (g := g) (cap := cap) hA _ (undrew hgrow) (by rw [hLl]; exact hown1) hat (by rw [hLl]; omega) (by omega)
          rw [hLl] at R
          have HU' := HU.out.trans R
          rw [HL.out, List.append_assoc, ← Int.natCast_add, ← frsh_succ] at HU'
          exact ⟨k + 1, by omega, by go_num, _, HU'⟩
        case measure => simp [intOf]; omega
    · have hlt' : ¬ (k : Int) < (n : Int) := by omega
      obtain rfl : k = n := by omega
      have hq : wr.heap[w.heap.size]? = some (fltObj 0 0) := by
        rw [hU.mod.block w.heap.size (by simp) (fun hx => by have := hft _ hx; omega)]
        exact heap_alloc_new w _
      have HU : Hid (Upd 31 (w.alloc (fltObj 0 0)) wr B p m v (l ++ frsh l.length k) v1) := hU
      have hrow : w.heap.size ∉ foot p v1 := (fun hx => by
        rcases mem_foot.1 hx with e | e
        · omega
        · rcases hU.nx _ e with e2 | e2
          · have := hft _ (mem_foot.2 (Or.inr e2)); omega
          · simp at e2; omega)
      clear hU
      have hqs := lt_of_block hq
      obtain ⟨⟨q0, q1, q2, q3⟩, g0, g1, g2, g3⟩ := flt_facts hq
      go_wp2_with (go_at_call 27; refine (no_ex _).mono ?_; rintro e wq ⟨rfl, hq⟩; subst hq)
      exact bodyPost_ret (ret_flt2 Try.results28 (by rfl) (by rfl) (flt_end hq)) rfl ⟨_, rfl, ((Upd.same h (below_alloc w _)).trans HU.out).tail (q := w.heap.size) flt_mod (Nat.le_refl _) hrow⟩
end
end Go.Proofs.Ytmpnniabgkhkjaa
