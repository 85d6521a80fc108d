/- What check, Check and Words of package arena do; what the reference's Same says of two rows. -/
import Derived.Test.YtnoggmeffindbabGreatDoorKArOps
namespace Go.Proofs.YtnoggmeffindbabGreatDoor
open Go.RowKit

/-- All words may stand where so many are allocated. -/
def AllMay (l : List Int) (t : Int) : Prop := ∀ j, j < l.length → mayB (l.getD j 0) t = true
/-- The first word that may not stand there. -/
def FirstBad (l : List Int) (t : Int) (i : Nat) : Prop := i < l.length ∧ mayB (l.getD i 0) t = false ∧ ∀ j, j < i → mayB (l.getD j 0) t = true
theorem may_or (l : List Int) (t : Int) : AllMay l t ∨ ∃ i, FirstBad l t i := by
  by_cases h : ∃ i, i < l.length ∧ mayB (l.getD i 0) t = false
  · right
    obtain ⟨n, hn, hb⟩ := h
    induction n using Nat.strongRecOn with
    | _ n ih =>
      by_cases hx : ∃ j, j < n ∧ mayB (l.getD j 0) t = false
      · obtain ⟨j, hj, hjb⟩ := hx
        exact ih j hj (by omega) hjb
      · exact ⟨n, hn, hb, fun j hj => by
          by_cases e : mayB (l.getD j 0) t = true
          · exact e
          · exact absurd ⟨j, hj, by simpa using e⟩ hx⟩
  · left
    intro j hj
    by_cases e : mayB (l.getD j 0) t = true
    · exact e
    · exact absurd ⟨j, hj, by simpa using e⟩ h
theorem getD_rng {l : List Int} (h : ∀ x ∈ l, 0 ≤ x ∧ x ≤ 18446744073709551615) (k : Nat) (hk : k < l.length) : 0 ≤ l.getD k 0 ∧ l.getD k 0 ≤ 18446744073709551615 := by
  have : l.getD k 0 ∈ l := by simp [List.getD, hk]
  exact h _ this
set_option maxRecDepth 100000 in
set_option maxHeartbeats 1000000 in
theorem check_ok (b o c : Nat) (l : List Int) (w : World) (hl : l.length ≤ 4611686018427387904) (hr : ∀ x ∈ l, 0 ≤ x ∧ x ≤ 18446744073709551615) (hc : ∀ j, j < l.length → w.cell? ⟨b, o + j, none⟩ = some (.int .u64 (l.getD j 0)))
    (hm : AllMay l l.length) :
    Calls Tryz.prog 142 #[.slice (some ⟨b, o, none⟩) l.length c] w fun e w' => e = .returned .nilIface ∧ w' = w := by
  go_enter Tryz.func142, Tryz.ntmps142
  go_wp2
  go_loop [3, 4, 7] (fun _ _ i => ∃ k : Nat, k ≤ l.length ∧ i = .int .i64 k) (fun _ _ i => l.length - (intOf i).toNat)
  case atStart => exact ⟨0, Nat.zero_le _, rfl⟩
  case round =>
    obtain ⟨k, hk, rfl⟩ := hrel
    by_cases hlt : k < l.length
    · have hck := hc k hlt
      have hx := getD_rng hr k hlt
      obtain ⟨x, hxe⟩ : ∃ x, x = l.getD k 0 := ⟨_, rfl⟩
      have hmk := hm k hlt
      rw [← hxe] at hck hx hmk
      clear hxe hc
      have hlt' : (k : Int) < (l.length : Int) := by omega
      go_wp2_with (go_at_call 146; refine (may_any _ _ _ hx.1 hx.2).mono ?_; rintro e w' ⟨rfl, rfl⟩)
      go_round
      case rel => exact ⟨k + 1, by omega, by go_num⟩
      case measure => simp [intOf]; omega
    · have hlt' : ¬ (k : Int) < (l.length : Int) := by omega
      go_wp2
      go_ret
      exact ⟨rfl, rfl⟩
set_option maxRecDepth 100000 in
set_option maxHeartbeats 1000000 in
theorem check_no (b o c : Nat) (l : List Int) (w : World) (hl : l.length ≤ 4611686018427387904) (hr : ∀ x ∈ l, 0 ≤ x ∧ x ≤ 18446744073709551615) (hc : ∀ j, j < l.length → w.cell? ⟨b, o + j, none⟩ = some (.int .u64 (l.getD j 0)))
    (n : Nat) (hm : FirstBad l l.length n) :
    Calls Tryz.prog 142 #[.slice (some ⟨b, o, none⟩) l.length c] w fun e w' => e = .returned (.iface 126 (.pointer (some ⟨w.heap.size, 0, none⟩))) ∧ w' = w.alloc (faultAtObj 24 n) := by
  obtain ⟨hn, hb, hm⟩ := hm
  have HB : Hid (mayB (l.getD n 0) l.length = false) := hb
  clear hb
  go_enter Tryz.func142, Tryz.ntmps142
  go_wp2
  go_loop [3, 4, 7] (fun _ _ i => ∃ k : Nat, k ≤ n ∧ i = .int .i64 k) (fun _ _ i => l.length - (intOf i).toNat)
  case atStart => exact ⟨0, Nat.zero_le _, rfl⟩
  case round =>
    obtain ⟨k, hk, rfl⟩ := hrel
    have hlt : k < l.length := by omega
    have hck := hc k hlt
    have hx := getD_rng hr k hlt
    obtain ⟨x, hxe⟩ : ∃ x, x = l.getD k 0 := ⟨_, rfl⟩
    rw [← hxe] at hck hx
    clear hc
    have hlt' : (k : Int) < (l.length : Int) := by omega
    by_cases hkn : k < n
    · have hmk : mayB x l.length = true := by rw [hxe]; exact hm k hkn
      clear hxe
      go_wp2_with (go_at_call 146; refine (may_any _ _ _ hx.1 hx.2).mono ?_; rintro e w' ⟨rfl, rfl⟩)
      go_round
      case rel => exact ⟨k + 1, by omega, by go_num⟩
      case measure => simp [intOf]; omega
    · obtain rfl : k = n := by omega
      have hmk : mayB x l.length = false := by rw [hxe]; exact HB.out
      clear hxe
      go_wp2_with (first | (go_at_call 146; refine (may_any _ _ _ hx.1 hx.2).mono ?_; rintro e w' ⟨rfl, rfl⟩) | (go_at_call 90; refine (afault_any _ _ _).mono ?_; rintro e w' ⟨rfl, rfl⟩))
      go_ret
      exact ⟨rfl, rfl⟩
set_option maxRecDepth 100000 in
set_option maxHeartbeats 400000 in
theorem check_nil (ao : Option Addr) (c : Nat) (w : World) :
    Calls Tryz.prog 142 #[.slice ao 0 c] w fun e w' => e = .returned .nilIface ∧ w' = w := by
  go_enter Tryz.func142, Tryz.ntmps142
  go_wp2
  refine wp_loop_rounds 1 ?_
  rw [rounds_succ]
  go_wp2
  go_ret
  exact ⟨rfl, rfl⟩
/-- check answers nothing just where all words may stand. -/
theorem check_all {w : World} {v : Value} {l : List Int} (h : Rd w v l) (hl : l.length ≤ 4611686018427387904) (hm : AllMay l l.length) :
    Calls Tryz.prog 142 #[v] w fun e w' => e = .returned .nilIface ∧ w' = w := by
  rcases h.2 with ⟨rfl, rfl⟩ | ⟨a, c, rfl, rfl⟩ | ⟨b, o, c, rfl, hc⟩
  · exact check_nil _ _ w
  · exact check_nil _ _ w
  · exact check_ok b o c l w hl h.1 hc hm
theorem check_bad {w : World} {v : Value} {l : List Int} (h : Rd w v l) (hl : l.length ≤ 4611686018427387904) {n : Nat} (hm : FirstBad l l.length n) :
    Calls Tryz.prog 142 #[v] w fun e w' => e = .returned (.iface 126 (.pointer (some ⟨w.heap.size, 0, none⟩))) ∧ w' = w.alloc (faultAtObj 24 n) := by
  rcases h.2 with ⟨rfl, rfl⟩ | ⟨a, c, rfl, rfl⟩ | ⟨b, o, c, rfl, hc⟩
  · exact absurd hm.1 (by simp)
  · exact absurd hm.1 (by simp)
  · exact check_no b o c l w hl h.1 hc n hm
theorem Tryz.infoU : (Tryz.prog.info? 57).map (fun i => (i.zero, i.size, i.bytes)) = some (some (.int .u64 0), 1, 8) := by kernel_rfl
theorem words_one (l : List Int) : ∀ u ∈ l.map (Value.int .u64), u.oneCell' = true := ints_oneCell .u64 l
/-- A row of a call's own, laid by make, holds what was copied over it. -/
theorem a_own_row {w : World} {B g n : Nat} {l : List Int} (h : w.heap[g]? = some (.cells (l.map (Value.int .u64)).toArray 57 (0, 0))) (hB : B ≤ g) (hn : l.length = n) (hm : n ≤ maxLen) :
    w.ownsRow B 57 1 (.slice (some ⟨g, 0, none⟩) n n) n (l.map (Value.int .u64)) :=
  ⟨by simp [hn], Or.inr ⟨g, n, _, rfl, hB, h, Nat.le_refl _, hm, by simp [hn], by rw [List.take_of_length_le (by simp; omega)]⟩⟩
theorem Tryz.sizeU : (Tryz.prog.info? 57).map (·.size) = some 1 := by kernel_rfl
/-- The block of a row that make has laid. -/
theorem own_at {w : World} {B g n : Nat} {e : TypeId} {xs : List Value} (h : w.ownsRow B e 1 (.slice (some ⟨g, 0, none⟩) n n) n xs) : Hid (w.heap[g]? = some (.cells xs.toArray e (0, 0))) := by
  rcases h.2 with ⟨h', _⟩ | ⟨g', cap', cur, h', hb, hg, hnc, hcm, hcs, htake⟩
  · simp at h'
  · simp only [Value.slice.injEq, Option.some.injEq, Addr.mk.injEq, and_true, true_and] at h'
    obtain ⟨rfl, rfl⟩ := h'
    show _ = _
    rw [hg, ← htake, List.take_of_length_le (by simp; omega)]
theorem rd_copy {w : World} {ao : Option Addr} {n cap g : Nat} {l : List Int} (h : Rd w (.slice ao n cap) l) : 0 < (l.map (Value.int .u64)).length → (some (⟨g, 0, none⟩ : Addr) = some ⟨g, 0, none⟩) ∧ ∃ ad, ao = some ad ∧ ∀ j v, (l.map (Value.int .u64))[j]? = some v → w.cell? (ad.add j) = some v := by
  intro h0
  refine ⟨rfl, ?_⟩
  rcases h.src with ⟨e, rfl⟩ | ⟨a, c, e, hc⟩
  · simp at h0
  · simp at e
    exact ⟨a, e.1, hc⟩
theorem len_min (l : List Int) : (l.map (Value.int .u64)).length = Nat.min l.length l.length := by show _ = min _ _; simp
theorem made_len (l : List Int) : 0 + (l.map (Value.int .u64)).length ≤ ((madeCells (Value.int .u64 0).cells (l.length * 1)).toList).length := by simp [Value.cells, toList_madeCells_one]
set_option maxRecDepth 100000 in
set_option maxRecDepth 100000 in
set_option maxHeartbeats 1000000 in
theorem words_any {w : World} {B p : Nat} {m : Int} {v : Value} {l : List Int} (h : Ar 150 w B p m v l) :
    Calls Tryz.prog 53 #[.pointer (some ⟨p, 0, none⟩)] w fun e w' => e = .returned (.slice (some ⟨w.heap.size, 0, none⟩) l.length l.length) ∧
      w'.ownsRow w.heap.size 57 1 (.slice (some ⟨w.heap.size, 0, none⟩) l.length l.length) l.length (l.map (Value.int .u64)) ∧ Below w.heap.size w w' := by
  obtain ⟨i0, hi, hz0, hz1, hz2⟩ := info_parts Tryz.infoU
  have hrd := h.rd
  have hp := h.lt
  have hl : l.length ≤ 65536 := by have := h.len; have := h.m2; omega
  obtain ⟨ao, cap, rfl, _⟩ := h.val
  have c1 := h.c1
  have HL : Hid (∀ (g : Nat) (w1 : World), w.heap.size ≤ g → w1.heap[g]? = some (.cells (splice (madeCells (Value.int .u64 0).cells (l.length * 1)).toList 0 (l.map (Value.int .u64))).toArray 57 (0, 0)) → w1.ownsRow w.heap.size 57 1 (.slice (some ⟨g, 0, none⟩) l.length l.length) l.length (l.map (Value.int .u64))) := by
    intro g w1 hg h1
    refine a_own_row ?_ hg rfl (by unfold maxLen; omega)
    rw [h1]
    simp [splice, Value.cells, toList_madeCells_one]
  go_enter Tryz.func53, Tryz.ntmps53
  go_wp2_with (first
    | (refine wpList_copy_splice rfl (.tmp 12) (.tmp 16) 48 48 rfl 57 Tryz.underlying48 Tryz.sizeU (some ⟨w.heap.size, 0, none⟩) ao l.length l.length l.length cap rfl rfl w.heap.size 0 ((madeCells (Value.int .u64 0).cells (l.length * 1)).toList) 57 hg1.out (l.map (Value.int .u64)) (len_min l) (rd_copy hr1) (made_len l) (words_one l) w.heap.size w hb1 (Nat.le_refl _) ?_; intro w2 hh2 hb2)
    | (at_make; refine wpList_make_full _ rfl _ _ 48 rfl w.heap.size 57 i0 (.int .u64 0) 1 Tryz.underlying48 hi hz0 hz1 .i64 .i64 _ _ l.length rfl rfl rfl rfl (by rw [hz2]; omega) (by unfold maxLen; omega) (Nat.le_refl _) ?_; intro w1 hown1 hgrow1; have hb1 : Below w.heap.size w w1 := (Below.refl _ _).grown hgrow1 (Nat.le_refl _) (fun _ e => by cases e); have c1' := (hb1.cell (p := ⟨p, 1, none⟩) hp).trans c1; have hr1 := hrd.below hb1; have hg1 := own_at hown1))
  go_ret
  exact ⟨rfl, HL.out _ _ (Nat.le_refl _) hh2.out, hb2⟩
end Go.Proofs.YtnoggmeffindbabGreatDoor
