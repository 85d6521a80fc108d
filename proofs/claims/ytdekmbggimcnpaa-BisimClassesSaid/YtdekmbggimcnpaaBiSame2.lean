/- Same of package bisim at a good graph and a number that is no node. -/
import Derived.Test.YtdekmbggimcnpaaBiSame
namespace Go.Proofs.Ytdekmbggimcnpaa
open Go.RowKit

set_option maxRecDepth 100000 in
set_option maxHeartbeats 2000000 in
theorem bsame_out1 {W : World} {nv rv : Value} {g : Gf} (hG : Gr W nv rv g) (hS : Sized g) (hb : one (chk g) = []) {i j : Int} (ho : i < 0 ∨ (g.nodes.length : Int) ≤ i) :
    Calls Try.prog 17 #[.agg #[nv, rv], .int .i64 i, .int .i64 j] W fun r w' => (∃ b, r = .returned (.tuple #[.bool false, .iface 66 (.pointer (some ⟨b, 0, none⟩))]) ∧ Er w' (.iface 66 (.pointer (some ⟨b, 0, none⟩))) [(50, i)]) ∧ Below W.heap.size W w' := by
  obtain ⟨ee, he⟩ := al_dec g
  have hal := alike_good (hG.below (below_alloc W (.cells #[nv, rv] 25))) hS hb ee (fun x y _ _ => he x y)
  have hl : (ansC ee g.nodes.length 0).length = g.nodes.length := (ints_len _).trans (csF_len _ _)
  have hft := bfault_any 50 i
  clear hG
  generalize hNN : g.nodes.length = N at *
  go_enter Try.func17, Try.ntmps17
  go_wp2_with (go_at_call 41; refine hal.mono ?_; rintro e w1 ⟨⟨t2, t3, rfl, hF⟩, hb1⟩; have h0 := hF.own 0 (by simp); rw [hl] at h0; obtain ⟨ca, cc, rfl⟩ : ∃ ca cc, t2 = .slice ca N cc := own_sl h0)
  have hbb := hid (Below.next (below_alloc _ _) hb1)
  clear hal hF hl he
  go_loopw [26] (fun i' wr => ∃ k : Nat, k ≤ 0 ∧ i' = .int .i64 k ∧ Hid (wr = w1.alloc (.cells #[.int .i64 i, .int .i64 j] 3))) (fun i' _ => 2 - (intOf i').toNat)
  case atStart => exact ⟨0, Nat.zero_le _, rfl, rfl⟩
  case round =>
    obtain ⟨k, hk, rfl, hw⟩ := hrel
    obtain ⟨w2, hw2⟩ : ∃ w2, w2 = w1.alloc (.cells #[.int .i64 i, .int .i64 j] 3) := ⟨_, rfl⟩
    have hw' := hw.out
    rw [← hw2] at hw'
    subst hw'
    have hbw := hid (Below.next hbb.out (below_alloc w1 (.cells #[.int .i64 i, .int .i64 j] 3)))
    have k0 := heap_alloc_new w1 (.cells #[.int .i64 i, .int .i64 j] 3)
    rw [← hw2] at hbw k0
    have hw3 := hid hw2
    clear hw hw2
    have e0 : wr.cell? ⟨w1.heap.size, 0, none⟩ = some (.int .i64 i) := by simp [World.cell?, k0]
    have e1 : wr.cell? ⟨w1.heap.size, 1, none⟩ = some (.int .i64 j) := by simp [World.cell?, k0]
    clear k0
    obtain rfl : k = 0 := by omega
    by_cases hn : i < 0
    · go_wp2_with (go_at_call 43; refine (hft wr).mono ?_; rintro e w3 ⟨rfl, rfl⟩)
      go_ret2
      exact ⟨⟨_, rfl, (by decide : (50 : Int) ≠ 0), _, _, rfl, heap_alloc_new wr _, rfl⟩, Below.next hbw.out (below_alloc _ _)⟩
    · have hn2 : (N : Int) ≤ i := ho.resolve_left hn
      have hn1 : decide (i < 0) = false := by simpa using hn
      go_wp2_with (go_at_call 43; refine (hft wr).mono ?_; rintro e w3 ⟨rfl, rfl⟩)
      go_ret2
      exact ⟨⟨_, rfl, (by decide : (50 : Int) ≠ 0), _, _, rfl, heap_alloc_new wr _, rfl⟩, Below.next hbw.out (below_alloc _ _)⟩
set_option maxRecDepth 100000 in
set_option maxHeartbeats 2000000 in
theorem bsame_out2 {W : World} {nv rv : Value} {g : Gf} (hG : Gr W nv rv g) (hS : Sized g) (hb : one (chk g) = []) {i j : Int} (h0i : 0 ≤ i) (h1 : i < (g.nodes.length : Int)) (ho : j < 0 ∨ (g.nodes.length : Int) ≤ j) :
    Calls Try.prog 17 #[.agg #[nv, rv], .int .i64 i, .int .i64 j] W fun r w' => (∃ b, r = .returned (.tuple #[.bool false, .iface 66 (.pointer (some ⟨b, 0, none⟩))]) ∧ Er w' (.iface 66 (.pointer (some ⟨b, 0, none⟩))) [(50, j)]) ∧ Below W.heap.size W w' := by
  obtain ⟨ee, he⟩ := al_dec g
  have hal := alike_good (hG.below (below_alloc W (.cells #[nv, rv] 25))) hS hb ee (fun x y _ _ => he x y)
  have hl : (ansC ee g.nodes.length 0).length = g.nodes.length := (ints_len _).trans (csF_len _ _)
  have hft := bfault_any 50 j
  clear hG
  generalize hNN : g.nodes.length = N at *
  go_enter Try.func17, Try.ntmps17
  go_wp2_with (go_at_call 41; refine hal.mono ?_; rintro e w1 ⟨⟨t2, t3, rfl, hF⟩, hb1⟩; have h0 := hF.own 0 (by simp); rw [hl] at h0; obtain ⟨ca, cc, rfl⟩ : ∃ ca cc, t2 = .slice ca N cc := own_sl h0)
  have hbb := hid (Below.next (below_alloc _ _) hb1)
  clear hal hF hl he
  go_loopw [26] (fun i' wr => ∃ k : Nat, k ≤ 1 ∧ i' = .int .i64 k ∧ Hid (wr = w1.alloc (.cells #[.int .i64 i, .int .i64 j] 3))) (fun i' _ => 2 - (intOf i').toNat)
  case atStart => exact ⟨0, Nat.zero_le _, rfl, rfl⟩
  case round =>
    obtain ⟨k, hk, rfl, hw⟩ := hrel
    obtain ⟨w2, hw2⟩ : ∃ w2, w2 = w1.alloc (.cells #[.int .i64 i, .int .i64 j] 3) := ⟨_, rfl⟩
    have hw' := hw.out
    rw [← hw2] at hw'
    subst hw'
    have hbw := hid (Below.next hbb.out (below_alloc w1 (.cells #[.int .i64 i, .int .i64 j] 3)))
    have k0 := heap_alloc_new w1 (.cells #[.int .i64 i, .int .i64 j] 3)
    rw [← hw2] at hbw k0
    have hw3 := hid hw2
    clear hw hw2
    have e0 : wr.cell? ⟨w1.heap.size, 0, none⟩ = some (.int .i64 i) := by simp [World.cell?, k0]
    have e1 : wr.cell? ⟨w1.heap.size, 1, none⟩ = some (.int .i64 j) := by simp [World.cell?, k0]
    clear k0
    rcases (by omega : k = 0 ∨ k = 1) with rfl | rfl
    · have n1 : decide (i < 0) = false := by simpa using h0i
      have n2 : decide ((N : Int) ≤ i) = false := by simpa using h1
      go_wp2
      go_roundw
      case rel => exact ⟨1, by omega, rfl, by first | exact hw3.out | exact trivial⟩
      case measure => simp [intOf]
    · skip
      by_cases hn : j < 0
      · go_wp2_with (go_at_call 43; refine (hft wr).mono ?_; rintro e w3 ⟨rfl, rfl⟩)
        go_ret2
        exact ⟨⟨_, rfl, (by decide : (50 : Int) ≠ 0), _, _, rfl, heap_alloc_new wr _, rfl⟩, Below.next hbw.out (below_alloc _ _)⟩
      · have hn2 : (N : Int) ≤ j := ho.resolve_left hn
        have hn1 : decide (j < 0) = false := by simpa using hn
        go_wp2_with (go_at_call 43; refine (hft wr).mono ?_; rintro e w3 ⟨rfl, rfl⟩)
        go_ret2
        exact ⟨⟨_, rfl, (by decide : (50 : Int) ≠ 0), _, _, rfl, heap_alloc_new wr _, rfl⟩, Below.next hbw.out (below_alloc _ _)⟩
end Go.Proofs.Ytdekmbggimcnpaa
