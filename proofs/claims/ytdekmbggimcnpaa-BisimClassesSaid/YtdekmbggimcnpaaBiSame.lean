/- Same of package bisim at a good graph and two of its nodes. -/
import Derived.Test.YtdekmbggimcnpaaBiBad
import Derived.Deep.QuietTactic
import Derived.BigQuiet
namespace Go.Proofs.Ytdekmbggimcnpaa
open Go.RowKit

set_option maxRecDepth 100000 in
set_option maxHeartbeats 2000000 in
theorem bsame_in {W : World} {nv rv : Value} {g : Gf} (hG : Gr W nv rv g) (hS : Sized g) (hb : one (chk g) = []) (ee : Nat → Nat → Bool) (he : ∀ x y, x < g.nodes.length → y < g.nodes.length → (ee x y = true ↔ Al g (x : Int) (y : Int))) {a b : Nat} (ha : a < g.nodes.length) (hbn : b < g.nodes.length) :
    Calls Try.prog 17 #[.agg #[nv, rv], .int .i64 (a : Int), .int .i64 (b : Int)] W fun r w' => r = .returned (.tuple #[.bool (decide (((csF ee g.nodes.length).getD a 0 : Int) = ((csF ee g.nodes.length).getD b 0 : Int))), .nilIface]) ∧ Below W.heap.size W w' := by
  have hal := alike_good (hG.below (below_alloc W (.cells #[nv, rv] 25))) hS hb ee he
  have hl : (ansC ee g.nodes.length 0).length = g.nodes.length := (ints_len _).trans (csF_len _ _)
  have hN := (chk_good hb).nodes
  clear hG
  generalize hNN : g.nodes.length = N at *
  go_enter Try.func17, Try.ntmps17
  go_wp2_with (go_at_call 41; refine hal.mono ?_; rintro e w1 ⟨⟨t2, t3, rfl, hF⟩, hb1⟩; have h0 := hF.own 0 (by simp); rw [hl] at h0; obtain ⟨ca, cc, rfl⟩ : ∃ ca cc, t2 = .slice ca N cc := own_sl h0)
  have hbb := hid (Below.next (below_alloc _ _) hb1)
  have hR : Ri w1 (.slice ca N cc) (ints (csF ee N)) := by
    have := Ri.ofOwn (l := ints (csF ee N)) (by rw [ints_len, csF_len]; exact h0)
    rw [ints_len, csF_len] at this
    exact this
  clear hal hF h0
  obtain ⟨cb, co, rfl, _⟩ := hR.at (j := a) (by rw [ints_len, csF_len]; exact ha)
  have hcls : ∀ n : Nat, n < N → w1.cell? ⟨cb, co + n, none⟩ = some (.int .i64 (((csF ee N).getD n 0 : Nat) : Int)) := fun n hn => by
    obtain ⟨q, o, h1, h2⟩ := hR.at (j := n) (by rw [ints_len, csF_len]; exact hn)
    injection h1 with h1
    injection h1 with e1 e2 _
    subst e1 e2
    rw [ints_get (by rw [csF_len]; exact hn)] at h2
    exact h2
  have c1 := hcls a ha
  have c2 := hcls b hbn
  clear hcls hR
  have ha' : (a : Int) < (N : Int) := by omega
  have hb' : (b : Int) < (N : Int) := by omega
  go_loopw [26] (fun i wr => ∃ k : Nat, k ≤ 2 ∧ i = .int .i64 k ∧ Hid (wr = w1.alloc (.cells #[.int .i64 (a : Int), .int .i64 (b : Int)] 3))) (fun i _ => 2 - (intOf i).toNat)
  case atStart => exact ⟨0, Nat.zero_le _, rfl, rfl⟩
  case round =>
    obtain ⟨k, hk, rfl, hw⟩ := hrel
    obtain ⟨w2, hw2⟩ : ∃ w2, w2 = w1.alloc (.cells #[.int .i64 (a : Int), .int .i64 (b : Int)] 3) := ⟨_, rfl⟩
    have hw' := hw.out
    rw [← hw2] at hw'
    subst hw'
    have hbw := hid (Below.next hbb.out (below_alloc w1 (.cells #[.int .i64 (a : Int), .int .i64 (b : Int)] 3)))
    have k0 := heap_alloc_new w1 (.cells #[.int .i64 (a : Int), .int .i64 (b : Int)] 3)
    have d1 := ((below_alloc w1 (.cells #[.int .i64 (a : Int), .int .i64 (b : Int)] 3)).cell (p := ⟨cb, co + a, none⟩) (lt_of_cell c1)).trans c1
    have d2 := ((below_alloc w1 (.cells #[.int .i64 (a : Int), .int .i64 (b : Int)] 3)).cell (p := ⟨cb, co + b, none⟩) (lt_of_cell c2)).trans c2
    have n1 : decide ((a : Int) < 0) = false := by simp
    have n2 : decide ((b : Int) < 0) = false := by simp
    have n3 : decide ((N : Int) ≤ (a : Int)) = false := by simpa using ha
    have n4 : decide ((N : Int) ≤ (b : Int)) = false := by simpa using hbn
    rw [← hw2] at hbw k0 d1 d2
    have hw3 := hid hw2
    clear hw hw2
    have e0 : wr.cell? ⟨w1.heap.size, 0, none⟩ = some (.int .i64 (a : Int)) := by simp [World.cell?, k0]
    have e1 : wr.cell? ⟨w1.heap.size, 1, none⟩ = some (.int .i64 (b : Int)) := by simp [World.cell?, k0]
    clear k0 c1 c2
    rcases (by omega : k = 0 ∨ k = 1 ∨ k = 2) with rfl | rfl | rfl
    · go_wp2
      go_roundw
      case rel => exact ⟨1, by omega, rfl, by first | exact hw3.out | exact trivial⟩
      case measure => simp [intOf]
    · go_wp2
      go_roundw
      case rel => exact ⟨2, by omega, rfl, by first | exact hw3.out | exact trivial⟩
      case measure => simp [intOf]
    · generalize hx : (csF ee N).getD a 0 = x at *
      generalize hy : (csF ee N).getD b 0 = y at *
      have hxy : ((x : Int) == (y : Int)) = decide ((x : Int) = (y : Int)) := by
        rw [Bool.eq_iff_iff]
        simp
      replace hxy := hid hxy
      go_wp2
      go_quiet (fail)
      go_wp2
      go_ret2
      refine ⟨?_, below_drewN hbw.out _⟩
      show Ending.returned (.tuple #[.bool ((x : Int) == (y : Int)), .nilIface]) = _
      rw [hxy.out, hx, hy]
end Go.Proofs.Ytdekmbggimcnpaa
