/- The reference's faults, held in a variable. -/
import Derived.Test.YtdekmbggimcnpaaGrRef3
import Derived.Test.YtdekmbggimcnpaaBiCls
import Derived.Deep.QuietTactic
import Derived.BigQuiet
import Derived.Test.YtdekmbggimcnpaaBiAZ
namespace Go.Proofs.Ytdekmbggimcnpaa
open Go.RowKit

set_option maxHeartbeats 400000 in
theorem fbad_no (a : Int) (w : World) : Calls Try.prog 14 #[.agg #[.int .i64 0, .int .i64 a, .string ⟨#[]⟩, .slice none 0 0]] w fun e w' => e = .returned (.bool false) ∧ Below w.heap.size w w' := by
  go_enter Try.func14, Try.ntmps14
  go_wp2
  go_ret
  exact ⟨rfl, below_alloc _ _⟩
set_option maxHeartbeats 400000 in
theorem fbad_yes {c : Int} (hc : c ≠ 0) (a : Int) (w : World) : Calls Try.prog 14 #[.agg #[.int .i64 c, .int .i64 a, .string ⟨#[]⟩, .slice none 0 0]] w fun e w' => e = .returned (.bool true) ∧ Below w.heap.size w w' := by
  have h : (c != 0) = true := by simp [hc]
  go_enter Try.func14, Try.ntmps14
  go_wp2
  go_ret
  exact ⟨rfl, below_alloc _ _⟩
theorem one_nil {x : Int × Int} : one x = [] ↔ x.1 = 0 := by
  unfold one
  split <;> simp_all
theorem set4_far {w : World} {q b o : Nat} {v0 v1 v2 v3 v : Value} (hne : b ≠ q) (h : w.cell? ⟨b, o, none⟩ = some v) : ((((w.setCell ⟨q, 0, none⟩ v0).setCell ⟨q, 1, none⟩ v1).setCell ⟨q, 2, none⟩ v2).setCell ⟨q, 3, none⟩ v3).cell? ⟨b, o, none⟩ = some v := by
  have e : ((((w.setCell ⟨q, 0, none⟩ v0).setCell ⟨q, 1, none⟩ v1).setCell ⟨q, 2, none⟩ v2).setCell ⟨q, 3, none⟩ v3).heap[b]? = w.heap[b]? := by
    rw [Below.heap_setCell _ ⟨q, 3, none⟩ _ _ hne, Below.heap_setCell _ ⟨q, 2, none⟩ _ _ hne, Below.heap_setCell _ ⟨q, 1, none⟩ _ _ hne, Below.heap_setCell _ ⟨q, 0, none⟩ _ _ hne]
  unfold World.cell? at h ⊢
  rw [e]
  exact h
theorem flt_four {w : World} {q : Nat} {c a : Int} (h : w.heap[q]? = some (.cells #[.int .i64 c, .int .i64 a, .string ⟨#[]⟩, .slice none 0 0] 30)) : w.cell? ⟨q, 0, none⟩ = some (.int .i64 c) ∧ w.cell? ⟨q, 1, none⟩ = some (.int .i64 a) ∧ w.cell? ⟨q, 2, none⟩ = some (.string ⟨#[]⟩) ∧ w.cell? ⟨q, 3, none⟩ = some (.slice none 0 0) := by
  refine ⟨?_, ?_, ?_, ?_⟩ <;> simp [World.cell?, h]
end Go.Proofs.Ytdekmbggimcnpaa

/- Same, Quotient and Named of package bisim at a graph that Check refuses: Check's own fault. -/
namespace Go.Proofs.Ytdekmbggimcnpaa
open Go.RowKit

set_option maxHeartbeats 1000000 in
theorem bsame_bad {W : World} {nv rv : Value} {g : Gf} (hG : Gr W nv rv g) (hS : Sized g) (hb : one (chk g) ≠ []) (i j : Int) :
    Calls Try.prog 17 #[.agg #[nv, rv], .int .i64 i, .int .i64 j] W fun r w' => (∃ b, r = .returned (.tuple #[.bool false, .iface 66 (.pointer (some ⟨b, 0, none⟩))]) ∧ Er w' (.iface 66 (.pointer (some ⟨b, 0, none⟩))) (one (chk g))) ∧ Below W.heap.size W w' := by
  have hal := alike_bad (hG.below (below_alloc W (.cells #[nv, rv] 25))) hS hb
  clear hG
  go_enter Try.func17, Try.ntmps17
  go_wp2_with (go_at_call 41; refine hal.mono ?_; rintro e w1 ⟨⟨b, rfl, hE⟩, hb1⟩)
  go_ret2
  exact ⟨⟨b, rfl, hE⟩, Below.next (below_alloc _ _) hb1⟩
set_option maxRecDepth 100000 in
set_option maxHeartbeats 1000000 in
theorem quot_bad {W : World} {nv rv : Value} {g : Gf} (hG : Gr W nv rv g) (hS : Sized g) (hb : one (chk g) ≠ []) :
    Calls Try.prog 19 #[.agg #[nv, rv]] W fun r w' => (∃ b, r = .returned (.tuple #[.agg #[.slice none 0 0, .slice none 0 0], .iface 66 (.pointer (some ⟨b, 0, none⟩))]) ∧ Er w' (.iface 66 (.pointer (some ⟨b, 0, none⟩))) (one (chk g))) ∧ Below W.heap.size W w' := by
  have hb2 : Below W.heap.size W ((W.alloc (.cells #[nv, rv] 25)).alloc (.cells #[.slice none 0 0, .slice none 0 0] 25)) := (below_alloc W _).alloc (by simp) _
  have hal := alike_bad (hG.below hb2) hS hb
  have hC : ∀ w1 : World, Below ((W.alloc (.cells #[nv, rv] 25)).alloc (.cells #[.slice none 0 0, .slice none 0 0] 25)).heap.size ((W.alloc (.cells #[nv, rv] 25)).alloc (.cells #[.slice none 0 0, .slice none 0 0] 25)) w1 →
      w1.heap[W.heap.size + 1]? = some (.cells #[.slice none 0 0, .slice none 0 0] 25) := fun w1 hb => by
    rw [hb.block _ (by simp)]
    simpa using heap_alloc_new (W.alloc (.cells #[nv, rv] 25)) (.cells #[.slice none 0 0, .slice none 0 0] 25)
  clear hG
  go_enter Try.func19, Try.ntmps19
  go_wp2_with (go_at_call 41; refine hal.mono ?_; rintro e w1 ⟨⟨b, rfl, hE⟩, hb1⟩; have k0 := hC w1 hb1; have c0 : w1.cell? ⟨W.heap.size + 1, 0, none⟩ = some (.slice none 0 0) := (by simp [World.cell?, k0]); have c1 : w1.cell? ⟨W.heap.size + 1, 1, none⟩ = some (.slice none 0 0) := (by simp [World.cell?, k0]); have f0 : w1.frozen? ⟨W.heap.size + 1, 0, none⟩ = false := (by simp [World.frozen?, k0]); have f1 : w1.frozen? ⟨W.heap.size + 1, 1, none⟩ = false := (by simp [World.frozen?, k0]))
  have hE1 := Er.far (i := 1) (v := .slice none 0 0) (Er.far (i := 0) (v := .slice none 0 0) hE k0 (by decide)) (blk2_set0 k0) (by decide)
  exact bodyPost_ret (ret_gr Try.results19 (by rfl) (by rfl) (blk2_set k0)) rfl ⟨⟨b, rfl, hE1⟩, ((Below.next hb2 hb1).setCell (by simp) _).setCell (by simp) _⟩
end Go.Proofs.Ytdekmbggimcnpaa

/- Same of package bisim at a good graph and two of its nodes. -/
namespace Go.Proofs.Ytdekmbggimcnpaa
open Go.RowKit

set_option maxRecDepth 100000 in
set_option maxHeartbeats 2000000 in
theorem bsame_in {W : World} {nv rv : Value} {g : Gf} (hG : Gr W nv rv g) (hS : Sized g) (hb : one (chk g) = []) (ee : Nat → Nat → Bool) (he : ∀ x y, x < g.nodes.length → y < g.nodes.length → (ee x y = true ↔ Al g (x : Int) (y : Int))) {a b : Nat} (ha : a < g.nodes.length) (hbn : b < g.nodes.length) :
    Calls Try.prog 17 #[.agg #[nv, rv], .int .i64 (a : Int), .int .i64 (b : Int)] W fun r w' => r = .returned (.tuple #[.bool (decide (((csF ee g.nodes.length).getD a 0 : Int) = ((csF ee g.nodes.length).getD b 0 : Int))), .nilIface]) ∧ Below W.heap.size W w' := by
  have hal := alike_good (hG.below (below_alloc W (.cells #[nv, rv] 25))) hS hb ee he
  have hl : (ansC ee g.nodes.length 0).length = g.nodes.length := (ints_len _).trans (csF_len _ _)
  have hN := (chk_good hb).nodes
  clear hG
  generalize hNN : g.nodes.length = N at *
  go_enter Try.func17, Try.ntmps17
  go_wp2_with (go_at_call 41; refine hal.mono ?_; rintro e w1 ⟨⟨t2, t3, rfl, hF⟩, hb1⟩; have h0 := hF.own 0 (by simp); rw [hl] at h0; obtain ⟨ca, cc, rfl⟩ : ∃ ca cc, t2 = .slice ca N cc := own_sl h0)
  have hbb := hid (Below.next (below_alloc _ _) hb1)
  have hR : Ri w1 (.slice ca N cc) (ints (csF ee N)) := by
    have := Ri.ofOwn (l := ints (csF ee N)) (by rw [ints_len, csF_len]; exact h0)
    rw [ints_len, csF_len] at this
    exact this
  clear hal hF h0
  obtain ⟨cb, co, rfl, _⟩ := hR.at (j := a) (by rw [ints_len, csF_len]; exact ha)
  have hcls : ∀ n : Nat, n < N → w1.cell? ⟨cb, co + n, none⟩ = some (.int .i64 (((csF ee N).getD n 0 : Nat) : Int)) := fun n hn => by
    obtain ⟨q, o, h1, h2⟩ := hR.at (j := n) (by rw [ints_len, csF_len]; exact hn)
    injection h1 with h1
    injection h1 with e1 e2 _
    subst e1 e2
    rw [ints_get (by rw [csF_len]; exact hn)] at h2
    exact h2
  have c1 := hcls a ha
  have c2 := hcls b hbn
  clear hcls hR
  have ha' : (a : Int) < (N : Int) := by omega
  have hb' : (b : Int) < (N : Int) := by omega
  go_loopw [26] (fun i wr => ∃ k : Nat, k ≤ 2 ∧ i = .int .i64 k ∧ Hid (wr = w1.alloc (.cells #[.int .i64 (a : Int), .int .i64 (b : Int)] 3))) (fun i _ => 2 - (intOf i).toNat)
  case atStart => exact ⟨0, Nat.zero_le _, rfl, rfl⟩
  case round =>
    obtain ⟨k, hk, rfl, hw⟩ := hrel
    obtain ⟨w2, hw2⟩ : ∃ w2, w2 = w1.alloc (.cells #[.int .i64 (a : Int), .int .i64 (b : Int)] 3) := ⟨_, rfl⟩
    have hw' := hw.out
    rw [← hw2] at hw'
    subst hw'
    have hbw := hid (Below.next hbb.out (below_alloc w1 (.cells #[.int .i64 (a : Int), .int .i64 (b : Int)] 3)))
    have k0 := heap_alloc_new w1 (.cells #[.int .i64 (a : Int), .int .i64 (b : Int)] 3)
    have d1 := ((below_alloc w1 (.cells #[.int .i64 (a : Int), .int .i64 (b : Int)] 3)).cell (p := ⟨cb, co + a, none⟩) (lt_of_cell c1)).trans c1
    have d2 := ((below_alloc w1 (.cells #[.int .i64 (a : Int), .int .i64 (b : Int)] 3)).cell (p := ⟨cb, co + b, none⟩) (lt_of_cell c2)).trans c2
    have n1 : decide ((a : Int) < 0) = false := by simp
    have n2 : decide ((b : Int) < 0) = false := by simp
    have n3 : decide ((N : Int) ≤ (a : Int)) = false := by simpa using ha
    have n4 : decide ((N : Int) ≤ (b : Int)) = false := by simpa using hbn
    rw [← hw2] at hbw k0 d1 d2
    have hw3 := hid hw2
    clear hw hw2
    have e0 : wr.cell? ⟨w1.heap.size, 0, none⟩ = some (.int .i64 (a : Int)) := by simp [World.cell?, k0]
    have e1 : wr.cell? ⟨w1.heap.size, 1, none⟩ = some (.int .i64 (b : Int)) := by simp [World.cell?, k0]
    clear k0 c1 c2
    rcases (by omega : k = 0 ∨ k = 1 ∨ k = 2) with rfl | rfl | rfl
    · go_wp2
      go_roundw
      case rel => exact ⟨1, by omega, rfl, by first | exact hw3.out | exact trivial⟩
      case measure => simp [intOf]
    · go_wp2
      go_roundw
      case rel => exact ⟨2, by omega, rfl, by first | exact hw3.out | exact trivial⟩
      case measure => simp [intOf]
    · generalize hx : (csF ee N).getD a 0 = x at *
      generalize hy : (csF ee N).getD b 0 = y at *
      have hxy : ((x : Int) == (y : Int)) = decide ((x : Int) = (y : Int)) := by
        rw [Bool.eq_iff_iff]
        simp
      replace hxy := hid hxy
      go_wp2
      go_quiet (fail)
      go_wp2
      go_ret2
      refine ⟨?_, below_drewN hbw.out _⟩
      show Ending.returned (.tuple #[.bool ((x : Int) == (y : Int)), .nilIface]) = _
      rw [hxy.out, hx, hy]
end Go.Proofs.Ytdekmbggimcnpaa

/- Same of package bisim at a good graph and a number that is no node. -/
namespace Go.Proofs.Ytdekmbggimcnpaa
open Go.RowKit

set_option maxRecDepth 100000 in
set_option maxHeartbeats 2000000 in
theorem bsame_out1 {W : World} {nv rv : Value} {g : Gf} (hG : Gr W nv rv g) (hS : Sized g) (hb : one (chk g) = []) {i j : Int} (ho : i < 0 ∨ (g.nodes.length : Int) ≤ i) :
    Calls Try.prog 17 #[.agg #[nv, rv], .int .i64 i, .int .i64 j] W fun r w' => (∃ b, r = .returned (.tuple #[.bool false, .iface 66 (.pointer (some ⟨b, 0, none⟩))]) ∧ Er w' (.iface 66 (.pointer (some ⟨b, 0, none⟩))) [(50, i)]) ∧ Below W.heap.size W w' := by
  obtain ⟨ee, he⟩ := al_dec g
  have hal := alike_good (hG.below (below_alloc W (.cells #[nv, rv] 25))) hS hb ee (fun x y _ _ => he x y)
  have hl : (ansC ee g.nodes.length 0).length = g.nodes.length := (ints_len _).trans (csF_len _ _)
  have hft := bfault_any 50 i
  clear hG
  generalize hNN : g.nodes.length = N at *
  go_enter Try.func17, Try.ntmps17
  go_wp2_with (go_at_call 41; refine hal.mono ?_; rintro e w1 ⟨⟨t2, t3, rfl, hF⟩, hb1⟩; have h0 := hF.own 0 (by simp); rw [hl] at h0; obtain ⟨ca, cc, rfl⟩ : ∃ ca cc, t2 = .slice ca N cc := own_sl h0)
  have hbb := hid (Below.next (below_alloc _ _) hb1)
  clear hal hF hl he
  go_loopw [26] (fun i' wr => ∃ k : Nat, k ≤ 0 ∧ i' = .int .i64 k ∧ Hid (wr = w1.alloc (.cells #[.int .i64 i, .int .i64 j] 3))) (fun i' _ => 2 - (intOf i').toNat)
  case atStart => exact ⟨0, Nat.zero_le _, rfl, rfl⟩
  case round =>
    obtain ⟨k, hk, rfl, hw⟩ := hrel
    obtain ⟨w2, hw2⟩ : ∃ w2, w2 = w1.alloc (.cells #[.int .i64 i, .int .i64 j] 3) := ⟨_, rfl⟩
    have hw' := hw.out
    rw [← hw2] at hw'
    subst hw'
    have hbw := hid (Below.next hbb.out (below_alloc w1 (.cells #[.int .i64 i, .int .i64 j] 3)))
    have k0 := heap_alloc_new w1 (.cells #[.int .i64 i, .int .i64 j] 3)
    rw [← hw2] at hbw k0
    have hw3 := hid hw2
    clear hw hw2
    have e0 : wr.cell? ⟨w1.heap.size, 0, none⟩ = some (.int .i64 i) := by simp [World.cell?, k0]
    have e1 : wr.cell? ⟨w1.heap.size, 1, none⟩ = some (.int .i64 j) := by simp [World.cell?, k0]
    clear k0
    obtain rfl : k = 0 := by omega
    by_cases hn : i < 0
    · go_wp2_with (go_at_call 43; refine (hft wr).mono ?_; rintro e w3 ⟨rfl, rfl⟩)
      go_ret2
      exact ⟨⟨_, rfl, (by decide : (50 : Int) ≠ 0), _, _, rfl, heap_alloc_new wr _, rfl⟩, Below.next hbw.out (below_alloc _ _)⟩
    · have hn2 : (N : Int) ≤ i := ho.resolve_left hn
      have hn1 : decide (i < 0) = false := by simpa using hn
      go_wp2_with (go_at_call 43; refine (hft wr).mono ?_; rintro e w3 ⟨rfl, rfl⟩)
      go_ret2
      exact ⟨⟨_, rfl, (by decide : (50 : Int) ≠ 0), _, _, rfl, heap_alloc_new wr _, rfl⟩, Below.next hbw.out (below_alloc _ _)⟩
set_option maxRecDepth 100000 in
set_option maxHeartbeats 2000000 in
theorem bsame_out2 {W : World} {nv rv : Value} {g : Gf} (hG : Gr W nv rv g) (hS : Sized g) (hb : one (chk g) = []) {i j : Int} (h0i : 0 ≤ i) (h1 : i < (g.nodes.length : Int)) (ho : j < 0 ∨ (g.nodes.length : Int) ≤ j) :
    Calls Try.prog 17 #[.agg #[nv, rv], .int .i64 i, .int .i64 j] W fun r w' => (∃ b, r = .returned (.tuple #[.bool false, .iface 66 (.pointer (some ⟨b, 0, none⟩))]) ∧ Er w' (.iface 66 (.pointer (some ⟨b, 0, none⟩))) [(50, j)]) ∧ Below W.heap.size W w' := by
  obtain ⟨ee, he⟩ := al_dec g
  have hal := alike_good (hG.below (below_alloc W (.cells #[nv, rv] 25))) hS hb ee (fun x y _ _ => he x y)
  have hl : (ansC ee g.nodes.length 0).length = g.nodes.length := (ints_len _).trans (csF_len _ _)
  have hft := bfault_any 50 j
  clear hG
  generalize hNN : g.nodes.length = N at *
  go_enter Try.func17, Try.ntmps17
  go_wp2_with (go_at_call 41; refine hal.mono ?_; rintro e w1 ⟨⟨t2, t3, rfl, hF⟩, hb1⟩; have h0 := hF.own 0 (by simp); rw [hl] at h0; obtain ⟨ca, cc, rfl⟩ : ∃ ca cc, t2 = .slice ca N cc := own_sl h0)
  have hbb := hid (Below.next (below_alloc _ _) hb1)
  clear hal hF hl he
  go_loopw [26] (fun i' wr => ∃ k : Nat, k ≤ 1 ∧ i' = .int .i64 k ∧ Hid (wr = w1.alloc (.cells #[.int .i64 i, .int .i64 j] 3))) (fun i' _ => 2 - (intOf i').toNat)
  case atStart => exact ⟨0, Nat.zero_le _, rfl, rfl⟩
  case round =>
    obtain ⟨k, hk, rfl, hw⟩ := hrel
    obtain ⟨w2, hw2⟩ : ∃ w2, w2 = w1.alloc (.cells #[.int .i64 i, .int .i64 j] 3) := ⟨_, rfl⟩
    have hw' := hw.out
    rw [← hw2] at hw'
    subst hw'
    have hbw := hid (Below.next hbb.out (below_alloc w1 (.cells #[.int .i64 i, .int .i64 j] 3)))
    have k0 := heap_alloc_new w1 (.cells #[.int .i64 i, .int .i64 j] 3)
    rw [← hw2] at hbw k0
    have hw3 := hid hw2
    clear hw hw2
    have e0 : wr.cell? ⟨w1.heap.size, 0, none⟩ = some (.int .i64 i) := by simp [World.cell?, k0]
    have e1 : wr.cell? ⟨w1.heap.size, 1, none⟩ = some (.int .i64 j) := by simp [World.cell?, k0]
    clear k0
    rcases (by omega : k = 0 ∨ k = 1) with rfl | rfl
    · have n1 : decide (i < 0) = false := by simpa using h0i
      have n2 : decide ((N : Int) ≤ i) = false := by simpa using h1
      go_wp2
      go_roundw
      case rel => exact ⟨1, by omega, rfl, by first | exact hw3.out | exact trivial⟩
      case measure => simp [intOf]
    · skip
      by_cases hn : j < 0
      · go_wp2_with (go_at_call 43; refine (hft wr).mono ?_; rintro e w3 ⟨rfl, rfl⟩)
        go_ret2
        exact ⟨⟨_, rfl, (by decide : (50 : Int) ≠ 0), _, _, rfl, heap_alloc_new wr _, rfl⟩, Below.next hbw.out (below_alloc _ _)⟩
      · have hn2 : (N : Int) ≤ j := ho.resolve_left hn
        have hn1 : decide (j < 0) = false := by simpa using hn
        go_wp2_with (go_at_call 43; refine (hft wr).mono ?_; rintro e w3 ⟨rfl, rfl⟩)
        go_ret2
        exact ⟨⟨_, rfl, (by decide : (50 : Int) ≠ 0), _, _, rfl, heap_alloc_new wr _, rfl⟩, Below.next hbw.out (below_alloc _ _)⟩
end Go.Proofs.Ytdekmbggimcnpaa

/- The size of graphs: Small of package tendrilhand. -/
namespace Go.Proofs.Ytdekmbggimcnpaa
open Go.RowKit

/-- Is a graph small? -/
def smallK (K : Nat) (g : Gf) : Bool := decide (g.nodes.length ≤ K) && decide (g.roots.length ≤ K) && g.nodes.all (fun n => decide (n.args.length ≤ 40))
theorem smallK_fits {K : Nat} {g : Gf} (h : smallK K g = true) : (∀ n ∈ g.nodes, n.args.length ≤ 40) ∧ g.nodes.length ≤ K ∧ g.roots.length ≤ K := by
  simp only [smallK, Bool.and_eq_true, decide_eq_true_eq, List.all_eq_true] at h
  obtain ⟨⟨h1, h2⟩, h3⟩ := h
  exact ⟨fun n hn => h3 n hn, h1, h2⟩
set_option maxRecDepth 100000 in
set_option maxHeartbeats 2000000 in
theorem smallK_any {K : Nat} (hK : K ≤ 5000) {W : World} {nv rv : Value} {g : Gf} (hG : Gr W nv rv g) :
    Calls Try.prog 26 #[.agg #[nv, rv], .int .i64 (K : Int)] W fun e w' => e = .returned (.bool (smallK K g)) ∧ Below W.heap.size W w' := by
  obtain ⟨l, lr⟩ := g
  obtain ⟨ua, uc, rfl, hu⟩ := hG.1
  obtain ⟨ra, rc, rfl, _⟩ := hG.2
  dsimp only at hu ⊢
  have hE := hid (show smallK K ⟨l, lr⟩ = (decide (l.length ≤ K) && decide (lr.length ≤ K) && l.all (fun n => decide (n.args.length ≤ 40))) from rfl)
  generalize smallK K ⟨l, lr⟩ = R at hE ⊢
  by_cases h1 : K < l.length
  · have h1' : (K : Int) < (l.length : Int) := by omega
    have hR := hid (show R = false by rw [hE.out, decide_eq_false (by omega : ¬ l.length ≤ K)]; rfl)
    clear hE hu hG
    go_enter Try.func26, Try.ntmps26
    go_wp2
    go_ret
    exact ⟨ret_bool hR.out.symm, below_alloc _ _⟩
  · by_cases h2 : K < lr.length
    · have h1' : ¬ (K : Int) < (l.length : Int) := by omega
      have h2' : (K : Int) < (lr.length : Int) := by omega
      have hR := hid (show R = false by rw [hE.out, decide_eq_false (by omega : ¬ lr.length ≤ K)]; simp)
      clear hE hu hG
      go_enter Try.func26, Try.ntmps26
      go_wp2
      go_ret
      exact ⟨ret_bool hR.out.symm, below_alloc _ _⟩
    · have h1' : ¬ (K : Int) < (l.length : Int) := by omega
      have h2' : ¬ (K : Int) < (lr.length : Int) := by omega
      go_enter Try.func26, Try.ntmps26
      go_wp2
      go_loopw [22] (fun i wr => ∃ k : Nat, k ≤ l.length ∧ i = .int .i64 k ∧ Hid (Below W.heap.size W wr) ∧ Hid (∀ j, j < k → (l.getD j nd0).args.length ≤ 40)) (fun i _ => l.length - (intOf i).toNat)
      case atStart => exact ⟨0, Nat.zero_le _, rfl, below_alloc _ _, fun j hj => absurd hj (Nat.not_lt_zero _)⟩
      case round =>
        obtain ⟨k, hk, rfl, hb, hp⟩ := hrel
        by_cases hlt : k < l.length
        · obtain ⟨ub, uo, uav, rfl, hcu⟩ := hu k hlt
          obtain ⟨p0, p1, p2, p3, hA⟩ := hcu.below hb.out
          obtain ⟨aa, ac, rfl, _⟩ := hA
          have hin : l.getD k nd0 ∈ l := by simp [List.getD, hlt]
          have hlp := lt_of_cell p0
          by_cases h40 : 40 < (l.getD k nd0).args.length
          · have hR := hid (show R = false by
              rw [hE.out]
              have : l.all (fun n => decide (n.args.length ≤ 40)) = false := List.all_eq_false.2 ⟨_, hin, by simpa using h40⟩
              rw [this]
              simp)
            clear hin hcu hu hp hE hG
            generalize l.getD k nd0 = x at p0 p1 p2 p3 h40
            obtain ⟨xk, xs, xn, xl⟩ := x
            dsimp only at p0 p1 p2 p3 h40
            have h40' : (40 : Int) < (xl.length : Int) := by omega
            go_wp2
            go_ret
            exact ⟨ret_bool hR.out.symm, hb.out.alloc hb.out.size _⟩
          · have hp' : Hid (∀ j, j < k + 1 → (l.getD j nd0).args.length ≤ 40) := fun j hj => by
              rcases Nat.lt_or_eq_of_le (Nat.le_of_lt_succ hj) with h | h
              · exact hp.out j h
              · subst h; omega
            clear hin hcu hu hp hE hG
            generalize l.getD k nd0 = x at p0 p1 p2 p3 h40
            obtain ⟨xk, xs, xn, xl⟩ := x
            dsimp only at p0 p1 p2 p3 h40
            have h40' : ¬ (40 : Int) < (xl.length : Int) := by omega
            go_wp2
            go_roundw
            case rel => exact ⟨k + 1, by omega, congrArg (Value.int .i64) (by omega), hb.out.alloc hb.out.size _, hp'⟩
            case measure => simp [intOf]; omega
        · have hR := hid (show R = true by
            rw [hE.out, decide_eq_true (by omega : l.length ≤ K), decide_eq_true (by omega : lr.length ≤ K)]
            simp only [Bool.true_and, List.all_eq_true, decide_eq_true_eq]
            intro n hn
            obtain ⟨i, hi, rfl⟩ := List.getElem_of_mem hn
            have := hp.out i (by omega)
            simpa [List.getD, hi] using this)
          clear hE hu hG hp
          go_wp2
          go_ret
          exact ⟨ret_bool hR.out.symm, hb.out⟩
end Go.Proofs.Ytdekmbggimcnpaa

/- Same of package graph and of the reference: whether two graphs are one as data. -/
namespace Go.Proofs.Ytdekmbggimcnpaa
open Go.RowKit

theorem list_ext {l m : List Int} (h : l.length = m.length) (he : ∀ j, j < l.length → l.getD j 0 = m.getD j 0) : l = m := by
  apply List.ext_getElem h
  intro i h1 h2
  have := he i h1
  simpa [List.getD, h1, h2] using this
theorem nds_ext {l m : List Nd} (h : l.length = m.length) (he : ∀ j, j < l.length → l.getD j nd0 = m.getD j nd0) : l = m := by
  apply List.ext_getElem h
  intro i h1 h2
  have := he i h1
  simpa [List.getD, h1, h2] using this
theorem text_eq {a b : ByteArray} (h : a.toList = b.toList) : a = b := by
  rw [ByteArray.toList_eq, ByteArray.toList_eq] at h
  exact ByteArray.ext (Array.toList_inj.1 h)
set_option maxRecDepth 100000 in
set_option maxHeartbeats 1000000 in
/-- slices.Equal over numbers. -/
theorem equal_ints {W : World} {u v : Value} {l m : List Int} (hu : Ri W u l) (hv : Ri W v m) (hl : l.length ≤ 5000) :
    Calls Try.prog 59 #[u, v] W fun e w' => e = .returned (.bool (decide (l = m))) ∧ Below W.heap.size W w' := by
  obtain ⟨ua, uc, rfl, hu⟩ := hu
  obtain ⟨va, vc, rfl, hv⟩ := hv
  by_cases hlen : l.length = m.length
  · have hln : (l.length : Int) = (m.length : Int) := by omega
    go_enter Try.func59, Try.ntmps59
    go_wp2
    go_loopw [5, 13] (fun _ i wr => ∃ k : Nat, k ≤ l.length ∧ i = .int .i64 k ∧ Hid (Below W.heap.size W wr) ∧ Hid (∀ j, j < k → l.getD j 0 = m.getD j 0)) (fun _ i _ => l.length - (intOf i).toNat)
    case atStart => exact ⟨0, Nat.zero_le _, rfl, Below.refl _ _, fun j hj => absurd hj (Nat.not_lt_zero _)⟩
    case round =>
      obtain ⟨k, hk, rfl, hb, hp⟩ := hrel
      by_cases hlt : k < l.length
      · obtain ⟨ub, uo, rfl, hcu⟩ := hu k hlt
        obtain ⟨vb, vo, rfl, hcv⟩ := hv k (by omega)
        have du : wr.cell? ⟨ub, uo + k, none⟩ = some (.int .i64 (l.getD k 0)) := by rw [hb.out.cell (p := ⟨ub, uo + k, none⟩) (lt_of_cell hcu)]; exact hcu
        have dv : wr.cell? ⟨vb, vo + k, none⟩ = some (.int .i64 (m.getD k 0)) := by rw [hb.out.cell (p := ⟨vb, vo + k, none⟩) (lt_of_cell hcv)]; exact hcv
        by_cases he : l.getD k 0 = m.getD k 0
        · have hp' : Hid (∀ j, j < k + 1 → l.getD j 0 = m.getD j 0) := fun j hj => by
            rcases Nat.lt_or_eq_of_le (Nat.le_of_lt_succ hj) with h | h
            · exact hp.out j h
            · subst h; exact he
          rw [← he] at dv
          generalize l.getD k 0 = x at du dv
          clear hcu hcv hu hv he hp
          go_wp2
          go_quiet (fail)
          go_wp2
          go_roundw
          case rel => exact ⟨k + 1, by omega, congrArg (Value.int .i64) (by omega), below_drewN hb.out _, hp'⟩
          case measure => simp [intOf]; omega
        · have hF := hid (show decide (l = m) = false from decide_eq_false (fun e => he (by rw [e])))
          have he' : (l.getD k 0 == m.getD k 0) = false := by simpa using he
          generalize l.getD k 0 = x at du he he'
          generalize m.getD k 0 = y at dv he he'
          clear hcu hcv hu hv hp
          go_wp2
          go_quiet (fail)
          go_wp2
          go_ret
          exact ⟨ret_bool hF.out.symm, below_drewN hb.out _⟩
      · have hT := hid (show decide (l = m) = true from decide_eq_true (list_ext hlen (fun j hj => hp.out j (by omega))))
        clear hu hv hp
        go_wp2
        go_ret
        exact ⟨ret_bool hT.out.symm, hb.out⟩
  · have hF := hid (show decide (l = m) = false from decide_eq_false (fun e => hlen (by rw [e])))
    have hln : ((l.length : Int) == (m.length : Int)) = false := by simpa using (by omega : ¬ (l.length : Int) = (m.length : Int))
    clear hu hv
    go_enter Try.func59, Try.ntmps59
    go_wp2
    go_ret
    exact ⟨ret_bool hF.out.symm, Below.refl _ _⟩
set_option maxRecDepth 100000 in
set_option maxHeartbeats 1000000 in
/-- The same numbers, by the reference. -/
theorem rints_any {W : World} {u v : Value} {l m : List Int} (hu : Ri W u l) (hv : Ri W v m) (hl : l.length ≤ 5000) :
    Calls Try.prog 16 #[u, v] W fun e w' => e = .returned (.bool (decide (l = m))) ∧ Below W.heap.size W w' := by
  obtain ⟨ua, uc, rfl, hu⟩ := hu
  obtain ⟨va, vc, rfl, hv⟩ := hv
  by_cases hlen : l.length = m.length
  · have hln : (l.length : Int) = (m.length : Int) := by omega
    go_enter Try.func16, Try.ntmps16
    go_wp2
    go_loopw [5] (fun i wr => ∃ k : Nat, k ≤ l.length ∧ i = .int .i64 k ∧ Hid (Below W.heap.size W wr) ∧ Hid (∀ j, j < k → l.getD j 0 = m.getD j 0)) (fun i _ => l.length - (intOf i).toNat)
    case atStart => exact ⟨0, Nat.zero_le _, rfl, Below.refl _ _, fun j hj => absurd hj (Nat.not_lt_zero _)⟩
    case round =>
      obtain ⟨k, hk, rfl, hb, hp⟩ := hrel
      by_cases hlt : k < l.length
      · obtain ⟨ub, uo, rfl, hcu⟩ := hu k hlt
        obtain ⟨vb, vo, rfl, hcv⟩ := hv k (by omega)
        have du : wr.cell? ⟨ub, uo + k, none⟩ = some (.int .i64 (l.getD k 0)) := by rw [hb.out.cell (p := ⟨ub, uo + k, none⟩) (lt_of_cell hcu)]; exact hcu
        have dv : wr.cell? ⟨vb, vo + k, none⟩ = some (.int .i64 (m.getD k 0)) := by rw [hb.out.cell (p := ⟨vb, vo + k, none⟩) (lt_of_cell hcv)]; exact hcv
        by_cases he : l.getD k 0 = m.getD k 0
        · have hp' : Hid (∀ j, j < k + 1 → l.getD j 0 = m.getD j 0) := fun j hj => by
            rcases Nat.lt_or_eq_of_le (Nat.le_of_lt_succ hj) with h | h
            · exact hp.out j h
            · subst h; exact he
          rw [← he] at dv
          generalize l.getD k 0 = x at du dv
          clear hcu hcv hu hv he hp
          go_wp2
          go_quiet (fail)
          go_wp2
          go_roundw
          case rel => exact ⟨k + 1, by omega, congrArg (Value.int .i64) (by omega), below_drewN hb.out _, hp'⟩
          case measure => simp [intOf]; omega
        · have hF := hid (show decide (l = m) = false from decide_eq_false (fun e => he (by rw [e])))
          have he' : (l.getD k 0 == m.getD k 0) = false := by simpa using he
          generalize l.getD k 0 = x at du he he'
          generalize m.getD k 0 = y at dv he he'
          clear hcu hcv hu hv hp
          go_wp2
          go_quiet (fail)
          go_wp2
          go_ret
          exact ⟨ret_bool hF.out.symm, below_drewN hb.out _⟩
      · have hT := hid (show decide (l = m) = true from decide_eq_true (list_ext hlen (fun j hj => hp.out j (by omega))))
        clear hu hv hp
        go_wp2
        go_ret
        exact ⟨ret_bool hT.out.symm, hb.out⟩
  · have hF := hid (show decide (l = m) = false from decide_eq_false (fun e => hlen (by rw [e])))
    have hln : ((l.length : Int) == (m.length : Int)) = false := by simpa using (by omega : ¬ (l.length : Int) = (m.length : Int))
    clear hu hv
    go_enter Try.func16, Try.ntmps16
    go_wp2
    go_ret
    exact ⟨ret_bool hF.out.symm, Below.refl _ _⟩
/-- Are two nodes one? -/
def eqNd (a b : Nd) : Bool := decide (a.kind = b.kind) && decide (a.name.toList = b.name.toList) && decide (a.num = b.num) && decide (a.args = b.args)
theorem eqNd_yes {a b : Nd} (h : a = b) : eqNd a b = true := by
  subst h
  simp [eqNd]
theorem eqNd_no {a b : Nd} (h : a ≠ b) : eqNd a b = false := by
  cases he : eqNd a b with
  | false => rfl
  | true =>
    obtain ⟨k, s, n, l⟩ := a
    obtain ⟨k', s', n', l'⟩ := b
    simp only [eqNd, Bool.and_eq_true, decide_eq_true_eq] at he
    obtain ⟨⟨⟨h1, h2⟩, h3⟩, h4⟩ := he
    exact absurd (by rw [h1, text_eq h2, h3, h4]) h
/-- Are two rows of nodes one? -/
def eqNds : List Nd → List Nd → Bool
  | [], [] => true
  | a :: l, b :: m => eqNd a b && eqNds l m
  | _, _ => false
theorem eqNds_yes : ∀ {l m : List Nd}, l = m → eqNds l m = true
  | [], _, h => by subst h; rfl
  | a :: l, _, h => by
    subst h
    simp only [eqNds, eqNd_yes rfl, eqNds_yes (rfl : l = l), Bool.and_self]
theorem eqNds_no : ∀ {l m : List Nd}, l ≠ m → eqNds l m = false
  | [], [], h => absurd rfl h
  | [], b :: m, _ => rfl
  | a :: l, [], _ => rfl
  | a :: l, b :: m, h => by
    simp only [eqNds]
    by_cases e : a = b
    · rw [eqNds_no (fun e' => h (by rw [e, e']))]
      simp
    · rw [eqNd_no e]
      rfl
/-- Are two graphs one? -/
def eqG (a b : Gf) : Bool := eqNds a.nodes b.nodes && decide (a.roots = b.roots)
theorem eqG_yes (a : Gf) : eqG a a = true := by simp [eqG, eqNds_yes (rfl : a.nodes = a.nodes)]
theorem nd_eq (k k' n n' : Int) (s s' : ByteArray) (l l' : List Int) : eqNd ⟨k, s, n, l⟩ ⟨k', s', n', l'⟩ = (decide (k = k') && decide (s.toList = s'.toList) && decide (n = n') && decide (l = l')) := rfl
set_option maxRecDepth 100000 in
set_option maxHeartbeats 2000000 in
theorem sameNode_any {W : World} {u v : Value} {a b : Nd} (hu : Ri W u a.args) (hv : Ri W v b.args) (hl : a.args.length ≤ 5000) :
    Calls Try.prog 58 #[.agg #[.int .i64 a.kind, .string a.name, .int .i64 a.num, u], .agg #[.int .i64 b.kind, .string b.name, .int .i64 b.num, v]] W fun e w' => e = .returned (.bool (eqNd a b)) ∧ Below W.heap.size W w' := by
  obtain ⟨k, s, n, l⟩ := a
  obtain ⟨k', s', n', l'⟩ := b
  dsimp only at hu hv hl ⊢
  have hb2 : Below W.heap.size W ((W.alloc (.cells #[.int .i64 k, .string s, .int .i64 n, u] 55)).alloc (.cells #[.int .i64 k', .string s', .int .i64 n', v] 55)) := (below_alloc W _).alloc (by simp) _
  have hE := equal_ints (hu.below hb2) (hv.below hb2) hl
  have hG := hid (nd_eq k k' n n' s s' l l')
  generalize eqNd ⟨k, s, n, l⟩ ⟨k', s', n', l'⟩ = R at hG ⊢
  generalize decide (l = l') = r at hE hG
  clear hu hv
  by_cases hk : k = k'
  · subst hk
    by_cases hn : n = n'
    · subst hn
      go_enter Try.func58, Try.ntmps58
      go_wp2_with (go_at_call 59; refine hE.mono ?_; rintro e w' ⟨rfl, hb⟩)
      · go_ret
        refine ⟨ret_bool ?_, Below.next hb2 hb⟩
        rw [hG.out]
        simp [*]
      · go_ret
        refine ⟨ret_bool ?_, hb2⟩
        rw [hG.out]
        simp [*]
    · go_enter Try.func58, Try.ntmps58
      go_wp2
      all_goals
        go_ret
        refine ⟨ret_bool ?_, hb2⟩
        rw [hG.out]
        simp [*]
  · go_enter Try.func58, Try.ntmps58
    go_wp2
    all_goals
      go_ret
      refine ⟨ret_bool ?_, hb2⟩
      rw [hG.out]
      simp [*]
end Go.Proofs.Ytdekmbggimcnpaa

/- What the laws of layer 5 keep: the graph's box, the fault's box. -/
namespace Go.Proofs.Ytdekmbggimcnpaa
open Go.RowKit

theorem two_cells {w : World} {q : Nat} {u v : Value} {T : TypeId} (h : w.heap[q]? = some (.cells #[u, v] T)) : w.cell? ⟨q, 0, none⟩ = some u ∧ w.cell? ⟨q, 1, none⟩ = some v := by
  constructor <;> simp [World.cell?, h]
set_option maxHeartbeats 1000000 in
theorem llarge_any {W : World} {nv rv : Value} {g : Gf} (hG : Gr W nv rv g) :
    Calls Try.prog 10 #[.agg #[nv, rv]] W fun e w' => e = .returned (.bool (!smallK 60 g)) ∧ Below W.heap.size W w' := by
  have hsm := smallK_any (K := 60) (by omega) (hG.below (below_alloc W (.cells #[nv, rv] 25)))
  clear hG
  generalize smallK 60 g = B at *
  cases B
  all_goals
    go_enter Try.func10, Try.ntmps10
    go_wp2_with (go_at_call 26; go_must (refine hsm.mono ?_; rintro e w1 ⟨rfl, hb1⟩))
    go_ret
    exact ⟨rfl, Below.next (below_alloc _ _) hb1⟩
/-- What the law keeps: the graph's box, the fault's box. -/
structure Lw (W : World) (nv rv : Value) (q : Nat) (c a : Int) (w : World) : Prop where
  b : Below W.heap.size W w
  bx : w.heap[W.heap.size]? = some (.cells #[nv, rv] 25)
  f : w.heap[q]? = some (.cells #[.int .i64 c, .int .i64 a, .string ⟨#[]⟩, .slice none 0 0] 30)
theorem Lw.next {W w w' : World} {nv rv : Value} {q : Nat} {c a : Int} (h : Lw W nv rv q c a w) (hb : Below w.heap.size w w') : Lw W nv rv q c a w' :=
  ⟨Below.next h.b hb, sq_keep h.bx hb, sq_keep h.f hb⟩
theorem Lw.set {W w : World} {nv rv : Value} {q : Nat} {c a c' a' : Int} (h : Lw W nv rv q c a w) (hq : W.heap.size < q) : Lw W nv rv q c' a' ((((w.setCell ⟨q, 0, none⟩ (.int .i64 c')).setCell ⟨q, 1, none⟩ (.int .i64 a')).setCell ⟨q, 2, none⟩ (.string ⟨#[]⟩)).setCell ⟨q, 3, none⟩ (.slice none 0 0)) :=
  ⟨set4_below h.b (by omega), by
    rw [Below.heap_setCell _ ⟨q, 3, none⟩ _ _ (by show W.heap.size ≠ q; omega), Below.heap_setCell _ ⟨q, 2, none⟩ _ _ (by show W.heap.size ≠ q; omega), Below.heap_setCell _ ⟨q, 1, none⟩ _ _ (by show W.heap.size ≠ q; omega), Below.heap_setCell _ ⟨q, 0, none⟩ _ _ (by show W.heap.size ≠ q; omega)]
    exact h.bx, box_set0 h.f⟩
theorem flt_frz {w : World} {q : Nat} {c a : Int} (h : w.heap[q]? = some (.cells #[.int .i64 c, .int .i64 a, .string ⟨#[]⟩, .slice none 0 0] 30)) : w.frozen? ⟨q, 0, none⟩ = false ∧ w.frozen? ⟨q, 1, none⟩ = false ∧ w.frozen? ⟨q, 2, none⟩ = false ∧ w.frozen? ⟨q, 3, none⟩ = false := by
  refine ⟨?_, ?_, ?_, ?_⟩ <;> simp [World.frozen?, h]
/-- An error does not hear of the fault's box. -/
theorem Er.apart {w w' : World} {q : Nat} {cs : Array Value} (hq : w.heap[q]? = some (.cells cs 30 (0, 0))) (hk : ∀ k, k ≠ q → w'.heap[k]? = w.heap[k]?) : ∀ {fs : Fs} {e : Value}, Er w e fs → Er w' e fs
  | [], _, h => h
  | _ :: _, _, ⟨h0, b, ev, he, hb', hr⟩ => ⟨h0, b, ev, he, by
      rw [hk b (fun e => by
        subst e
        rw [hb'] at hq
        simp [faultObj] at hq)]
      exact hb', Er.apart hq hk hr⟩
theorem Er.set4 {w : World} {q : Nat} {cs : Array Value} {v0 v1 v2 v3 : Value} (hq : w.heap[q]? = some (.cells cs 30 (0, 0))) {fs : Fs} {e : Value} (h : Er w e fs) : Er ((((w.setCell ⟨q, 0, none⟩ v0).setCell ⟨q, 1, none⟩ v1).setCell ⟨q, 2, none⟩ v2).setCell ⟨q, 3, none⟩ v3) e fs :=
  Er.apart hq (fun k hne => by rw [Below.heap_setCell _ ⟨q, 3, none⟩ _ _ hne, Below.heap_setCell _ ⟨q, 2, none⟩ _ _ hne, Below.heap_setCell _ ⟨q, 1, none⟩ _ _ hne, Below.heap_setCell _ ⟨q, 0, none⟩ _ _ hne]) h
/-- The numbers that a block of classes tells. -/
theorem cls_ri {w : World} {cb N : Nat} {l : List Nat} (hl : l.length = N) (h : w.heap[cb]? = some (.cells (sqV N fun i => .int .i64 ((l.getD i 0 : Nat) : Int)) 3)) : Ri w (.slice (some ⟨cb, 0, none⟩) N N) (ints l) := by
  refine ⟨some ⟨cb, 0, none⟩, N, by rw [ints_len, hl], fun j hj => ⟨cb, 0, rfl, ?_⟩⟩
  rw [ints_len] at hj
  have h2 := sqV_at (N := N) (fun i => Value.int .i64 ((l.getD i 0 : Nat) : Int)) (a := j) (by omega)
  rw [ints_get hj]
  generalize (sqV N fun i => Value.int .i64 ((l.getD i 0 : Nat) : Int)) = A at h h2
  generalize Value.int .i64 ((l.getD j 0 : Nat) : Int) = V at h2 ⊢
  simp [World.cell?, h, h2]
end Go.Proofs.Ytdekmbggimcnpaa
