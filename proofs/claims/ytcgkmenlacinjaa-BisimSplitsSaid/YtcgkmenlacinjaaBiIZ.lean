/- Alike of package bisim, at any two graphs: true just if both are good and a pairing of their nodes keeps labels and leads on. -/
import Derived.Test.YtcgkmenlacinjaaBiCZ
import Derived.Test.YtcgkmenlacinjaaBiBZ
import Derived.Deep.QuietTactic
import Derived.BigQuiet
namespace Go.Proofs.Ytcgkmenlacinjaa
open Go.RowKit

theorem eqG_iff (a b : Gf) : eqG a b = true ↔ a = b := by
  constructor
  · intro h
    simp only [eqG, Bool.and_eq_true, decide_eq_true_eq] at h
    have hn : a.nodes = b.nodes := Classical.byContradiction fun hne => by
      rw [eqNds_no hne] at h
      exact absurd h.1 (by decide)
    obtain ⟨n, r⟩ := a
    obtain ⟨m, s⟩ := b
    have h1 : n = m := hn
    have h2 : r = s := h.2
    rw [h1, h2]
  · rintro rfl
    exact eqG_yes a
/-- Two good graphs with a pairing. -/
def AlG (a b : Gf) : Prop := one (chk a) = [] ∧ one (chk b) = [] ∧ ∃ R, Pr a b R
theorem alG_least {a b : Gf} (ha : one (chk a) = []) (hb : one (chk b) = []) {ea eb : Nat → Nat → Bool} (hda : ∀ x y : Nat, (ea x y = true ↔ Al a (x : Int) (y : Int))) (hdb : ∀ x y : Nat, (eb x y = true ↔ Al b (x : Int) (y : Int))) : AlG a b ↔ trimF (quoF ea a) = trimF (quoF eb b) :=
  ⟨fun ⟨_, _, _, h⟩ => h.least (chk_good ha) (chk_good hb) hda hdb, fun h => ⟨ha, hb, _, least_pr (chk_good ha) (chk_good hb) hda hdb h⟩⟩
theorem pr_refl {a : Gf} (ha : Good a) : Pr a a (fun x y => x = y ∧ isN a x) := by
  refine ⟨fun x y ⟨e, h⟩ => ⟨h, by rw [← e]; exact h⟩, fun x y ⟨e, h⟩ => by subst e; exact ⟨rfl, rfl, rfl, rfl⟩, fun x y ⟨e, h⟩ k hk => by subst e; exact ⟨rfl, arg_isN ha h hk⟩, fun x y y' ⟨e, _⟩ ⟨e', _⟩ _ => e.symm.trans e', fun x x' y ⟨e, _⟩ ⟨e', _⟩ _ => e.trans e'.symm, rfl, fun i hi => ⟨rfl, ha.root _ (getD_mem hi)⟩⟩
theorem alG_symm {a b : Gf} (h : AlG a b) : AlG b a := by
  obtain ⟨h1, h2, R, h⟩ := h
  exact ⟨h2, h1, _, h.symm⟩
theorem alG_refl {a : Gf} (h : one (chk a) = []) : AlG a a := ⟨h, h, _, pr_refl (chk_good h)⟩
theorem fits_good {g : Gf} (h : Good g) : Fits g := ⟨by have := h.nodes; omega, by have := h.roots; omega, fun n hn => by have := (good_args (h.node n hn)).2; omega⟩
/-- Two boxes, kept. -/
structure Bt (W : World) (nv rv mv sv : Value) (w : World) : Prop where
  b : Below W.heap.size W w
  b0 : w.heap[W.heap.size]? = some (.cells #[nv, rv] 25)
  b1 : w.heap[W.heap.size + 1]? = some (.cells #[mv, sv] 25)
theorem Bt.start (W : World) (nv rv mv sv : Value) : Bt W nv rv mv sv ((W.alloc (.cells #[nv, rv] 25)).alloc (.cells #[mv, sv] 25)) := by
  refine ⟨(below_alloc W _).alloc (by simp) _, ?_, ?_⟩
  · rw [Below.heap_alloc _ _ _ (by simp)]
    exact heap_alloc_new W _
  · have h := heap_alloc_new (W.alloc (.cells #[nv, rv] 25)) (.cells #[mv, sv] 25)
    rw [show (W.alloc (.cells #[nv, rv] 25)).heap.size = W.heap.size + 1 by simp] at h
    exact h
theorem keep1 {w w' : World} {q : Nat} {o : Obj} (h : w.heap[q]? = some o) (hb : Below w.heap.size w w') : w'.heap[q]? = some o := by
  rw [hb.block q (lt_of_block h)]
  exact h
theorem Bt.next {W w w' : World} {nv rv mv sv : Value} (h : Bt W nv rv mv sv w) (hb : Below w.heap.size w w') : Bt W nv rv mv sv w' := ⟨Below.next h.b hb, keep1 h.b0 hb, keep1 h.b1 hb⟩
theorem Bt.cells {W w : World} {nv rv mv sv : Value} (h : Bt W nv rv mv sv w) : ((w.cell? ⟨W.heap.size, 0, none⟩ = some nv ∧ w.cell? ⟨W.heap.size, 1, none⟩ = some rv) ∧ w.cell? ⟨W.heap.size + 1, 0, none⟩ = some mv ∧ w.cell? ⟨W.heap.size + 1, 1, none⟩ = some sv) ∧ W.heap.size < w.heap.size ∧ W.heap.size + 1 < w.heap.size :=
  ⟨⟨(blk2 h.b0).1, (blk2 h.b1).1⟩, lt_of_block h.b0, lt_of_block h.b1⟩
set_option maxRecDepth 100000 in
set_option maxHeartbeats 2000000 in
theorem balike_bad1 {W : World} {nv rv mv sv : Value} {a : Gf} (hG : Gr W nv rv a) (hS : Sized a) (hb : one (chk a) ≠ []) :
    Calls Try.prog 20 #[.agg #[nv, rv], .agg #[mv, sv]] W fun e w' => e = .returned (.bool false) ∧ Below W.heap.size W w' := by
  have hB := Bt.start W nv rv mv sv
  have hqt := quot_bad (hG.below hB.b) hS hb
  clear hG
  go_enter Try.func20, Try.ntmps20
  go_wp2_with (go_at_call 11; refine hqt.mono ?_; rintro e w1 ⟨⟨fb, rfl, hE⟩, hb1⟩)
  go_ret
  exact ⟨rfl, Below.next (Below.next hB.b hb1) (below_alloc _ _)⟩
set_option maxRecDepth 100000 in
set_option maxHeartbeats 2000000 in
theorem balike_bad2 {W : World} {nv rv mv sv : Value} {a b : Gf} (hG : Gr W nv rv a) (hS : Sized a) (ha : one (chk a) = []) (hH : Gr W mv sv b) (hT : Sized b) (hb : one (chk b) ≠ []) :
    Calls Try.prog 20 #[.agg #[nv, rv], .agg #[mv, sv]] W fun e w' => e = .returned (.bool false) ∧ Below W.heap.size W w' := by
  obtain ⟨ea, hea⟩ := al_dec a
  have hB := Bt.start W nv rv mv sv
  have hqt := quot_good (hG.below hB.b) hS ha ea hea
  have hq2 := hid (fun w1 (h : Below W.heap.size W w1) => quot_bad (hH.below h) hT hb)
  clear hG hH
  go_enter Try.func20, Try.ntmps20
  go_wp2_with (first
    | (go_at_call 11; refine hqt.mono ?_; clear hqt; rintro e w1 ⟨⟨n1, r1, avs, rfl, hO⟩, hb1⟩; obtain ⟨na, nc, rfl⟩ := hO.nsl; obtain ⟨ra, rc, rfl, _⟩ := hO.r; have hB1 := (hB.next hb1).next (below_alloc w1 (.cells #[.slice na (trimF (quoF ea a)).nodes.length nc, .slice ra (trimF (quoF ea a)).roots.length rc] 25)); obtain ⟨⟨⟨x0, x1⟩, x2, x3⟩, x4, x5⟩ := (hB.next hb1).cells)
    | (go_at_call 11; refine (hq2.out _ hB1.b).mono ?_; rintro e w2 ⟨⟨fb, rfl, hE⟩, hb2⟩))
  go_ret
  exact ⟨rfl, Below.next (Below.next hB1.b hb2) (below_alloc _ _)⟩
set_option maxRecDepth 100000 in
set_option maxHeartbeats 2000000 in
theorem balike_good {W : World} {nv rv mv sv : Value} {a b : Gf} (hG : Gr W nv rv a) (hS : Sized a) (ha : one (chk a) = []) (hH : Gr W mv sv b) (hT : Sized b) (hb : one (chk b) = []) (ea eb : Nat → Nat → Bool) (hea : ∀ x y : Nat, (ea x y = true ↔ Al a (x : Int) (y : Int))) (heb : ∀ x y : Nat, (eb x y = true ↔ Al b (x : Int) (y : Int))) :
    Calls Try.prog 20 #[.agg #[nv, rv], .agg #[mv, sv]] W fun e w' => e = .returned (.bool (eqG (trimF (quoF ea a)) (trimF (quoF eb b)))) ∧ Below W.heap.size W w' := by
  have hB := Bt.start W nv rv mv sv
  have hqt := quot_good (hG.below hB.b) hS ha ea hea
  have hq2 := hid (fun w1 (h : Below W.heap.size W w1) => quot_good (hH.below h) hT hb eb heb)
  have hga := chk_good ha
  have hf := fits_good (trim_good0 (quo_good hga (al_eqv hga hea)))
  generalize trimF (quoF ea a) = A at *
  generalize trimF (quoF eb b) = B at *
  have hsm := hid (fun (w : World) (nv rv mv sv : Value) (h1 : Gr w nv rv A) (h2 : Gr w mv sv B) => same_any h1 h2 hf)
  generalize eqG A B = E at *
  clear hG hH hf hga ha hb hS hT hea heb
  go_enter Try.func20, Try.ntmps20
  go_wp2_with (first
    | (go_at_call 11; refine hqt.mono ?_; clear hqt; rintro e w1 ⟨⟨n1, r1, avs, rfl, hO⟩, hb1⟩; have hA1 := hO.gr; obtain ⟨na, nc, rfl⟩ := hO.nsl; obtain ⟨ra, rc, rfl, _⟩ := hO.r; clear hO; have hal := below_alloc w1 (.cells #[.slice na A.nodes.length nc, .slice ra A.roots.length rc] 25); have hB1 := (hB.next hb1).next hal; have hx1 := heap_alloc_new w1 (.cells #[.slice na A.nodes.length nc, .slice ra A.roots.length rc] 25); replace hA1 := hA1.below hal; obtain ⟨⟨⟨x0, x1⟩, x2, x3⟩, x4, x5⟩ := (hB.next hb1).cells)
    | (go_at_call 11; refine (hq2.out _ hB1.b).mono ?_; rintro e w2 ⟨⟨n2, r2, avs2, rfl, hO2⟩, hb2⟩; have hA2 := hO2.gr; obtain ⟨ma, mc, rfl⟩ := hO2.nsl; obtain ⟨sa, sc, rfl, _⟩ := hO2.r; clear hO2; have hal2 := below_alloc w2 (.cells #[.slice ma B.nodes.length mc, .slice sa B.roots.length sc] 25); have hB2 := (hB1.next hb2).next hal2; have hx2 := keep1 (keep1 hx1 hb2) hal2; have hA3 := (hA1.below hb2).below hal2; replace hA2 := hA2.below hal2; obtain ⟨⟨y0, y1⟩, _⟩ := blk2 hx2)
    | (go_at_call 26; refine (hsm.out _ _ _ _ _ hA3 hA2).mono ?_; rintro e w3 ⟨rfl, hb3⟩))
  go_ret
  exact ⟨rfl, Below.next hB2.b hb3⟩
/-- Alike at any two graphs. -/
theorem balike_any {W : World} {nv rv mv sv : Value} {a b : Gf} (hG : Gr W nv rv a) (hS : Sized a) (hH : Gr W mv sv b) (hT : Sized b) {B : Bool} (hB : B = true ↔ AlG a b) :
    Calls Try.prog 20 #[.agg #[nv, rv], .agg #[mv, sv]] W fun e w' => e = .returned (.bool B) ∧ Below W.heap.size W w' := by
  by_cases ha : one (chk a) = []
  · by_cases hb : one (chk b) = []
    · obtain ⟨ea, hea⟩ := al_dec a
      obtain ⟨eb, heb⟩ := al_dec b
      have e : eqG (trimF (quoF ea a)) (trimF (quoF eb b)) = B := by
        rw [Bool.eq_iff_iff, eqG_iff, hB, alG_least ha hb hea heb]
      rw [← e]
      exact balike_good hG hS ha hH hT hb ea eb hea heb
    · have e : B = false := by
        cases B
        · rfl
        · exact absurd (hB.1 rfl).2.1 hb
      rw [e]
      exact balike_bad2 hG hS ha hH hT hb
  · have e : B = false := by
      cases B
      · rfl
      · exact absurd (hB.1 rfl).1 ha
    rw [e]
    exact balike_bad1 hG hS ha
end Go.Proofs.Ytcgkmenlacinjaa

/- Same of package bisim at a good graph and two of its nodes. -/
namespace Go.Proofs.Ytcgkmenlacinjaa
open Go.RowKit

set_option maxRecDepth 100000 in
set_option maxHeartbeats 2000000 in
theorem bsame_in {W : World} {nv rv : Value} {g : Gf} (hG : Gr W nv rv g) (hS : Sized g) (hb : one (chk g) = []) (ee : Nat → Nat → Bool) (he : ∀ x y, x < g.nodes.length → y < g.nodes.length → (ee x y = true ↔ Al g (x : Int) (y : Int))) {a b : Nat} (ha : a < g.nodes.length) (hbn : b < g.nodes.length) :
    Calls Try.prog 30 #[.agg #[nv, rv], .int .i64 (a : Int), .int .i64 (b : Int)] W fun r w' => r = .returned (.tuple #[.bool (decide (((csF ee g.nodes.length).getD a 0 : Int) = ((csF ee g.nodes.length).getD b 0 : Int))), .nilIface]) ∧ Below W.heap.size W w' := by
  have hal := alike_good (hG.below (below_alloc W (.cells #[nv, rv] 25))) hS hb ee he
  have hl : (ansC ee g.nodes.length 0).length = g.nodes.length := (ints_len _).trans (csF_len _ _)
  have hN := (chk_good hb).nodes
  clear hG
  generalize hNN : g.nodes.length = N at *
  go_enter Try.func30, Try.ntmps30
  go_wp2_with (go_at_call 39; refine hal.mono ?_; rintro e w1 ⟨⟨t2, t3, rfl, hF⟩, hb1⟩; have h0 := hF.own 0 (by simp); rw [hl] at h0; obtain ⟨ca, cc, rfl⟩ : ∃ ca cc, t2 = .slice ca N cc := own_sl h0)
  have hbb := hid (Below.next (below_alloc _ _) hb1)
  have hR : Ri w1 (.slice ca N cc) (ints (csF ee N)) := by
    have := Ri.ofOwn (l := ints (csF ee N)) (by rw [ints_len, csF_len]; exact h0)
    rw [ints_len, csF_len] at this
    exact this
  clear hal hF h0
  obtain ⟨cb, co, rfl, _⟩ := hR.at (j := a) (by rw [ints_len, csF_len]; exact ha)
  have hcls : ∀ n : Nat, n < N → w1.cell? ⟨cb, co + n, none⟩ = some (.int .i64 (((csF ee N).getD n 0 : Nat) : Int)) := fun n hn => by
    obtain ⟨q, o, h1, h2⟩ := hR.at (j := n) (by rw [ints_len, csF_len]; exact hn)
    injection h1 with h1
    injection h1 with e1 e2 _
    subst e1 e2
    rw [ints_get (by rw [csF_len]; exact hn)] at h2
    exact h2
  have c1 := hcls a ha
  have c2 := hcls b hbn
  clear hcls hR
  have ha' : (a : Int) < (N : Int) := by omega
  have hb' : (b : Int) < (N : Int) := by omega
  go_loopw [26] (fun i wr => ∃ k : Nat, k ≤ 2 ∧ i = .int .i64 k ∧ Hid (wr = w1.alloc (.cells #[.int .i64 (a : Int), .int .i64 (b : Int)] 3))) (fun i _ => 2 - (intOf i).toNat)
  case atStart => exact ⟨0, Nat.zero_le _, rfl, rfl⟩
  case round =>
    obtain ⟨k, hk, rfl, hw⟩ := hrel
    obtain ⟨w2, hw2⟩ : ∃ w2, w2 = w1.alloc (.cells #[.int .i64 (a : Int), .int .i64 (b : Int)] 3) := ⟨_, rfl⟩
    have hw' := hw.out
    rw [← hw2] at hw'
    subst hw'
    have hbw := hid (Below.next hbb.out (below_alloc w1 (.cells #[.int .i64 (a : Int), .int .i64 (b : Int)] 3)))
    have k0 := heap_alloc_new w1 (.cells #[.int .i64 (a : Int), .int .i64 (b : Int)] 3)
    have d1 := ((below_alloc w1 (.cells #[.int .i64 (a : Int), .int .i64 (b : Int)] 3)).cell (p := ⟨cb, co + a, none⟩) (lt_of_cell c1)).trans c1
    have d2 := ((below_alloc w1 (.cells #[.int .i64 (a : Int), .int .i64 (b : Int)] 3)).cell (p := ⟨cb, co + b, none⟩) (lt_of_cell c2)).trans c2
    have n1 : decide ((a : Int) < 0) = false := by simp
    have n2 : decide ((b : Int) < 0) = false := by simp
    have n3 : decide ((N : Int) ≤ (a : Int)) = false := by simpa using ha
    have n4 : decide ((N : Int) ≤ (b : Int)) = false := by simpa using hbn
    rw [← hw2] at hbw k0 d1 d2
    have hw3 := hid hw2
    clear hw hw2
    have e0 : wr.cell? ⟨w1.heap.size, 0, none⟩ = some (.int .i64 (a : Int)) := by simp [World.cell?, k0]
    have e1 : wr.cell? ⟨w1.heap.size, 1, none⟩ = some (.int .i64 (b : Int)) := by simp [World.cell?, k0]
    clear k0 c1 c2
    rcases (by omega : k = 0 ∨ k = 1 ∨ k = 2) with rfl | rfl | rfl
    · go_wp2
      go_roundw
      case rel => exact ⟨1, by omega, rfl, by first | exact hw3.out | exact trivial⟩
      case measure => simp [intOf]
    · go_wp2
      go_roundw
      case rel => exact ⟨2, by omega, rfl, by first | exact hw3.out | exact trivial⟩
      case measure => simp [intOf]
    · generalize hx : (csF ee N).getD a 0 = x at *
      generalize hy : (csF ee N).getD b 0 = y at *
      have hxy : ((x : Int) == (y : Int)) = decide ((x : Int) = (y : Int)) := by
        rw [Bool.eq_iff_iff]
        simp
      replace hxy := hid hxy
      go_wp2
      go_quiet (fail)
      go_wp2
      go_ret2
      refine ⟨?_, below_drewN hbw.out _⟩
      show Ending.returned (.tuple #[.bool ((x : Int) == (y : Int)), .nilIface]) = _
      rw [hxy.out, hx, hy]
end Go.Proofs.Ytcgkmenlacinjaa

/- Same of package bisim at a good graph and a number that is no node. -/
namespace Go.Proofs.Ytcgkmenlacinjaa
open Go.RowKit

set_option maxRecDepth 100000 in
set_option maxHeartbeats 2000000 in
theorem bsame_out1 {W : World} {nv rv : Value} {g : Gf} (hG : Gr W nv rv g) (hS : Sized g) (hb : one (chk g) = []) {i j : Int} (ho : i < 0 ∨ (g.nodes.length : Int) ≤ i) :
    Calls Try.prog 30 #[.agg #[nv, rv], .int .i64 i, .int .i64 j] W fun r w' => (∃ b, r = .returned (.tuple #[.bool false, .iface 65 (.pointer (some ⟨b, 0, none⟩))]) ∧ Er w' (.iface 65 (.pointer (some ⟨b, 0, none⟩))) [(50, i)]) ∧ Below W.heap.size W w' := by
  obtain ⟨ee, he⟩ := al_dec g
  have hal := alike_good (hG.below (below_alloc W (.cells #[nv, rv] 25))) hS hb ee (fun x y _ _ => he x y)
  have hl : (ansC ee g.nodes.length 0).length = g.nodes.length := (ints_len _).trans (csF_len _ _)
  have hft := bfault_any 50 i
  clear hG
  generalize hNN : g.nodes.length = N at *
  go_enter Try.func30, Try.ntmps30
  go_wp2_with (go_at_call 39; refine hal.mono ?_; rintro e w1 ⟨⟨t2, t3, rfl, hF⟩, hb1⟩; have h0 := hF.own 0 (by simp); rw [hl] at h0; obtain ⟨ca, cc, rfl⟩ : ∃ ca cc, t2 = .slice ca N cc := own_sl h0)
  have hbb := hid (Below.next (below_alloc _ _) hb1)
  clear hal hF hl he
  go_loopw [26] (fun i' wr => ∃ k : Nat, k ≤ 0 ∧ i' = .int .i64 k ∧ Hid (wr = w1.alloc (.cells #[.int .i64 i, .int .i64 j] 3))) (fun i' _ => 2 - (intOf i').toNat)
  case atStart => exact ⟨0, Nat.zero_le _, rfl, rfl⟩
  case round =>
    obtain ⟨k, hk, rfl, hw⟩ := hrel
    obtain ⟨w2, hw2⟩ : ∃ w2, w2 = w1.alloc (.cells #[.int .i64 i, .int .i64 j] 3) := ⟨_, rfl⟩
    have hw' := hw.out
    rw [← hw2] at hw'
    subst hw'
    have hbw := hid (Below.next hbb.out (below_alloc w1 (.cells #[.int .i64 i, .int .i64 j] 3)))
    have k0 := heap_alloc_new w1 (.cells #[.int .i64 i, .int .i64 j] 3)
    rw [← hw2] at hbw k0
    have hw3 := hid hw2
    clear hw hw2
    have e0 : wr.cell? ⟨w1.heap.size, 0, none⟩ = some (.int .i64 i) := by simp [World.cell?, k0]
    have e1 : wr.cell? ⟨w1.heap.size, 1, none⟩ = some (.int .i64 j) := by simp [World.cell?, k0]
    clear k0
    obtain rfl : k = 0 := by omega
    by_cases hn : i < 0
    · go_wp2_with (go_at_call 59; refine (hft wr).mono ?_; rintro e w3 ⟨rfl, rfl⟩)
      go_ret2
      exact ⟨⟨_, rfl, (by decide : (50 : Int) ≠ 0), _, _, rfl, heap_alloc_new wr _, rfl⟩, Below.next hbw.out (below_alloc _ _)⟩
    · have hn2 : (N : Int) ≤ i := ho.resolve_left hn
      have hn1 : decide (i < 0) = false := by simpa using hn
      go_wp2_with (go_at_call 59; refine (hft wr).mono ?_; rintro e w3 ⟨rfl, rfl⟩)
      go_ret2
      exact ⟨⟨_, rfl, (by decide : (50 : Int) ≠ 0), _, _, rfl, heap_alloc_new wr _, rfl⟩, Below.next hbw.out (below_alloc _ _)⟩
set_option maxRecDepth 100000 in
set_option maxHeartbeats 2000000 in
theorem bsame_out2 {W : World} {nv rv : Value} {g : Gf} (hG : Gr W nv rv g) (hS : Sized g) (hb : one (chk g) = []) {i j : Int} (h0i : 0 ≤ i) (h1 : i < (g.nodes.length : Int)) (ho : j < 0 ∨ (g.nodes.length : Int) ≤ j) :
    Calls Try.prog 30 #[.agg #[nv, rv], .int .i64 i, .int .i64 j] W fun r w' => (∃ b, r = .returned (.tuple #[.bool false, .iface 65 (.pointer (some ⟨b, 0, none⟩))]) ∧ Er w' (.iface 65 (.pointer (some ⟨b, 0, none⟩))) [(50, j)]) ∧ Below W.heap.size W w' := by
  obtain ⟨ee, he⟩ := al_dec g
  have hal := alike_good (hG.below (below_alloc W (.cells #[nv, rv] 25))) hS hb ee (fun x y _ _ => he x y)
  have hl : (ansC ee g.nodes.length 0).length = g.nodes.length := (ints_len _).trans (csF_len _ _)
  have hft := bfault_any 50 j
  clear hG
  generalize hNN : g.nodes.length = N at *
  go_enter Try.func30, Try.ntmps30
  go_wp2_with (go_at_call 39; refine hal.mono ?_; rintro e w1 ⟨⟨t2, t3, rfl, hF⟩, hb1⟩; have h0 := hF.own 0 (by simp); rw [hl] at h0; obtain ⟨ca, cc, rfl⟩ : ∃ ca cc, t2 = .slice ca N cc := own_sl h0)
  have hbb := hid (Below.next (below_alloc _ _) hb1)
  clear hal hF hl he
  go_loopw [26] (fun i' wr => ∃ k : Nat, k ≤ 1 ∧ i' = .int .i64 k ∧ Hid (wr = w1.alloc (.cells #[.int .i64 i, .int .i64 j] 3))) (fun i' _ => 2 - (intOf i').toNat)
  case atStart => exact ⟨0, Nat.zero_le _, rfl, rfl⟩
  case round =>
    obtain ⟨k, hk, rfl, hw⟩ := hrel
    obtain ⟨w2, hw2⟩ : ∃ w2, w2 = w1.alloc (.cells #[.int .i64 i, .int .i64 j] 3) := ⟨_, rfl⟩
    have hw' := hw.out
    rw [← hw2] at hw'
    subst hw'
    have hbw := hid (Below.next hbb.out (below_alloc w1 (.cells #[.int .i64 i, .int .i64 j] 3)))
    have k0 := heap_alloc_new w1 (.cells #[.int .i64 i, .int .i64 j] 3)
    rw [← hw2] at hbw k0
    have hw3 := hid hw2
    clear hw hw2
    have e0 : wr.cell? ⟨w1.heap.size, 0, none⟩ = some (.int .i64 i) := by simp [World.cell?, k0]
    have e1 : wr.cell? ⟨w1.heap.size, 1, none⟩ = some (.int .i64 j) := by simp [World.cell?, k0]
    clear k0
    rcases (by omega : k = 0 ∨ k = 1) with rfl | rfl
    · have n1 : decide (i < 0) = false := by simpa using h0i
      have n2 : decide ((N : Int) ≤ i) = false := by simpa using h1
      go_wp2
      go_roundw
      case rel => exact ⟨1, by omega, rfl, by first | exact hw3.out | exact trivial⟩
      case measure => simp [intOf]
    · skip
      by_cases hn : j < 0
      · go_wp2_with (go_at_call 59; refine (hft wr).mono ?_; rintro e w3 ⟨rfl, rfl⟩)
        go_ret2
        exact ⟨⟨_, rfl, (by decide : (50 : Int) ≠ 0), _, _, rfl, heap_alloc_new wr _, rfl⟩, Below.next hbw.out (below_alloc _ _)⟩
      · have hn2 : (N : Int) ≤ j := ho.resolve_left hn
        have hn1 : decide (j < 0) = false := by simpa using hn
        go_wp2_with (go_at_call 59; refine (hft wr).mono ?_; rintro e w3 ⟨rfl, rfl⟩)
        go_ret2
        exact ⟨⟨_, rfl, (by decide : (50 : Int) ≠ 0), _, _, rfl, heap_alloc_new wr _, rfl⟩, Below.next hbw.out (below_alloc _ _)⟩
end Go.Proofs.Ytcgkmenlacinjaa
