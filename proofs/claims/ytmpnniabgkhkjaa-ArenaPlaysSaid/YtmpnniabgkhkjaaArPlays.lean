/- ArenaPlays: a new arena answers every script of calls as the document says, and holds behind each call what it says. No conditions. -/
import Derived.Test.YtmpnniabgkhkjaaArStep2
namespace Go.Proofs.Ytmpnniabgkhkjaa
open Go.ChangeShapes Go.WideShapes Go.ChangeAt Go.RowKit
attribute [local go_sem ↓] Go.wp_at_zero Go.wp_at_succ

theorem step_any {w : World} {B pa pb : Nat} {m : Int} {va vb : Value} {l : List Int} (h : Two w B pa pb m va vb l) (hB : B ≤ w.heap.size) (k n u : Int) (s : Value) (x : List Int) (hs : Rd w s x) (hx : x.length ≤ 4000) (hu : 0 ≤ u ∧ u ≤ 18446744073709551615) (hlow : ∀ j, Value.inBlock s = some j → x ≠ [] → j < B) :
    Calls Try.prog 14 #[.pointer (some ⟨pa, 0, none⟩), .pointer (some ⟨pb, 0, none⟩), .agg #[.int .i64 k, .int .i64 n, .int .u64 u, s]] w fun e w' => e = .returned (.bool true) ∧ Done w w' B pa pb m := by
  by_cases k0 : k = 0
  · subst k0
    by_cases h3 : n ≤ 3000
    · exact step_alloc_few h hB n u s x hs h3
    by_cases hm : n ≤ m
    · exact step_alloc_cap h hB n u s x hs (by omega) hm
    · exact step_alloc_many h hB n u s x hs (by omega) (by omega)
  by_cases k1 : k = 1
  · subst k1; exact step_load h hB n u s x hs
  by_cases k2 : k = 2
  · subst k2; exact step_store h hB n u s x hs hu
  by_cases k3 : k = 3
  · subst k3; exact step_cut h hB n u s x hs
  by_cases k4 : k = 4
  · subst k4; exact step_words h hB n u s x hs
  by_cases k5 : k = 5
  · subst k5
    by_cases h0 : x = []
    · subst h0; exact step_fill_none h hB n u s hs
    · exact step_fill_some h hB n u s x hs hx hlow (by cases x with | nil => exact absurd rfl h0 | cons a r => simp)
  by_cases k6 : k = 6
  · subst k6; exact step_check h hB n u s x hs
  exact step_else h hB k n u s x hs ⟨k0, k1, k2, k3, k4, k5, k6⟩
theorem Two.drew {w : World} {B pa pb : Nat} {m : Int} {va vb : Value} {l : List Int} (h : Two w B pa pb m va vb l) : Two w.drew B pa pb m va vb l := ⟨h.a.drew, h.b.drew, h.ne, h.rows⟩
theorem undrB {B : Nat} {w w' : World} (h : Below B w.drew w') : Below B w w' := ⟨h.os, h.tape, h.output, h.size, h.block⟩
/-- The document's new arena lies in its variable. -/
theorem two_new {w3 : World} {B pa : Nat} {m : Int} (ha : Ar 64 w3 B pa m (.slice none 0 0) []) (hB : B ≤ w3.heap.size) (o : Obj) :
    Two ((w3.alloc (.cells #[.int .i64 m, .slice none 0 0] 31)).alloc o) B pa w3.heap.size m (.slice none 0 0) (.slice none 0 0) [] :=
  ⟨(ha.alloc _).alloc _, Ar.alloc ⟨by decide, heap_alloc_new w3 _, hB, World.ownsRow_nil _ _ _ _, ha.m1, ha.m2, ha.len, ha.rng⟩ o, Nat.ne_of_lt ha.lt, fun k hk => by simp [Value.ownBlock] at hk⟩
set_option maxRecDepth 100000 in
set_option maxHeartbeats 1600000 in
theorem plays_no {W : World} (m : Int) (v : Value) (len : Nat) (hv : ∃ ao c, v = .slice ao len c) (hm : m < 1 ∨ (1 ≤ m ∧ 65536 < m)) :
    Calls Try.prog 3 #[.int .i64 m, v] W fun e w' => e = .returned (.bool true) ∧ Below W.heap.size W w' := by
  obtain ⟨ao, cv, rfl⟩ := hv
  have hB0 : W.heap.size ≤ W.heap.size := Nat.le_refl _
  go_enter Try.func3, Try.ntmps3
  go_wp2_with (first
    | (go_at_call 9; refine (lives_any _).mono ?_; rintro e w1 ⟨rfl, hb⟩)
    | (go_at_call 10; refine (new_no m w1 (by omega)).mono ?_; rintro e w2 ⟨rfl, hw2⟩; have hN := below_eq hw2; have hE : Err w2 _ 20 m := (by rw [hw2]; exact err_new w1 20 m (by decide)); replace hb := below_next hb hB0 hN; clear hN hw2)
    | (go_at_call 11; refine (rnew_no m w2 hm).mono ?_; rintro e w3 ⟨rfl, hN⟩; replace hE := hE.below hN; replace hb := below_next hb hB0 hN; clear hN)
    | (go_at_call 12; refine (is_any (hE.below (below2 w3 _ _))).mono ?_; rintro e w4 ⟨rfl, hN⟩; have hF4 : w4.heap[w3.heap.size + 1]? = some (fltObj 20 m) := (by rw [hN.block (w3.heap.size + 1) (by simp)]; exact lit_at2 w3 _ _); obtain ⟨⟨q0, q1, q2, q3⟩, _⟩ := flt_facts hF4; have hz4 := lt_of_block hF4; replace hb := below_next (below_next hb hB0 (below2 w3 _ _)) hB0 hN; clear hN)
    | (go_at_call 13; refine (bad_ex _ _ _).mono ?_; rintro e wq ⟨rfl, hq⟩; subst hq))
  go_ret
  exact ⟨rfl, below_next hb hB0 (below2 w4 _ _)⟩
set_option maxRecDepth 100000 in
set_option maxHeartbeats 6400000 in
theorem plays_some {W : World} (m : Int) (h1 : 1 ≤ m) (h2 : m ≤ 65536) (b o c len : Nat) (os : Nat → OpV) (hos : ∀ j, j < len → (os j).ok W ∧ Ops.w4 W b (o + j * 4) (os j)) :
    Calls Try.prog 3 #[.int .i64 m, .slice (some ⟨b, o, none⟩) len c] W fun e w' => e = .returned (.bool true) ∧ Below W.heap.size W w' := by
  have hB0 : W.heap.size ≤ W.heap.size := Nat.le_refl _
  have HOS : Hid (∀ j, j < len → (os j).ok W ∧ Ops.w4 W b (o + j * 4) (os j)) := hos
  clear hos
  by_cases h400 : 400 < len
  · have h400' : (400 : Int) < (len : Int) := by omega
    go_enter Try.func3, Try.ntmps3
    go_wp2_with (first
    | (go_at_call 9; refine (lives_any _).mono ?_; rintro e w1 ⟨rfl, hb⟩)
    | (go_at_call 10; refine (new_ok m w1 W.heap.size hb.size h1 h2).mono ?_; rintro e w2 ⟨rfl, hA, hN⟩; replace hb := below_next hb hB0 hN; clear hN)
    | (go_at_call 11; refine (rnew_ok m w2 h1 h2).mono ?_; rintro e w3 ⟨rfl, hN⟩; replace hA := hA.below hN; replace hb := below_next hb hB0 hN; clear hN)
    | (go_at_call 12; refine (is_any (err_none _ _)).mono ?_; rintro e w4 ⟨rfl, hN⟩; have hF4 : w4.heap[w3.heap.size + 1]? = some (fltObj 0 0) := (by rw [hN.block (w3.heap.size + 1) (by simp)]; exact lit_at2 w3 _ _); obtain ⟨⟨q0, q1, q2, q3⟩, _⟩ := flt_facts hF4; have hz4 := lt_of_block hF4; have hT := (two_new hA hb.size (fltObj 0 0)).below hN; replace hb := below_next (below_next hb hB0 (below2 w3 _ _)) hB0 hN; clear hN hA)
    | (go_at_call 13; refine (bad_ex _ _ _).mono ?_; rintro e wq ⟨rfl, hq⟩; subst hq))
    go_ret
    exact ⟨rfl, below_next hb hB0 (below2 w4 _ _)⟩
  have h400' : decide ((400 : Int) < (len : Int)) = false := by simp; omega
  go_enter Try.func3, Try.ntmps3
  go_wp2_with (first
    | (go_at_call 9; refine (lives_any _).mono ?_; rintro e w1 ⟨rfl, hb⟩)
    | (go_at_call 10; refine (new_ok m w1 W.heap.size hb.size h1 h2).mono ?_; rintro e w2 ⟨rfl, hA, hN⟩; replace hb := below_next hb hB0 hN; clear hN)
    | (go_at_call 11; refine (rnew_ok m w2 h1 h2).mono ?_; rintro e w3 ⟨rfl, hN⟩; replace hA := hA.below hN; replace hb := below_next hb hB0 hN; clear hN)
    | (go_at_call 12; refine (is_any (err_none _ _)).mono ?_; rintro e w4 ⟨rfl, hN⟩; have hF4 : w4.heap[w3.heap.size + 1]? = some (fltObj 0 0) := (by rw [hN.block (w3.heap.size + 1) (by simp)]; exact lit_at2 w3 _ _); obtain ⟨⟨q0, q1, q2, q3⟩, _⟩ := flt_facts hF4; have hz4 := lt_of_block hF4; have hT := (two_new hA hb.size (fltObj 0 0)).below hN; replace hb := below_next (below_next hb hB0 (below2 w3 _ _)) hB0 hN; clear hN hA)
    | (go_at_call 13; refine (bad_ex _ _ _).mono ?_; rintro e wq ⟨rfl, hq⟩; subst hq))
  go_loopw [43] (fun i wr => ∃ k : Nat, k ≤ len ∧ i = .int .i64 k ∧ Below W.heap.size W wr ∧ ∃ va vb l, Two wr W.heap.size w1.heap.size w3.heap.size m va vb l) (fun i _ => len - (intOf i).toNat)
  case atStart => exact ⟨0, Nat.zero_le _, rfl, below_next hb hB0 (below2 w4 _ _), _, _, _, hT.below (below2 w4 _ _)⟩
  case round =>
    clear hT hb
    obtain ⟨k, hk, rfl, hb, va, vb, l, hT⟩ := hrel
    have hbs := hb.size
    by_cases hlt : k < len
    · obtain ⟨hq, hc⟩ := HOS.out k hlt
      generalize os k = q at hq hc
      obtain ⟨ok, on, ou, osv, ox⟩ := q
      obtain ⟨_, _, hu, hs⟩ := hq
      have hc' := Ops.cells hc hb
      obtain ⟨c0, c1, c2, c3⟩ := hc'
      dsimp only at c0 c1 c2 c3 hu hs
      have hlow := hs.low
      have hsw := hs.old hb hlow
      obtain ⟨sa, sc, rfl⟩ := hs.shape
      clear hc hs
      have hlt' : (k : Int) < (len : Int) := by omega
      by_cases h4 : 4000 < ox.length
      · have h4' : (4000 : Int) < (ox.length : Int) := by omega
        go_wp2
        go_ret
        exact ⟨rfl, below_next hb hB0 (below_alloc wr _)⟩
      have h4' : decide ((4000 : Int) < (ox.length : Int)) = false := by simp; omega
      go_wp2
      go_region_law
        (first
          | (go_simp; go_at_call 14; refine (step_any (hT.below (below_alloc wr _)).drew (by simp; omega) ok on ou (.slice sa ox.length sc) ox (show Rd (World.drew _) _ _ from hsw.alloc _) (by omega) hu hlow).mono ?_; rintro e w6 ⟨rfl, hB6, va', vb', l', hT6⟩; replace hB6 := (below_next hb hB0 (below_alloc wr _)).trans (undrB hB6); obtain ⟨ab, cb, hvb, _⟩ := hT6.b.val; have d1 := hT6.b.c1; rw [hvb] at d1; have d0 := hT6.b.c0; clear hvb)
          | (go_simp; go_at_call 15; refine (top_any hT6.a).mono ?_; rintro e wq ⟨rfl, hq⟩; rw [hq]; clear hq wq)
          | (go_simp; go_at_call 16; refine (max_any hT6.a).mono ?_; rintro e wq ⟨rfl, hq⟩; rw [hq]; clear hq wq))
      all_goals go_wp2
      all_goals
        go_roundw
        case rel => exact ⟨k + 1, by omega, by go_num, hB6, _, _, _, hT6⟩
        case measure => simp [intOf]; omega
    · have hlt' : ¬ (k : Int) < (len : Int) := by omega
      have hl6 : l.length ≤ 4611686018427387904 := by have := hT.a.len; omega
      have hg := hT.a.rng
      obtain ⟨ab, cb, hvb, _⟩ := hT.b.val
      have d1 := hT.b.c1
      rw [hvb] at d1
      have HV : Hid (vb = .slice ab l.length cb) := hvb
      clear hvb
      go_wp2
      go_region_law
        (first
          | (go_simp; go_at_call 18; refine (words_any hT.a.drew).mono ?_; rintro e w6 ⟨rfl, ho6, hN⟩; replace hN := undr hN; have hT6 := hT.below hN; have hx : Rd w6 (.slice (some ⟨wr.heap.size, 0, none⟩) l.length l.length) l := (by simpa using Rd.ofOwn ho6 hg); have hy := hT6.b.rd; rw [HV.out] at hy; have d6 := hT6.b.c1; rw [HV.out] at d6; clear ho6)
          | (go_simp; go_at_call 17; refine (same_b (w := w6) hx hy hl6).mono ?_; rintro e w7 ⟨rfl, hN7⟩; have hB7 := below_next (below_next hb hB0 hN) hB0 hN7))
      all_goals go_wp2
      all_goals
        go_ret
        exact ⟨rfl, hB7⟩
end Go.Proofs.Ytmpnniabgkhkjaa
