/- ArenaSound: as long as nothing is cut all words may stand there, whatever the script. No conditions. -/
import Derived.Test.YtmpnniabgkhkjaaArScript
namespace Go.Proofs.Ytmpnniabgkhkjaa
open Go.ChangeShapes Go.WideShapes Go.ChangeAt Go.RowKit

theorem lit_at (w : World) (o : Obj) (o' : Obj) : ((w.alloc o).alloc o').heap[w.heap.size + 1]? = some o' := by
  have h := heap_alloc_new (w.alloc o) o'
  simpa using h
theorem below_lit2 {w w' : World} {o o' : Obj} (h : ((w.alloc o).alloc o').grownBy w' (some (w.heap.size + 1))) : Below w.heap.size w w' :=
  ((below_alloc w o).alloc (by simp) o').trans ((Below.refl _ _).grown h (by simp; omega) (fun k e => by simp at e; omega))
set_option maxRecDepth 100000 in
set_option maxHeartbeats 6400000 in
theorem sound_some {W : World} (b o c len : Nat) (os : Nat → OpV) (_hlen : len ≤ 9223372036854775807) (hos : ∀ j, j < len → (os j).ok W ∧ Ops.w4 W b (o + j * 4) (os j)) :
    Calls Try.prog 4 #[.slice (some ⟨b, o, none⟩) len c] W fun e w' => e = .returned (.bool true) ∧ Below W.heap.size W w' := by
  have hB0 : W.heap.size ≤ W.heap.size := Nat.le_refl _
  have HOS : Hid (∀ j, j < len → (os j).ok W ∧ Ops.w4 W b (o + j * 4) (os j)) := hos
  clear hos
  go_enter Try.func4, Try.ntmps4
  go_wp2_with (first
    | (go_at_call 9; refine (lives_any _).mono ?_; rintro e w1 ⟨rfl, hb⟩)
    | (go_at_call 10; refine (new_ok 500 w1 W.heap.size hb.size (by omega) (by omega)).mono ?_; rintro e w2 ⟨rfl, hA, hN⟩; replace hb := below_next hb hB0 hN; clear hN))
  go_loopw [22] (fun i wr => ∃ k : Nat, k ≤ len ∧ i = .int .i64 k ∧ Below W.heap.size W wr ∧ ∃ va la, Ar 64 wr W.heap.size w1.heap.size 500 va la ∧ AllMay la la.length) (fun i _ => len - (intOf i).toNat)
  case atStart => exact ⟨0, Nat.zero_le _, rfl, hb, _, _, hA, allMay_nil⟩
  case round =>
    clear hA hb
    obtain ⟨k, hk, rfl, hb, va, la, hA, hM⟩ := hrel
    have HM : Hid (AllMay la la.length) := hM
    clear hM
    have hbs := hb.size
    by_cases hlt : k < len
    · obtain ⟨hq, hc⟩ := HOS.out k hlt
      generalize os k = q at hq hc
      obtain ⟨ok, on, ou, osv, ox⟩ := q
      obtain ⟨_, _, hu, hs⟩ := hq
      have hc' := Ops.cells hc hb
      obtain ⟨c0, c1, c2, c3⟩ := hc'
      dsimp only at c0 c1 c2 c3 hu hs
      have hsw := hs.old hb hs.low
      obtain ⟨sa, sc, rfl⟩ := hs.shape
      clear hc hs
      have hlt' : (k : Int) < (len : Int) := by omega
      by_cases h300 : 300 ≤ k
      · have h300' : (300 : Int) ≤ (k : Int) := by omega
        go_wp2
        go_ret
        exact ⟨rfl, below_next hb hB0 (below_alloc wr _)⟩
      have h300' : decide ((300 : Int) ≤ (k : Int)) = false := by simp; omega
      by_cases h600 : 600 < ox.length
      · have h600' : (600 : Int) < (ox.length : Int) := by omega
        go_wp2
        go_ret
        exact ⟨rfl, below_next hb hB0 (below_alloc wr _)⟩
      have h600' : decide ((600 : Int) < (ox.length : Int)) = false := by simp; omega
      by_cases e0 : ok = 0
      · subst e0
        obtain ⟨ce, ae, r, l', hR⟩ := allocR_ex 500 la on
        have HR : Hid (AllocR 500 la on ce ae r l') := hR
        clear hR
        go_wp2_with (first
          | (go_at_call 19; refine (alloc_r (hA.alloc _) (by simp; omega) HR.out).mono ?_; rintro e w6 ⟨er, v6, rfl, _, hU⟩; replace hb := (below_next hb hB0 (below_alloc wr _)).trans (hU.below (hA.alloc _) (by simp; omega)); have hA6 := hU.ar; have hl6 := hA6.len; have HM6 : Hid (AllMay l' l'.length) := allocR_may HR.out (by omega) HM.out)
          | (go_at_call 22; refine (acheck_all hA6 HM6.out).mono ?_; rintro e w6 ⟨rfl, rfl⟩)
          | (go_at_call 15; refine (top_any hA6).mono ?_; rintro e w6 ⟨rfl, rfl⟩))
        go_roundw
        case rel => exact ⟨k + 1, by omega, by go_num, hb, _, _, hA6, HM6.out⟩
        case measure => simp [intOf]; omega
      by_cases e2 : ok = 2
      · subst e2
        obtain ⟨ce, ae, l', hR⟩ := storeR_ex la on ou
        have HR : Hid (StoreR la on ou ce ae l') := hR
        clear hR
        go_wp2_with (first
          | (go_at_call 20; refine (store_r (hA.alloc _) hu.1 hu.2 HR.out).mono ?_; rintro e w6 ⟨er, v6, rfl, _, hU⟩; replace hb := (below_next hb hB0 (below_alloc wr _)).trans (hU.below (hA.alloc _) (by simp; omega)); have hA6 := hU.ar; have hl6 := hA6.len; have HM6 : Hid (AllMay l' l'.length) := storeR_may HR.out HM.out)
          | (go_at_call 22; refine (acheck_all hA6 HM6.out).mono ?_; rintro e w6 ⟨rfl, rfl⟩)
          | (go_at_call 15; refine (top_any hA6).mono ?_; rintro e w6 ⟨rfl, rfl⟩))
        go_roundw
        case rel => exact ⟨k + 1, by omega, by go_num, hb, _, _, hA6, HM6.out⟩
        case measure => simp [intOf]; omega
      by_cases e5 : ok = 5
      · subst e5
        obtain ⟨ce, ae, l', hR⟩ := fillR_ex 500 la ox
        have HR : Hid (FillR 500 la ox ce ae l') := hR
        clear hR
        go_wp2_with (first
          | (at_builtin; refine wpList_copyRow (by rfl) _ _ (by rfl) (B := W.heap.size) (g := wr.heap.size + 1) (by rfl) (by rfl) ((hsw.alloc _).alloc _) (lit_at wr _ _) (by omega) (by omega) ?_; intro v9 w9 ho9 hg9; have hN := below_lit2 hg9; have hrd9 := Rd.ofOwn ho9 hsw.1; replace hb := below_next hb hB0 hN; replace hA := hA.below hN; have hbs9 := hb.size; clear hN)
          | (go_at_call 21; refine (fill_r (w := w9) hA hbs9 hrd9 HR.out).mono ?_; rintro e w6 ⟨er, v6, rfl, _, hU⟩; replace hb := hb.trans (hU.below hA hbs9); have hA6 := hU.ar; have hl6 := hA6.len; have HM6 : Hid (AllMay l' l'.length) := fillR_may HR.out HM.out)
          | (go_at_call 22; refine (acheck_all hA6 HM6.out).mono ?_; rintro e w6 ⟨rfl, rfl⟩)
          | (go_at_call 15; refine (top_any hA6).mono ?_; rintro e w6 ⟨rfl, rfl⟩))
        go_roundw
        case rel => exact ⟨k + 1, by omega, by go_num, hb, _, _, hA6, HM6.out⟩
        case measure => simp [intOf]; omega
      have b0 : (ok == 0) = false := by simpa using e0
      have b2 : (ok == 2) = false := by simpa using e2
      have b5 : (ok == 5) = false := by simpa using e5
      clear e0 e2 e5
      have hA6 := hA.alloc (.cells #[.int .i64 ok, .int .i64 on, .int .u64 ou, .slice sa ox.length sc] 40)
      have hl6 := hA6.len
      go_wp2_with (first
        | (go_at_call 22; refine (acheck_all hA6 HM.out).mono ?_; rintro e w6 ⟨rfl, hw6⟩; subst hw6)
        | (go_at_call 15; refine (top_any hA6).mono ?_; rintro e w6 ⟨rfl, hw6⟩; subst hw6))
      go_roundw
      case rel => exact ⟨k + 1, by omega, by go_num, below_next hb hB0 (below_alloc wr _), _, _, hA6, HM.out⟩
      case measure => simp [intOf]; omega
    · have hlt' : ¬ (k : Int) < (len : Int) := by omega
      have hg := hA.rng
      have hl6 := hA.len
      go_wp2_with (first
        | (go_at_call 18; refine (words_any (w := wr) hA).mono ?_; rintro e w7 ⟨rfl, ho7, hN⟩; have hx := Rd.ofOwn ho7 hg; replace hb := below_next hb hB0 hN; replace hA := hA.below hN; clear hN ho7)
        | (go_at_call 18; refine (words_any (w := w7) hA).mono ?_; rintro e w8 ⟨rfl, ho8, hN⟩; have hy := Rd.ofOwn ho8 hg; replace hx := hx.below hN; replace hb := below_next hb hB0 hN; replace hA := hA.below hN; clear hN ho8)
        | (go_at_call 17; refine (same_b hx hy (by omega)).mono ?_; rintro e w9 ⟨rfl, hN⟩; replace hb := below_next hb hB0 hN; replace hA := hA.below hN; clear hN hx hy)
        | (go_at_call 15; refine (top_any hA).mono ?_; rintro e w9 ⟨rfl, rfl⟩))
      go_ret
      exact ⟨rfl, hb⟩
set_option maxRecDepth 100000 in
set_option maxHeartbeats 800000 in
theorem sound_none {W : World} (ao : Option Addr) (c : Nat) :
    Calls Try.prog 4 #[.slice ao 0 c] W fun e w' => e = .returned (.bool true) ∧ Below W.heap.size W w' := by
  have hB0 : W.heap.size ≤ W.heap.size := Nat.le_refl _
  go_enter Try.func4, Try.ntmps4
  go_wp2_with (first
    | (go_at_call 9; refine (lives_any _).mono ?_; rintro e w1 ⟨rfl, hb⟩)
    | (go_at_call 10; refine (new_ok 500 w1 W.heap.size hb.size (by omega) (by omega)).mono ?_; rintro e w2 ⟨rfl, hA, hN⟩; replace hb := below_next hb hB0 hN; clear hN))
  refine wp_loop_rounds 1 ?_
  rw [rounds_succ]
  have hg := hA.rng
  go_wp2_with (first
    | (go_at_call 18; refine (words_any (w := w2) hA).mono ?_; rintro e w7 ⟨rfl, ho7, hN⟩; have hx := Rd.ofOwn ho7 hg; replace hb := below_next hb hB0 hN; replace hA := hA.below hN; clear hN ho7)
    | (go_at_call 18; refine (words_any (w := w7) hA).mono ?_; rintro e w8 ⟨rfl, ho8, hN⟩; have hy := Rd.ofOwn ho8 hg; replace hx := hx.below hN; replace hb := below_next hb hB0 hN; replace hA := hA.below hN; clear hN ho8)
    | (go_at_call 17; refine (same_b hx hy (by simp)).mono ?_; rintro e w9 ⟨rfl, hN⟩; replace hb := below_next hb hB0 hN; replace hA := hA.below hN; clear hN hx hy)
    | (go_at_call 15; refine (top_any hA).mono ?_; rintro e w9 ⟨rfl, rfl⟩))
  go_ret
  exact ⟨rfl, hb⟩
theorem arenaSound_walk {W : World} (v : Value) (os : Nat → OpV) (len : Nat) (h : Ops W v os len) :
    Calls Try.prog 4 #[v] W fun e w' => e = .returned (.bool true) ∧ Below W.heap.size W w' := by
  rcases h with ⟨ao, c, rfl, _⟩ | ⟨b, o, c, rfl, hl, hos⟩
  · exact sound_none ao c
  · exact sound_some b o c len os hl hos
end Go.Proofs.Ytmpnniabgkhkjaa
