/- How many parts are left: tendrilhand.Few. -/
import Derived.Test.Ytjkcffcedbcjmaata30Z
namespace Go.Proofs.Ytjkcffcedbcjmaa
set_option maxRecDepth 100000
open Go.RowKit
mutual
def fewX : Ex → Int → Int
  | .mk _ n _ xs, r => if 40 < xs.length then -1 else fewXs xs (r - (1 + ((n.size / 64 : Nat) : Int)))
def fewXs : List Ex → Int → Int
  | [], r => r
  | x :: t, r => if r < 0 then r else fewXs t (fewX x r)
end
mutual
theorem fewX_rng : ∀ (x : Ex) (r : Int), szX x → 0 ≤ r → -17592186044416 ≤ fewX x r ∧ fewX x r ≤ r
  | .mk k n m xs, r, hz, h0 => by
    have hn : n.size ≤ 281474976710656 := hz.1
    rw [fewX]
    split
    · omega
    · have := fewXs_rng xs (r - (1 + ((n.size / 64 : Nat) : Int))) hz.2 (by omega)
      omega
theorem fewXs_rng : ∀ (xs : List Ex) (r : Int), szXs xs → -17592186044416 ≤ r → -17592186044416 ≤ fewXs xs r ∧ fewXs xs r ≤ r
  | [], r, _, h => by rw [fewXs]; omega
  | x :: t, r, hz, h => by
    rw [fewXs]
    split
    · omega
    · have h1 := fewX_rng x r hz.1 (by omega)
      have h2 := fewXs_rng t (fewX x r) hz.2 (by omega)
      omega
end
mutual
theorem fewX_prt : ∀ (x : Ex) (r : Int), 0 ≤ fewX x r → (prtX x : Int) + fewX x r ≤ r
  | .mk k n m xs, r, h => by
    rw [fewX] at h ⊢
    split at h
    · omega
    · rename_i hl
      rw [if_neg hl]
      have := fewXs_prt xs _ h
      rw [prtX]
      omega
theorem fewXs_prt : ∀ (xs : List Ex) (r : Int), 0 ≤ fewXs xs r → (prtXs xs : Int) + fewXs xs r ≤ r
  | [], r, h => by rw [fewXs, prtXs]; omega
  | x :: t, r, h => by
    rw [fewXs] at h ⊢
    split at h
    · omega
    · rename_i hl
      rw [if_neg hl]
      have h2 := fewXs_prt t _ h
      have h1 := fewX_prt x r (by omega)
      rw [prtXs]
      omega
end
theorem drop_x {xs : List Ex} {j : Nat} (h : j < xs.length) : xs.drop j = xs.getD j x0 :: xs.drop (j + 1) := by
  rw [List.drop_eq_getElem_cons h]
  simp [List.getD, h]
def FewC (x : Ex) : Prop := ∀ (w : World) (v : Value) (r : Int), Xv w x v → szX x → 0 ≤ r → r ≤ 1000 → Calls Try.prog 26 #[v, .int .i64 r] w fun e w' => e = .returned (.int .i64 (fewX x r)) ∧ Below w.heap.size w w'
theorem ret_i64 {a b : Int} (h : a = b) : (Ending.returned (.int .i64 a)) = .returned (.int .i64 b) := by rw [h]
set_option maxHeartbeats 2000000 in
theorem few_any (x : Ex) : FewC x := by
  induction x using Ex.ind with
  | h k n m xs ih =>
    intro w v r hx hz h0 h1
    obtain ⟨av, rfl, ao, c, rfl, hAt0⟩ := hx.parts
    have hAt := hid hAt0
    have hn : n.size ≤ 281474976710656 := hz.1
    have hzs := hid hz.2
    have IH := hid ih
    have hb0 := hid (below_alloc w (.cells #[.int .i64 k, .string n, .int .i64 m, .slice ao xs.length c] 48))
    have hdv : (n.size : Int).tdiv 64 = ((n.size / 64 : Nat) : Int) := (Int.ofNat_tdiv n.size 64).symm
    have hd : n.size / 64 ≤ 4398046511104 := by omega
    by_cases hl : 40 < xs.length
    · have hl' : (40 : Int) < (xs.length : Int) := by omega
      have hE : Hid (fewX (.mk k n m xs) r = -1) := show _ = _ by rw [fewX, if_pos hl]
      clear ih hx hz hAt0 hl
      go_enter Try.func26, Try.ntmps26
      go_wp2
      go_ret
      exact ⟨ret_i64 hE.out.symm, hb0.out⟩
    · have hl' : ¬ (40 : Int) < (xs.length : Int) := by omega
      have hE : Hid (fewX (.mk k n m xs) r = fewXs xs (r - (1 + ((n.size / 64 : Nat) : Int)))) := show _ = _ by rw [fewX, if_neg hl]
      have hlen : xs.length ≤ 40 := by omega
      clear ih hx hz hAt0 hl
      go_enter Try.func26, Try.ntmps26
      go_wp2
      go_loopw [1, 21] (fun mo i wr => ∃ (j : Nat) (y : Int), j ≤ xs.length ∧ i = .int .i64 (j : Int) ∧ mo = .int .i64 y ∧ -17592186044416 ≤ y ∧ y ≤ 1000 ∧ Hid (fewXs (xs.drop j) y = fewX (.mk k n m xs) r) ∧ Hid (Below w.heap.size w wr)) (fun _ i _ => xs.length - (intOf i).toNat)
      case atStart => exact ⟨0, r - (1 + (n.size : Int) / 64), by omega, rfl, rfl, by omega, by omega, (show _ = _ by rw [hE.out]; rfl), hb0⟩
      case round =>
        clear hE hb0
        obtain ⟨j, y, hj, rfl, rfl, y0, y1, hq, hB⟩ := hrel
        by_cases hlt : j < xs.length
        · obtain ⟨b, o, k', n', m', aa, al, ac, rfl, d0, d1, d2, d3, hx⟩ := hAt.out j hlt
          have hbr := hB.out
          have hz := lt_of_cell d0
          have c0 := ((bcell hbr).1 b _ hz).trans d0
          have c1 := ((bcell hbr).1 b _ hz).trans d1
          have c2 := ((bcell hbr).1 b _ hz).trans d2
          have c3 := ((bcell hbr).1 b _ hz).trans d3
          have hzr : b < wr.heap.size := Nat.lt_of_lt_of_le hz hbr.size
          have hb2 := below_alloc wr (.cells #[.int .i64 k', .string n', .int .i64 m', .slice aa al ac] 48)
          have hbn := hid (Below.next hbr hb2)
          have hq2 : fewXs (xs.drop j) y = if y < 0 then y else fewXs (xs.drop (j + 1)) (fewX (xs.getD j x0) y) := by rw [drop_x hlt, fewXs]
          by_cases hy : y < 0
          · have hE2 : Hid (fewX (.mk k n m xs) r = y) := show _ = _ by rw [← hq.out, hq2, if_pos hy]
            clear hq hq2 hx d0 d1 d2 d3 hz hB hb2 hbr
            go_wp2
            go_ret
            exact ⟨ret_i64 hE2.out.symm, hbn.out⟩
          · have hy0 : 0 ≤ y := by omega
            have hcall := IH.out _ (xs_at hlt) _ _ y ((hx.next hbr).next hb2) (szXs_mem hzs.out _ (xs_at hlt)) hy0 y1
            have hrg := fewX_rng (xs.getD j x0) y (szXs_mem hzs.out _ (xs_at hlt)) hy0
            have hE2 : Hid (fewXs (xs.drop (j + 1)) (fewX (xs.getD j x0) y) = fewX (.mk k n m xs) r) := show _ = _ by rw [← hq.out, hq2, if_neg hy]
            generalize fewX (xs.getD j x0) y = y' at hcall hrg hE2
            obtain ⟨g1, g2⟩ := hrg
            clear hq hq2 hx d0 d1 d2 d3 hz hB hb2 hbr
            go_wp2_with (go_at_call 26; refine hcall.mono ?_; rintro e w3 ⟨rfl, hb3⟩)
            go_roundw
            case rel => exact ⟨j + 1, y', by omega, by go_num, rfl, g1, by omega, hE2, Below.next hbn.out hb3⟩
            case measure => simp [intOf]; omega
        · obtain rfl : j = xs.length := by omega
          have hE2 : Hid (fewX (.mk k n m xs) r = y) := show _ = _ by rw [← hq.out, List.drop_length, fewXs]
          clear hq
          go_wp2
          go_ret
          exact ⟨ret_i64 hE2.out.symm, hB.out⟩
end Go.Proofs.Ytjkcffcedbcjmaa

namespace Go.Proofs.Ytjkcffcedbcjmaa
set_option maxRecDepth 100000
open Go.RowKit
def fewQs : List (ByteArray × Ex) → Int → Int
  | [], r => r
  | q :: t, r => if r < 0 then r else fewQs t (fewX q.2 r)
theorem fewXs_neg {r : Int} (h : r < 0) : ∀ xs : List Ex, fewXs xs r = r
  | [] => by rw [fewXs]
  | _ :: _ => by rw [fewXs, if_pos h]
theorem fewQs_neg {r : Int} (h : r < 0) : ∀ qs : List (ByteArray × Ex), fewQs qs r = r
  | [] => by rw [fewQs]
  | _ :: _ => by rw [fewQs, if_pos h]
theorem drop_q {qs : List (ByteArray × Ex)} {j : Nat} (h : j < qs.length) : qs.drop j = qs.getD j q0 :: qs.drop (j + 1) := by
  rw [List.drop_eq_getElem_cons h]
  simp [List.getD, h]
def largeT (xs : List Ex) (qs : List (ByteArray × Ex)) : Bool := decide (100 < xs.length) || (decide (100 < qs.length) || decide (fewQs qs (fewXs xs 250) < 0))
set_option maxHeartbeats 2000000 in
theorem tlarge_any {w : World} {xv qv : Value} {xs : List Ex} {qs : List (ByteArray × Ex)} (hX : Rxs w xv xs) (hQ : Rqs w qv qs) (hzx : szXs xs) (hzq : ∀ q ∈ qs, q.1.size ≤ 281474976710656 ∧ szX q.2) (hlx : xs.length ≤ 281474976710656) (hlq : qs.length ≤ 281474976710656) :
    Calls Try.prog 8 #[xv, qv] w fun e w' => e = .returned (.bool (largeT xs qs)) ∧ Below w.heap.size w w' := by
  obtain ⟨xo, xc, rfl, hXa0⟩ := hX
  obtain ⟨qo, qc, rfl, hQa0⟩ := hQ
  have hXa := hid hXa0
  have hQa := hid hQa0
  have hzX := hid hzx
  have hzQ := hid hzq
  clear hXa0 hQa0 hzx hzq
  by_cases l1 : 100 < xs.length
  · have l1' : (100 : Int) < (xs.length : Int) := by omega
    have hE : Hid (largeT xs qs = true) := show _ = _ by rw [largeT, decide_eq_true l1]; rfl
    clear l1
    go_enter Try.func8, Try.ntmps8
    go_wp2
    go_ret
    exact ⟨ret_bool hE.out.symm, Below.refl _ _⟩
  · have l1' : ¬ (100 : Int) < (xs.length : Int) := by omega
    by_cases l2 : 100 < qs.length
    · have l2' : (100 : Int) < (qs.length : Int) := by omega
      have hE : Hid (largeT xs qs = true) := show _ = _ by rw [largeT, decide_eq_true l2]; simp
      clear l1 l2
      go_enter Try.func8, Try.ntmps8
      go_wp2
      go_ret
      exact ⟨ret_bool hE.out.symm, Below.refl _ _⟩
    · have l2' : ¬ (100 : Int) < (qs.length : Int) := by omega
      have hE : Hid (largeT xs qs = decide (fewQs qs (fewXs xs 250) < 0)) := show _ = _ by rw [largeT, decide_eq_false l1, decide_eq_false l2]; rfl
      clear l1 l2
      go_enter Try.func8, Try.ntmps8
      go_wp2
      go_loopw [5, 20] (fun mo i wr => ∃ (j : Nat) (y : Int), j ≤ xs.length ∧ i = .int .i64 (j : Int) ∧ mo = .int .i64 y ∧ -17592186044416 ≤ y ∧ y ≤ 1000 ∧ Hid (fewXs (xs.drop j) y = fewXs xs 250) ∧ Hid (Below w.heap.size w wr)) (fun _ i _ => xs.length - (intOf i).toNat)
      case atStart => exact ⟨0, 250, by omega, rfl, rfl, by omega, by omega, (show _ = _ from rfl), Below.refl _ _⟩
      case round =>
        obtain ⟨j, y, hj, rfl, rfl, y0, y1, hq, hB⟩ := hrel
        by_cases hlt : j < xs.length
        · obtain ⟨b, o, k', n', m', aa, al, ac, rfl, d0, d1, d2, d3, hx⟩ := hXa.out j hlt
          have hbr := hB.out
          have hz := lt_of_cell d0
          have c0 := ((bcell hbr).1 b _ hz).trans d0
          have c1 := ((bcell hbr).1 b _ hz).trans d1
          have c2 := ((bcell hbr).1 b _ hz).trans d2
          have c3 := ((bcell hbr).1 b _ hz).trans d3
          have hzr : b < wr.heap.size := Nat.lt_of_lt_of_le hz hbr.size
          have hb2 := below_alloc wr (.cells #[.int .i64 k', .string n', .int .i64 m', .slice aa al ac] 48)
          have hbn := hid (Below.next hbr hb2)
          have hq2 : fewXs (xs.drop j) y = if y < 0 then y else fewXs (xs.drop (j + 1)) (fewX (xs.getD j x0) y) := by rw [drop_x hlt, fewXs]
          by_cases hy : y < 0
          · have hE2 : Hid (fewXs (xs.drop (j + 1)) y = fewXs xs 250) := show _ = _ by rw [← hq.out, hq2, if_pos hy, fewXs_neg hy]
            have hy' : ¬ (0 : Int) ≤ y := by omega
            clear hq hq2 hx d0 d1 d2 d3 hz hB hb2 hbr
            go_wp2
            go_roundw
            case rel => exact ⟨j + 1, y, by omega, by go_num, rfl, y0, y1, hE2, hbn⟩
            case measure => simp [intOf]; omega
          · have hy0 : 0 ≤ y := by omega
            have hcall := few_any _ _ _ y ((hx.next hbr).next hb2) (szXs_mem hzX.out _ (xs_at hlt)) hy0 y1
            have hrg := fewX_rng (xs.getD j x0) y (szXs_mem hzX.out _ (xs_at hlt)) hy0
            have hE2 : Hid (fewXs (xs.drop (j + 1)) (fewX (xs.getD j x0) y) = fewXs xs 250) := show _ = _ by rw [← hq.out, hq2, if_neg hy]
            generalize fewX (xs.getD j x0) y = y' at hcall hrg hE2
            obtain ⟨g1, g2⟩ := hrg
            clear hq hq2 hx d0 d1 d2 d3 hz hB hb2 hbr
            go_wp2_with (go_at_call 26; refine hcall.mono ?_; rintro e w3 ⟨rfl, hb3⟩)
            go_roundw
            case rel => exact ⟨j + 1, y', by omega, by go_num, rfl, g1, by omega, hE2, Below.next hbn.out hb3⟩
            case measure => simp [intOf]; omega
        · obtain rfl : j = xs.length := by omega
          have hq3 : y = fewXs xs 250 := by
            have := hq.out
            rw [List.drop_length, fewXs] at this
            exact this
          rw [← hq3] at hE
          clear hq hq3
          go_wp2
          go_loopw [5, 32] (fun mo i wr => ∃ (i' : Nat) (z : Int), i' ≤ qs.length ∧ i = .int .i64 (i' : Int) ∧ mo = .int .i64 z ∧ -17592186044416 ≤ z ∧ z ≤ 1000 ∧ Hid (fewQs (qs.drop i') z = fewQs qs y) ∧ Hid (Below w.heap.size w wr)) (fun _ i _ => qs.length - (intOf i).toNat)
          case atStart => exact ⟨0, y, by omega, rfl, rfl, y0, y1, (show _ = _ from rfl), hB⟩
          case round =>
            clear hB
            obtain ⟨i', z, hi', rfl, rfl, z0, z1, hq, hB⟩ := hrel
            by_cases hlt2 : i' < qs.length
            · obtain ⟨b, o, k', n', m', aa, al, ac, rfl, d0, d1, d2, d3, d4, hx⟩ := hQa.out i' hlt2
              have hbr := hB.out
              have hz := lt_of_cell d0
              have c0 := ((bcell hbr).1 b _ hz).trans d0
              have c1 := ((bcell hbr).1 b _ hz).trans d1
              have c2 := ((bcell hbr).1 b _ hz).trans d2
              have c3 := ((bcell hbr).1 b _ hz).trans d3
              have c4 := ((bcell hbr).1 b _ hz).trans d4
              have hzr : b < wr.heap.size := Nat.lt_of_lt_of_le hz hbr.size
              have hq2 : fewQs (qs.drop i') z = if z < 0 then z else fewQs (qs.drop (i' + 1)) (fewX (qs.getD i' q0).2 z) := by rw [drop_q hlt2, fewQs]
              have hqm : qs.getD i' q0 ∈ qs := by simp [List.getD, hlt2]
              have hb2 := below_alloc wr (.cells #[.string (qs.getD i' q0).1, .int .i64 k', .string n', .int .i64 m', .slice aa al ac] 51)
              have hbn := hid (Below.next hbr hb2)
              by_cases hy : z < 0
              · have hE2 : Hid (fewQs (qs.drop (i' + 1)) z = fewQs qs y) := show _ = _ by rw [← hq.out, hq2, if_pos hy, fewQs_neg hy]
                have hy' : ¬ (0 : Int) ≤ z := by omega
                clear hq hq2 hx d0 d1 d2 d3 d4 hz hB hb2 hbr hqm
                generalize (qs.getD i' q0).1 = qn at *
                go_wp2
                go_roundw
                case rel => exact ⟨i' + 1, z, by omega, by go_num, rfl, z0, z1, hE2, hbn⟩
                case measure => simp [intOf]; omega
              · have hy0 : 0 ≤ z := by omega
                have hcall := few_any _ _ _ z ((hx.next hbr).next hb2) (hzQ.out _ hqm).2 hy0 z1
                have hrg := fewX_rng (qs.getD i' q0).2 z (hzQ.out _ hqm).2 hy0
                have hE2 : Hid (fewQs (qs.drop (i' + 1)) (fewX (qs.getD i' q0).2 z) = fewQs qs y) := show _ = _ by rw [← hq.out, hq2, if_neg hy]
                clear hq hq2 hx d0 d1 d2 d3 d4 hz hB hb2 hbr hqm
                generalize fewX (qs.getD i' q0).2 z = y' at hcall hrg hE2
                generalize (qs.getD i' q0).1 = qn at *
                obtain ⟨g1, g2⟩ := hrg
                go_wp2_with (go_at_call 26; refine hcall.mono ?_; rintro e w3 ⟨rfl, hb3⟩)
                go_roundw
                case rel => exact ⟨i' + 1, y', by omega, by go_num, rfl, g1, by omega, hE2, Below.next hbn.out hb3⟩
                case measure => simp [intOf]; omega
            · obtain rfl : i' = qs.length := by omega
              have hq3 : z = fewQs qs y := by
                have := hq.out
                rw [List.drop_length, fewQs] at this
                exact this
              rw [← hq3] at hE
              clear hq hq3
              go_wp2
              go_ret
              exact ⟨ret_bool hE.out.symm, hB.out⟩
end Go.Proofs.Ytjkcffcedbcjmaa
