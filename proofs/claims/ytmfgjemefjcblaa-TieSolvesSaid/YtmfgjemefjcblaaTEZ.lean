/- How many parts are left: tendrilhand.Few. -/
import Derived.Test.YtmfgjemefjcblaaTAZ
import Derived.Test.YtmfgjemefjcblaaTCZ
import Derived.Test.YtmfgjemefjcblaaTDZ
namespace Go.Proofs.Ytmfgjemefjcblaa
open Go.RowKit

mutual
/-- How many parts are left of so many. -/
def fewX : Ex → Int → Int
  | .mk _ n _ xs, r => if 40 < xs.length then -1 else fewXs xs (r - (1 + ((n.size / 64 : Nat) : Int)))
def fewXs : List Ex → Int → Int
  | [], r => r
  | x :: t, r => if r < 0 then r else fewXs t (fewX x r)
end
mutual
theorem fewX_rng : ∀ (x : Ex) (r : Int), szX x → 0 ≤ r → -17592186044416 ≤ fewX x r ∧ fewX x r ≤ r
  | .mk k n m xs, r, hz, h0 => by
    have hn : n.size ≤ 281474976710656 := hz.1
    rw [fewX]
    split
    · omega
    · have := fewXs_rng xs (r - (1 + ((n.size / 64 : Nat) : Int))) hz.2 (by omega)
      omega
theorem fewXs_rng : ∀ (xs : List Ex) (r : Int), szXs xs → -17592186044416 ≤ r → -17592186044416 ≤ fewXs xs r ∧ fewXs xs r ≤ r
  | [], r, _, h => by rw [fewXs]; omega
  | x :: t, r, hz, h => by
    rw [fewXs]
    split
    · omega
    · have h1 := fewX_rng x r hz.1 (by omega)
      have h2 := fewXs_rng t (fewX x r) hz.2 (by omega)
      omega
end
mutual
/-- Parts that are taken off are parts. -/
theorem fewX_prt : ∀ (x : Ex) (r : Int), 0 ≤ fewX x r → (prtX x : Int) + fewX x r ≤ r
  | .mk k n m xs, r, h => by
    rw [fewX] at h ⊢
    split at h
    · omega
    · rename_i hl
      rw [if_neg hl]
      have := fewXs_prt xs _ h
      rw [prtX]
      omega
theorem fewXs_prt : ∀ (xs : List Ex) (r : Int), 0 ≤ fewXs xs r → (prtXs xs : Int) + fewXs xs r ≤ r
  | [], r, h => by rw [fewXs, prtXs]; omega
  | x :: t, r, h => by
    rw [fewXs] at h ⊢
    split at h
    · omega
    · rename_i hl
      rw [if_neg hl]
      have h2 := fewXs_prt t _ h
      have h1 := fewX_prt x r (by omega)
      rw [prtXs]
      omega
end
theorem drop_x {xs : List Ex} {j : Nat} (h : j < xs.length) : xs.drop j = xs.getD j x0 :: xs.drop (j + 1) := by
  rw [List.drop_eq_getElem_cons h]
  simp [List.getD, h]
/-- What is asked of Few at one term. -/
def FewC (x : Ex) : Prop := ∀ (w : World) (v : Value) (r : Int), Xv w x v → szX x → 0 ≤ r → r ≤ 1000 → Calls Try.prog 28 #[v, .int .i64 r] w fun e w' => e = .returned (.int .i64 (fewX x r)) ∧ Below w.heap.size w w'
theorem ret_i64 {a b : Int} (h : a = b) : (Ending.returned (.int .i64 a)) = .returned (.int .i64 b) := by rw [h]
set_option maxRecDepth 100000 in
set_option maxHeartbeats 2000000 in
theorem few_any (x : Ex) : FewC x := by
  induction x using Ex.ind with
  | h k n m xs ih =>
    intro w v r hx hz h0 h1
    obtain ⟨av, rfl, ao, c, rfl, hAt0⟩ := hx.parts
    have hAt := hid hAt0
    have hn : n.size ≤ 281474976710656 := hz.1
    have hzs := hid hz.2
    have IH := hid ih
    have hb0 := hid (below_alloc w (.cells #[.int .i64 k, .string n, .int .i64 m, .slice ao xs.length c] 48))
    have hdv : (n.size : Int).tdiv 64 = ((n.size / 64 : Nat) : Int) := (Int.ofNat_tdiv n.size 64).symm
    have hd : n.size / 64 ≤ 4398046511104 := by omega
    by_cases hl : 40 < xs.length
    · have hl' : (40 : Int) < (xs.length : Int) := by omega
      have hE : Hid (fewX (.mk k n m xs) r = -1) := show _ = _ by rw [fewX, if_pos hl]
      clear ih hx hz hAt0 hl
      go_enter Try.func28, Try.ntmps28
      go_wp2
      go_ret
      exact ⟨ret_i64 hE.out.symm, hb0.out⟩
    · have hl' : ¬ (40 : Int) < (xs.length : Int) := by omega
      have hE : Hid (fewX (.mk k n m xs) r = fewXs xs (r - (1 + ((n.size / 64 : Nat) : Int)))) := show _ = _ by rw [fewX, if_neg hl]
      have hlen : xs.length ≤ 40 := by omega
      clear ih hx hz hAt0 hl
      go_enter Try.func28, Try.ntmps28
      go_wp2
      go_loopw [1, 21] (fun mo i wr => ∃ (j : Nat) (y : Int), j ≤ xs.length ∧ i = .int .i64 (j : Int) ∧ mo = .int .i64 y ∧ -17592186044416 ≤ y ∧ y ≤ 1000 ∧ Hid (fewXs (xs.drop j) y = fewX (.mk k n m xs) r) ∧ Hid (Below w.heap.size w wr)) (fun _ i _ => xs.length - (intOf i).toNat)
      case atStart => exact ⟨0, r - (1 + (n.size : Int) / 64), by omega, rfl, rfl, by omega, by omega, (show _ = _ by rw [hE.out]; rfl), hb0⟩
      case round =>
        clear hE hb0
        obtain ⟨j, y, hj, rfl, rfl, y0, y1, hq, hB⟩ := hrel
        by_cases hlt : j < xs.length
        · obtain ⟨b, o, k', n', m', aa, al, ac, rfl, d0, d1, d2, d3, hx⟩ := hAt.out j hlt
          have hbr := hB.out
          have hz := lt_of_cell d0
          have c0 := ((bcell hbr).1 b _ hz).trans d0
          have c1 := ((bcell hbr).1 b _ hz).trans d1
          have c2 := ((bcell hbr).1 b _ hz).trans d2
          have c3 := ((bcell hbr).1 b _ hz).trans d3
          have hzr : b < wr.heap.size := Nat.lt_of_lt_of_le hz hbr.size
          have hb2 := below_alloc wr (.cells #[.int .i64 k', .string n', .int .i64 m', .slice aa al ac] 48)
          have hbn := hid (Below.next hbr hb2)
          have hq2 : fewXs (xs.drop j) y = if y < 0 then y else fewXs (xs.drop (j + 1)) (fewX (xs.getD j x0) y) := by rw [drop_x hlt, fewXs]
          by_cases hy : y < 0
          · have hE2 : Hid (fewX (.mk k n m xs) r = y) := show _ = _ by rw [← hq.out, hq2, if_pos hy]
            clear hq hq2 hx d0 d1 d2 d3 hz hB hb2 hbr
            go_wp2
            go_ret
            exact ⟨ret_i64 hE2.out.symm, hbn.out⟩
          · have hy0 : 0 ≤ y := by omega
            have hcall := IH.out _ (xs_at hlt) _ _ y ((hx.next hbr).next hb2) (szXs_mem hzs.out _ (xs_at hlt)) hy0 y1
            have hrg := fewX_rng (xs.getD j x0) y (szXs_mem hzs.out _ (xs_at hlt)) hy0
            have hE2 : Hid (fewXs (xs.drop (j + 1)) (fewX (xs.getD j x0) y) = fewX (.mk k n m xs) r) := show _ = _ by rw [← hq.out, hq2, if_neg hy]
            generalize fewX (xs.getD j x0) y = y' at hcall hrg hE2
            obtain ⟨g1, g2⟩ := hrg
            clear hq hq2 hx d0 d1 d2 d3 hz hB hb2 hbr
            go_wp2_with (go_at_call 28; refine hcall.mono ?_; rintro e w3 ⟨rfl, hb3⟩)
            go_roundw
            case rel => exact ⟨j + 1, y', by omega, by go_num, rfl, g1, by omega, hE2, Below.next hbn.out hb3⟩
            case measure => simp [intOf]; omega
        · obtain rfl : j = xs.length := by omega
          have hE2 : Hid (fewX (.mk k n m xs) r = y) := show _ = _ by rw [← hq.out, List.drop_length, fewXs]
          clear hq
          go_wp2
          go_ret
          exact ⟨ret_i64 hE2.out.symm, hB.out⟩
end Go.Proofs.Ytmfgjemefjcblaa

/- large of tendrillaw08. -/
namespace Go.Proofs.Ytmfgjemefjcblaa
open Go.RowKit

/-- How many parts are left behind the right sides. -/
def fewQs : List (ByteArray × Ex) → Int → Int
  | [], r => r
  | q :: t, r => if r < 0 then r else fewQs t (fewX q.2 r)
theorem fewXs_neg {r : Int} (h : r < 0) : ∀ xs : List Ex, fewXs xs r = r
  | [] => by rw [fewXs]
  | _ :: _ => by rw [fewXs, if_pos h]
theorem fewQs_neg {r : Int} (h : r < 0) : ∀ qs : List (ByteArray × Ex), fewQs qs r = r
  | [] => by rw [fewQs]
  | _ :: _ => by rw [fewQs, if_pos h]
theorem drop_q {qs : List (ByteArray × Ex)} {j : Nat} (h : j < qs.length) : qs.drop j = qs.getD j q0 :: qs.drop (j + 1) := by
  rw [List.drop_eq_getElem_cons h]
  simp [List.getD, h]
/-- Is a system too large for the statements? -/
def largeT (xs : List Ex) (qs : List (ByteArray × Ex)) : Bool := decide (100 < xs.length) || (decide (100 < qs.length) || decide (fewQs qs (fewXs xs 250) < 0))
set_option maxRecDepth 100000 in
set_option maxHeartbeats 2000000 in
theorem tlarge_any {w : World} {xv qv : Value} {xs : List Ex} {qs : List (ByteArray × Ex)} (hX : Rxs w xv xs) (hQ : Rqs w qv qs) (hzx : szXs xs) (hzq : ∀ q ∈ qs, q.1.size ≤ 281474976710656 ∧ szX q.2) (hlx : xs.length ≤ 281474976710656) (hlq : qs.length ≤ 281474976710656) :
    Calls Try.prog 9 #[xv, qv] w fun e w' => e = .returned (.bool (largeT xs qs)) ∧ Below w.heap.size w w' := by
  obtain ⟨xo, xc, rfl, hXa0⟩ := hX
  obtain ⟨qo, qc, rfl, hQa0⟩ := hQ
  have hXa := hid hXa0
  have hQa := hid hQa0
  have hzX := hid hzx
  have hzQ := hid hzq
  clear hXa0 hQa0 hzx hzq
  by_cases l1 : 100 < xs.length
  · have l1' : (100 : Int) < (xs.length : Int) := by omega
    have hE : Hid (largeT xs qs = true) := show _ = _ by rw [largeT, decide_eq_true l1]; rfl
    clear l1
    go_enter Try.func9, Try.ntmps9
    go_wp2
    go_ret
    exact ⟨ret_bool hE.out.symm, Below.refl _ _⟩
  · have l1' : ¬ (100 : Int) < (xs.length : Int) := by omega
    by_cases l2 : 100 < qs.length
    · have l2' : (100 : Int) < (qs.length : Int) := by omega
      have hE : Hid (largeT xs qs = true) := show _ = _ by rw [largeT, decide_eq_true l2]; simp
      clear l1 l2
      go_enter Try.func9, Try.ntmps9
      go_wp2
      go_ret
      exact ⟨ret_bool hE.out.symm, Below.refl _ _⟩
    · have l2' : ¬ (100 : Int) < (qs.length : Int) := by omega
      have hE : Hid (largeT xs qs = decide (fewQs qs (fewXs xs 250) < 0)) := show _ = _ by rw [largeT, decide_eq_false l1, decide_eq_false l2]; rfl
      clear l1 l2
      go_enter Try.func9, Try.ntmps9
      go_wp2
      go_loopw [5, 20] (fun mo i wr => ∃ (j : Nat) (y : Int), j ≤ xs.length ∧ i = .int .i64 (j : Int) ∧ mo = .int .i64 y ∧ -17592186044416 ≤ y ∧ y ≤ 1000 ∧ Hid (fewXs (xs.drop j) y = fewXs xs 250) ∧ Hid (Below w.heap.size w wr)) (fun _ i _ => xs.length - (intOf i).toNat)
      case atStart => exact ⟨0, 250, by omega, rfl, rfl, by omega, by omega, (show _ = _ from rfl), Below.refl _ _⟩
      case round =>
        obtain ⟨j, y, hj, rfl, rfl, y0, y1, hq, hB⟩ := hrel
        by_cases hlt : j < xs.length
        · obtain ⟨b, o, k', n', m', aa, al, ac, rfl, d0, d1, d2, d3, hx⟩ := hXa.out j hlt
          have hbr := hB.out
          have hz := lt_of_cell d0
          have c0 := ((bcell hbr).1 b _ hz).trans d0
          have c1 := ((bcell hbr).1 b _ hz).trans d1
          have c2 := ((bcell hbr).1 b _ hz).trans d2
          have c3 := ((bcell hbr).1 b _ hz).trans d3
          have hzr : b < wr.heap.size := Nat.lt_of_lt_of_le hz hbr.size
          have hb2 := below_alloc wr (.cells #[.int .i64 k', .string n', .int .i64 m', .slice aa al ac] 48)
          have hbn := hid (Below.next hbr hb2)
          have hq2 : fewXs (xs.drop j) y = if y < 0 then y else fewXs (xs.drop (j + 1)) (fewX (xs.getD j x0) y) := by rw [drop_x hlt, fewXs]
          by_cases hy : y < 0
          · have hE2 : Hid (fewXs (xs.drop (j + 1)) y = fewXs xs 250) := show _ = _ by rw [← hq.out, hq2, if_pos hy, fewXs_neg hy]
            have hy' : ¬ (0 : Int) ≤ y := by omega
            clear hq hq2 hx d0 d1 d2 d3 hz hB hb2 hbr
            go_wp2
            go_roundw
            case rel => exact ⟨j + 1, y, by omega, by go_num, rfl, y0, y1, hE2, hbn⟩
            case measure => simp [intOf]; omega
          · have hy0 : 0 ≤ y := by omega
            have hcall := few_any _ _ _ y ((hx.next hbr).next hb2) (szXs_mem hzX.out _ (xs_at hlt)) hy0 y1
            have hrg := fewX_rng (xs.getD j x0) y (szXs_mem hzX.out _ (xs_at hlt)) hy0
            have hE2 : Hid (fewXs (xs.drop (j + 1)) (fewX (xs.getD j x0) y) = fewXs xs 250) := show _ = _ by rw [← hq.out, hq2, if_neg hy]
            generalize fewX (xs.getD j x0) y = y' at hcall hrg hE2
            obtain ⟨g1, g2⟩ := hrg
            clear hq hq2 hx d0 d1 d2 d3 hz hB hb2 hbr
            go_wp2_with (go_at_call 28; refine hcall.mono ?_; rintro e w3 ⟨rfl, hb3⟩)
            go_roundw
            case rel => exact ⟨j + 1, y', by omega, by go_num, rfl, g1, by omega, hE2, Below.next hbn.out hb3⟩
            case measure => simp [intOf]; omega
        · obtain rfl : j = xs.length := by omega
          have hq3 : y = fewXs xs 250 := by
            have := hq.out
            rw [List.drop_length, fewXs] at this
            exact this
          rw [← hq3] at hE
          clear hq hq3
          go_wp2
          go_loopw [5, 32] (fun mo i wr => ∃ (i' : Nat) (z : Int), i' ≤ qs.length ∧ i = .int .i64 (i' : Int) ∧ mo = .int .i64 z ∧ -17592186044416 ≤ z ∧ z ≤ 1000 ∧ Hid (fewQs (qs.drop i') z = fewQs qs y) ∧ Hid (Below w.heap.size w wr)) (fun _ i _ => qs.length - (intOf i).toNat)
          case atStart => exact ⟨0, y, by omega, rfl, rfl, y0, y1, (show _ = _ from rfl), hB⟩
          case round =>
            clear hB
            obtain ⟨i', z, hi', rfl, rfl, z0, z1, hq, hB⟩ := hrel
            by_cases hlt2 : i' < qs.length
            · obtain ⟨b, o, k', n', m', aa, al, ac, rfl, d0, d1, d2, d3, d4, hx⟩ := hQa.out i' hlt2
              have hbr := hB.out
              have hz := lt_of_cell d0
              have c0 := ((bcell hbr).1 b _ hz).trans d0
              have c1 := ((bcell hbr).1 b _ hz).trans d1
              have c2 := ((bcell hbr).1 b _ hz).trans d2
              have c3 := ((bcell hbr).1 b _ hz).trans d3
              have c4 := ((bcell hbr).1 b _ hz).trans d4
              have hzr : b < wr.heap.size := Nat.lt_of_lt_of_le hz hbr.size
              have hq2 : fewQs (qs.drop i') z = if z < 0 then z else fewQs (qs.drop (i' + 1)) (fewX (qs.getD i' q0).2 z) := by rw [drop_q hlt2, fewQs]
              have hqm : qs.getD i' q0 ∈ qs := by simp [List.getD, hlt2]
              have hb2 := below_alloc wr (.cells #[.string (qs.getD i' q0).1, .int .i64 k', .string n', .int .i64 m', .slice aa al ac] 50)
              have hbn := hid (Below.next hbr hb2)
              by_cases hy : z < 0
              · have hE2 : Hid (fewQs (qs.drop (i' + 1)) z = fewQs qs y) := show _ = _ by rw [← hq.out, hq2, if_pos hy, fewQs_neg hy]
                have hy' : ¬ (0 : Int) ≤ z := by omega
                clear hq hq2 hx d0 d1 d2 d3 d4 hz hB hb2 hbr hqm
                generalize (qs.getD i' q0).1 = qn at *
                go_wp2
                go_roundw
                case rel => exact ⟨i' + 1, z, by omega, by go_num, rfl, z0, z1, hE2, hbn⟩
                case measure => simp [intOf]; omega
              · have hy0 : 0 ≤ z := by omega
                have hcall := few_any _ _ _ z ((hx.next hbr).next hb2) (hzQ.out _ hqm).2 hy0 z1
                have hrg := fewX_rng (qs.getD i' q0).2 z (hzQ.out _ hqm).2 hy0
                have hE2 : Hid (fewQs (qs.drop (i' + 1)) (fewX (qs.getD i' q0).2 z) = fewQs qs y) := show _ = _ by rw [← hq.out, hq2, if_neg hy]
                clear hq hq2 hx d0 d1 d2 d3 d4 hz hB hb2 hbr hqm
                generalize fewX (qs.getD i' q0).2 z = y' at hcall hrg hE2
                generalize (qs.getD i' q0).1 = qn at *
                obtain ⟨g1, g2⟩ := hrg
                go_wp2_with (go_at_call 28; refine hcall.mono ?_; rintro e w3 ⟨rfl, hb3⟩)
                go_roundw
                case rel => exact ⟨i' + 1, y', by omega, by go_num, rfl, g1, by omega, hE2, Below.next hbn.out hb3⟩
                case measure => simp [intOf]; omega
            · obtain rfl : i' = qs.length := by omega
              have hq3 : z = fewQs qs y := by
                have := hq.out
                rw [List.drop_length, fewQs] at this
                exact this
              rw [← hq3] at hE
              clear hq hq3
              go_wp2
              go_ret
              exact ⟨ret_bool hE.out.symm, hB.out⟩
end Go.Proofs.Ytmfgjemefjcblaa

/- nameless and within of tendrillaw08: does a variable of a name stand in a term? -/
namespace Go.Proofs.Ytmfgjemefjcblaa
open Go.RowKit

mutual
/-- Does a variable of this name stand in a term? -/
def hasX (l : List UInt8) : Ex → Bool
  | .mk k n _ xs => (decide (k = 1) && (n.toList == l)) || hasXs l xs
def hasXs (l : List UInt8) : List Ex → Bool
  | [] => false
  | x :: t => hasX l x || hasXs l t
end
theorem prt_len8 : ∀ xs : List Ex, xs.length ≤ prtXs xs
  | [] => by simp
  | x :: t => by
    have h1 := prt_len8 t
    have h2 := prtX_pos x
    rw [prtXs, List.length_cons]
    omega
theorem prt_mem8 : ∀ (xs : List Ex) (x : Ex), x ∈ xs → prtX x ≤ prtXs xs
  | y :: t, x, h => by
    rw [prtXs]
    rcases List.mem_cons.1 h with rfl | h
    · omega
    · have := prt_mem8 t x h
      omega
theorem prtQ_few : ∀ (qs : List (ByteArray × Ex)) (r : Int), 0 ≤ fewQs qs r → (prtQ qs : Int) + fewQs qs r ≤ r + qs.length
  | [], r, h => by rw [fewQs, prtQ]; simp
  | q :: t, r, h => by
    rw [fewQs] at h ⊢
    split at h
    · omega
    · rename_i hl
      rw [if_neg hl]
      have h2 := prtQ_few t _ h
      by_cases hf : fewX q.2 r < 0
      · rw [fewQs_neg hf] at h
        omega
      · have h1 := fewX_prt q.2 r (by omega)
        rw [prtQ, List.length_cons]
        omega
/-- What is not large is small. -/
theorem large_small {xs : List Ex} {qs : List (ByteArray × Ex)} (h : largeT xs qs = false) : xs.length ≤ 100 ∧ qs.length ≤ 100 ∧ prtXs xs + prtQ qs ≤ 350 := by
  unfold largeT at h
  simp only [Bool.or_eq_false_iff, decide_eq_false_iff_not] at h
  obtain ⟨h1, h2, h3⟩ := h
  have h4 := prtQ_few qs (fewXs xs 250) (by omega)
  by_cases hf : fewXs xs 250 < 0
  · rw [fewQs_neg hf] at h3
    omega
  · have h5 := fewXs_prt xs 250 (by omega)
    exact ⟨by omega, by omega, by omega⟩
/-- What is asked of nameless at one term. -/
def NmlC (x : Ex) : Prop := ∀ (w : World) (v : Value), Xv w x v → prtX x ≤ 100000 → Calls Try.prog 16 #[v] w fun e w' => e = .returned (.bool (hasX [95] x)) ∧ Below w.heap.size w w'
set_option maxRecDepth 100000 in
set_option maxHeartbeats 2000000 in
theorem nameless_any (x : Ex) : NmlC x := by
  induction x using Ex.ind with
  | h k n m xs ih =>
    intro w v hx hp
    obtain ⟨av, rfl, ao, c, rfl, hAt0⟩ := hx.parts
    have hAt := hid hAt0
    have IH := hid ih
    have hln : xs.length ≤ 100000 := by have := prt_len8 xs; rw [prtX] at hp; omega
    have hpc : Hid (∀ x ∈ xs, prtX x ≤ 100000) := fun x hx => by have := prt_mem8 xs x hx; rw [prtX] at hp; omega
    have hb0 := hid (below_alloc w (.cells #[.int .i64 k, .string n, .int .i64 m, .slice ao xs.length c] 48))
    by_cases hk : k = 1 ∧ (n.toList == [95]) = true
    · obtain ⟨rfl, hu⟩ := hk
      have hE : Hid (hasX [95] (.mk 1 n m xs) = true) := show _ = _ by rw [hasX, hu]; rfl
      clear ih hx hAt0
      go_enter Try.func16, Try.ntmps16
      go_wp2
      go_ret
      exact ⟨ret_bool hE.out.symm, hb0.out⟩
    · have hE : Hid (hasX [95] (.mk k n m xs) = hasXs [95] xs) := show _ = _ by
        rw [hasX]
        by_cases h1 : k = 1
        · have h2 : (n.toList == [95]) = false := by simpa using fun h => hk ⟨h1, h⟩
          rw [h2]; simp
        · rw [decide_eq_false h1]; rfl
      have hloop : Hid (∀ (P : Prop), ((k == 1) = false → P) → ((k = 1 ∧ (n.toList == [95]) = false) → P) → P) := fun P h1 h2 => by
        by_cases e : k = 1
        · exact h2 ⟨e, by simpa using fun h => hk ⟨e, h⟩⟩
        · exact h1 (beq_eq_false_iff_ne.2 e)
      clear ih hx hAt0 hk hp
      refine hloop.out _ (fun hk1 => ?_) (fun hk1 => ?_)
      all_goals
        first
          | (obtain ⟨hk2, hk3⟩ := hk1; subst hk2)
          | skip
        clear hloop
        go_enter Try.func16, Try.ntmps16
        go_wp2
        go_loopw [16] (fun i wr => ∃ (j : Nat), j ≤ xs.length ∧ i = .int .i64 (j : Int) ∧ Hid (hasXs [95] (xs.drop j) = hasXs [95] xs) ∧ Hid (Below w.heap.size w wr)) (fun i _ => xs.length - (intOf i).toNat)
        case atStart => exact ⟨0, by omega, rfl, (show _ = _ from rfl), hb0⟩
        case round =>
          clear hb0
          obtain ⟨j, hj, rfl, hq, hB⟩ := hrel
          by_cases hlt : j < xs.length
          · obtain ⟨b, o, k', n', m', aa, al, ac, rfl, d0, d1, d2, d3, hx⟩ := hAt.out j hlt
            have hbr := hB.out
            have hz := lt_of_cell d0
            have c0 := ((bcell hbr).1 b _ hz).trans d0
            have c1 := ((bcell hbr).1 b _ hz).trans d1
            have c2 := ((bcell hbr).1 b _ hz).trans d2
            have c3 := ((bcell hbr).1 b _ hz).trans d3
            have hzr : b < wr.heap.size := Nat.lt_of_lt_of_le hz hbr.size
            have hb2 := below_alloc wr (.cells #[.int .i64 k', .string n', .int .i64 m', .slice aa al ac] 48)
            have hbn := hid (Below.next hbr hb2)
            have hq2 : hasXs [95] (xs.drop j) = (hasX [95] (xs.getD j x0) || hasXs [95] (xs.drop (j + 1))) := by rw [drop_x hlt, hasXs]
            have hcall := IH.out _ (xs_at hlt) _ _ ((hx.next hbr).next hb2) (hpc.out _ (xs_at hlt))
            cases hy : hasX [95] (xs.getD j x0) with
            | true =>
              have hE2 : Hid (hasX [95] (.mk _ n m xs) = true) := show _ = _ by rw [hE.out, ← hq.out, hq2, hy]; rfl
              rw [hy] at hcall
              clear hq hq2 hx d0 d1 d2 d3 hz hB hb2 hbr hE
              go_wp2_with (go_at_call 16; refine hcall.mono ?_; rintro e w3 ⟨rfl, hb3⟩)
              go_ret
              exact ⟨ret_bool hE2.out.symm, Below.next hbn.out hb3⟩
            | false =>
              have hE2 : Hid (hasXs [95] (xs.drop (j + 1)) = hasXs [95] xs) := show _ = _ by rw [← hq.out, hq2, hy]; rfl
              rw [hy] at hcall
              clear hq hq2 hx d0 d1 d2 d3 hz hB hb2 hbr
              go_wp2_with (go_at_call 16; refine hcall.mono ?_; rintro e w3 ⟨rfl, hb3⟩)
              go_roundw
              case rel => exact ⟨j + 1, by omega, by go_num, hE2, Below.next hbn.out hb3⟩
              case measure => simp [intOf]; omega
          · obtain rfl : j = xs.length := by omega
            have hE2 : Hid (hasX [95] (.mk _ n m xs) = false) := show _ = _ by rw [hE.out, ← hq.out, List.drop_length, hasXs]
            clear hq hE
            go_wp2
            go_ret
            exact ⟨ret_bool hE2.out.symm, hB.out⟩
/-- What is asked of within at one term. -/
def WthC (x : Ex) : Prop := ∀ (w : World) (v : Value), Xv w x v → prtX x ≤ 100000 → Calls Try.prog 43 #[v] w fun e w' => e = .returned (.bool (hasX [81, 117, 105, 116, 101, 95, 97, 110, 111, 116, 104, 101, 114] x)) ∧ Below w.heap.size w w'
set_option maxRecDepth 100000 in
set_option maxHeartbeats 2000000 in
theorem within_any (x : Ex) : WthC x := by
  induction x using Ex.ind with
  | h k n m xs ih =>
    intro w v hx hp
    obtain ⟨av, rfl, ao, c, rfl, hAt0⟩ := hx.parts
    have hAt := hid hAt0
    have IH := hid ih
    have hln : xs.length ≤ 100000 := by have := prt_len8 xs; rw [prtX] at hp; omega
    have hpc : Hid (∀ x ∈ xs, prtX x ≤ 100000) := fun x hx => by have := prt_mem8 xs x hx; rw [prtX] at hp; omega
    have hb0 := hid (below_alloc w (.cells #[.int .i64 k, .string n, .int .i64 m, .slice ao xs.length c] 48))
    by_cases hk : k = 1 ∧ (n.toList == [81, 117, 105, 116, 101, 95, 97, 110, 111, 116, 104, 101, 114]) = true
    · obtain ⟨rfl, hu⟩ := hk
      have hE : Hid (hasX [81, 117, 105, 116, 101, 95, 97, 110, 111, 116, 104, 101, 114] (.mk 1 n m xs) = true) := show _ = _ by rw [hasX, hu]; rfl
      clear ih hx hAt0
      go_enter Try.func43, Try.ntmps43
      go_wp2
      go_ret
      exact ⟨ret_bool hE.out.symm, hb0.out⟩
    · have hE : Hid (hasX [81, 117, 105, 116, 101, 95, 97, 110, 111, 116, 104, 101, 114] (.mk k n m xs) = hasXs [81, 117, 105, 116, 101, 95, 97, 110, 111, 116, 104, 101, 114] xs) := show _ = _ by
        rw [hasX]
        by_cases h1 : k = 1
        · have h2 : (n.toList == [81, 117, 105, 116, 101, 95, 97, 110, 111, 116, 104, 101, 114]) = false := by simpa using fun h => hk ⟨h1, h⟩
          rw [h2]; simp
        · rw [decide_eq_false h1]; rfl
      have hloop : Hid (∀ (P : Prop), ((k == 1) = false → P) → ((k = 1 ∧ (n.toList == [81, 117, 105, 116, 101, 95, 97, 110, 111, 116, 104, 101, 114]) = false) → P) → P) := fun P h1 h2 => by
        by_cases e : k = 1
        · exact h2 ⟨e, by simpa using fun h => hk ⟨e, h⟩⟩
        · exact h1 (beq_eq_false_iff_ne.2 e)
      clear ih hx hAt0 hk hp
      refine hloop.out _ (fun hk1 => ?_) (fun hk1 => ?_)
      all_goals
        first
          | (obtain ⟨hk2, hk3⟩ := hk1; subst hk2)
          | skip
        clear hloop
        go_enter Try.func43, Try.ntmps43
        go_wp2
        go_loopw [16] (fun i wr => ∃ (j : Nat), j ≤ xs.length ∧ i = .int .i64 (j : Int) ∧ Hid (hasXs [81, 117, 105, 116, 101, 95, 97, 110, 111, 116, 104, 101, 114] (xs.drop j) = hasXs [81, 117, 105, 116, 101, 95, 97, 110, 111, 116, 104, 101, 114] xs) ∧ Hid (Below w.heap.size w wr)) (fun i _ => xs.length - (intOf i).toNat)
        case atStart => exact ⟨0, by omega, rfl, (show _ = _ from rfl), hb0⟩
        case round =>
          clear hb0
          obtain ⟨j, hj, rfl, hq, hB⟩ := hrel
          by_cases hlt : j < xs.length
          · obtain ⟨b, o, k', n', m', aa, al, ac, rfl, d0, d1, d2, d3, hx⟩ := hAt.out j hlt
            have hbr := hB.out
            have hz := lt_of_cell d0
            have c0 := ((bcell hbr).1 b _ hz).trans d0
            have c1 := ((bcell hbr).1 b _ hz).trans d1
            have c2 := ((bcell hbr).1 b _ hz).trans d2
            have c3 := ((bcell hbr).1 b _ hz).trans d3
            have hzr : b < wr.heap.size := Nat.lt_of_lt_of_le hz hbr.size
            have hb2 := below_alloc wr (.cells #[.int .i64 k', .string n', .int .i64 m', .slice aa al ac] 48)
            have hbn := hid (Below.next hbr hb2)
            have hq2 : hasXs [81, 117, 105, 116, 101, 95, 97, 110, 111, 116, 104, 101, 114] (xs.drop j) = (hasX [81, 117, 105, 116, 101, 95, 97, 110, 111, 116, 104, 101, 114] (xs.getD j x0) || hasXs [81, 117, 105, 116, 101, 95, 97, 110, 111, 116, 104, 101, 114] (xs.drop (j + 1))) := by rw [drop_x hlt, hasXs]
            have hcall := IH.out _ (xs_at hlt) _ _ ((hx.next hbr).next hb2) (hpc.out _ (xs_at hlt))
            cases hy : hasX [81, 117, 105, 116, 101, 95, 97, 110, 111, 116, 104, 101, 114] (xs.getD j x0) with
            | true =>
              have hE2 : Hid (hasX [81, 117, 105, 116, 101, 95, 97, 110, 111, 116, 104, 101, 114] (.mk _ n m xs) = true) := show _ = _ by rw [hE.out, ← hq.out, hq2, hy]; rfl
              rw [hy] at hcall
              clear hq hq2 hx d0 d1 d2 d3 hz hB hb2 hbr hE
              go_wp2_with (go_at_call 43; refine hcall.mono ?_; rintro e w3 ⟨rfl, hb3⟩)
              go_ret
              exact ⟨ret_bool hE2.out.symm, Below.next hbn.out hb3⟩
            | false =>
              have hE2 : Hid (hasXs [81, 117, 105, 116, 101, 95, 97, 110, 111, 116, 104, 101, 114] (xs.drop (j + 1)) = hasXs [81, 117, 105, 116, 101, 95, 97, 110, 111, 116, 104, 101, 114] xs) := show _ = _ by rw [← hq.out, hq2, hy]; rfl
              rw [hy] at hcall
              clear hq hq2 hx d0 d1 d2 d3 hz hB hb2 hbr
              go_wp2_with (go_at_call 43; refine hcall.mono ?_; rintro e w3 ⟨rfl, hb3⟩)
              go_roundw
              case rel => exact ⟨j + 1, by omega, by go_num, hE2, Below.next hbn.out hb3⟩
              case measure => simp [intOf]; omega
          · obtain rfl : j = xs.length := by omega
            have hE2 : Hid (hasX [81, 117, 105, 116, 101, 95, 97, 110, 111, 116, 104, 101, 114] (.mk _ n m xs) = false) := show _ = _ by rw [hE.out, ← hq.out, List.drop_length, hasXs]
            clear hq hE
            go_wp2
            go_ret
            exact ⟨ret_bool hE2.out.symm, hB.out⟩
end Go.Proofs.Ytmfgjemefjcblaa

/- Two copies of a term without _ are alike. -/
namespace Go.Proofs.Ytmfgjemefjcblaa
open Go.RowKit

mutual
/-- A term lies at a node among nodes. -/
def LdX (N : List Nd) (ns : List ByteArray) : Ex → Nat → Prop
  | .mk k n m xs, z => if (decide (k = 1) && !isU n) = true then z = ixN ns n else if k = 1 then True else ns.length ≤ z ∧ ∃ l : List Int, N[z]? = some ⟨k, n, m, l⟩ ∧ LdXs N ns xs l
def LdXs (N : List Nd) (ns : List ByteArray) : List Ex → List Int → Prop
  | [], l => l = []
  | x :: r, l => ∃ (z : Nat) (t : List Int), l = (z : Int) :: t ∧ LdX N ns x z ∧ LdXs N ns r t
end
mutual
theorem flat_ld (ns : List ByteArray) : ∀ (x : Ex) (A B : List Nd), ns.length ≤ A.length → LdX (A ++ (flatX ns A.length x).2 ++ B) ns x (flatX ns A.length x).1
  | .mk k n m xs, A, B, h => by
    rw [LdX, flatX]
    split
    · rfl
    · split
      · trivial
      · have ih := flats_ld ns xs (A ++ [⟨k, n, m, (flatXs ns (A.length + 1) xs).1⟩]) B (by simp; omega)
        rw [show (A ++ [(⟨k, n, m, (flatXs ns (A.length + 1) xs).1⟩ : Nd)]).length = A.length + 1 by simp] at ih
        refine ⟨h, (flatXs ns (A.length + 1) xs).1, ?_, ?_⟩
        · simp
        · rw [List.append_assoc] at ih
          simpa using ih
theorem flats_ld (ns : List ByteArray) : ∀ (xs : List Ex) (A B : List Nd), ns.length ≤ A.length → LdXs (A ++ (flatXs ns A.length xs).2 ++ B) ns xs (flatXs ns A.length xs).1
  | [], A, B, h => by rw [LdXs, flatXs]
  | x :: r, A, B, h => by
    rw [LdXs, flatXs]
    refine ⟨_, _, rfl, ?_, ?_⟩
    · have := flat_ld ns x A ((flatXs ns (A.length + (flatX ns A.length x).2.length) r).2 ++ B) h
      simpa using this
    · have := flats_ld ns r (A ++ (flatX ns A.length x).2) B (by simp; omega)
      simpa using this
end
theorem al_args {g : Gf} {i j : Int} (hi : isN g i) (hj : isN g j) (hl : labE g i j) (ha : ∀ k, k < (g.nd i).args.length → Al g (g.arg i k) (g.arg j k)) : Al g i j := by
  refine ⟨fun a b => (a = i ∧ b = j) ∨ Al g a b, fun a b h => ?_, Or.inl ⟨rfl, rfl⟩⟩
  rcases h with ⟨rfl, rfl⟩ | h
  · exact ⟨hi, hj, hl, fun k hk => Or.inr (ha k hk)⟩
  · obtain ⟨h1, h2, h3, h4⟩ := al_sim g a b h
    exact ⟨h1, h2, h3, fun k hk => Or.inr (h4 k hk)⟩
theorem lds_at {N : List Nd} {ns : List ByteArray} : ∀ {xs : List Ex} {l : List Int}, LdXs N ns xs l → l.length = xs.length ∧ ∀ k, k < xs.length → ∃ z : Nat, l.getD k 0 = (z : Int) ∧ LdX N ns (xs.getD k x0) z
  | [], l, h => by
    have e : l = [] := h
    subst e
    exact ⟨rfl, fun k hk => absurd hk (Nat.not_lt_zero _)⟩
  | x :: r, l, h => by
    obtain ⟨z, t, rfl, h1, h2⟩ := h
    obtain ⟨e, h3⟩ := lds_at h2
    refine ⟨by simp [e], fun k hk => ?_⟩
    cases k with
    | zero => exact ⟨z, rfl, h1⟩
    | succ k => simpa using h3 k (by simpa using hk)
theorem has_at {l : List UInt8} : ∀ {xs : List Ex}, hasXs l xs = false → ∀ x ∈ xs, hasX l x = false
  | y :: r, h, x, hx => by
    rw [hasXs, Bool.or_eq_false_iff] at h
    rcases List.mem_cons.1 hx with rfl | hx
    · exact h.1
    · exact has_at h.2 x hx
theorem gE_nd {N : List Nd} {R : List Int} {E : Nat → Nat} {z : Nat} {nd : Nd} (h : N[z]? = some nd) : (gE N R E).nd (z : Int) = renum (EI E) nd := by
  unfold Gf.nd gE
  simp [List.getD, h]
/-- Two nodes at which one term without _ lies lead to nodes that unfold alike. -/
theorem ld_al {N : List Nd} {R : List Int} {E : Nat → Nat} {ns : List ByteArray} (hg : Good (gE N R E)) (hfix : ∀ z, ns.length ≤ z → E z = z) (hin : ∀ z, z < N.length → E z < N.length) (hns : ns.length ≤ N.length) (x : Ex) : ∀ (a b : Nat), okX ns x → hasX [95] x = false → LdX N ns x a → LdX N ns x b → Al (gE N R E) ((E a : Nat) : Int) ((E b : Nat) : Int) := by
  have hlen : (gE N R E).nodes.length = N.length := by simp [gE]
  induction x using Ex.ind with
  | h k n m xs ih =>
    intro a b hok hno ha hb
    rw [LdX] at ha hb
    by_cases h1 : (decide (k = 1) && !isU n) = true
    · rw [if_pos h1] at ha hb
      subst ha
      subst hb
      have hlt := ixN_lt (hok.1 h1)
      have := hin (ixN ns n) (by omega)
      exact al_refl hg ⟨by omega, by rw [hlen]; omega⟩
    · rw [if_neg h1] at ha hb
      by_cases h2 : k = 1
      · subst h2
        have hu : isU n = true := by simpa using h1
        rw [hasX, Bool.or_eq_false_iff] at hno
        have h3 := hno.1
        have h4 : n.toList = [95] := by simpa [isU] using hu
        rw [h4] at h3
        simp at h3
      · rw [if_neg h2] at ha hb
        obtain ⟨ha0, la, ea, hla⟩ := ha
        obtain ⟨hb0, lb, eb, hlb⟩ := hb
        rw [hfix a ha0, hfix b hb0]
        have na := gE_nd (R := R) (E := E) ea
        have nb := gE_nd (R := R) (E := E) eb
        obtain ⟨l1, f1⟩ := lds_at hla
        obtain ⟨l2, f2⟩ := lds_at hlb
        have la' := (List.getElem?_eq_some_iff.1 ea).1
        have lb' := (List.getElem?_eq_some_iff.1 eb).1
        rw [hasX, Bool.or_eq_false_iff] at hno
        refine al_args ⟨by omega, by rw [hlen]; omega⟩ ⟨by omega, by rw [hlen]; omega⟩ ?_ (fun i hi => ?_)
        · unfold labE
          rw [na, nb]
          exact ⟨rfl, rfl, rfl, by simp [renum, l1, l2], fun h => absurd h h2⟩
        · rw [na] at hi
          have hi' : i < xs.length := by simpa [renum, l1] using hi
          obtain ⟨za, e1, g1⟩ := f1 i hi'
          obtain ⟨zb, e2, g2⟩ := f2 i hi'
          have ea1 : (gE N R E).arg (a : Int) i = ((E za : Nat) : Int) := by
            unfold Gf.arg
            rw [na]
            have hh : i < la.length := by omega
            have : la[i] = (za : Int) := by simpa [List.getD, hh] using e1
            simp [renum, List.getD, hh, this, EI]
          have eb1 : (gE N R E).arg (b : Int) i = ((E zb : Nat) : Int) := by
            unfold Gf.arg
            rw [nb]
            have hh : i < lb.length := by omega
            have : lb[i] = (zb : Int) := by simpa [List.getD, hh] using e2
            simp [renum, List.getD, hh, this, EI]
          rw [ea1, eb1]
          exact ih _ (xs_at hi') za zb (okXs_mem hok.2 _ (xs_at hi')) (has_at hno.2 _ (xs_at hi')) g1 g2
end Go.Proofs.Ytmfgjemefjcblaa

/- Both sides of an equation are one node: mathematics. -/
namespace Go.Proofs.Ytmfgjemefjcblaa
open Go.RowKit

/-- Both sides of each equation, one behind the other. -/
def solX : List (ByteArray × Ex) → List Ex
  | [] => []
  | q :: r => .mk 1 q.1 0 [] :: q.2 :: solX r
theorem solX_len : ∀ qs, (solX qs).length = 2 * qs.length
  | [] => rfl
  | q :: r => by rw [solX, List.length_cons, List.length_cons, solX_len r, List.length_cons]; omega
theorem solX_at : ∀ (qs : List (ByteArray × Ex)) (i : Nat), i < qs.length → (solX qs).getD (2 * i) x0 = .mk 1 (qs.getD i q0).1 0 [] ∧ (solX qs).getD (2 * i + 1) x0 = (qs.getD i q0).2
  | q :: r, 0, _ => by rw [solX]; exact ⟨rfl, rfl⟩
  | q :: r, i + 1, h => by
    have := solX_at r i (by simpa using h)
    rw [solX, show 2 * (i + 1) = 2 * i + 1 + 1 by omega]
    simpa using this
theorem solX_good : ∀ {qs : List (ByteArray × Ex)}, (∀ q ∈ qs, isW q.1 4 = true) → (∀ q ∈ qs, goodX 0 q.2 = true) → ∀ x ∈ solX qs, goodX 0 x = true
  | q :: r, h1, h2, x, hx => by
    rw [solX] at hx
    rcases List.mem_cons.1 hx with rfl | hx
    · have := h1 q (by simp)
      rw [goodX, if_neg (by omega), if_pos rfl, this]
      rfl
    · rcases List.mem_cons.1 hx with rfl | hx
      · exact h2 q (by simp)
      · exact solX_good (fun q hq => h1 q (by simp [hq])) (fun q hq => h2 q (by simp [hq])) x hx
theorem prt_sol : ∀ qs, prtXs (solX qs) = prtQ qs
  | [] => rfl
  | q :: r => by rw [solX, prtXs, prtXs, prtQ, prt_sol r, prtX, prtXs]; omega
theorem prtXs_cat : ∀ xs ys : List Ex, prtXs (xs ++ ys) = prtXs xs + prtXs ys
  | [], ys => by simp [prtXs]
  | x :: r, ys => by rw [List.cons_append, prtXs, prtXs, prtXs_cat r ys]; omega
/-- Each equation's pair, and where its right side lies. -/
theorem flatQ_ld (ns : List ByteArray) : ∀ (qs : List (ByteArray × Ex)) (A B : List Nd), ns.length ≤ A.length → ∀ i, i < qs.length → ∃ z : Nat, (ixN ns (qs.getD i q0).1, z) ∈ (flatQ ns A.length qs).1 ∧ LdX (A ++ (flatQ ns A.length qs).2 ++ B) ns (qs.getD i q0).2 z
  | q :: r, A, B, h, 0, _ => by
    rw [flatQ]
    refine ⟨_, List.mem_cons_self, ?_⟩
    have := flat_ld ns q.2 A ((flatQ ns (A.length + (flatX ns A.length q.2).2.length) r).2 ++ B) h
    simpa using this
  | q :: r, A, B, h, i + 1, hi => by
    obtain ⟨z, h1, h2⟩ := flatQ_ld ns r (A ++ (flatX ns A.length q.2).2) B (by simp; omega) i (by simpa using hi)
    rw [flatQ]
    refine ⟨z, List.mem_cons_of_mem _ (by simpa using h1), ?_⟩
    simpa using h2
theorem flatQ_names (ns : List ByteArray) : ∀ (qs : List (ByteArray × Ex)) (p : Nat), (flatQ ns p qs).1.map (·.1) = qs.map (fun q => ixN ns q.1)
  | [], p => by rw [flatQ]; rfl
  | q :: r, p => by rw [flatQ, List.map_cons, List.map_cons, flatQ_names ns r]
/-- What leads to one place goes on so. -/
theorem bind_keep : ∀ (ps : List (Nat × Nat)) (E : Nat → Nat) (x y : Nat), E x = E y → bindAll E ps x = bindAll E ps y
  | [], E, x, y, h => h
  | p :: r, E, x, y, h => bind_keep r (bindE E p) x y (by unfold bindE; rw [h])
theorem bind_fix (M : Nat) : ∀ (ps : List (Nat × Nat)) (E : Nat → Nat), (∀ p ∈ ps, p.1 < M) → (∀ z, M ≤ z → E z = z) → ∀ z, M ≤ z → bindAll E ps z = z
  | [], E, _, h, z, hz => h z hz
  | p :: r, E, hp, h, z, hz => bind_fix M r (bindE E p) (fun q hq => hp q (by simp [hq])) (fun y hy => by
      have h1 := hp p (by simp)
      unfold bindE
      rw [h y hy, if_neg (by omega)]) z hz
theorem bind_pair : ∀ (ps : List (Nat × Nat)) (E : Nat → Nat), (ps.map (·.1)).Nodup → (∀ p ∈ ps, E p.1 = p.1) → ∀ p ∈ ps, bindAll E ps p.1 = bindAll E ps p.2
  | q :: r, E, hn, h, p, hp => by
    have hn' : q.1 ∉ r.map (·.1) ∧ (r.map (·.1)).Nodup := by simpa using hn
    rcases List.mem_cons.1 hp with rfl | hp
    · refine bind_keep r (bindE E p) p.1 p.2 ?_
      have := h p (by simp)
      unfold bindE
      rw [if_pos this]
      split
      · rfl
      · rfl
    · refine bind_pair r (bindE E q) hn'.2 (fun t ht => ?_) p hp
      have h1 := h t (by simp [ht])
      have h2 : t.1 ≠ q.1 := fun e => hn'.1 (List.mem_map.2 ⟨t, ht, e⟩)
      unfold bindE
      rw [h1, if_neg h2]
theorem chkQ_any (n n' : Nat) : ∀ (l : List ByteArray) (qs : List (ByteArray × Ex)) (i : Nat), (chkQ n l qs i).1 = 0 → (chkQ n' l qs i).1 = 0
  | l, [], i, _ => by rw [chkQ]
  | l, q :: r, i, h => by
    rw [chkQ] at h ⊢
    split at h
    · cases h
    · rename_i h1
      rw [if_neg h1]
      split at h
      · cases h
      · rename_i h2
        rw [if_neg h2]
        split at h
        · cases h
        · rename_i h3
          rw [if_neg h3]
          exact chkQ_any n n' _ r _ h
theorem getD_right (xs ys : List Ex) (k : Nat) : (xs ++ ys).getD (xs.length + k) x0 = ys.getD k x0 := by rw [List.getD, List.getD, List.getElem?_append_right (by omega), Nat.add_sub_cancel_left]
theorem names_nodup {qs : List (ByteArray × Ex)} {ns : List ByteArray} (hq : GoodQ qs) (hin : ∀ q ∈ qs, inN ns q.1 = true) : (qs.map (fun q => ixN ns q.1)).Nodup := by
  unfold List.Nodup
  rw [List.pairwise_iff_getElem]
  intro i j hi hj hij e
  have hj' : j < qs.length := by simpa using hj
  have hi' : i < qs.length := by simpa using hi
  have hne := hq.nd i j hij hj'
  simp only [List.getD, List.getElem?_eq_getElem hi', List.getElem?_eq_getElem hj', Option.getD_some] at hne
  rw [List.getElem_map, List.getElem_map] at e
  exact hne (ixN_inj (hin _ (List.getElem_mem hi')) (hin _ (List.getElem_mem hj')) e)
theorem roots_at {N : List Nd} {R : List Int} {E : Nat → Nat} {k z : Nat} (hk : k < R.length) (h : R.getD k 0 = (z : Int)) : (gE N R E).roots.getD k 0 = ((E z : Nat) : Int) := by
  have h' : R[k] = (z : Int) := by simpa [List.getD, hk] using h
  simp [gE, List.getD, hk, h', EI]
/-- The terms with both sides of each equation behind them are tied where the terms are. -/
theorem sol_chk {xs : List Ex} {qs : List (ByteArray × Ex)} (h : (chkT xs qs).1 = 0) (hl : xs.length ≤ 1000) (hq : qs.length ≤ 1000) (hp : prtXs xs + prtQ qs ≤ 1000) : (tieC (xs ++ solX qs) qs).1 = 0 := by
  have hg := chkT_good h
  have hx : (chkT (xs ++ solX qs) qs).1 = 0 := by
    have hlen : (xs ++ solX qs).length = xs.length + 2 * qs.length := by rw [List.length_append, solX_len]
    have hix : ixOf (fun x => !goodX 0 x) (xs ++ solX qs) = -1 := ixOf_none _ _ (by
      rw [List.any_eq_false]
      intro x hx
      rcases List.mem_append.1 hx with h1 | h1
      · simpa using hg.ex x h1
      · simpa using solX_good (fun q hq => (hg.q.nm q hq).1) hg.q.ex x h1)
    unfold chkT at h ⊢
    rw [if_neg (by omega), if_neg (by omega), if_neg (by rw [hix]; omega)]
    split at h
    · cases h
    · split at h
      · cases h
      · split at h
        · cases h
        · exact chkQ_any _ _ _ _ _ h
  have h1 := namA_len (xs ++ solX qs) qs
  have h2 : othA (xs ++ solX qs) qs ≤ prtXs (xs ++ solX qs) + prtQ qs := othA_le _ _
  rw [prtXs_cat, prt_sol] at h1 h2
  unfold tieC
  rw [if_neg (by simpa using hx), if_neg (by omega)]
/-- The two roots of each equation unfold alike. -/
theorem sol_al {xs : List Ex} {qs : List (ByteArray × Ex)} (hg : GoodT (xs ++ solX qs) qs) (hb : (namA (xs ++ solX qs) qs).length + othA (xs ++ solX qs) qs ≤ 4096) (hno : ∀ q ∈ qs, hasX [95] q.2 = false) {i : Nat} (hi : i < qs.length) :
    Al (tieG (xs ++ solX qs) qs) ((tieG (xs ++ solX qs) qs).roots.getD (xs.length + 2 * i) 0) ((tieG (xs ++ solX qs) qs).roots.getD (xs.length + 2 * i + 1) 0) := by
  have hG := tie_goodG hg hb
  have ht := tie_good hg
  obtain ⟨e1, e2, e3⟩ := tie_flat (xs ++ solX qs) qs
  obtain ⟨s1, s2⟩ := solX_at qs i hi
  have hqm : qs.getD i q0 ∈ qs := by simp [List.getD, hi]
  have hnq := (hg.q.nm _ hqm).2
  have hokq := okA_q (xs ++ solX qs) qs _ hqm
  have hlx : (xs ++ solX qs).length = xs.length + 2 * qs.length := by rw [List.length_append, solX_len]
  unfold tieG at hG ⊢
  generalize hns : namA (xs ++ solX qs) qs = ns at e1 e2 e3 hokq
  have lxs := flats_ld ns (xs ++ solX qs) (List.replicate ns.length varN) (flatQ ns (ns.length + (flatXs ns ns.length (xs ++ solX qs)).2.length) qs).2 (by simp)
  rw [List.length_replicate, ← e2, ← e1] at lxs
  obtain ⟨z, hz1, hz2⟩ := flatQ_ld ns qs (List.replicate ns.length varN ++ (flatXs ns ns.length (xs ++ solX qs)).2) [] (by simp) i hi
  rw [List.length_append, List.length_replicate, ← e3] at hz1
  rw [List.length_append, List.length_replicate, List.append_nil, ← e2] at hz2
  obtain ⟨ll, hat⟩ := lds_at lxs
  obtain ⟨za, r1, g1⟩ := hat (xs.length + 2 * i) (by omega)
  obtain ⟨zb, r2, g2⟩ := hat (xs.length + 2 * i + 1) (by omega)
  have t1 : (xs ++ solX qs).getD (xs.length + 2 * i) x0 = .mk 1 (qs.getD i q0).1 0 [] := by
    rw [getD_right, s1]
  have t2 : (xs ++ solX qs).getD (xs.length + 2 * i + 1) x0 = (qs.getD i q0).2 := by
    rw [Nat.add_assoc, getD_right, s2]
  rw [t1, LdX, if_pos (by rw [hnq]; rfl)] at g1
  rw [t2] at g2
  have hin : ∀ p ∈ tieP (xs ++ solX qs) qs, p.1 < ns.length := fun p hp => by
    have hm : p.1 ∈ qs.map (fun q => ixN ns q.1) := by
      rw [← flatQ_names ns qs, ← e3]
      exact List.mem_map.2 ⟨p, hp, rfl⟩
    obtain ⟨q, hq, e⟩ := List.mem_map.1 hm
    rw [← e]
    have := (okA_q (xs ++ solX qs) qs q hq).1
    rw [hns] at this
    exact ixN_lt this
  have hfix : ∀ y, ns.length ≤ y → tieE (xs ++ solX qs) qs y = y := bind_fix ns.length _ _ hin (fun _ _ => rfl)
  have hpair : tieE (xs ++ solX qs) qs (ixN ns (qs.getD i q0).1) = tieE (xs ++ solX qs) qs z := by
    refine bind_pair (tieP (xs ++ solX qs) qs) id ?_ (fun _ _ => rfl) _ hz1
    rw [e3, flatQ_names]
    exact names_nodup hg.q (fun q hq => by have := (okA_q (xs ++ solX qs) qs q hq).1; rw [hns] at this; exact this)
  have hlen : ns.length ≤ (tieN (xs ++ solX qs) qs).length := by rw [e2]; simp
  have hal := ld_al hG hfix ht.er hlen (qs.getD i q0).2 z zb hokq.2 (hno _ hqm) hz2 g2
  have q1 : (gE (tieN (xs ++ solX qs) qs) (tieR (xs ++ solX qs) qs) (tieE (xs ++ solX qs) qs)).roots.getD (xs.length + 2 * i) 0 = ((tieE (xs ++ solX qs) qs z : Nat) : Int) := by
    rw [← hpair, ← g1]
    exact roots_at (by omega) r1
  have q2 : (gE (tieN (xs ++ solX qs) qs) (tieR (xs ++ solX qs) qs) (tieE (xs ++ solX qs) qs)).roots.getD (xs.length + 2 * i + 1) 0 = ((tieE (xs ++ solX qs) qs zb : Nat) : Int) := roots_at (by omega) r2
  rw [q1, q2]
  exact hal
end Go.Proofs.Ytmfgjemefjcblaa

/- A row of terms as cells: to be put behind a row of one's own. -/
namespace Go.Proofs.Ytmfgjemefjcblaa
open Go.RowKit

/-- Four cells tell a term. -/
def XC (w : World) (x : Ex) (cs : List Value) : Prop := ∃ (k : Int) (n : ByteArray) (m : Int) (aa : Option Addr) (al ac : Nat), cs = [.int .i64 k, .string n, .int .i64 m, .slice aa al ac] ∧ Xv w x (.agg #[.int .i64 k, .string n, .int .i64 m, .slice aa al ac])
theorem XC.next {w w' : World} (hb : Below w.heap.size w w') {x : Ex} {cs : List Value} (h : XC w x cs) : XC w' x cs := by
  obtain ⟨k, n, m, aa, al, ac, e, hx⟩ := h
  exact ⟨k, n, m, aa, al, ac, e, hx.next hb⟩
theorem XC.len {w : World} {x : Ex} {cs : List Value} (h : XC w x cs) : cs.length = 4 := by
  obtain ⟨k, n, m, aa, al, ac, rfl, _⟩ := h
  rfl
/-- A row of one's own that holds such cells tells the terms. -/
theorem own_rxs {w : World} {S g c : Nat} {xs : List Ex} {f : Nat → List Value} (hf : ∀ j, (f j).length = 4) (h : w.ownsRow S 48 4 (.slice (some ⟨g, 0, none⟩) xs.length c) xs.length (flatV f xs.length)) (hx : ∀ j, j < xs.length → XC w (xs.getD j x0) (f j)) : Rxs w (.slice (some ⟨g, 0, none⟩) xs.length c) xs := by
  refine ⟨_, _, rfl, fun j hj => ?_⟩
  obtain ⟨k, n, m, aa, al, ac, e, hv⟩ := hx j hj
  have at' : ∀ t, t < 4 → w.cell? ⟨g, j * 4 + t, none⟩ = (f j)[t]? := fun t ht => by
    rw [h.cellAt _ (by omega)]
    exact flatV_at (z := 4) hf ht xs.length hj
  rw [e] at at'
  have c0 := at' 0 (by omega)
  rw [Nat.add_zero] at c0
  exact ⟨g, 0, k, n, m, aa, al, ac, rfl, by rw [Nat.zero_add]; exact c0, by rw [Nat.zero_add]; exact at' 1 (by omega), by rw [Nat.zero_add]; exact at' 2 (by omega), by rw [Nat.zero_add]; exact at' 3 (by omega), hv⟩
theorem flatV_mem {f : Nat → List Value} {u : Value} : ∀ {n : Nat}, u ∈ flatV f n → ∃ j, j < n ∧ u ∈ f j
  | 0, h => by simp [flatV] at h
  | n + 1, h => by
    rw [flatV_succ] at h
    rcases List.mem_append.1 h with h | h
    · obtain ⟨j, h1, h2⟩ := flatV_mem h
      exact ⟨j, by omega, h2⟩
    · exact ⟨n, by omega, h⟩
/-- The cells of a row of terms. -/
theorem rxs_cells {w : World} {ad : Addr} {c : Nat} {xs : List Ex} (h : Rxs w (.slice (some ad) xs.length c) xs) : ∃ f : Nat → List Value, (∀ j, (f j).length = 4) ∧ (∀ j, j < xs.length → XC w (xs.getD j x0) (f j)) ∧ (∀ t u, (flatV f xs.length)[t]? = some u → w.cell? (ad.add t) = some u) ∧ ∀ u ∈ flatV f xs.length, u.oneCell' = true := by
  obtain ⟨ao, c', e, hat⟩ := h
  injection e with e
  subst e
  have each : ∀ j, ∃ cs : List Value, cs.length = 4 ∧ (j < xs.length → XC w (xs.getD j x0) cs ∧ ∀ t, t < 4 → w.cell? (ad.add (j * 4 + t)) = cs[t]?) := fun j => by
    by_cases hj : j < xs.length
    · obtain ⟨b, o, k, n, m, aa, al, ac, e1, c0, c1, c2, c3, hx⟩ := hat j hj
      injection e1 with e1
      subst e1
      refine ⟨_, rfl, fun _ => ⟨⟨k, n, m, aa, al, ac, rfl, hx⟩, fun t ht => ?_⟩⟩
      have hadd : (⟨b, o, none⟩ : Addr).add (j * 4 + t) = ⟨b, o + j * 4 + t, none⟩ := by
        unfold Addr.add
        split <;> simp_all [Nat.add_assoc]
      rw [hadd]
      have ht' : t = 0 ∨ t = 1 ∨ t = 2 ∨ t = 3 := by omega
      rcases ht' with rfl | rfl | rfl | rfl
      · exact c0
      · exact c1
      · exact c2
      · exact c3
    · exact ⟨[.nilIface, .nilIface, .nilIface, .nilIface], rfl, fun h => absurd h hj⟩
  obtain ⟨f, hf⟩ : ∃ f : Nat → List Value, ∀ j, (f j).length = 4 ∧ (j < xs.length → XC w (xs.getD j x0) (f j) ∧ ∀ t, t < 4 → w.cell? (ad.add (j * 4 + t)) = (f j)[t]?) := ⟨fun j => Classical.choose (each j), fun j => Classical.choose_spec (each j)⟩
  have hl := flatV_len (f := f) (z := 4) (fun j => (hf j).1) xs.length
  refine ⟨f, fun j => (hf j).1, fun j hj => ((hf j).2 hj).1, fun t u ht => ?_, fun u hu => ?_⟩
  · have hlt : t < xs.length * 4 := by
      rw [← hl]
      exact (List.getElem?_eq_some_iff.1 ht).1
    have hd : t / 4 * 4 + t % 4 = t := by omega
    have hj : t / 4 < xs.length := by omega
    have h1 := ((hf (t / 4)).2 hj).2 (t % 4) (by omega)
    rw [hd] at h1
    rw [h1, ← flatV_at (z := 4) (fun j => (hf j).1) (by omega) xs.length hj, hd]
    exact ht
  · obtain ⟨j, hj, hm⟩ := flatV_mem hu
    obtain ⟨k, n, m, aa, al, ac, e, _⟩ := ((hf j).2 hj).1
    rw [e] at hm
    simp at hm
    rcases hm with rfl | rfl | rfl | rfl <;> rfl
end Go.Proofs.Ytmfgjemefjcblaa

/- What the walk of TieSolves wants. -/
namespace Go.Proofs.Ytmfgjemefjcblaa
open Go.RowKit Go.Maps

/-- The cells of the terms and of both sides of each equation. -/
theorem sol_cells {W : World} {l0 : List Ex} {l1 : List (ByteArray × Ex)} {qo : Option Addr} {qc : Nat} (hQ : Rqs W (.slice qo l1.length qc) l1) {f : Nat → List Value} (hf4 : ∀ j, (f j).length = 4) (hfX : ∀ j, j < l0.length → XC W (l0.getD j x0) (f j)) :
    ∃ F : Nat → List Value, (∀ j, (F j).length = 4) ∧ (∀ j, j < l0.length → F j = f j) ∧ (∀ j, j < (l0 ++ solX l1).length → XC W ((l0 ++ solX l1).getD j x0) (F j)) ∧ ∀ i, i < l1.length → F (l0.length + 2 * i) = [.int .i64 1, .string (l1.getD i q0).1, .int .i64 0, .slice none 0 0] ∧ ∃ b o k n m aa al ac, qo = some ⟨b, o, none⟩ ∧ F (l0.length + 2 * i + 1) = [.int .i64 k, .string n, .int .i64 m, .slice aa al ac] ∧ W.cell? ⟨b, o + i * 5, none⟩ = some (.string (l1.getD i q0).1) ∧ W.cell? ⟨b, o + i * 5 + 1, none⟩ = some (.int .i64 k) ∧ W.cell? ⟨b, o + i * 5 + 2, none⟩ = some (.string n) ∧ W.cell? ⟨b, o + i * 5 + 3, none⟩ = some (.int .i64 m) ∧ W.cell? ⟨b, o + i * 5 + 4, none⟩ = some (.slice aa al ac) := by
  obtain ⟨ao, c', e, hat⟩ := hQ
  injection e with e
  subst e
  have each : ∀ i, ∃ cs : List Value, cs.length = 4 ∧ (i < l1.length → XC W (l1.getD i q0).2 cs ∧ ∃ b o k n m aa al ac, qo = some ⟨b, o, none⟩ ∧ cs = [.int .i64 k, .string n, .int .i64 m, .slice aa al ac] ∧ W.cell? ⟨b, o + i * 5, none⟩ = some (.string (l1.getD i q0).1) ∧ W.cell? ⟨b, o + i * 5 + 1, none⟩ = some (.int .i64 k) ∧ W.cell? ⟨b, o + i * 5 + 2, none⟩ = some (.string n) ∧ W.cell? ⟨b, o + i * 5 + 3, none⟩ = some (.int .i64 m) ∧ W.cell? ⟨b, o + i * 5 + 4, none⟩ = some (.slice aa al ac)) := fun i => by
    by_cases hi : i < l1.length
    · obtain ⟨b, o, k, n, m, aa, al, ac, e1, c0, c1, c2, c3, c4, hx⟩ := hat i hi
      exact ⟨_, rfl, fun _ => ⟨⟨k, n, m, aa, al, ac, rfl, hx⟩, b, o, k, n, m, aa, al, ac, e1, rfl, c0, c1, c2, c3, c4⟩⟩
    · exact ⟨[.nilIface, .nilIface, .nilIface, .nilIface], rfl, fun h => absurd h hi⟩
  obtain ⟨h, hh⟩ : ∃ h : Nat → List Value, ∀ i, (h i).length = 4 ∧ (i < l1.length → XC W (l1.getD i q0).2 (h i) ∧ ∃ b o k n m aa al ac, qo = some ⟨b, o, none⟩ ∧ h i = [.int .i64 k, .string n, .int .i64 m, .slice aa al ac] ∧ W.cell? ⟨b, o + i * 5, none⟩ = some (.string (l1.getD i q0).1) ∧ W.cell? ⟨b, o + i * 5 + 1, none⟩ = some (.int .i64 k) ∧ W.cell? ⟨b, o + i * 5 + 2, none⟩ = some (.string n) ∧ W.cell? ⟨b, o + i * 5 + 3, none⟩ = some (.int .i64 m) ∧ W.cell? ⟨b, o + i * 5 + 4, none⟩ = some (.slice aa al ac)) := ⟨fun i => Classical.choose (each i), fun i => Classical.choose_spec (each i)⟩
  have hF1 : ∀ i, (if l0.length + 2 * i < l0.length then f (l0.length + 2 * i) else if (l0.length + 2 * i - l0.length) % 2 = 0 then [Value.int .i64 1, .string (l1.getD ((l0.length + 2 * i - l0.length) / 2) q0).1, .int .i64 0, .slice none 0 0] else h ((l0.length + 2 * i - l0.length) / 2)) = [.int .i64 1, .string (l1.getD i q0).1, .int .i64 0, .slice none 0 0] := fun i => by
    rw [if_neg (by omega), if_pos (by omega), show (l0.length + 2 * i - l0.length) / 2 = i by omega]
  have hF2 : ∀ i, (if l0.length + 2 * i + 1 < l0.length then f (l0.length + 2 * i + 1) else if (l0.length + 2 * i + 1 - l0.length) % 2 = 0 then [Value.int .i64 1, .string (l1.getD ((l0.length + 2 * i + 1 - l0.length) / 2) q0).1, .int .i64 0, .slice none 0 0] else h ((l0.length + 2 * i + 1 - l0.length) / 2)) = h i := fun i => by
    rw [if_neg (by omega), if_neg (by omega), show (l0.length + 2 * i + 1 - l0.length) / 2 = i by omega]
  refine ⟨fun j => if j < l0.length then f j else if (j - l0.length) % 2 = 0 then [.int .i64 1, .string (l1.getD ((j - l0.length) / 2) q0).1, .int .i64 0, .slice none 0 0] else h ((j - l0.length) / 2), fun j => ?_, fun j hj => if_pos hj, fun j hj => ?_, fun i hi => ⟨hF1 i, ?_⟩⟩
  · show List.length (if _ then _ else _) = 4
    split
    · exact hf4 j
    · split
      · rfl
      · exact (hh _).1
  · rw [List.length_append, solX_len] at hj
    by_cases h1 : j < l0.length
    · show XC W _ (if _ then _ else _)
      rw [if_pos h1]
      have e : (l0 ++ solX l1).getD j x0 = l0.getD j x0 := by rw [List.getD, List.getD, List.getElem?_append_left h1]
      rw [e]
      exact hfX j h1
    · obtain ⟨i, hi⟩ : ∃ i, j = l0.length + 2 * i ∨ j = l0.length + 2 * i + 1 := ⟨(j - l0.length) / 2, by omega⟩
      rcases hi with rfl | rfl
      · show XC W _ (if _ then _ else _)
        rw [hF1 i, getD_right, (solX_at l1 i (by omega)).1]
        exact ⟨1, _, 0, none, 0, 0, rfl, Xv.of (Rxs.nil W)⟩
      · show XC W _ (if _ then _ else _)
        rw [hF2 i, Nat.add_assoc, getD_right, (solX_at l1 i (by omega)).2]
        exact ((hh i).2 (by omega)).1
  · obtain ⟨_, b, o, k, n, m, aa, al, ac, e1, e2, rest⟩ := (hh i).2 hi
    exact ⟨b, o, k, n, m, aa, al, ac, e1, (hF2 i).trans e2, rest⟩
theorem solX_sz : ∀ {qs : List (ByteArray × Ex)}, (∀ q ∈ qs, q.1.size ≤ 281474976710656 ∧ szX q.2) → szXs (solX qs)
  | [], _ => trivial
  | q :: r, h => ⟨⟨(h q (by simp)).1, trivial⟩, (h q (by simp)).2, solX_sz (fun q hq => h q (by simp [hq]))⟩
theorem szXs_cat : ∀ {xs ys : List Ex}, szXs xs → szXs ys → szXs (xs ++ ys)
  | [], _, _, h => h
  | _ :: _, _, h1, h2 => ⟨h1.1, szXs_cat h1.2 h2⟩
theorem sol_cell {W w3 : World} {o : Obj} (hb : Below W.heap.size W (w3.alloc o)) {p : Addr} {u : Value} (h : W.cell? p = some u) : ((w3.alloc o).alloc (.cells #[] 48)).cell? p = some u := by
  have hbb := Below.next hb (below_alloc _ (.cells #[] 48))
  obtain ⟨b, o', sp⟩ := p
  have e : sp = none := by simpa using World.cell?_spot h
  subst e
  rw [hbb.cell (p := ⟨b, o', none⟩) (lt_of_cell h)]
  exact h
/-- The two roots of an equation are one number in the least graph. -/
theorem sol_roots {l0 : List Ex} {l1 : List (ByteArray × Ex)} (hc : (tieC (l0 ++ solX l1) l1).1 = 0) (hno : ∀ q ∈ l1, hasX [95] q.2 = false) {e : Nat → Nat → Bool} (hd : ∀ x y : Nat, (e x y = true ↔ Al (tieG (l0 ++ solX l1) l1) (x : Int) (y : Int))) : (trimF (quoF e (tieG (l0 ++ solX l1) l1))).roots.length = l0.length + 2 * l1.length ∧ ∀ i, i < l1.length → (trimF (quoF e (tieG (l0 ++ solX l1) l1))).roots[l0.length + 2 * i]? = (trimF (quoF e (tieG (l0 ++ solX l1) l1))).roots[l0.length + 2 * i + 1]? := by
  have hk : (chkT (l0 ++ solX l1) l1).1 = 0 := Classical.byContradiction fun h => by
    unfold tieC at hc
    rw [if_pos h] at hc
    exact h hc
  have hb : (namA (l0 ++ solX l1) l1).length + othA (l0 ++ solX l1) l1 ≤ 4096 := Classical.byContradiction fun h => by
    unfold tieC at hc
    rw [if_neg (by simpa using hk), if_pos (by omega)] at hc
    cases hc
  have hg := chkT_good hk
  have hG := tie_goodG hg hb
  have ht := tie_good hg
  have hl : (tieG (l0 ++ solX l1) l1).roots.length = l0.length + 2 * l1.length := by
    unfold tieG gE
    rw [List.length_map, ht.rl, List.length_append, solX_len]
  refine ⟨by simp [trimF, quoF, hl], fun i hi => ?_⟩
  have ha := sol_al hg hb hno hi
  obtain ⟨h1, h2, _, _⟩ := al_sim _ _ _ ha
  have h3 := (cls_al hG hd h1 h2).2 ha
  have a1 : l0.length + 2 * i < (tieG (l0 ++ solX l1) l1).roots.length := by omega
  have a2 : l0.length + 2 * i + 1 < (tieG (l0 ++ solX l1) l1).roots.length := by omega
  rw [List.getD, List.getD, List.getElem?_eq_getElem a1, List.getElem?_eq_getElem a2, Option.getD_some, Option.getD_some] at h3
  unfold trimF quoF
  simp only [List.getElem?_map, List.getElem?_eq_getElem a1, List.getElem?_eq_getElem a2, Option.map_some, h3]
theorem sol_grown {W w3 w5 : World} {o : Obj} (hs : W.heap.size ≤ w3.heap.size) (hb : Below W.heap.size W (w3.alloc o)) (hg : ((w3.alloc o).alloc (.cells #[] 48)).grownBy w5 (Value.slice (some ⟨w3.heap.size + 1, 0, none⟩) 0 0).ownBlock) : Below W.heap.size W w5 :=
  (hb.alloc (by simp; omega) _).grown hg (by simp; omega) (fun q hq => by
    have e : w3.heap.size + 1 = q := by simpa [Value.ownBlock] using hq
    omega)
theorem own_empty9 (w : World) (o : Obj) (T : TypeId) (z B : Nat) (hB : B ≤ w.heap.size) : ((w.alloc o).alloc (.cells #[] T)).ownsRow B T z (.slice (some ⟨w.heap.size + 1, 0, none⟩) 0 0) 0 [] := by
  have h := own_empty8 (w.alloc o) T z B (by simp; omega)
  rw [show (w.alloc o).heap.size = w.heap.size + 1 by simp] at h
  exact h
theorem prt_q_mem : ∀ (qs : List (ByteArray × Ex)) (q : ByteArray × Ex), q ∈ qs → prtX q.2 ≤ prtQ qs
  | y :: t, q, h => by
    rw [prtQ]
    rcases List.mem_cons.1 h with rfl | h
    · omega
    · have := prt_q_mem t q h
      omega
/-- Two roots that are one number, as they lie in memory. -/
theorem sol_rt {w : World} {B : Nat} {p0 : Option Addr} {p9 k : Nat} {R : List Int} (h : w.ownsRow B 3 1 (.slice p0 R.length p9) R.length (R.map (Value.int .i64))) (hk : k + 1 < R.length) (he : R[k]? = R[k + 1]?) : ∃ rb y, p0 = some ⟨rb, 0, none⟩ ∧ rb < w.heap.size ∧ w.cell? ⟨rb, k, none⟩ = some (.int .i64 y) ∧ w.cell? ⟨rb, k + 1, none⟩ = some (.int .i64 y) := by
  have h0 := h
  rcases h.2 with ⟨_, h9⟩ | ⟨rb, c, cur, e, _⟩
  · omega
  · have e1 : p0 = some ⟨rb, 0, none⟩ := by injection e
    subst e1
    have e2 : p9 = c := by injection e
    have c1 := h0.cellAt k (by omega)
    have c2 := h0.cellAt (k + 1) (by omega)
    rw [List.getElem?_map] at c1 c2
    rw [← he] at c2
    rw [List.getElem?_eq_getElem (by omega)] at c1 c2
    exact ⟨rb, R[k], rfl, (h0.lt rb rfl).2, c1, c2⟩
end Go.Proofs.Ytmfgjemefjcblaa

/- TieSolves, with terms. -/
namespace Go.Proofs.Ytmfgjemefjcblaa
open Go.RowKit Go.Maps

set_option maxRecDepth 100000 in
set_option maxHeartbeats 8000000 in
theorem tieSolves_some (v0 : Value) (l0 : List Ex) {W : World} (hX0 : Rxs W v0 l0) (hZ0 : szXs l0) (z0 : l0.length ≤ 281474976710656) (hne : 0 < l0.length) (v1 : Value) (l1 : List (ByteArray × Ex)) (hX1 : Rqs W v1 l1) (hZ1 : ∀ q ∈ l1, q.1.size ≤ 281474976710656 ∧ szX q.2) (z1 : l1.length ≤ 281474976710656) :
    Calls Try.prog 4 #[v0, v1] W fun e w' => e = .returned (.bool true) ∧ Below W.heap.size W w' := by
  obtain ⟨i4, hi4, hw0, hw1, hw2⟩ := info_parts infoX
  have HX := hid hX0
  have HQ := hid hX1
  have HZX := hid hZ0
  have HZQ := hid hZ1
  obtain ⟨xo, xc, rfl, hXa0⟩ := hX0
  obtain ⟨qo, qc, rfl, hQa0⟩ := hX1
  have hXa := hid hXa0
  have hQa := hid hQa0
  have hla := hid (fun (w : World) (hb : Below W.heap.size W w) => tlarge_any (HX.out.next hb) (HQ.out.next hb) hZ0 hZ1 z0 z1)
  clear hXa0 hQa0 hZ0 hZ1
  cases hL : largeT l0 l1 with
  | true =>
    rw [hL] at hla
    clear hL
    go_enter Try.func4, Try.ntmps4
    go_wp2_with (first
      | (go_at_call 9; go_must (refine (hla.out _ hb1).mono ?_; clear hla; rintro e2 w2 ⟨rfl, hb2⟩; have hB := Below.next hb1 hb2; clear hb1 hb2))
      | (go_at_call 8; go_must (refine (tlives_any _).mono ?_; rintro e1 w1 ⟨rfl, hb1⟩)))
    go_ret
    exact ⟨rfl, Below.next hB hb1⟩
  | false =>
    obtain ⟨s1, s2, s3⟩ := large_small hL
    rw [hL] at hla
    clear hL
    go_enter Try.func4, Try.ntmps4
    go_wp2_with (first
      | (go_at_call 9; go_must (refine (hla.out _ hb1).mono ?_; clear hla; rintro e2 w2 ⟨rfl, hb2⟩; have hB := hid (Below.next hb1 hb2); clear hb1 hb2))
      | (go_at_call 8; go_must (refine (tlives_any _).mono ?_; rintro e1 w1 ⟨rfl, hb1⟩)))
    have hpl := hid (prt_q_mem l1)
    go_loopw [29] (fun i wr => ∃ (j : Nat), j ≤ l1.length ∧ i = .int .i64 (j : Int) ∧ Hid (∀ i, i < j → hasX [95] (l1.getD i q0).2 = false) ∧ Hid (Below W.heap.size W wr)) (fun i _ => l1.length - (intOf i).toNat)
    case atStart => exact ⟨0, by omega, rfl, fun i hi => absurd hi (Nat.not_lt_zero _), hB⟩
    case round =>
      clear hB
      obtain ⟨j, hj, rfl, hno, hB⟩ := hrel
      by_cases hlt : j < l1.length
      · obtain ⟨b, o, k', n', m', aa, al, ac, rfl, d0, d1, d2, d3, d4, hx⟩ := hQa.out j hlt
        have hbr := hB.out
        have hz := lt_of_cell d0
        have c0 := ((bcell hbr).1 b _ hz).trans d0
        have c1 := ((bcell hbr).1 b _ hz).trans d1
        have c2 := ((bcell hbr).1 b _ hz).trans d2
        have c3 := ((bcell hbr).1 b _ hz).trans d3
        have c4 := ((bcell hbr).1 b _ hz).trans d4
        have hzr : b < wr.heap.size := Nat.lt_of_lt_of_le hz hbr.size
        have hb2 := below_alloc wr (.cells #[.string (l1.getD j q0).1, .int .i64 k', .string n', .int .i64 m', .slice aa al ac] 50)
        have hbn := hid (Below.next hbr hb2)
        have hcall := nameless_any _ _ _ ((hx.next hbr).next hb2) (by have := hpl.out _ (show l1.getD j q0 ∈ l1 by simp [List.getD, hlt]); omega)
        cases hy : hasX [95] (l1.getD j q0).2 with
        | true =>
          rw [hy] at hcall
          clear hx d0 d1 d2 d3 d4 hz hB hb2 hbr hy hno
          generalize (l1.getD j q0).1 = qn at *
          go_wp2_with (go_at_call 16; refine hcall.mono ?_; rintro e w3 ⟨rfl, hb3⟩)
          go_ret
          exact ⟨rfl, Below.next hbn.out hb3⟩
        | false =>
          have hno2 : Hid (∀ i, i < j + 1 → hasX [95] (l1.getD i q0).2 = false) := fun i hi => by
            by_cases e : i < j
            · exact hno.out i e
            · obtain rfl : i = j := by omega
              exact hy
          rw [hy] at hcall
          clear hx d0 d1 d2 d3 d4 hz hB hb2 hbr hy hno
          generalize (l1.getD j q0).1 = qn at *
          go_wp2_with (go_at_call 16; refine hcall.mono ?_; rintro e w3 ⟨rfl, hb3⟩)
          go_roundw
          case rel => exact ⟨j + 1, by omega, by go_num, hno2, Below.next hbn.out hb3⟩
          case measure => simp [intOf]; omega
      · obtain rfl : j = l1.length := by omega
        have hp : prtXs l0 + prtQ l1 ≤ 30000 := by omega
        by_cases hc : (tieC l0 l1).1 = 0
        · obtain ⟨ee, hd⟩ := al_dec (tieG l0 l1)
          have hc0 : Hid ((chkT l0 l1).1 = 0) := show _ = _ from Classical.byContradiction fun h => by
            unfold tieC at hc
            rw [if_pos h] at hc
            exact h hc
          have ht := tie_ok (HX.out.next hB.out) (HQ.out.next hB.out) HZX.out HZQ.out hp hc ee hd
          clear hd
          obtain ⟨xb, xd, _, _, _, _, _, _, rfl, _⟩ := hXa.out 0 hne
          obtain ⟨f, f4, fX, fN, fO⟩ := rxs_cells HX.out
          obtain ⟨F, hF4, hFf, hFX, hFq0⟩ := sol_cells HQ.out f4 fX
          have hfe : flatV f l0.length = flatV F l0.length := flatV_congr _ (fun j hj => (hFf j hj).symm)
          rw [hfe] at fN fO
          have hFL := flatV_len hF4 l0.length
          have hFq := hid hFq0
          have hF := hid (show (∀ j, (F j).length = 4) ∧ ∀ j, j < (l0 ++ solX l1).length → XC W ((l0 ++ solX l1).getD j x0) (F j) from ⟨hF4, hFX⟩)
          have FN := hid fN
          have FO := hid fO
          clear hFq0 hF4 hFf hFX hfe f4 fX fN fO
          go_wp2_with (first
            | (go_at_call 10; go_must (refine ht.mono ?_; clear ht; rintro r w3 ⟨⟨nv, rv, avs, mv, rfl, hO, _⟩, hb3⟩; obtain ⟨n0, n9, rfl⟩ := hO.nsl; obtain ⟨r0, r9, rfl, _⟩ := hO.r; have hbg := hid (fun o => Below.next (Below.next hB.out hb3) (below_alloc w3 o)); have hsg := (Below.next hB.out hb3).size; have hcl := hid (fun (o : Obj) (t : Nat) (u : Value) (ht : (flatV F l0.length)[t]? = some u) => sol_cell (hbg.out o) (FN.out t u ht)); have hgr := hid (fun (o : Obj) (w5 : World) (hg : ((w3.alloc o).alloc (.cells #[] 48)).grownBy w5 (Value.slice (some ⟨w3.heap.size + 1, 0, none⟩) 0 0).ownBlock) => sol_grown hsg (hbg.out o) hg); clear hO hB))
            | (at_builtin; go_must (refine wpList_append_lies _ rfl _ _ 22 rfl W.heap.size 48 i4 (.agg #[.int .i64 0, .string ⟨#[]⟩, .int .i64 0, .slice none 0 0]) 4 56 Try.underlying22 hi4 hw0 hw1 hw2 rfl (by decide) _ 0 [] rfl (own_empty9 w3 _ _ 4 _ hsg) ⟨xb, xd, none⟩ l0.length xc (flatV F l0.length) rfl hFL (hcl.out _) FO.out hne (by unfold maxLen; omega) (by omega) (by simp; omega) _ rfl ?_; intro g4 c4 w5 hown4' hg4 hat4 hlt4; simp only [Nat.zero_add, List.nil_append] at hown4' ⊢; have hown4 := hid hown4'; have hB5 := hid (hgr.out _ w5 hg4))))
          clear hown4' FN FO hFL
          go_wp2
          go_loopw [10, 51] (fun x i wr => ∃ (i' g c n : Nat), i' ≤ l1.length ∧ i = .int .i64 (i' : Int) ∧ x = .slice (some ⟨g, 0, none⟩) n c ∧ Hid (n = l0.length + 2 * i') ∧ Hid (wr.ownsRow W.heap.size 48 4 (.slice (some ⟨g, 0, none⟩) n c) n (flatV F n)) ∧ Hid (Below W.heap.size W wr)) (fun _ i _ => l1.length - (intOf i).toNat)
          case atStart => exact ⟨0, _, _, _, by omega, rfl, rfl, (show _ = _ by omega), hown4, hB5⟩
          case round =>
            clear hown4 hB5
            obtain ⟨i', g, c, n, hi, rfl, rfl, hn, hO, hB⟩ := hrel
            by_cases hlt : i' < l1.length
            · obtain ⟨e1, b, o, k', n', m', aa, al, ac, rfl, e2, d0, d1, d2, d3, d4⟩ := hFq.out i' hlt
              have hbr := hB.out
              have hz := lt_of_cell d0
              have c0 := ((bcell hbr).1 b _ hz).trans d0
              have c1 := ((bcell hbr).1 b _ hz).trans d1
              have c2 := ((bcell hbr).1 b _ hz).trans d2
              have c3 := ((bcell hbr).1 b _ hz).trans d3
              have c4' := ((bcell hbr).1 b _ hz).trans d4
              have hzr : b < wr.heap.size := Nat.lt_of_lt_of_le hz hbr.size
              have hst : flatV F (n + 2) = flatV F n ++ [.int .i64 1, .string (l1.getD i' q0).1, .int .i64 0, .slice none 0 0, .int .i64 k', .string n', .int .i64 m', .slice aa al ac] := by
                rw [flatV_succ, flatV_succ, hn.out, e1, e2, List.append_assoc]
                rfl
              have hnb : n ≤ 300 := by have := hn.out; omega
              have hn2 : Hid (n + 2 = l0.length + 2 * (i' + 1)) := show _ = _ by have := hn.out; omega
              clear d0 d1 d2 d3 d4 e1 e2 hz hn
              generalize (l1.getD i' q0).1 = qn at *
              have HST := hid hst
              have hbx := heap_alloc_new wr (.cells #[.string qn, .int .i64 k', .string n', .int .i64 m', .slice aa al ac] 50)
              have hro := World.ownsRow.alloc hO.out (.cells #[.string qn, .int .i64 k', .string n', .int .i64 m', .slice aa al ac] 50)
              have hbn := Below.next hbr (below_alloc wr (.cells #[.string qn, .int .i64 k', .string n', .int .i64 m', .slice aa al ac] 50))
              have hnx : Hid (∀ w6, Below (wr.alloc (.cells #[.string qn, .int .i64 k', .string n', .int .i64 m', .slice aa al ac] 50)).drew.heap.size (wr.alloc (.cells #[.string qn, .int .i64 k', .string n', .int .i64 m', .slice aa al ac] 50)).drew w6 → (w6.cell? ⟨wr.heap.size, 0, none⟩ = some (.string qn) ∧ w6.cell? ⟨wr.heap.size, 1, none⟩ = some (.int .i64 k') ∧ w6.cell? ⟨wr.heap.size, 2, none⟩ = some (.string n') ∧ w6.cell? ⟨wr.heap.size, 3, none⟩ = some (.int .i64 m') ∧ w6.cell? ⟨wr.heap.size, 4, none⟩ = some (.slice aa al ac)) ∧ wr.heap.size < w6.heap.size ∧ (w6.alloc (.cells #[.int .i64 1, .string qn, .int .i64 0, .slice none 0 0, .int .i64 k', .string n', .int .i64 m', .slice aa al ac] 48)).ownsRow W.heap.size 48 4 (.slice (some ⟨g, 0, none⟩) n c) n (flatV F n) ∧ W.heap.size ≤ w6.heap.size ∧ ∀ w7 g7 c7, w7.ownsRow W.heap.size 48 4 (.slice (some ⟨g7, 0, none⟩) (n + 2) c7) (n + 2) (flatV F n ++ [.int .i64 1, .string qn, .int .i64 0, .slice none 0 0, .int .i64 k', .string n', .int .i64 m', .slice aa al ac]) → (w6.alloc (.cells #[.int .i64 1, .string qn, .int .i64 0, .slice none 0 0, .int .i64 k', .string n', .int .i64 m', .slice aa al ac] 48)).grownBy w7 (Value.slice (some ⟨g, 0, none⟩) n c).ownBlock → Hid (w7.ownsRow W.heap.size 48 4 (.slice (some ⟨g7, 0, none⟩) (n + 2) c7) (n + 2) (flatV F (n + 2))) ∧ Hid (Below W.heap.size W w7)) := fun w6 hb6 => by
                have hb7 := Below.next hbn.drew hb6
                have hs7 := hb7.size
                have hx6 := (hb6.block wr.heap.size (show wr.heap.size < (wr.alloc (.cells #[.string qn, .int .i64 k', .string n', .int .i64 m', .slice aa al ac] 50)).heap.size by simp)).trans hbx
                have hr6 := row_keep hro (fun q hq => hb6.block q (hro.lt q hq).2)
                refine ⟨(tblk5 hx6).1, lt_of_block hx6, World.ownsRow.alloc hr6 _, hs7, fun w7 g7 c7 hown hg => ⟨?_, ?_⟩⟩
                · show World.ownsRow _ _ _ _ _ _ _
                  rw [HST.out]
                  exact hown
                · exact (hb7.alloc hs7 _).grown hg (by simp; omega) (fun q hq => (hr6.lt q hq).1)
              obtain ⟨t0, t1, t2, t3, t4⟩ := (tblk5 hbx).1
              clear hst hO hB hbr hro hbn hbx
              go_wp2
              go_region_law
                (first
                  | (go_simp; go_at_call 17; refine (v_any qn _).mono ?_; rintro e w6 ⟨rfl, hb6⟩; obtain ⟨⟨u0, u1, u2, u3, u4⟩, u5, u6, u8, u7⟩ := hnx.out w6 hb6)
                  | (refine step_append_lies _ (by rfl) _ _ _ (by rfl) W.heap.size 48 i4 (.agg #[.int .i64 0, .string ⟨#[]⟩, .int .i64 0, .slice none 0 0]) 4 56 Try.underlying22 hi4 hw0 hw1 hw2 rfl (by omega) _ n (flatV F n) (by rfl) u6 ⟨w6.heap.size, 0, none⟩ 2 2 [.int .i64 1, .string qn, .int .i64 0, .slice none 0 0, .int .i64 k', .string n', .int .i64 m', .slice aa al ac] (by rfl) (by rfl) (World.news_of_block (cs := #[.int .i64 1, .string qn, .int .i64 0, .slice none 0 0, .int .i64 k', .string n', .int .i64 m', .slice aa al ac]) (t := 48) (fr := (0, 0)) (heap_alloc_new w6 _)) (by simp [Value.oneCell']) (by omega) (by unfold maxLen; omega) (by omega) (by simp; omega) (w6.heap.size + 1) (by simp) ?_; intro g7 c7 w7 hown7 hg7 hat7 hlt7; obtain ⟨r7, b7⟩ := u7 w7 g7 c7 hown7 hg7))
              all_goals go_wp2
              all_goals
                go_roundw
                case rel => exact ⟨i' + 1, g7, c7, n + 2, by omega, by go_num, rfl, hn2, r7, b7⟩
                case measure => simp [intOf]; omega
            · obtain rfl : i' = l1.length := by omega
              have hn' : n = (l0 ++ solX l1).length := by
                have := hn.out
                rw [List.length_append, solX_len]
                omega
              have hck := sol_chk hc0.out (by omega) (by omega) (by omega)
              obtain ⟨e2, hd2⟩ := al_dec (tieG (l0 ++ solX l1) l1)
              have hsr := sol_roots hck (fun q hq => by
                obtain ⟨i, hi, rfl⟩ := List.getElem_of_mem hq
                have := hno.out i hi
                simpa [List.getD, hi] using this) hd2
              have hpp : prtXs (l0 ++ solX l1) + prtQ l1 ≤ 30000 := by rw [prtXs_cat, prt_sol]; omega
              have hzz := szXs_cat HZX.out (solX_sz HZQ.out)
              have hFF := hF.out
              clear hF
              generalize l0 ++ solX l1 = xs' at *
              subst hn'
              have ht2 := tie_ok (own_rxs hFF.1 hO.out (fun j hj => (hFF.2 j hj).next hB.out)) (HQ.out.next hB.out) hzz HZQ.out hpp hck e2 hd2
              generalize trimF (quoF e2 (tieG xs' l1)) = T at hsr ht2
              have hB' := hid hB.out
              have HSR := hid hsr
              clear hd2 hck hO hB hn hsr hpp hzz hFF
              go_wp2_with (go_at_call 10; go_must (refine ht2.mono ?_; clear ht2; rintro r w8 ⟨⟨nv, rv, avs, mv2, rfl, hO, _⟩, hb8⟩; obtain ⟨m0, m9, rfl⟩ := hO.nsl; obtain ⟨p0, p9, rfl, hpr⟩ := hO.r; have hb9 := hid (Below.next hB'.out hb8); have hpr' := hid hpr; clear hO hpr hB'))
              go_loopw [99] (fun i wr => ∃ j : Nat, j ≤ l1.length ∧ i = .int .i64 (j : Int) ∧ Hid (Below (w8.alloc (.cells #[.slice m0 T.nodes.length m9, .slice p0 T.roots.length p9] 29)).heap.size (w8.alloc (.cells #[.slice m0 T.nodes.length m9, .slice p0 T.roots.length p9] 29)) wr)) (fun i _ => l1.length - (intOf i).toNat)
              case atStart => exact ⟨0, by omega, rfl, Below.refl _ _⟩
              case round =>
                obtain ⟨j, hj, rfl, hbw⟩ := hrel
                by_cases hlt : j < l1.length
                · obtain ⟨hRl, hRe⟩ := HSR.out
                  obtain ⟨rb, y, rfl, hl8, r1, r2⟩ := sol_rt hpr'.out (k := l0.length + 2 * j) (by omega) (hRe j hlt)
                  have hbb := Below.next (below_alloc w8 (.cells #[.slice m0 T.nodes.length m9, .slice (some ⟨rb, 0, none⟩) T.roots.length p9] 29)) hbw.out
                  have q1 := ((bcell hbb).1 rb _ hl8).trans r1
                  have q2 := ((bcell hbb).1 rb _ hl8).trans r2
                  have hgx := (hbw.out.block w8.heap.size (by simp)).trans (heap_alloc_new w8 _)
                  have hg1 : wr.cell? ⟨w8.heap.size, 1, none⟩ = some (.slice (some ⟨rb, 0, none⟩) T.roots.length p9) := by simp [World.cell?, hgx]
                  have hg2 := lt_of_block hgx
                  have hrl : rb < wr.heap.size := Nat.lt_of_lt_of_le hl8 hbb.size
                  obtain ⟨kk, hkk⟩ : ∃ kk : Nat, l0.length + 2 * j = kk := ⟨_, rfl⟩
                  have hki : (l0.length : Int) + 2 * (j : Int) = (kk : Int) := by omega
                  have hkR : kk + 1 < T.roots.length := by omega
                  have hkb : kk ≤ 1000 := by omega
                  rw [hkk] at q1 q2
                  generalize T.roots.length = RL at *
                  have hkd : decide ((RL : Int) ≤ (kk : Int) + 1) = false := decide_eq_false (by omega)
                  have hkn : ¬ (RL : Int) ≤ (kk : Int) + 1 := by omega
                  clear r1 r2 hRl hRe hkk hgx hl8 hbb
                  go_wp2
                  go_quiet (fail)
                  go_wp2
                  go_roundw
                  case rel => exact ⟨j + 1, by omega, by go_num, below_drewN hbw.out _⟩
                  case measure => simp [intOf]; omega
                · go_wp2
                  go_ret
                  exact ⟨rfl, Below.next (Below.next hb9.out (below_alloc w8 _)) hbw.out⟩
        · have ht := tie_bad (HX.out.next hB.out) (HQ.out.next hB.out) HZX.out HZQ.out (by omega) hc
          go_wp2_with (go_at_call 10; go_must (refine ht.mono ?_; clear ht; rintro r w3 ⟨⟨ev, rfl, hE⟩, hb3⟩; obtain ⟨eb, rfl, _⟩ := hE; have hbf := hid (Below.next (Below.next hB.out hb3) (below_alloc w3 (.cells #[.slice none 0 0, .slice none 0 0] 29)))))
          go_ret
          exact ⟨rfl, hbf.out⟩
end Go.Proofs.Ytmfgjemefjcblaa

/- TieSolves, without terms. -/
namespace Go.Proofs.Ytmfgjemefjcblaa
open Go.RowKit Go.Maps

theorem sol_chk0 {l1 : List (ByteArray × Ex)} (h : (chkT [] l1).1 = 0) (h1 : l1.length ≤ 1000) (h2 : prtQ l1 ≤ 1000) : (tieC (solX l1) l1).1 = 0 := by
  have := sol_chk (xs := []) (qs := l1) h (by simp) h1 (by simp [prtXs]; omega)
  simpa using this
theorem sol_roots0 {l1 : List (ByteArray × Ex)} (hc : (tieC (solX l1) l1).1 = 0) (hno : ∀ q ∈ l1, hasX [95] q.2 = false) {e : Nat → Nat → Bool} (hd : ∀ x y : Nat, (e x y = true ↔ Al (tieG (solX l1) l1) (x : Int) (y : Int))) : (trimF (quoF e (tieG (solX l1) l1))).roots.length = 2 * l1.length ∧ ∀ i, i < l1.length → (trimF (quoF e (tieG (solX l1) l1))).roots[2 * i]? = (trimF (quoF e (tieG (solX l1) l1))).roots[2 * i + 1]? := by
  have := sol_roots (l0 := []) (l1 := l1) (e := e) (by simpa using hc) hno (by simpa using hd)
  simpa using this
set_option maxRecDepth 100000 in
set_option maxHeartbeats 8000000 in
theorem tieSolves_nil (xc : Nat) {W : World} (v1 : Value) (l1 : List (ByteArray × Ex)) (hX1 : Rqs W v1 l1) (hZ1 : ∀ q ∈ l1, q.1.size ≤ 281474976710656 ∧ szX q.2) (z1 : l1.length ≤ 281474976710656) :
    Calls Try.prog 4 #[.slice none 0 xc, v1] W fun e w' => e = .returned (.bool true) ∧ Below W.heap.size W w' := by
  obtain ⟨i4, hi4, hw0, hw1, hw2⟩ := info_parts infoX
  have HX := hid (show Rxs W (.slice none 0 xc) [] from ⟨_, xc, rfl, fun _ h => absurd h (Nat.not_lt_zero _)⟩)
  have HQ := hid hX1
  have HZQ := hid hZ1
  obtain ⟨qo, qc, rfl, hQa0⟩ := hX1
  have hQa := hid hQa0
  have hla := hid (fun (w : World) (hb : Below W.heap.size W w) => tlarge_any (HX.out.next hb) (HQ.out.next hb) trivial hZ1 (by simp) z1)
  clear hQa0 hZ1
  cases hL : largeT [] l1 with
  | true =>
    rw [hL] at hla
    clear hL
    go_enter Try.func4, Try.ntmps4
    go_wp2_with (first
      | (go_at_call 9; go_must (refine (hla.out _ hb1).mono ?_; clear hla; rintro e2 w2 ⟨rfl, hb2⟩; have hB := Below.next hb1 hb2; clear hb1 hb2))
      | (go_at_call 8; go_must (refine (tlives_any _).mono ?_; rintro e1 w1 ⟨rfl, hb1⟩)))
    go_ret
    exact ⟨rfl, Below.next hB hb1⟩
  | false =>
    obtain ⟨s1, s2, s3⟩ := large_small hL
    rw [hL] at hla
    clear hL
    go_enter Try.func4, Try.ntmps4
    go_wp2_with (first
      | (go_at_call 9; go_must (refine (hla.out _ hb1).mono ?_; clear hla; rintro e2 w2 ⟨rfl, hb2⟩; have hB := hid (Below.next hb1 hb2); clear hb1 hb2))
      | (go_at_call 8; go_must (refine (tlives_any _).mono ?_; rintro e1 w1 ⟨rfl, hb1⟩)))
    have hpl := hid (prt_q_mem l1)
    go_loopw [29] (fun i wr => ∃ (j : Nat), j ≤ l1.length ∧ i = .int .i64 (j : Int) ∧ Hid (∀ i, i < j → hasX [95] (l1.getD i q0).2 = false) ∧ Hid (Below W.heap.size W wr)) (fun i _ => l1.length - (intOf i).toNat)
    case atStart => exact ⟨0, by omega, rfl, fun i hi => absurd hi (Nat.not_lt_zero _), hB⟩
    case round =>
      clear hB
      obtain ⟨j, hj, rfl, hno, hB⟩ := hrel
      by_cases hlt : j < l1.length
      · obtain ⟨b, o, k', n', m', aa, al, ac, rfl, d0, d1, d2, d3, d4, hx⟩ := hQa.out j hlt
        have hbr := hB.out
        have hz := lt_of_cell d0
        have c0 := ((bcell hbr).1 b _ hz).trans d0
        have c1 := ((bcell hbr).1 b _ hz).trans d1
        have c2 := ((bcell hbr).1 b _ hz).trans d2
        have c3 := ((bcell hbr).1 b _ hz).trans d3
        have c4 := ((bcell hbr).1 b _ hz).trans d4
        have hzr : b < wr.heap.size := Nat.lt_of_lt_of_le hz hbr.size
        have hb2 := below_alloc wr (.cells #[.string (l1.getD j q0).1, .int .i64 k', .string n', .int .i64 m', .slice aa al ac] 50)
        have hbn := hid (Below.next hbr hb2)
        have hcall := nameless_any _ _ _ ((hx.next hbr).next hb2) (by have := hpl.out _ (show l1.getD j q0 ∈ l1 by simp [List.getD, hlt]); omega)
        cases hy : hasX [95] (l1.getD j q0).2 with
        | true =>
          rw [hy] at hcall
          clear hx d0 d1 d2 d3 d4 hz hB hb2 hbr hy hno
          generalize (l1.getD j q0).1 = qn at *
          go_wp2_with (go_at_call 16; refine hcall.mono ?_; rintro e w3 ⟨rfl, hb3⟩)
          go_ret
          exact ⟨rfl, Below.next hbn.out hb3⟩
        | false =>
          have hno2 : Hid (∀ i, i < j + 1 → hasX [95] (l1.getD i q0).2 = false) := fun i hi => by
            by_cases e : i < j
            · exact hno.out i e
            · obtain rfl : i = j := by omega
              exact hy
          rw [hy] at hcall
          clear hx d0 d1 d2 d3 d4 hz hB hb2 hbr hy hno
          generalize (l1.getD j q0).1 = qn at *
          go_wp2_with (go_at_call 16; refine hcall.mono ?_; rintro e w3 ⟨rfl, hb3⟩)
          go_roundw
          case rel => exact ⟨j + 1, by omega, by go_num, hno2, Below.next hbn.out hb3⟩
          case measure => simp [intOf]; omega
      · obtain rfl : j = l1.length := by omega
        have hp : prtXs [] + prtQ l1 ≤ 30000 := by omega
        by_cases hc : (tieC [] l1).1 = 0
        · obtain ⟨ee, hd⟩ := al_dec (tieG [] l1)
          have hc0 : Hid ((chkT [] l1).1 = 0) := show _ = _ from Classical.byContradiction fun h => by
            unfold tieC at hc
            rw [if_pos h] at hc
            exact h hc
          have ht := tie_ok (HX.out.next hB.out) (HQ.out.next hB.out) trivial HZQ.out hp hc ee hd
          clear hd
          obtain ⟨F, hF4, _, hFX, hFq0⟩ := sol_cells (l0 := []) HQ.out (f := fun _ => [.nilIface, .nilIface, .nilIface, .nilIface]) (fun _ => rfl) (fun j hj => absurd hj (Nat.not_lt_zero _))
          simp only [List.nil_append, List.length_nil, Nat.zero_add] at hFX hFq0
          have hFq := hid hFq0
          have hF := hid (show (∀ j, (F j).length = 4) ∧ ∀ j, j < (solX l1).length → XC W ((solX l1).getD j x0) (F j) from ⟨hF4, hFX⟩)
          clear hFq0 hF4 hFX
          go_wp2_with (go_at_call 10; go_must (refine ht.mono ?_; clear ht; rintro r w3 ⟨⟨nv, rv, avs, mv, rfl, hO, _⟩, hb3⟩; obtain ⟨n0, n9, rfl⟩ := hO.nsl; obtain ⟨r0, r9, rfl, _⟩ := hO.r; have hbg := hid (fun o => Below.next (Below.next hB.out hb3) (below_alloc w3 o)); have hsg := (Below.next hB.out hb3).size; clear hO hB))
          go_loopw [10, 51] (fun x i wr => ∃ (i' g c n : Nat), i' ≤ l1.length ∧ i = .int .i64 (i' : Int) ∧ x = .slice (some ⟨g, 0, none⟩) n c ∧ Hid (n = 2 * i') ∧ Hid (wr.ownsRow W.heap.size 48 4 (.slice (some ⟨g, 0, none⟩) n c) n (flatV F n)) ∧ Hid (Below W.heap.size W wr)) (fun _ i _ => l1.length - (intOf i).toNat)
          case atStart => exact ⟨0, _, 0, 0, by omega, rfl, rfl, (show _ = _ by omega), own_empty9 w3 _ _ 4 _ hsg, (hbg.out _).alloc (by simp; omega) _⟩
          case round =>
            clear hbg
            obtain ⟨i', g, c, n, hi, rfl, rfl, hn, hO, hB⟩ := hrel
            by_cases hlt : i' < l1.length
            · obtain ⟨e1, b, o, k', n', m', aa, al, ac, rfl, e2, d0, d1, d2, d3, d4⟩ := hFq.out i' hlt
              have hbr := hB.out
              have hz := lt_of_cell d0
              have c0 := ((bcell hbr).1 b _ hz).trans d0
              have c1 := ((bcell hbr).1 b _ hz).trans d1
              have c2 := ((bcell hbr).1 b _ hz).trans d2
              have c3 := ((bcell hbr).1 b _ hz).trans d3
              have c4' := ((bcell hbr).1 b _ hz).trans d4
              have hzr : b < wr.heap.size := Nat.lt_of_lt_of_le hz hbr.size
              have hst : flatV F (n + 2) = flatV F n ++ [.int .i64 1, .string (l1.getD i' q0).1, .int .i64 0, .slice none 0 0, .int .i64 k', .string n', .int .i64 m', .slice aa al ac] := by
                rw [flatV_succ, flatV_succ, hn.out, e1, e2, List.append_assoc]
                rfl
              have hnb : n ≤ 300 := by have := hn.out; omega
              have hn2 : Hid (n + 2 = 2 * (i' + 1)) := show _ = _ by have := hn.out; omega
              clear d0 d1 d2 d3 d4 e1 e2 hz hn
              generalize (l1.getD i' q0).1 = qn at *
              have HST := hid hst
              have hbx := heap_alloc_new wr (.cells #[.string qn, .int .i64 k', .string n', .int .i64 m', .slice aa al ac] 50)
              have hro := World.ownsRow.alloc hO.out (.cells #[.string qn, .int .i64 k', .string n', .int .i64 m', .slice aa al ac] 50)
              have hbn := Below.next hbr (below_alloc wr (.cells #[.string qn, .int .i64 k', .string n', .int .i64 m', .slice aa al ac] 50))
              have hnx : Hid (∀ w6, Below (wr.alloc (.cells #[.string qn, .int .i64 k', .string n', .int .i64 m', .slice aa al ac] 50)).drew.heap.size (wr.alloc (.cells #[.string qn, .int .i64 k', .string n', .int .i64 m', .slice aa al ac] 50)).drew w6 → (w6.cell? ⟨wr.heap.size, 0, none⟩ = some (.string qn) ∧ w6.cell? ⟨wr.heap.size, 1, none⟩ = some (.int .i64 k') ∧ w6.cell? ⟨wr.heap.size, 2, none⟩ = some (.string n') ∧ w6.cell? ⟨wr.heap.size, 3, none⟩ = some (.int .i64 m') ∧ w6.cell? ⟨wr.heap.size, 4, none⟩ = some (.slice aa al ac)) ∧ wr.heap.size < w6.heap.size ∧ (w6.alloc (.cells #[.int .i64 1, .string qn, .int .i64 0, .slice none 0 0, .int .i64 k', .string n', .int .i64 m', .slice aa al ac] 48)).ownsRow W.heap.size 48 4 (.slice (some ⟨g, 0, none⟩) n c) n (flatV F n) ∧ W.heap.size ≤ w6.heap.size ∧ ∀ w7 g7 c7, w7.ownsRow W.heap.size 48 4 (.slice (some ⟨g7, 0, none⟩) (n + 2) c7) (n + 2) (flatV F n ++ [.int .i64 1, .string qn, .int .i64 0, .slice none 0 0, .int .i64 k', .string n', .int .i64 m', .slice aa al ac]) → (w6.alloc (.cells #[.int .i64 1, .string qn, .int .i64 0, .slice none 0 0, .int .i64 k', .string n', .int .i64 m', .slice aa al ac] 48)).grownBy w7 (Value.slice (some ⟨g, 0, none⟩) n c).ownBlock → Hid (w7.ownsRow W.heap.size 48 4 (.slice (some ⟨g7, 0, none⟩) (n + 2) c7) (n + 2) (flatV F (n + 2))) ∧ Hid (Below W.heap.size W w7)) := fun w6 hb6 => by
                have hb7 := Below.next hbn.drew hb6
                have hs7 := hb7.size
                have hx6 := (hb6.block wr.heap.size (show wr.heap.size < (wr.alloc (.cells #[.string qn, .int .i64 k', .string n', .int .i64 m', .slice aa al ac] 50)).heap.size by simp)).trans hbx
                have hr6 := row_keep hro (fun q hq => hb6.block q (hro.lt q hq).2)
                refine ⟨(tblk5 hx6).1, lt_of_block hx6, World.ownsRow.alloc hr6 _, hs7, fun w7 g7 c7 hown hg => ⟨?_, ?_⟩⟩
                · show World.ownsRow _ _ _ _ _ _ _
                  rw [HST.out]
                  exact hown
                · exact (hb7.alloc hs7 _).grown hg (by simp; omega) (fun q hq => (hr6.lt q hq).1)
              obtain ⟨t0, t1, t2, t3, t4⟩ := (tblk5 hbx).1
              clear hst hO hB hbr hro hbn hbx
              go_wp2
              go_region_law
                (first
                  | (go_simp; go_at_call 17; refine (v_any qn _).mono ?_; rintro e w6 ⟨rfl, hb6⟩; obtain ⟨⟨u0, u1, u2, u3, u4⟩, u5, u6, u8, u7⟩ := hnx.out w6 hb6)
                  | (refine step_append_lies _ (by rfl) _ _ _ (by rfl) W.heap.size 48 i4 (.agg #[.int .i64 0, .string ⟨#[]⟩, .int .i64 0, .slice none 0 0]) 4 56 Try.underlying22 hi4 hw0 hw1 hw2 rfl (by omega) _ n (flatV F n) (by rfl) u6 ⟨w6.heap.size, 0, none⟩ 2 2 [.int .i64 1, .string qn, .int .i64 0, .slice none 0 0, .int .i64 k', .string n', .int .i64 m', .slice aa al ac] (by rfl) (by rfl) (World.news_of_block (cs := #[.int .i64 1, .string qn, .int .i64 0, .slice none 0 0, .int .i64 k', .string n', .int .i64 m', .slice aa al ac]) (t := 48) (fr := (0, 0)) (heap_alloc_new w6 _)) (by simp [Value.oneCell']) (by omega) (by unfold maxLen; omega) (by omega) (by simp; omega) (w6.heap.size + 1) (by simp) ?_; intro g7 c7 w7 hown7 hg7 hat7 hlt7; obtain ⟨r7, b7⟩ := u7 w7 g7 c7 hown7 hg7))
              all_goals go_wp2
              all_goals
                go_roundw
                case rel => exact ⟨i' + 1, g7, c7, n + 2, by omega, by go_num, rfl, hn2, r7, b7⟩
                case measure => simp [intOf]; omega
            · obtain rfl : i' = l1.length := by omega
              have hn' : n = (solX l1).length := by
                have := hn.out
                rw [solX_len]
                omega
              have hck := sol_chk0 hc0.out (by omega) (by omega)
              obtain ⟨e2, hd2⟩ := al_dec (tieG (solX l1) l1)
              have hsr := sol_roots0 hck (fun q hq => by
                obtain ⟨i, hi, rfl⟩ := List.getElem_of_mem hq
                have := hno.out i hi
                simpa [List.getD, hi] using this) hd2
              have hpp : prtXs (solX l1) + prtQ l1 ≤ 30000 := by rw [prt_sol]; omega
              have hzz := solX_sz HZQ.out
              have hFF := hF.out
              clear hF
              generalize solX l1 = xs' at *
              subst hn'
              have ht2 := tie_ok (own_rxs hFF.1 hO.out (fun j hj => (hFF.2 j hj).next hB.out)) (HQ.out.next hB.out) hzz HZQ.out hpp hck e2 hd2
              generalize trimF (quoF e2 (tieG xs' l1)) = T at hsr ht2
              have hB' := hid hB.out
              have HSR := hid hsr
              clear hd2 hck hO hB hn hsr hpp hzz hFF
              go_wp2_with (go_at_call 10; go_must (refine ht2.mono ?_; clear ht2; rintro r w8 ⟨⟨nv, rv, avs, mv2, rfl, hO, _⟩, hb8⟩; obtain ⟨m0, m9, rfl⟩ := hO.nsl; obtain ⟨p0, p9, rfl, hpr⟩ := hO.r; have hb9 := hid (Below.next hB'.out hb8); have hpr' := hid hpr; clear hO hpr hB'))
              go_loopw [99] (fun i wr => ∃ j : Nat, j ≤ l1.length ∧ i = .int .i64 (j : Int) ∧ Hid (Below (w8.alloc (.cells #[.slice m0 T.nodes.length m9, .slice p0 T.roots.length p9] 29)).heap.size (w8.alloc (.cells #[.slice m0 T.nodes.length m9, .slice p0 T.roots.length p9] 29)) wr)) (fun i _ => l1.length - (intOf i).toNat)
              case atStart => exact ⟨0, by omega, rfl, Below.refl _ _⟩
              case round =>
                obtain ⟨j, hj, rfl, hbw⟩ := hrel
                by_cases hlt : j < l1.length
                · obtain ⟨hRl, hRe⟩ := HSR.out
                  obtain ⟨rb, y, rfl, hl8, r1, r2⟩ := sol_rt hpr'.out (k := 2 * j) (by omega) (hRe j hlt)
                  have hbb := Below.next (below_alloc w8 (.cells #[.slice m0 T.nodes.length m9, .slice (some ⟨rb, 0, none⟩) T.roots.length p9] 29)) hbw.out
                  have q1 := ((bcell hbb).1 rb _ hl8).trans r1
                  have q2 := ((bcell hbb).1 rb _ hl8).trans r2
                  have hgx := (hbw.out.block w8.heap.size (by simp)).trans (heap_alloc_new w8 _)
                  have hg1 : wr.cell? ⟨w8.heap.size, 1, none⟩ = some (.slice (some ⟨rb, 0, none⟩) T.roots.length p9) := by simp [World.cell?, hgx]
                  have hg2 := lt_of_block hgx
                  have hrl : rb < wr.heap.size := Nat.lt_of_lt_of_le hl8 hbb.size
                  obtain ⟨kk, hkk⟩ : ∃ kk : Nat, 2 * j = kk := ⟨_, rfl⟩
                  have hki : 2 * (j : Int) = (kk : Int) := by omega
                  have hkR : kk + 1 < T.roots.length := by omega
                  have hkb : kk ≤ 1000 := by omega
                  rw [hkk] at q1 q2
                  generalize T.roots.length = RL at *
                  have hkd : decide ((RL : Int) ≤ (kk : Int) + 1) = false := decide_eq_false (by omega)
                  have hkn : ¬ (RL : Int) ≤ (kk : Int) + 1 := by omega
                  clear r1 r2 hRl hRe hkk hgx hl8 hbb
                  go_wp2
                  go_quiet (fail)
                  go_wp2
                  go_roundw
                  case rel => exact ⟨j + 1, by omega, by go_num, below_drewN hbw.out _⟩
                  case measure => simp [intOf]; omega
                · go_wp2
                  go_ret
                  exact ⟨rfl, Below.next (Below.next hb9.out (below_alloc w8 _)) hbw.out⟩
        · have ht := tie_bad (HX.out.next hB.out) (HQ.out.next hB.out) trivial HZQ.out (by omega) hc
          go_wp2_with (go_at_call 10; go_must (refine ht.mono ?_; clear ht; rintro r w3 ⟨⟨ev, rfl, hE⟩, hb3⟩; obtain ⟨eb, rfl, _⟩ := hE; have hbf := hid (Below.next (Below.next hB.out hb3) (below_alloc w3 (.cells #[.slice none 0 0, .slice none 0 0] 29)))))
          go_ret
          exact ⟨rfl, hbf.out⟩
set_option maxRecDepth 100000 in
set_option maxHeartbeats 8000000 in
theorem tieSolves_empty (xa : Addr) (xc : Nat) {W : World} (v1 : Value) (l1 : List (ByteArray × Ex)) (hX1 : Rqs W v1 l1) (hZ1 : ∀ q ∈ l1, q.1.size ≤ 281474976710656 ∧ szX q.2) (z1 : l1.length ≤ 281474976710656) :
    Calls Try.prog 4 #[.slice (some xa) 0 xc, v1] W fun e w' => e = .returned (.bool true) ∧ Below W.heap.size W w' := by
  obtain ⟨i4, hi4, hw0, hw1, hw2⟩ := info_parts infoX
  have HX := hid (show Rxs W (.slice (some xa) 0 xc) [] from ⟨_, xc, rfl, fun _ h => absurd h (Nat.not_lt_zero _)⟩)
  have HQ := hid hX1
  have HZQ := hid hZ1
  obtain ⟨qo, qc, rfl, hQa0⟩ := hX1
  have hQa := hid hQa0
  have hla := hid (fun (w : World) (hb : Below W.heap.size W w) => tlarge_any (HX.out.next hb) (HQ.out.next hb) trivial hZ1 (by simp) z1)
  clear hQa0 hZ1
  cases hL : largeT [] l1 with
  | true =>
    rw [hL] at hla
    clear hL
    go_enter Try.func4, Try.ntmps4
    go_wp2_with (first
      | (go_at_call 9; go_must (refine (hla.out _ hb1).mono ?_; clear hla; rintro e2 w2 ⟨rfl, hb2⟩; have hB := Below.next hb1 hb2; clear hb1 hb2))
      | (go_at_call 8; go_must (refine (tlives_any _).mono ?_; rintro e1 w1 ⟨rfl, hb1⟩)))
    go_ret
    exact ⟨rfl, Below.next hB hb1⟩
  | false =>
    obtain ⟨s1, s2, s3⟩ := large_small hL
    rw [hL] at hla
    clear hL
    go_enter Try.func4, Try.ntmps4
    go_wp2_with (first
      | (go_at_call 9; go_must (refine (hla.out _ hb1).mono ?_; clear hla; rintro e2 w2 ⟨rfl, hb2⟩; have hB := hid (Below.next hb1 hb2); clear hb1 hb2))
      | (go_at_call 8; go_must (refine (tlives_any _).mono ?_; rintro e1 w1 ⟨rfl, hb1⟩)))
    have hpl := hid (prt_q_mem l1)
    go_loopw [29] (fun i wr => ∃ (j : Nat), j ≤ l1.length ∧ i = .int .i64 (j : Int) ∧ Hid (∀ i, i < j → hasX [95] (l1.getD i q0).2 = false) ∧ Hid (Below W.heap.size W wr)) (fun i _ => l1.length - (intOf i).toNat)
    case atStart => exact ⟨0, by omega, rfl, fun i hi => absurd hi (Nat.not_lt_zero _), hB⟩
    case round =>
      clear hB
      obtain ⟨j, hj, rfl, hno, hB⟩ := hrel
      by_cases hlt : j < l1.length
      · obtain ⟨b, o, k', n', m', aa, al, ac, rfl, d0, d1, d2, d3, d4, hx⟩ := hQa.out j hlt
        have hbr := hB.out
        have hz := lt_of_cell d0
        have c0 := ((bcell hbr).1 b _ hz).trans d0
        have c1 := ((bcell hbr).1 b _ hz).trans d1
        have c2 := ((bcell hbr).1 b _ hz).trans d2
        have c3 := ((bcell hbr).1 b _ hz).trans d3
        have c4 := ((bcell hbr).1 b _ hz).trans d4
        have hzr : b < wr.heap.size := Nat.lt_of_lt_of_le hz hbr.size
        have hb2 := below_alloc wr (.cells #[.string (l1.getD j q0).1, .int .i64 k', .string n', .int .i64 m', .slice aa al ac] 50)
        have hbn := hid (Below.next hbr hb2)
        have hcall := nameless_any _ _ _ ((hx.next hbr).next hb2) (by have := hpl.out _ (show l1.getD j q0 ∈ l1 by simp [List.getD, hlt]); omega)
        cases hy : hasX [95] (l1.getD j q0).2 with
        | true =>
          rw [hy] at hcall
          clear hx d0 d1 d2 d3 d4 hz hB hb2 hbr hy hno
          generalize (l1.getD j q0).1 = qn at *
          go_wp2_with (go_at_call 16; refine hcall.mono ?_; rintro e w3 ⟨rfl, hb3⟩)
          go_ret
          exact ⟨rfl, Below.next hbn.out hb3⟩
        | false =>
          have hno2 : Hid (∀ i, i < j + 1 → hasX [95] (l1.getD i q0).2 = false) := fun i hi => by
            by_cases e : i < j
            · exact hno.out i e
            · obtain rfl : i = j := by omega
              exact hy
          rw [hy] at hcall
          clear hx d0 d1 d2 d3 d4 hz hB hb2 hbr hy hno
          generalize (l1.getD j q0).1 = qn at *
          go_wp2_with (go_at_call 16; refine hcall.mono ?_; rintro e w3 ⟨rfl, hb3⟩)
          go_roundw
          case rel => exact ⟨j + 1, by omega, by go_num, hno2, Below.next hbn.out hb3⟩
          case measure => simp [intOf]; omega
      · obtain rfl : j = l1.length := by omega
        have hp : prtXs [] + prtQ l1 ≤ 30000 := by omega
        by_cases hc : (tieC [] l1).1 = 0
        · obtain ⟨ee, hd⟩ := al_dec (tieG [] l1)
          have hc0 : Hid ((chkT [] l1).1 = 0) := show _ = _ from Classical.byContradiction fun h => by
            unfold tieC at hc
            rw [if_pos h] at hc
            exact h hc
          have ht := tie_ok (HX.out.next hB.out) (HQ.out.next hB.out) trivial HZQ.out hp hc ee hd
          clear hd
          obtain ⟨F, hF4, _, hFX, hFq0⟩ := sol_cells (l0 := []) HQ.out (f := fun _ => [.nilIface, .nilIface, .nilIface, .nilIface]) (fun _ => rfl) (fun j hj => absurd hj (Nat.not_lt_zero _))
          simp only [List.nil_append, List.length_nil, Nat.zero_add] at hFX hFq0
          have hFq := hid hFq0
          have hF := hid (show (∀ j, (F j).length = 4) ∧ ∀ j, j < (solX l1).length → XC W ((solX l1).getD j x0) (F j) from ⟨hF4, hFX⟩)
          clear hFq0 hF4 hFX
          go_wp2_with (go_at_call 10; go_must (refine ht.mono ?_; clear ht; rintro r w3 ⟨⟨nv, rv, avs, mv, rfl, hO, _⟩, hb3⟩; obtain ⟨n0, n9, rfl⟩ := hO.nsl; obtain ⟨r0, r9, rfl, _⟩ := hO.r; have hbg := hid (fun o => Below.next (Below.next hB.out hb3) (below_alloc w3 o)); have hsg := (Below.next hB.out hb3).size; clear hO hB))
          go_loopw [10, 51] (fun x i wr => ∃ (i' g c n : Nat), i' ≤ l1.length ∧ i = .int .i64 (i' : Int) ∧ x = .slice (some ⟨g, 0, none⟩) n c ∧ Hid (n = 2 * i') ∧ Hid (wr.ownsRow W.heap.size 48 4 (.slice (some ⟨g, 0, none⟩) n c) n (flatV F n)) ∧ Hid (Below W.heap.size W wr)) (fun _ i _ => l1.length - (intOf i).toNat)
          case atStart => exact ⟨0, _, 0, 0, by omega, rfl, rfl, (show _ = _ by omega), own_empty9 w3 _ _ 4 _ hsg, (hbg.out _).alloc (by simp; omega) _⟩
          case round =>
            clear hbg
            obtain ⟨i', g, c, n, hi, rfl, rfl, hn, hO, hB⟩ := hrel
            by_cases hlt : i' < l1.length
            · obtain ⟨e1, b, o, k', n', m', aa, al, ac, rfl, e2, d0, d1, d2, d3, d4⟩ := hFq.out i' hlt
              have hbr := hB.out
              have hz := lt_of_cell d0
              have c0 := ((bcell hbr).1 b _ hz).trans d0
              have c1 := ((bcell hbr).1 b _ hz).trans d1
              have c2 := ((bcell hbr).1 b _ hz).trans d2
              have c3 := ((bcell hbr).1 b _ hz).trans d3
              have c4' := ((bcell hbr).1 b _ hz).trans d4
              have hzr : b < wr.heap.size := Nat.lt_of_lt_of_le hz hbr.size
              have hst : flatV F (n + 2) = flatV F n ++ [.int .i64 1, .string (l1.getD i' q0).1, .int .i64 0, .slice none 0 0, .int .i64 k', .string n', .int .i64 m', .slice aa al ac] := by
                rw [flatV_succ, flatV_succ, hn.out, e1, e2, List.append_assoc]
                rfl
              have hnb : n ≤ 300 := by have := hn.out; omega
              have hn2 : Hid (n + 2 = 2 * (i' + 1)) := show _ = _ by have := hn.out; omega
              clear d0 d1 d2 d3 d4 e1 e2 hz hn
              generalize (l1.getD i' q0).1 = qn at *
              have HST := hid hst
              have hbx := heap_alloc_new wr (.cells #[.string qn, .int .i64 k', .string n', .int .i64 m', .slice aa al ac] 50)
              have hro := World.ownsRow.alloc hO.out (.cells #[.string qn, .int .i64 k', .string n', .int .i64 m', .slice aa al ac] 50)
              have hbn := Below.next hbr (below_alloc wr (.cells #[.string qn, .int .i64 k', .string n', .int .i64 m', .slice aa al ac] 50))
              have hnx : Hid (∀ w6, Below (wr.alloc (.cells #[.string qn, .int .i64 k', .string n', .int .i64 m', .slice aa al ac] 50)).drew.heap.size (wr.alloc (.cells #[.string qn, .int .i64 k', .string n', .int .i64 m', .slice aa al ac] 50)).drew w6 → (w6.cell? ⟨wr.heap.size, 0, none⟩ = some (.string qn) ∧ w6.cell? ⟨wr.heap.size, 1, none⟩ = some (.int .i64 k') ∧ w6.cell? ⟨wr.heap.size, 2, none⟩ = some (.string n') ∧ w6.cell? ⟨wr.heap.size, 3, none⟩ = some (.int .i64 m') ∧ w6.cell? ⟨wr.heap.size, 4, none⟩ = some (.slice aa al ac)) ∧ wr.heap.size < w6.heap.size ∧ (w6.alloc (.cells #[.int .i64 1, .string qn, .int .i64 0, .slice none 0 0, .int .i64 k', .string n', .int .i64 m', .slice aa al ac] 48)).ownsRow W.heap.size 48 4 (.slice (some ⟨g, 0, none⟩) n c) n (flatV F n) ∧ W.heap.size ≤ w6.heap.size ∧ ∀ w7 g7 c7, w7.ownsRow W.heap.size 48 4 (.slice (some ⟨g7, 0, none⟩) (n + 2) c7) (n + 2) (flatV F n ++ [.int .i64 1, .string qn, .int .i64 0, .slice none 0 0, .int .i64 k', .string n', .int .i64 m', .slice aa al ac]) → (w6.alloc (.cells #[.int .i64 1, .string qn, .int .i64 0, .slice none 0 0, .int .i64 k', .string n', .int .i64 m', .slice aa al ac] 48)).grownBy w7 (Value.slice (some ⟨g, 0, none⟩) n c).ownBlock → Hid (w7.ownsRow W.heap.size 48 4 (.slice (some ⟨g7, 0, none⟩) (n + 2) c7) (n + 2) (flatV F (n + 2))) ∧ Hid (Below W.heap.size W w7)) := fun w6 hb6 => by
                have hb7 := Below.next hbn.drew hb6
                have hs7 := hb7.size
                have hx6 := (hb6.block wr.heap.size (show wr.heap.size < (wr.alloc (.cells #[.string qn, .int .i64 k', .string n', .int .i64 m', .slice aa al ac] 50)).heap.size by simp)).trans hbx
                have hr6 := row_keep hro (fun q hq => hb6.block q (hro.lt q hq).2)
                refine ⟨(tblk5 hx6).1, lt_of_block hx6, World.ownsRow.alloc hr6 _, hs7, fun w7 g7 c7 hown hg => ⟨?_, ?_⟩⟩
                · show World.ownsRow _ _ _ _ _ _ _
                  rw [HST.out]
                  exact hown
                · exact (hb7.alloc hs7 _).grown hg (by simp; omega) (fun q hq => (hr6.lt q hq).1)
              obtain ⟨t0, t1, t2, t3, t4⟩ := (tblk5 hbx).1
              clear hst hO hB hbr hro hbn hbx
              go_wp2
              go_region_law
                (first
                  | (go_simp; go_at_call 17; refine (v_any qn _).mono ?_; rintro e w6 ⟨rfl, hb6⟩; obtain ⟨⟨u0, u1, u2, u3, u4⟩, u5, u6, u8, u7⟩ := hnx.out w6 hb6)
                  | (refine step_append_lies _ (by rfl) _ _ _ (by rfl) W.heap.size 48 i4 (.agg #[.int .i64 0, .string ⟨#[]⟩, .int .i64 0, .slice none 0 0]) 4 56 Try.underlying22 hi4 hw0 hw1 hw2 rfl (by omega) _ n (flatV F n) (by rfl) u6 ⟨w6.heap.size, 0, none⟩ 2 2 [.int .i64 1, .string qn, .int .i64 0, .slice none 0 0, .int .i64 k', .string n', .int .i64 m', .slice aa al ac] (by rfl) (by rfl) (World.news_of_block (cs := #[.int .i64 1, .string qn, .int .i64 0, .slice none 0 0, .int .i64 k', .string n', .int .i64 m', .slice aa al ac]) (t := 48) (fr := (0, 0)) (heap_alloc_new w6 _)) (by simp [Value.oneCell']) (by omega) (by unfold maxLen; omega) (by omega) (by simp; omega) (w6.heap.size + 1) (by simp) ?_; intro g7 c7 w7 hown7 hg7 hat7 hlt7; obtain ⟨r7, b7⟩ := u7 w7 g7 c7 hown7 hg7))
              all_goals go_wp2
              all_goals
                go_roundw
                case rel => exact ⟨i' + 1, g7, c7, n + 2, by omega, by go_num, rfl, hn2, r7, b7⟩
                case measure => simp [intOf]; omega
            · obtain rfl : i' = l1.length := by omega
              have hn' : n = (solX l1).length := by
                have := hn.out
                rw [solX_len]
                omega
              have hck := sol_chk0 hc0.out (by omega) (by omega)
              obtain ⟨e2, hd2⟩ := al_dec (tieG (solX l1) l1)
              have hsr := sol_roots0 hck (fun q hq => by
                obtain ⟨i, hi, rfl⟩ := List.getElem_of_mem hq
                have := hno.out i hi
                simpa [List.getD, hi] using this) hd2
              have hpp : prtXs (solX l1) + prtQ l1 ≤ 30000 := by rw [prt_sol]; omega
              have hzz := solX_sz HZQ.out
              have hFF := hF.out
              clear hF
              generalize solX l1 = xs' at *
              subst hn'
              have ht2 := tie_ok (own_rxs hFF.1 hO.out (fun j hj => (hFF.2 j hj).next hB.out)) (HQ.out.next hB.out) hzz HZQ.out hpp hck e2 hd2
              generalize trimF (quoF e2 (tieG xs' l1)) = T at hsr ht2
              have hB' := hid hB.out
              have HSR := hid hsr
              clear hd2 hck hO hB hn hsr hpp hzz hFF
              go_wp2_with (go_at_call 10; go_must (refine ht2.mono ?_; clear ht2; rintro r w8 ⟨⟨nv, rv, avs, mv2, rfl, hO, _⟩, hb8⟩; obtain ⟨m0, m9, rfl⟩ := hO.nsl; obtain ⟨p0, p9, rfl, hpr⟩ := hO.r; have hb9 := hid (Below.next hB'.out hb8); have hpr' := hid hpr; clear hO hpr hB'))
              go_loopw [99] (fun i wr => ∃ j : Nat, j ≤ l1.length ∧ i = .int .i64 (j : Int) ∧ Hid (Below (w8.alloc (.cells #[.slice m0 T.nodes.length m9, .slice p0 T.roots.length p9] 29)).heap.size (w8.alloc (.cells #[.slice m0 T.nodes.length m9, .slice p0 T.roots.length p9] 29)) wr)) (fun i _ => l1.length - (intOf i).toNat)
              case atStart => exact ⟨0, by omega, rfl, Below.refl _ _⟩
              case round =>
                obtain ⟨j, hj, rfl, hbw⟩ := hrel
                by_cases hlt : j < l1.length
                · obtain ⟨hRl, hRe⟩ := HSR.out
                  obtain ⟨rb, y, rfl, hl8, r1, r2⟩ := sol_rt hpr'.out (k := 2 * j) (by omega) (hRe j hlt)
                  have hbb := Below.next (below_alloc w8 (.cells #[.slice m0 T.nodes.length m9, .slice (some ⟨rb, 0, none⟩) T.roots.length p9] 29)) hbw.out
                  have q1 := ((bcell hbb).1 rb _ hl8).trans r1
                  have q2 := ((bcell hbb).1 rb _ hl8).trans r2
                  have hgx := (hbw.out.block w8.heap.size (by simp)).trans (heap_alloc_new w8 _)
                  have hg1 : wr.cell? ⟨w8.heap.size, 1, none⟩ = some (.slice (some ⟨rb, 0, none⟩) T.roots.length p9) := by simp [World.cell?, hgx]
                  have hg2 := lt_of_block hgx
                  have hrl : rb < wr.heap.size := Nat.lt_of_lt_of_le hl8 hbb.size
                  obtain ⟨kk, hkk⟩ : ∃ kk : Nat, 2 * j = kk := ⟨_, rfl⟩
                  have hki : 2 * (j : Int) = (kk : Int) := by omega
                  have hkR : kk + 1 < T.roots.length := by omega
                  have hkb : kk ≤ 1000 := by omega
                  rw [hkk] at q1 q2
                  generalize T.roots.length = RL at *
                  have hkd : decide ((RL : Int) ≤ (kk : Int) + 1) = false := decide_eq_false (by omega)
                  have hkn : ¬ (RL : Int) ≤ (kk : Int) + 1 := by omega
                  clear r1 r2 hRl hRe hkk hgx hl8 hbb
                  go_wp2
                  go_quiet (fail)
                  go_wp2
                  go_roundw
                  case rel => exact ⟨j + 1, by omega, by go_num, below_drewN hbw.out _⟩
                  case measure => simp [intOf]; omega
                · go_wp2
                  go_ret
                  exact ⟨rfl, Below.next (Below.next hb9.out (below_alloc w8 _)) hbw.out⟩
        · have ht := tie_bad (HX.out.next hB.out) (HQ.out.next hB.out) trivial HZQ.out (by omega) hc
          go_wp2_with (go_at_call 10; go_must (refine ht.mono ?_; clear ht; rintro r w3 ⟨⟨ev, rfl, hE⟩, hb3⟩; obtain ⟨eb, rfl, _⟩ := hE; have hbf := hid (Below.next (Below.next hB.out hb3) (below_alloc w3 (.cells #[.slice none 0 0, .slice none 0 0] 29)))))
          go_ret
          exact ⟨rfl, hbf.out⟩
end Go.Proofs.Ytmfgjemefjcblaa

/- TieSolves: each equation of a system holds in its graph. -/
namespace Go.Proofs.Ytmfgjemefjcblaa
open Go.RowKit Go.Maps

theorem tieSolves_walk (v0 : Value) (l0 : List Ex) {W : World} (hX0 : Rxs W v0 l0) (hZ0 : szXs l0) (z0 : l0.length ≤ 281474976710656) (v1 : Value) (l1 : List (ByteArray × Ex)) (hX1 : Rqs W v1 l1) (hZ1 : ∀ q ∈ l1, q.1.size ≤ 281474976710656 ∧ szX q.2) (z1 : l1.length ≤ 281474976710656) :
    Calls Try.prog 4 #[v0, v1] W fun e w' => e = .returned (.bool true) ∧ Below W.heap.size W w' := by
  cases l0 with
  | cons x r => exact tieSolves_some v0 (x :: r) hX0 hZ0 z0 (by simp) v1 l1 hX1 hZ1 z1
  | nil =>
    obtain ⟨xo, xc, rfl, _⟩ := hX0
    cases xo with
    | none => exact tieSolves_nil xc v1 l1 hX1 hZ1 z1
    | some xa => exact tieSolves_empty xa xc v1 l1 hX1 hZ1 z1
end Go.Proofs.Ytmfgjemefjcblaa
