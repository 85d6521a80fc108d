/- What is not large is small; whether a variable of a name stands in a term: plain data. -/
import Derived.Test.Ytncileojdighnaana35Z
namespace Go.Proofs.Ytncileojdighnaa
set_option maxRecDepth 100000
open Go.RowKit
mutual
def hasX (l : List UInt8) : Ex → Bool
  | .mk k n _ xs => (decide (k = 1) && (n.toList == l)) || hasXs l xs
def hasXs (l : List UInt8) : List Ex → Bool
  | [] => false
  | x :: t => hasX l x || hasXs l t
end
theorem prt_len8 : ∀ xs : List Ex, xs.length ≤ prtXs xs
  | [] => by simp
  | x :: t => by
    have h1 := prt_len8 t
    have h2 := prtX_pos x
    rw [prtXs, List.length_cons]
    omega
theorem prt_mem8 : ∀ (xs : List Ex) (x : Ex), x ∈ xs → prtX x ≤ prtXs xs
  | y :: t, x, h => by
    rw [prtXs]
    rcases List.mem_cons.1 h with rfl | h
    · omega
    · have := prt_mem8 t x h
      omega
theorem prtQ_few : ∀ (qs : List (ByteArray × Ex)) (r : Int), 0 ≤ fewQs qs r → (prtQ qs : Int) + fewQs qs r ≤ r + qs.length
  | [], r, h => by rw [fewQs, prtQ]; simp
  | q :: t, r, h => by
    rw [fewQs] at h ⊢
    split at h
    · omega
    · rename_i hl
      rw [if_neg hl]
      have h2 := prtQ_few t _ h
      by_cases hf : fewX q.2 r < 0
      · rw [fewQs_neg hf] at h
        omega
      · have h1 := fewX_prt q.2 r (by omega)
        rw [prtQ, List.length_cons]
        omega
theorem large_small {xs : List Ex} {qs : List (ByteArray × Ex)} (h : largeT xs qs = false) : xs.length ≤ 100 ∧ qs.length ≤ 100 ∧ prtXs xs + prtQ qs ≤ 350 := by
  unfold largeT at h
  simp only [Bool.or_eq_false_iff, decide_eq_false_iff_not] at h
  obtain ⟨h1, h2, h3⟩ := h
  have h4 := prtQ_few qs (fewXs xs 250) (by omega)
  by_cases hf : fewXs xs 250 < 0
  · rw [fewQs_neg hf] at h3
    omega
  · have h5 := fewXs_prt xs 250 (by omega)
    exact ⟨by omega, by omega, by omega⟩
end Go.Proofs.Ytncileojdighnaa

namespace Go.Proofs.Ytncileojdighnaa
set_option maxRecDepth 100000
open Go.RowKit
def WthC (x : Ex) : Prop := ∀ (w : World) (v : Value), Xv w x v → prtX x ≤ 100000 → Calls Try.prog 41 #[v] w fun e w' => e = .returned (.bool (hasX [81, 117, 105, 116, 101, 95, 97, 110, 111, 116, 104, 101, 114] x)) ∧ Below w.heap.size w w'
set_option maxHeartbeats 2000000 in
theorem within_any (x : Ex) : WthC x := by
  induction x using Ex.ind with
  | h k n m xs ih =>
    intro w v hx hp
    obtain ⟨av, rfl, ao, c, rfl, hAt0⟩ := hx.parts
    have hAt := hid hAt0
    have IH := hid ih
    have hln : xs.length ≤ 100000 := by have := prt_len8 xs; rw [prtX] at hp; omega
    have hpc : Hid (∀ x ∈ xs, prtX x ≤ 100000) := fun x hx => by have := prt_mem8 xs x hx; rw [prtX] at hp; omega
    have hb0 := hid (below_alloc w (.cells #[.int .i64 k, .string n, .int .i64 m, .slice ao xs.length c] 48))
    by_cases hk : k = 1 ∧ (n.toList == [81, 117, 105, 116, 101, 95, 97, 110, 111, 116, 104, 101, 114]) = true
    · obtain ⟨rfl, hu⟩ := hk
      have hE : Hid (hasX [81, 117, 105, 116, 101, 95, 97, 110, 111, 116, 104, 101, 114] (.mk 1 n m xs) = true) := show _ = _ by rw [hasX, hu]; rfl
      clear ih hx hAt0
      go_enter Try.func41, Try.ntmps41
      go_wp2
      go_ret
      exact ⟨ret_bool hE.out.symm, hb0.out⟩
    · have hE : Hid (hasX [81, 117, 105, 116, 101, 95, 97, 110, 111, 116, 104, 101, 114] (.mk k n m xs) = hasXs [81, 117, 105, 116, 101, 95, 97, 110, 111, 116, 104, 101, 114] xs) := show _ = _ by
        rw [hasX]
        by_cases h1 : k = 1
        · have h2 : (n.toList == [81, 117, 105, 116, 101, 95, 97, 110, 111, 116, 104, 101, 114]) = false := by simpa using fun h => hk ⟨h1, h⟩
          rw [h2]; simp
        · rw [decide_eq_false h1]; rfl
      have hloop : Hid (∀ (P : Prop), ((k == 1) = false → P) → ((k = 1 ∧ (n.toList == [81, 117, 105, 116, 101, 95, 97, 110, 111, 116, 104, 101, 114]) = false) → P) → P) := fun P h1 h2 => by
        by_cases e : k = 1
        · exact h2 ⟨e, by simpa using fun h => hk ⟨e, h⟩⟩
        · exact h1 (beq_eq_false_iff_ne.2 e)
      clear ih hx hAt0 hk hp
      refine hloop.out _ (fun hk1 => ?_) (fun hk1 => ?_)
      all_goals
        first
          | (obtain ⟨hk2, hk3⟩ := hk1; subst hk2)
          | skip
        clear hloop
        go_enter Try.func41, Try.ntmps41
        go_wp2
        go_loopw [16] (fun i wr => ∃ (j : Nat), j ≤ xs.length ∧ i = .int .i64 (j : Int) ∧ Hid (hasXs [81, 117, 105, 116, 101, 95, 97, 110, 111, 116, 104, 101, 114] (xs.drop j) = hasXs [81, 117, 105, 116, 101, 95, 97, 110, 111, 116, 104, 101, 114] xs) ∧ Hid (Below w.heap.size w wr)) (fun i _ => xs.length - (intOf i).toNat)
        case atStart => exact ⟨0, by omega, rfl, (show _ = _ from rfl), hb0⟩
        case round =>
          clear hb0
          obtain ⟨j, hj, rfl, hq, hB⟩ := hrel
          by_cases hlt : j < xs.length
          · obtain ⟨b, o, k', n', m', aa, al, ac, rfl, d0, d1, d2, d3, hx⟩ := hAt.out j hlt
            have hbr := hB.out
            have hz := lt_of_cell d0
            have c0 := ((bcell hbr).1 b _ hz).trans d0
            have c1 := ((bcell hbr).1 b _ hz).trans d1
            have c2 := ((bcell hbr).1 b _ hz).trans d2
            have c3 := ((bcell hbr).1 b _ hz).trans d3
            have hzr : b < wr.heap.size := Nat.lt_of_lt_of_le hz hbr.size
            have hb2 := below_alloc wr (.cells #[.int .i64 k', .string n', .int .i64 m', .slice aa al ac] 48)
            have hbn := hid (Below.next hbr hb2)
            have hq2 : hasXs [81, 117, 105, 116, 101, 95, 97, 110, 111, 116, 104, 101, 114] (xs.drop j) = (hasX [81, 117, 105, 116, 101, 95, 97, 110, 111, 116, 104, 101, 114] (xs.getD j x0) || hasXs [81, 117, 105, 116, 101, 95, 97, 110, 111, 116, 104, 101, 114] (xs.drop (j + 1))) := by rw [drop_x hlt, hasXs]
            have hcall := IH.out _ (xs_at hlt) _ _ ((hx.next hbr).next hb2) (hpc.out _ (xs_at hlt))
            cases hy : hasX [81, 117, 105, 116, 101, 95, 97, 110, 111, 116, 104, 101, 114] (xs.getD j x0) with
            | true =>
              have hE2 : Hid (hasX [81, 117, 105, 116, 101, 95, 97, 110, 111, 116, 104, 101, 114] (.mk _ n m xs) = true) := show _ = _ by rw [hE.out, ← hq.out, hq2, hy]; rfl
              rw [hy] at hcall
              clear hq hq2 hx d0 d1 d2 d3 hz hB hb2 hbr hE
              go_wp2_with (go_at_call 41; refine hcall.mono ?_; rintro e w3 ⟨rfl, hb3⟩)
              go_ret
              exact ⟨ret_bool hE2.out.symm, Below.next hbn.out hb3⟩
            | false =>
              have hE2 : Hid (hasXs [81, 117, 105, 116, 101, 95, 97, 110, 111, 116, 104, 101, 114] (xs.drop (j + 1)) = hasXs [81, 117, 105, 116, 101, 95, 97, 110, 111, 116, 104, 101, 114] xs) := show _ = _ by rw [← hq.out, hq2, hy]; rfl
              rw [hy] at hcall
              clear hq hq2 hx d0 d1 d2 d3 hz hB hb2 hbr
              go_wp2_with (go_at_call 41; refine hcall.mono ?_; rintro e w3 ⟨rfl, hb3⟩)
              go_roundw
              case rel => exact ⟨j + 1, by omega, by go_num, hE2, Below.next hbn.out hb3⟩
              case measure => simp [intOf]; omega
          · obtain rfl : j = xs.length := by omega
            have hE2 : Hid (hasX [81, 117, 105, 116, 101, 95, 97, 110, 111, 116, 104, 101, 114] (.mk _ n m xs) = false) := show _ = _ by rw [hE.out, ← hq.out, List.drop_length, hasXs]
            clear hq hE
            go_wp2
            go_ret
            exact ⟨ret_bool hE2.out.symm, hB.out⟩
end Go.Proofs.Ytncileojdighnaa

namespace Go.Proofs.Ytncileojdighnaa
set_option maxRecDepth 100000
open Go.RowKit Go.Maps
abbrev qaS : ByteArray := ⟨#[81, 117, 105, 116, 101, 95, 97, 110, 111, 116, 104, 101, 114]⟩
theorem qaS_list : qaS.toList = [81, 117, 105, 116, 101, 95, 97, 110, 111, 116, 104, 101, 114] := by
  rw [ByteArray.toList_eq]
def occX (xs : List Ex) (qs : List (ByteArray × Ex)) : Bool := xs.any (hasX [81, 117, 105, 116, 101, 95, 97, 110, 111, 116, 104, 101, 114]) || qs.any (fun q => hasX [81, 117, 105, 116, 101, 95, 97, 110, 111, 116, 104, 101, 114] q.2)
theorem occX_x {xs : List Ex} {qs : List (ByteArray × Ex)} {j : Nat} (hj : j < xs.length) (h : hasX [81, 117, 105, 116, 101, 95, 97, 110, 111, 116, 104, 101, 114] (xs.getD j x0) = true) : occX xs qs = true := by
  have : xs.any (hasX [81, 117, 105, 116, 101, 95, 97, 110, 111, 116, 104, 101, 114]) = true := List.any_eq_true.2 ⟨_, xs_at hj, h⟩
  unfold occX
  rw [this]
  rfl
theorem occX_q {xs : List Ex} {qs : List (ByteArray × Ex)} {j : Nat} (hj : j < qs.length) (h : hasX [81, 117, 105, 116, 101, 95, 97, 110, 111, 116, 104, 101, 114] (qs.getD j q0).2 = true) : occX xs qs = true := by
  have : qs.any (fun q => hasX [81, 117, 105, 116, 101, 95, 97, 110, 111, 116, 104, 101, 114] q.2) = true := List.any_eq_true.2 ⟨qs.getD j q0, by simp [List.getD, hj], h⟩
  unfold occX
  rw [this, Bool.or_true]
theorem occX_no {xs : List Ex} {qs : List (ByteArray × Ex)} : occX xs qs = false ↔ (∀ x ∈ xs, hasX [81, 117, 105, 116, 101, 95, 97, 110, 111, 116, 104, 101, 114] x = false) ∧ ∀ q ∈ qs, hasX [81, 117, 105, 116, 101, 95, 97, 110, 111, 116, 104, 101, 114] q.2 = false := by
  unfold occX
  rw [Bool.or_eq_false_iff, List.any_eq_false, List.any_eq_false]
  simp
set_option maxHeartbeats 2000000 in
theorem occurs_any {w : World} {xv qv : Value} {xs : List Ex} {qs : List (ByteArray × Ex)} (hX : Rxs w xv xs) (hQ : Rqs w qv qs) (hlx : xs.length ≤ 1000) (hlq : qs.length ≤ 1000) (hpx : ∀ x ∈ xs, prtX x ≤ 100000) (hpq : ∀ q ∈ qs, prtX q.2 ≤ 100000) :
    Calls Try.prog 19 #[xv, qv] w fun e w' => e = .returned (.bool (occX xs qs)) ∧ Below w.heap.size w w' := by
  obtain ⟨xo, xc, rfl, hXa0⟩ := hX
  obtain ⟨qo, qc, rfl, hQa0⟩ := hQ
  have hXa := hid hXa0
  have hQa := hid hQa0
  have hPX := hid hpx
  have hPQ := hid hpq
  clear hXa0 hQa0 hpx hpq
  go_enter Try.func19, Try.ntmps19
  go_wp2
  go_loopw [11] (fun i wr => ∃ (j : Nat), j ≤ xs.length ∧ i = .int .i64 (j : Int) ∧ Hid (∀ i, i < j → hasX [81, 117, 105, 116, 101, 95, 97, 110, 111, 116, 104, 101, 114] (xs.getD i x0) = false) ∧ Hid (Below w.heap.size w wr)) (fun i _ => xs.length - (intOf i).toNat)
  case atStart => exact ⟨0, by omega, rfl, fun i hi => absurd hi (Nat.not_lt_zero _), Below.refl _ _⟩
  case round =>
    obtain ⟨j, hj, rfl, hno, hB⟩ := hrel
    by_cases hlt : j < xs.length
    · obtain ⟨b, o, k', n', m', aa, al, ac, rfl, d0, d1, d2, d3, hx⟩ := hXa.out j hlt
      have hbr := hB.out
      have hz := lt_of_cell d0
      have c0 := ((bcell hbr).1 b _ hz).trans d0
      have c1 := ((bcell hbr).1 b _ hz).trans d1
      have c2 := ((bcell hbr).1 b _ hz).trans d2
      have c3 := ((bcell hbr).1 b _ hz).trans d3
      have hzr : b < wr.heap.size := Nat.lt_of_lt_of_le hz hbr.size
      have hb2 := below_alloc wr (.cells #[.int .i64 k', .string n', .int .i64 m', .slice aa al ac] 48)
      have hbn := hid (Below.next hbr hb2)
      have hcall := within_any _ _ _ ((hx.next hbr).next hb2) (hPX.out _ (xs_at hlt))
      obtain ⟨⟨t0, t1, t2, t3⟩, _⟩ := xblk (heap_alloc_new wr (.cells #[.int .i64 k', .string n', .int .i64 m', .slice aa al ac] 48))
      cases hy : hasX [81, 117, 105, 116, 101, 95, 97, 110, 111, 116, 104, 101, 114] (xs.getD j x0) with
      | true =>
        have hE := hid (occX_x (qs := qs) hlt hy)
        rw [hy] at hcall
        clear hx d0 d1 d2 d3 hz hB hb2 hbr hno hy
        go_wp2_with (go_at_call 41; refine hcall.mono ?_; rintro e w3 ⟨rfl, hb3⟩)
        go_ret
        exact ⟨ret_bool hE.out.symm, Below.next hbn.out hb3⟩
      | false =>
        have hno2 : Hid (∀ i, i < j + 1 → hasX [81, 117, 105, 116, 101, 95, 97, 110, 111, 116, 104, 101, 114] (xs.getD i x0) = false) := fun i hi => by
          by_cases e : i < j
          · exact hno.out i e
          · obtain rfl : i = j := by omega
            exact hy
        rw [hy] at hcall
        clear hx d0 d1 d2 d3 hz hB hb2 hbr hno hy
        go_wp2_with (go_at_call 41; refine hcall.mono ?_; rintro e w3 ⟨rfl, hb3⟩)
        go_roundw
        case rel => exact ⟨j + 1, by omega, by go_num, hno2, Below.next hbn.out hb3⟩
        case measure => simp [intOf]; omega
    · obtain rfl : j = xs.length := by omega
      obtain ⟨w9, hw9⟩ : ∃ w9, w9 = wr := ⟨_, rfl⟩
      subst hw9
      have hB9 := hB
      have hno9 := hno
      clear hB hno
      go_wp2
      go_loopw [20] (fun i wr => ∃ (j : Nat), j ≤ qs.length ∧ i = .int .i64 (j : Int) ∧ Hid (∀ i, i < j → hasX [81, 117, 105, 116, 101, 95, 97, 110, 111, 116, 104, 101, 114] (qs.getD i q0).2 = false) ∧ Hid (Below w.heap.size w wr)) (fun i _ => qs.length - (intOf i).toNat)
      case atStart => exact ⟨0, by omega, rfl, fun i hi => absurd hi (Nat.not_lt_zero _), hB9⟩
      case round =>
        clear hB9
        obtain ⟨j, hj, rfl, hno, hB⟩ := hrel
        by_cases hlt : j < qs.length
        · obtain ⟨b, o, k', n', m', aa, al, ac, rfl, d0, d1, d2, d3, d4, hx⟩ := hQa.out j hlt
          have hbr := hB.out
          have hz := lt_of_cell d0
          have c0 := ((bcell hbr).1 b _ hz).trans d0
          have c1 := ((bcell hbr).1 b _ hz).trans d1
          have c2 := ((bcell hbr).1 b _ hz).trans d2
          have c3 := ((bcell hbr).1 b _ hz).trans d3
          have c4 := ((bcell hbr).1 b _ hz).trans d4
          have hzr : b < wr.heap.size := Nat.lt_of_lt_of_le hz hbr.size
          have hb2 := below_alloc wr (.cells #[.string (qs.getD j q0).1, .int .i64 k', .string n', .int .i64 m', .slice aa al ac] 51)
          have hbn := hid (Below.next hbr hb2)
          have hcall := within_any _ _ _ ((hx.next hbr).next hb2) (hPQ.out (qs.getD j q0) (by simp [List.getD, hlt]))
          obtain ⟨t0, t1, t2, t3, t4⟩ := (tblk5 (heap_alloc_new wr (.cells #[.string (qs.getD j q0).1, .int .i64 k', .string n', .int .i64 m', .slice aa al ac] 51))).1
          cases hy : hasX [81, 117, 105, 116, 101, 95, 97, 110, 111, 116, 104, 101, 114] (qs.getD j q0).2 with
          | true =>
            have hE := hid (occX_q (xs := xs) hlt hy)
            rw [hy] at hcall
            clear hx d0 d1 d2 d3 d4 hz hB hb2 hbr hno hno9 hy
            generalize (qs.getD j q0).1 = qn at *
            go_wp2_with (go_at_call 41; refine hcall.mono ?_; rintro e w3 ⟨rfl, hb3⟩)
            go_ret
            exact ⟨ret_bool hE.out.symm, Below.next hbn.out hb3⟩
          | false =>
            have hno2 : Hid (∀ i, i < j + 1 → hasX [81, 117, 105, 116, 101, 95, 97, 110, 111, 116, 104, 101, 114] (qs.getD i q0).2 = false) := fun i hi => by
              by_cases e : i < j
              · exact hno.out i e
              · obtain rfl : i = j := by omega
                exact hy
            rw [hy] at hcall
            clear hx d0 d1 d2 d3 d4 hz hB hb2 hbr hno hno9 hy
            generalize (qs.getD j q0).1 = qn at *
            go_wp2_with (go_at_call 41; refine hcall.mono ?_; rintro e w3 ⟨rfl, hb3⟩)
            go_roundw
            case rel => exact ⟨j + 1, by omega, by go_num, hno2, Below.next hbn.out hb3⟩
            case measure => simp [intOf]; omega
        · obtain rfl : j = qs.length := by omega
          have hE : Hid (occX xs qs = false) := occX_no.2 ⟨fun x hx => by
            obtain ⟨i, hi, rfl⟩ := List.getElem_of_mem hx
            have := hno9.out i hi
            simpa [List.getD, hi] using this, fun q hq => by
            obtain ⟨i, hi, rfl⟩ := List.getElem_of_mem hq
            have := hno.out i hi
            simpa [List.getD, hi] using this⟩
          clear hno hno9
          go_wp2
          go_ret
          exact ⟨ret_bool hE.out.symm, hB.out⟩
end Go.Proofs.Ytncileojdighnaa
