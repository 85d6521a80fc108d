/- What the reference's Read does, at every text: the good word whose text it is, or a fault. -/
import Derived.Test.YtpmpdbdblfgpcaaDoorRRead1
import Derived.Test.YtpmpdbdblfgpcaaDoorRRead2
import Derived.Test.YtpmpdbdblfgpcaaDoorRRead3
import Derived.Test.YtpmpdbdblfgpcaaDoorRRead4
import Derived.Test.YtpmpdbdblfgpcaaDoorRMath
import Derived.Test.YtpmpdbdblfgpcaaDoorReadR
namespace Go.Proofs.YtpmpdbdblfgpcaaDoor
open Go.RowKit

theorem bef_ne (c : UInt8) : ∀ (l : List UInt8) (j : Nat) (x : UInt8), j < (bef c l).length → l[j]? = some x → x ≠ c
  | [], j, x, h, _ => by simp [bef] at h
  | a :: l, j, x, h, hx => by
    unfold bef at h
    rw [List.takeWhile_cons] at h
    by_cases ha : (a != c) = true
    · rw [ha, if_pos rfl] at h
      cases j with
      | zero =>
        simp at hx
        subst hx
        simpa using ha
      | succ j => exact bef_ne c l j x (by unfold bef; simpa using h) (by simpa using hx)
    · rw [if_neg ha] at h
      simp at h
theorem bef_end (c : UInt8) : ∀ (l : List UInt8) (x : UInt8), l[(bef c l).length]? = some x → x = c
  | [], x, h => by simp at h
  | a :: l, x, h => by
    have ih := bef_end c l x
    unfold bef at h ih
    rw [List.takeWhile_cons] at h
    by_cases ha : (a != c) = true
    · rw [ha, if_pos rfl] at h
      exact ih (by simpa using h)
    · rw [if_neg ha] at h
      simp at h
      subst h
      simpa using ha
theorem bef_mem (c : UInt8) : ∀ l : List UInt8, c ∈ l ↔ (bef c l).length < l.length
  | [] => by simp [bef]
  | a :: l => by
    have ih := bef_mem c l
    unfold bef at ih ⊢
    rw [List.takeWhile_cons]
    by_cases ha : a = c
    · subst ha; simp
    · have : (a != c) = true := by simpa using ha
      rw [this, if_pos rfl]
      simp [ih, Ne.symm ha]
theorem bef_take (c : UInt8) : ∀ l : List UInt8, l.take (bef c l).length = bef c l
  | [] => rfl
  | a :: l => by
    have ih := bef_take c l
    unfold bef at ih ⊢
    rw [List.takeWhile_cons]
    split
    · simp [ih]
    · simp
theorem beh_drop (c : UInt8) : ∀ l : List UInt8, l.drop ((bef c l).length + 1) = beh c l
  | [] => rfl
  | a :: l => by
    have ih := beh_drop c l
    unfold bef beh at ih ⊢
    rw [List.takeWhile_cons, List.dropWhile_cons]
    split
    · simpa using ih
    · simp
theorem firstAt_bef (s : ByteArray) (c : UInt8) : FirstAt s c.toNat (bef c s.data.toList).length := by
  have e : s.data.toList.length = s.size := by simp
  refine ⟨by rw [← e]; exact bef_len c _, fun j h hj => ?_, fun h => ?_⟩
  · intro hc
    exact bef_ne c _ j s[j] hj (byte_at s j h) (UInt8.toNat_inj.1 hc)
  · exact congrArg UInt8.toNat (bef_end c _ _ (byte_at s _ h))
theorem num_same (l : List UInt8) : numOf l = numV l := rfl
theorem numV_lt (l : List UInt8) (m : Nat) (h : numV l = some m) : m < 1000000000000000000 := numOf_lt l m h
theorem read_of_ref (l : List UInt8) (h : refVal l = none) : readOf l = none := by
  cases hr : readOf l with
  | none => rfl
  | some x =>
    obtain ⟨hg, ht, _⟩ := read_some l x hr
    rw [← ht, ref_text x hg] at h
    cases h
/-- What Read answers, as values. -/
def readV (l : List UInt8) : Value :=
  match readOf l with
  | some x => .tuple #[.int .u64 x, noV]
  | none => .tuple #[.int .u64 0, ofV 12]
theorem readV_none (l : List UInt8) (h : readOf l = none) : readV l = .tuple #[.int .u64 0, ofV 12] := by unfold readV; rw [h]
theorem miss_all (s : ByteArray) (v : Int) (h : readOf s.data.toList = none) : ∀ t : Int, 0 ≤ t → t ≤ 5 → fitsB t v = true → (textOf (wordOf t v) == s.toList) = false := by
  intro t h0 h5 hf
  rw [beq_eq_false_iff_ne, ByteArray.toList_eq]
  intro e
  have hb := wordOf_bd t v
  rw [← e, read_text _ hb.1 hb.2 (wordOf_good t v hf)] at h
  cases h
theorem hit_one (s : ByteArray) (v x : Int) (hv : refVal s.data.toList = some v) (h : readOf s.data.toList = some x) :
    0 ≤ x % 8 ∧ x % 8 ≤ 5 ∧ fitsB (x % 8) v = true ∧ (textOf (wordOf (x % 8) v) == s.toList) = true ∧ wordOf (x % 8) v = x ∧ ∀ t : Int, 0 ≤ t → t < x % 8 → fitsB t v = true → (textOf (wordOf t v) == s.toList) = false := by
  obtain ⟨hg, ht, h0, h1⟩ := read_some _ x h
  rw [← ht, ref_text x hg] at hv
  injection hv with hv
  subst hv
  have hw := wordOf_back x h0 h1
  have hf := fits_tag _ _ hg
  refine ⟨hf.1, hf.2, hg, ?_, hw, fun t t0 tD tf => ?_⟩
  · rw [hw, ht, ByteArray.toList_eq]; simp
  · rw [beq_eq_false_iff_ne, ByteArray.toList_eq]
    intro e
    have hb := wordOf_bd t (valOf x)
    rw [← e, read_text _ hb.1 hb.2 (wordOf_good t _ tf)] at h
    injection h with h
    have := wordOf_tag t (valOf x) t0 (by omega)
    rw [h] at this
    omega
theorem size_le {s : ByteArray} {k j : Nat} (h : s.size ≤ 281474976710656) : (s.extract k j).size ≤ 281474976710656 := by
  simp; omega
theorem ex_drop (s : ByteArray) (k : Nat) : (s.extract k s.size).data.toList = s.data.toList.drop k := by rw [extract_drop]
theorem ex_take (s : ByteArray) (k : Nat) : (s.extract 0 k).data.toList = s.data.toList.take k := by rw [extract_take]
theorem dec_t {m n : Nat} (h : m < n) : decide ((m : Int) < (n : Int)) = true := by simpa using h
theorem dec_f {m n : Nat} (h : ¬ m < n) : decide ((m : Int) < (n : Int)) = false := by simp; omega
/-- The way through Read behind the sign (pos). -/
theorem rr_pos (s : ByteArray) (w : World) (P : Nat) (hs : s.size ≤ 281474976710656) (hP : FirstAt s 32 P) (hp : P < s.size) (R : ByteArray) (hR : s.extract (P + 1) s.size = R) (hRs : R.size ≤ 281474976710656)
    (hn0 : 0 < R.size) (hn : ((R[0].toNat : Int) == 45) = false)
    (hv : refVal s.data.toList = (tailVal R.data.toList).map fun (n : Nat) => (n : Int)) :
    Calls Tryd.prog 28 #[.string s] w fun e w' => e = .returned (readV s.data.toList) ∧ Below w.heap.size w w' := by
  have hQ := firstAt_bef R 47
  generalize hQe : (bef 47 R.data.toList).length = Q at hQ
  have hA : (R.extract 0 Q).data.toList = bef 47 R.data.toList := by rw [ex_take, ← hQe, bef_take]
  have hAs : (R.extract 0 Q).size ≤ 281474976710656 := size_le hRs
  have hmem := bef_mem 47 R.data.toList
  rw [hQe, show R.data.toList.length = R.size by simp] at hmem
  unfold tailVal at hv
  rw [← hA] at hv
  cases hm : numV (R.extract 0 Q).data.toList with
  | none =>
    rw [hm] at hv
    rw [readV_none _ (read_of_ref _ hv)]
    by_cases hq : Q < R.size
    · exact rr_pos_fa_sl s w P hs hP hp R hR hRs hn0 hn Q hQ hq _ rfl hAs hm
    · exact rr_pos_fa_ns s w P hs hP hp R hR hRs hn0 hn Q hQ (by omega) hQ.1 _ rfl hAs hm
  | some m =>
    have hmb := numV_lt _ m hm
    rw [hm] at hv
    simp only at hv
    by_cases hq : Q < R.size
    · have hB : (R.extract (Q + 1) R.size).data.toList = beh 47 R.data.toList := by rw [ex_drop, ← hQe, beh_drop]
      have hBs : (R.extract (Q + 1) R.size).size ≤ 281474976710656 := size_le hRs
      rw [if_pos (hmem.2 hq), ← hB] at hv
      cases hk : numV (R.extract (Q + 1) R.size).data.toList with
      | none =>
        rw [hk] at hv
        rw [readV_none _ (read_of_ref _ hv)]
        exact rr_pos_fb s w P hs hP hp R hR hRs hn0 hn Q hQ hq _ rfl m hm hmb _ rfl hBs hk
      | some k =>
        have hkb := numV_lt _ k hk
        rw [hk] at hv
        simp only at hv
        by_cases hlm : m < 1024
        · by_cases hlk : k < 16
          · rw [if_pos ⟨hlm, hlk⟩] at hv
            simp only [Option.map_some] at hv
            rw [show ((16 * m + k : Nat) : Int) = 16 * (m : Int) + (k : Int) by omega] at hv
            cases hr : readOf s.data.toList with
            | none =>
              rw [readV_none _ hr]
              exact rr_pos_sl_miss s w P hs hP hp R hR hRs hn0 hn Q hQ hq _ rfl m hm hmb _ rfl k hk hkb (dec_t hlm) (dec_t hlk) hlm hlk (miss_all s _ hr)
            | some x =>
              obtain ⟨d0, d5, df, dt, dw, dm⟩ := hit_one s _ x hv hr
              have e : readV s.data.toList = .tuple #[.int .u64 (wordOf (x % 8) (16 * (m : Int) + (k : Int))), noV] := by unfold readV; rw [hr, dw]
              rw [e]
              exact rr_pos_sl_hit s w P hs hP hp R hR hRs hn0 hn Q hQ hq _ rfl m hm hmb _ rfl k hk hkb (dec_t hlm) (dec_t hlk) hlm hlk _ d0 d5 df dt dm
          · rw [if_neg (by omega)] at hv
            rw [readV_none _ (read_of_ref _ hv)]
            exact rr_pos_bigk s w P hs hP hp R hR hRs hn0 hn Q hQ hq _ rfl m hm hmb _ rfl k hk hkb (dec_t hlm) (dec_f hlk)
        · rw [if_neg (by omega)] at hv
          rw [readV_none _ (read_of_ref _ hv)]
          exact rr_pos_big s w P hs hP hp R hR hRs hn0 hn Q hQ hq _ rfl m hm hmb _ rfl k hk hkb (dec_f hlm)
    · rw [if_neg (fun h => hq (hmem.1 h))] at hv
      simp only [Option.map_some] at hv
      cases hr : readOf s.data.toList with
      | none =>
        rw [readV_none _ hr]
        exact rr_pos_ns_miss s w P hs hP hp R hR hRs hn0 hn Q hQ (by omega) hQ.1 _ rfl m hm hmb (miss_all s _ hr)
      | some x =>
        obtain ⟨d0, d5, df, dt, dw, dm⟩ := hit_one s _ x hv hr
        have e : readV s.data.toList = .tuple #[.int .u64 (wordOf (x % 8) (m : Int)), noV] := by unfold readV; rw [hr, dw]
        rw [e]
        exact rr_pos_ns_hit s w P hs hP hp R hR hRs hn0 hn Q hQ (by omega) hQ.1 _ rfl m hm hmb _ d0 d5 df dt dm
/-- The way through Read behind the sign (neg). -/
theorem rr_neg (s : ByteArray) (w : World) (P : Nat) (hs : s.size ≤ 281474976710656) (hP : FirstAt s 32 P) (hp : P < s.size) (R : ByteArray) (hR : s.extract (P + 1) s.size = R) (hRs : R.size ≤ 281474976710656)
    (hn0 : 0 < R.size) (hn : ((R[0].toNat : Int) == 45) = true) (X : ByteArray) (hX : R.extract 1 R.size = X) (hXs : X.size ≤ 281474976710656)
    (hv : refVal s.data.toList = (tailVal X.data.toList).map fun (n : Nat) => -(n : Int)) :
    Calls Tryd.prog 28 #[.string s] w fun e w' => e = .returned (readV s.data.toList) ∧ Below w.heap.size w w' := by
  have hQ := firstAt_bef X 47
  generalize hQe : (bef 47 X.data.toList).length = Q at hQ
  have hA : (X.extract 0 Q).data.toList = bef 47 X.data.toList := by rw [ex_take, ← hQe, bef_take]
  have hAs : (X.extract 0 Q).size ≤ 281474976710656 := size_le hXs
  have hmem := bef_mem 47 X.data.toList
  rw [hQe, show X.data.toList.length = X.size by simp] at hmem
  unfold tailVal at hv
  rw [← hA] at hv
  cases hm : numV (X.extract 0 Q).data.toList with
  | none =>
    rw [hm] at hv
    rw [readV_none _ (read_of_ref _ hv)]
    by_cases hq : Q < X.size
    · exact rr_neg_fa_sl s w P hs hP hp R hR hRs hn0 hn X hX hXs Q hQ hq _ rfl hAs hm
    · exact rr_neg_fa_ns s w P hs hP hp R hR hRs hn0 hn X hX hXs Q hQ (by omega) hQ.1 _ rfl hAs hm
  | some m =>
    have hmb := numV_lt _ m hm
    rw [hm] at hv
    simp only at hv
    by_cases hq : Q < X.size
    · have hB : (X.extract (Q + 1) X.size).data.toList = beh 47 X.data.toList := by rw [ex_drop, ← hQe, beh_drop]
      have hBs : (X.extract (Q + 1) X.size).size ≤ 281474976710656 := size_le hXs
      rw [if_pos (hmem.2 hq), ← hB] at hv
      cases hk : numV (X.extract (Q + 1) X.size).data.toList with
      | none =>
        rw [hk] at hv
        rw [readV_none _ (read_of_ref _ hv)]
        exact rr_neg_fb s w P hs hP hp R hR hRs hn0 hn X hX hXs Q hQ hq _ rfl m hm hmb _ rfl hBs hk
      | some k =>
        have hkb := numV_lt _ k hk
        rw [hk] at hv
        simp only at hv
        by_cases hlm : m < 1024
        · by_cases hlk : k < 16
          · rw [if_pos ⟨hlm, hlk⟩] at hv
            simp only [Option.map_some] at hv
            rw [show ((16 * m + k : Nat) : Int) = 16 * (m : Int) + (k : Int) by omega] at hv
            cases hr : readOf s.data.toList with
            | none =>
              rw [readV_none _ hr]
              exact rr_neg_sl_miss s w P hs hP hp R hR hRs hn0 hn X hX hXs Q hQ hq _ rfl m hm hmb _ rfl k hk hkb (dec_t hlm) (dec_t hlk) hlm hlk (miss_all s _ hr)
            | some x =>
              obtain ⟨d0, d5, df, dt, dw, dm⟩ := hit_one s _ x hv hr
              have e : readV s.data.toList = .tuple #[.int .u64 (wordOf (x % 8) (-(16 * (m : Int) + (k : Int)))), noV] := by unfold readV; rw [hr, dw]
              rw [e]
              exact rr_neg_sl_hit s w P hs hP hp R hR hRs hn0 hn X hX hXs Q hQ hq _ rfl m hm hmb _ rfl k hk hkb (dec_t hlm) (dec_t hlk) hlm hlk _ d0 d5 df dt dm
          · rw [if_neg (by omega)] at hv
            rw [readV_none _ (read_of_ref _ hv)]
            exact rr_neg_bigk s w P hs hP hp R hR hRs hn0 hn X hX hXs Q hQ hq _ rfl m hm hmb _ rfl k hk hkb (dec_t hlm) (dec_f hlk)
        · rw [if_neg (by omega)] at hv
          rw [readV_none _ (read_of_ref _ hv)]
          exact rr_neg_big s w P hs hP hp R hR hRs hn0 hn X hX hXs Q hQ hq _ rfl m hm hmb _ rfl k hk hkb (dec_f hlm)
    · rw [if_neg (fun h => hq (hmem.1 h))] at hv
      simp only [Option.map_some] at hv
      cases hr : readOf s.data.toList with
      | none =>
        rw [readV_none _ hr]
        exact rr_neg_ns_miss s w P hs hP hp R hR hRs hn0 hn X hX hXs Q hQ (by omega) hQ.1 _ rfl m hm hmb (miss_all s _ hr)
      | some x =>
        obtain ⟨d0, d5, df, dt, dw, dm⟩ := hit_one s _ x hv hr
        have e : readV s.data.toList = .tuple #[.int .u64 (wordOf (x % 8) (-(m : Int))), noV] := by unfold readV; rw [hr, dw]
        rw [e]
        exact rr_neg_ns_hit s w P hs hP hp R hR hRs hn0 hn X hX hXs Q hQ (by omega) hQ.1 _ rfl m hm hmb _ d0 d5 df dt dm
/-- The reference's Read at every text. -/
theorem rread_any (s : ByteArray) (w : World) (hs : s.size ≤ 281474976710656) :
    Calls Tryd.prog 28 #[.string s] w fun e w' => e = .returned (readV s.data.toList) ∧ Below w.heap.size w w' := by
  have hP := firstAt_bef s 32
  generalize hPe : (bef 32 s.data.toList).length = P at hP
  have hmem := bef_mem 32 s.data.toList
  rw [hPe, show s.data.toList.length = s.size by simp] at hmem
  by_cases hp : P < s.size
  · have hR : (s.extract (P + 1) s.size).data.toList = beh 32 s.data.toList := by rw [ex_drop, ← hPe, beh_drop]
    have hRs : (s.extract (P + 1) s.size).size ≤ 281474976710656 := size_le hs
    have hv : refVal s.data.toList = if (beh 32 s.data.toList).head? = some 45 then (tailVal (beh 32 s.data.toList).tail).map fun (n : Nat) => -(n : Int) else (tailVal (beh 32 s.data.toList)).map fun (n : Nat) => (n : Int) := by
      unfold refVal; rw [if_pos (hmem.2 hp)]
    rw [← hR] at hv
    generalize hRe : s.extract (P + 1) s.size = R at hR hRs hv
    by_cases h0 : 0 < R.size
    · have hh : R.data.toList.head? = some R[0] := by rw [List.head?_eq_getElem?]; exact byte_at R 0 h0
      by_cases hn : R[0] = 45
      · rw [hh, hn, if_pos rfl] at hv
        have hX : (R.extract 1 R.size).data.toList = R.data.toList.tail := by rw [ex_drop]; simp
        rw [← hX] at hv
        exact rr_neg s w P hs hP hp R hRe hRs h0 (by rw [hn]; rfl) _ rfl (size_le hRs) hv
      · rw [hh, if_neg (fun e => hn (Option.some.inj e))] at hv
        refine rr_pos s w P hs hP hp R hRe hRs h0 ?_ hv
        rw [beq_eq_false_iff_ne]
        intro e
        exact hn (UInt8.toNat_inj.1 (by simpa using Int.ofNat.inj e))
    · have hl : R.data.toList = [] := by
        have : R.data.toList.length = R.size := by simp
        exact List.length_eq_zero_iff.1 (by omega)
      rw [hl] at hv
      have hv' : refVal s.data.toList = none := hv
      rw [readV_none _ (read_of_ref _ hv')]
      have hQ := firstAt_bef R 47
      rw [hl] at hQ
      refine rr_emp s w P hs hP hp R hRe hRs (by omega) 0 hQ (by omega) (by omega) _ rfl (size_le hRs) ?_
      rw [ex_take]
      rfl
  · have hv : refVal s.data.toList = none := by unfold refVal; rw [if_neg (fun h => hp (hmem.1 h))]
    rw [readV_none _ (read_of_ref _ hv)]
    exact rr_nosp s w P hs hP (by omega) hP.1
end Go.Proofs.YtpmpdbdblfgpcaaDoor
