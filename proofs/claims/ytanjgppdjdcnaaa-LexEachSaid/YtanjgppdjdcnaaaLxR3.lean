/- whole of layer 6's reference: the number that a text writes. -/
import Derived.Test.YtanjgppdjdcnaaaLxR2
import Derived.Test.YtanjgppdjdcnaaaLxTok2
namespace Go.Proofs.Ytanjgppdjdcnaaa
open Go.RowKit

theorem foldl_ge (r : List UInt8) : ∀ c : Nat, c * 10 ^ r.length ≤ r.foldl (fun n b => 10 * n + (b.toNat - 48)) c := by
  induction r with
  | nil => intro c; simp
  | cons b r ih =>
    intro c
    rw [List.foldl_cons, List.length_cons, Nat.pow_succ]
    have h := ih (10 * c + (b.toNat - 48))
    have e : c * (10 ^ r.length * 10) = (10 * c) * 10 ^ r.length := by rw [Nat.mul_comm (10 ^ r.length) 10, ← Nat.mul_assoc, Nat.mul_comm c 10]
    rw [e]
    exact Nat.le_trans (Nat.mul_le_mul_right _ (Nat.le_add_right _ _)) h
theorem foldl_lt (r : List UInt8) : ∀ c : Nat, digs r = true → r.foldl (fun n b => 10 * n + (b.toNat - 48)) c < (c + 1) * 10 ^ r.length := by
  induction r with
  | nil => intro c _; simp
  | cons b r ih =>
    intro c hd
    simp only [digs, List.all_cons, Bool.and_eq_true, decide_eq_true_eq] at hd
    rw [List.foldl_cons, List.length_cons, Nat.pow_succ]
    have h := ih (10 * c + (b.toNat - 48)) hd.2
    have e : (c + 1) * (10 ^ r.length * 10) = (10 * (c + 1)) * 10 ^ r.length := by rw [Nat.mul_comm (10 ^ r.length) 10, ← Nat.mul_assoc, Nat.mul_comm (c + 1) 10]
    rw [e]
    exact Nat.lt_of_lt_of_le h (Nat.mul_le_mul_right _ (by omega))
theorem val_lt {l : List UInt8} (h : digs l = true) (hl : l.length ≤ 16) : val l < 10000000000000000 := by
  have h1 := foldl_lt l 0 h
  have h2 : 10 ^ l.length ≤ 10 ^ 16 := Nat.pow_le_pow_right (by decide) hl
  have h3 : (10 : Nat) ^ 16 = 10000000000000000 := by decide
  unfold val
  omega
theorem long_no {l : List UInt8} (h : 16 < l.length) : numOk l = false := by
  cases hk : numOk l with
  | false => rfl
  | true =>
    exfalso
    simp only [numOk, Bool.and_eq_true, Bool.not_eq_true', Bool.and_eq_false_iff, decide_eq_false_iff_not, decide_eq_true_eq] at hk
    obtain ⟨⟨⟨h1, h2⟩, h3⟩, h4⟩ := hk
    cases l with
    | nil => simp at h
    | cons b r =>
      have hb : b ≠ 48 := by
        rcases h4 with h4 | h4
        · exact fun e => h4 (by rw [e]; rfl)
        · exact absurd (by omega) h4
      have hd : 48 ≤ b.toNat ∧ b.toNat ≤ 57 := by
        simp only [digs, List.all_cons, Bool.and_eq_true, decide_eq_true_eq] at h1
        exact h1.1
      have hb2 : b.toNat ≠ 48 := fun e => hb (UInt8.toNat_inj.1 e)
      have h5 := foldl_ge r (b.toNat - 48)
      have e : val (b :: r) = r.foldl (fun n b => 10 * n + (b.toNat - 48)) (b.toNat - 48) := by
        unfold val
        rw [List.foldl_cons]
        simp
      rw [e] at h2
      have h6 : 10 ^ 16 ≤ 10 ^ r.length := Nat.pow_le_pow_right (by decide) (by simp at h; omega)
      have h7 : (b.toNat - 48) * 10 ^ r.length ≥ 1 * 10 ^ r.length := Nat.mul_le_mul_right _ (by omega)
      have h8 : (10 : Nat) ^ 16 = 10000000000000000 := by decide
      unfold maxI at h2
      omega
theorem zero_no {d : ByteArray} (h0 : 0 < d.size) (hz : d[0].toNat = 48) (hl : 1 < d.size) : numOk d.data.toList = false := by
  have hhead : d.data.toList.head? = some d[0] := by
    rw [List.head?_eq_getElem?, List.getElem?_eq_getElem (by simp; omega)]
    rfl
  have e0 : d[0] = 48 := UInt8.toNat_inj.1 hz
  simp [numOk, hhead, e0]
  intros
  simpa using hl
theorem num_end {d : ByteArray} (h0 : 0 < d.size) (hz : d[0].toNat = 48 → d.size ≤ 1) {k : Nat} (hk : d.size ≤ k) (h1 : digs (d.data.toList.take k) = true) : numOk d.data.toList = decide (val (d.data.toList.take k) ≤ 1125899906842624) ∧ val (d.data.toList.take k) = val d.data.toList := by
  rw [List.take_of_length_le (by simpa using hk)] at h1 ⊢
  have hhead : d.data.toList.head? = some d[0] := by
    rw [List.head?_eq_getElem?, List.getElem?_eq_getElem (by simp; omega)]
    rfl
  have h3 : (decide (d.data.toList.head? = some 48) && decide (1 < d.data.toList.length)) = false := by
    by_cases h : d.data.toList.head? = some 48
    · have e : d[0] = 48 := by rw [hhead] at h; exact Option.some.inj h
      have := hz (by rw [e]; rfl)
      simp
      intro _
      exact this
    · simp [h]
  have h4 : decide (1 ≤ d.data.toList.length) = true := by simp; omega
  refine ⟨?_, rfl⟩
  simp only [numOk, h1, h3, h4, maxI, Bool.true_and, Bool.and_true, Bool.not_false]
  rfl
theorem zero_val {d : ByteArray} (h0 : d.size = 1) (hz : d[0].toNat = 48) : val d.data.toList = 0 := by
  have e : d.data.toList = [d[0]] := by
    apply List.ext_getElem
    · simp; exact h0
    · intro i h1 h2
      have : i = 0 := by simp at h2; omega
      subst this
      rfl
  rw [e]
  simp only [val, List.foldl_cons, List.foldl_nil, hz]
theorem val_zero {d : ByteArray} (h0 : 0 < d.size) (hk : numOk d.data.toList = true) (hz : d[0].toNat ≠ 48) : val d.data.toList ≠ 0 := by
  obtain ⟨b, r, e⟩ : ∃ b r, d.data.toList = b :: r := by
    cases hd : d.data.toList with
    | nil =>
      have h1 : d.data.toList.length = 0 := by rw [hd]; rfl
      have h2 : d.data.toList.length = d.size := by simp
      omega
    | cons b r => exact ⟨b, r, rfl⟩
  have hb : b = d[0] := by
    have : d.data.toList.head? = some d[0] := by
      rw [List.head?_eq_getElem?, List.getElem?_eq_getElem (by simp; omega)]
      rfl
    rw [e] at this
    exact Option.some.inj this
  simp only [numOk, Bool.and_eq_true] at hk
  have h1 := hk.1.1.1
  rw [e] at h1 ⊢
  simp only [digs, List.all_cons, Bool.and_eq_true, decide_eq_true_eq] at h1
  have h2 := foldl_le r (b.toNat - 48)
  have e2 : val (b :: r) = r.foldl (fun n b => 10 * n + (b.toNat - 48)) (b.toNat - 48) := by
    unfold val
    rw [List.foldl_cons]
    simp
  rw [e2]
  rw [← hb] at hz
  omega
/-- Is it one behind a sign? -/
def negOk (l : List UInt8) : Bool := numOk l && decide (val l ≠ 0)
theorem ret_ib {a b : Int} {x y : Bool} (h : a = b) (k : x = y) : Ending.returned (.tuple #[.int .i64 a, .bool x]) = .returned (.tuple #[.int .i64 b, .bool y]) := by rw [h, k]
set_option maxHeartbeats 2000000 in
theorem whole_pos (d : ByteArray) (w : World) (hs : d.size ≤ 281474976710656) (hd0 : 0 < d.size) (hf : d[0].toNat ≠ 45) :
    Calls Try.prog 38 #[.string d] w fun e w' => (∃ n : Int, e = .returned (.tuple #[.int .i64 n, .bool (numOk d.data.toList)]) ∧ (numOk d.data.toList = true → n = (val d.data.toList : Int))) ∧ w' = w := by
  have ef : (((d[0].toNat : Nat) : Int) == 45) = false := beq_eq_false_iff_ne.2 (by omega)
  clear hf
  have ez : ((d.size : Int) == 0) = false := beq_eq_false_iff_ne.2 (by omega)
  by_cases hlong : 16 < d.size
  · have hzz := long_no (l := d.data.toList) (by simpa using hlong)
    have hN : Hid (false = numOk d.data.toList) := by show _ = _; rw [hzz]
    clear hzz
    go_enter Try.func38, Try.ntmps38
    go_wp2
    go_ret2
    exact ⟨⟨0, ret_ib rfl hN.out, fun h => absurd (hN.out.trans h) (by decide)⟩, rfl⟩
  · by_cases hz : d[0].toNat = 48
    · have eh : (((d[0].toNat : Nat) : Int) == 48) = true := by simp [hz]
      by_cases h1 : 1 < d.size
      · have hzz := zero_no hd0 hz h1
        clear hz
        have hN : Hid (false = numOk d.data.toList) := by show _ = _; rw [hzz]
        clear hzz
        go_enter Try.func38, Try.ntmps38
        go_wp2
        go_ret2
        exact ⟨⟨0, ret_ib rfl hN.out, fun h => absurd (hN.out.trans h) (by decide)⟩, rfl⟩
      · have hz0 : d[0].toNat = 48 → d.size ≤ 1 := fun _ => by omega
        clear hz
        go_enter Try.func38, Try.ntmps38
        go_wp2
        go_loop [5, 6] (fun n i => ∃ k V : Nat, k ≤ d.size ∧ i = .int .i64 k ∧ n = .int .i64 V ∧ Hid (V = val (d.data.toList.take k)) ∧ Hid (digs (d.data.toList.take k) = true) ∧ V < 10000000000000000) (fun _ i => d.size - (intOf i).toNat)
        case atStart => exact ⟨0, 0, by omega, rfl, rfl, rfl, rfl, by omega⟩
        case round =>
          obtain ⟨k, V, hk, rfl, rfl, hV, hD, hM⟩ := hrel
          by_cases hlt : k < d.size
          · have hc := rdigit_any d[k].toNat w
            by_cases h5 : kb d[k].toNat = 5
            · have hb := (kb_5 _).1 h5
              have hb1 : 48 ≤ (d[k].toNat : Int) := by omega
              have hb2 : (d[k].toNat : Int) ≤ 57 := by omega
              have hD' : digs (d.data.toList.take (k + 1)) = true := by
                rw [take_snoc d k hlt, digs_snoc, hD.out]
                simpa using hb
              have hV' : Hid (10 * V + (d[k].toNat - 48) = val (d.data.toList.take (k + 1))) := by
                have e := val_snoc (d.data.toList.take k) d[k]
                rw [← take_snoc d k hlt, ← hV.out] at e
                exact e.symm
              have hM' : 10 * V + (d[k].toNat - 48) < 10000000000000000 := by
                rw [hV'.out]
                exact val_lt hD' (by simp; omega)
              have HD := hid hD'
              rw [decide_eq_true h5] at hc
              clear h5 hD'
              go_wp2_with (go_at_call 37; refine hc.mono ?_; rintro e w ⟨rfl, rfl⟩)
              exact ⟨⟨k + 1, _, by omega, congrArg (Value.int .i64) (by omega), congrArg (Value.int .i64) (by omega), hV', HD, hM'⟩, by simp [intOf]; omega⟩
            · have hno := digs_no hlt (by rw [kd_byte hlt]; exact h5)
              have hN : Hid (false = numOk d.data.toList) := by show _ = _; rw [hno]
              rw [decide_eq_false h5] at hc
              clear hno h5
              go_wp2_with (go_at_call 37; refine hc.mono ?_; rintro e w ⟨rfl, rfl⟩)
              go_ret2
              exact ⟨⟨0, ret_ib rfl hN.out, fun h => absurd (hN.out.trans h) (by decide)⟩, rfl⟩
          · obtain ⟨e1, e2⟩ := num_end hd0 hz0 (show d.size ≤ k by omega) hD.out
            rw [← hV.out] at e1 e2
            have hN : Hid (decide ((V : Int) ≤ 1125899906842624) = numOk d.data.toList) := by
              show _ = _
              rw [e1, decide_eq_decide]
              omega
            have hN2 : Hid (numOk d.data.toList = true → (V : Int) = (val d.data.toList : Int)) := fun _ => by rw [← e2]
            clear e1 e2
            go_wp2
            go_ret2
            exact ⟨⟨_, ret_ib rfl hN.out, hN2.out⟩, rfl⟩
    · have eh : (((d[0].toNat : Nat) : Int) == 48) = false := beq_eq_false_iff_ne.2 (by omega)
      have hz0 : d[0].toNat = 48 → d.size ≤ 1 := fun h => absurd h hz
      clear hz
      go_enter Try.func38, Try.ntmps38
      go_wp2
      go_loop [5, 6] (fun n i => ∃ k V : Nat, k ≤ d.size ∧ i = .int .i64 k ∧ n = .int .i64 V ∧ Hid (V = val (d.data.toList.take k)) ∧ Hid (digs (d.data.toList.take k) = true) ∧ V < 10000000000000000) (fun _ i => d.size - (intOf i).toNat)
      case atStart => exact ⟨0, 0, by omega, rfl, rfl, rfl, rfl, by omega⟩
      case round =>
        obtain ⟨k, V, hk, rfl, rfl, hV, hD, hM⟩ := hrel
        by_cases hlt : k < d.size
        · have hc := rdigit_any d[k].toNat w
          by_cases h5 : kb d[k].toNat = 5
          · have hb := (kb_5 _).1 h5
            have hb1 : 48 ≤ (d[k].toNat : Int) := by omega
            have hb2 : (d[k].toNat : Int) ≤ 57 := by omega
            have hD' : digs (d.data.toList.take (k + 1)) = true := by
              rw [take_snoc d k hlt, digs_snoc, hD.out]
              simpa using hb
            have hV' : Hid (10 * V + (d[k].toNat - 48) = val (d.data.toList.take (k + 1))) := by
              have e := val_snoc (d.data.toList.take k) d[k]
              rw [← take_snoc d k hlt, ← hV.out] at e
              exact e.symm
            have hM' : 10 * V + (d[k].toNat - 48) < 10000000000000000 := by
              rw [hV'.out]
              exact val_lt hD' (by simp; omega)
            have HD := hid hD'
            rw [decide_eq_true h5] at hc
            clear h5 hD'
            go_wp2_with (go_at_call 37; refine hc.mono ?_; rintro e w ⟨rfl, rfl⟩)
            exact ⟨⟨k + 1, _, by omega, congrArg (Value.int .i64) (by omega), congrArg (Value.int .i64) (by omega), hV', HD, hM'⟩, by simp [intOf]; omega⟩
          · have hno := digs_no hlt (by rw [kd_byte hlt]; exact h5)
            have hN : Hid (false = numOk d.data.toList) := by show _ = _; rw [hno]
            rw [decide_eq_false h5] at hc
            clear hno h5
            go_wp2_with (go_at_call 37; refine hc.mono ?_; rintro e w ⟨rfl, rfl⟩)
            go_ret2
            exact ⟨⟨0, ret_ib rfl hN.out, fun h => absurd (hN.out.trans h) (by decide)⟩, rfl⟩
        · obtain ⟨e1, e2⟩ := num_end hd0 hz0 (show d.size ≤ k by omega) hD.out
          rw [← hV.out] at e1 e2
          have hN : Hid (decide ((V : Int) ≤ 1125899906842624) = numOk d.data.toList) := by
            show _ = _
            rw [e1, decide_eq_decide]
            omega
          have hN2 : Hid (numOk d.data.toList = true → (V : Int) = (val d.data.toList : Int)) := fun _ => by rw [← e2]
          clear e1 e2
          go_wp2
          go_ret2
          exact ⟨⟨_, ret_ib rfl hN.out, hN2.out⟩, rfl⟩
set_option maxHeartbeats 2000000 in
theorem whole_neg (t d : ByteArray) (w : World) (hs : t.size ≤ 281474976710656) (ht0 : 0 < t.size) (hf : t[0].toNat = 45) (hD0 : t.extract 1 t.size = d) (hd0 : 0 < d.size) (hds : d.size ≤ 281474976710656) :
    Calls Try.prog 38 #[.string t] w fun e w' => (∃ n : Int, e = .returned (.tuple #[.int .i64 n, .bool (negOk d.data.toList)]) ∧ (negOk d.data.toList = true → n = -(val d.data.toList : Int))) ∧ w' = w := by
  have ef : (((t[0].toNat : Nat) : Int) == 45) = true := by simp [hf]
  clear hf
  have ez : ((d.size : Int) == 0) = false := beq_eq_false_iff_ne.2 (by omega)
  by_cases hlong : 16 < d.size
  · have hzz := long_no (l := d.data.toList) (by simpa using hlong)
    have hN : Hid (false = negOk d.data.toList) := by show _ = _; rw [negOk, hzz]; rfl
    clear hzz
    go_enter Try.func38, Try.ntmps38
    go_wp2
    go_ret2
    exact ⟨⟨0, ret_ib rfl hN.out, fun h => absurd (hN.out.trans h) (by decide)⟩, rfl⟩
  · by_cases hz : d[0].toNat = 48
    · have eh : (((d[0].toNat : Nat) : Int) == 48) = true := by simp [hz]
      by_cases h1 : 1 < d.size
      · have hzz := zero_no hd0 hz h1
        clear hz
        have hN : Hid (false = negOk d.data.toList) := by show _ = _; rw [negOk, hzz]; rfl
        clear hzz
        go_enter Try.func38, Try.ntmps38
        go_wp2
        go_ret2
        exact ⟨⟨0, ret_ib rfl hN.out, fun h => absurd (hN.out.trans h) (by decide)⟩, rfl⟩
      · have hzz := zero_val (by omega) hz
        clear hz
        have hN : Hid (false = negOk d.data.toList) := by show _ = _; rw [negOk, hzz]; simp
        clear hzz
        go_enter Try.func38, Try.ntmps38
        go_wp2
        go_ret2
        exact ⟨⟨0, ret_ib rfl hN.out, fun h => absurd (hN.out.trans h) (by decide)⟩, rfl⟩
    · have eh : (((d[0].toNat : Nat) : Int) == 48) = false := beq_eq_false_iff_ne.2 (by omega)
      have hz0 : d[0].toNat = 48 → d.size ≤ 1 := fun h => absurd h hz
      have hz1 := hid hz
      clear hz
      go_enter Try.func38, Try.ntmps38
      go_wp2
      go_loop [5, 6] (fun n i => ∃ k V : Nat, k ≤ d.size ∧ i = .int .i64 k ∧ n = .int .i64 V ∧ Hid (V = val (d.data.toList.take k)) ∧ Hid (digs (d.data.toList.take k) = true) ∧ V < 10000000000000000) (fun _ i => d.size - (intOf i).toNat)
      case atStart => exact ⟨0, 0, by omega, rfl, rfl, rfl, rfl, by omega⟩
      case round =>
        obtain ⟨k, V, hk, rfl, rfl, hV, hD, hM⟩ := hrel
        by_cases hlt : k < d.size
        · have hc := rdigit_any d[k].toNat w
          by_cases h5 : kb d[k].toNat = 5
          · have hb := (kb_5 _).1 h5
            have hb1 : 48 ≤ (d[k].toNat : Int) := by omega
            have hb2 : (d[k].toNat : Int) ≤ 57 := by omega
            have hD' : digs (d.data.toList.take (k + 1)) = true := by
              rw [take_snoc d k hlt, digs_snoc, hD.out]
              simpa using hb
            have hV' : Hid (10 * V + (d[k].toNat - 48) = val (d.data.toList.take (k + 1))) := by
              have e := val_snoc (d.data.toList.take k) d[k]
              rw [← take_snoc d k hlt, ← hV.out] at e
              exact e.symm
            have hM' : 10 * V + (d[k].toNat - 48) < 10000000000000000 := by
              rw [hV'.out]
              exact val_lt hD' (by simp; omega)
            have HD := hid hD'
            rw [decide_eq_true h5] at hc
            clear h5 hD'
            go_wp2_with (go_at_call 37; refine hc.mono ?_; rintro e w ⟨rfl, rfl⟩)
            exact ⟨⟨k + 1, _, by omega, congrArg (Value.int .i64) (by omega), congrArg (Value.int .i64) (by omega), hV', HD, hM'⟩, by simp [intOf]; omega⟩
          · have hno := digs_no hlt (by rw [kd_byte hlt]; exact h5)
            have hN : Hid (false = negOk d.data.toList) := by show _ = _; rw [negOk, hno]; rfl
            rw [decide_eq_false h5] at hc
            clear hno h5
            go_wp2_with (go_at_call 37; refine hc.mono ?_; rintro e w ⟨rfl, rfl⟩)
            go_ret2
            exact ⟨⟨0, ret_ib rfl hN.out, fun h => absurd (hN.out.trans h) (by decide)⟩, rfl⟩
        · obtain ⟨e1, e2⟩ := num_end hd0 hz0 (show d.size ≤ k by omega) hD.out
          rw [← hV.out] at e1 e2
          have hnz : numOk d.data.toList = true → val d.data.toList ≠ 0 := fun h => val_zero hd0 h hz1.out
          have hN : Hid (decide ((V : Int) ≤ 1125899906842624) = negOk d.data.toList) := by
            show _ = _
            unfold negOk
            cases hk2 : numOk d.data.toList with
            | true =>
              rw [decide_eq_true (hnz hk2), Bool.and_true]
              rw [hk2] at e1
              have := of_decide_eq_true e1.symm
              exact decide_eq_true (by omega)
            | false =>
              rw [Bool.false_and]
              rw [hk2] at e1
              have := of_decide_eq_false e1.symm
              exact decide_eq_false (by omega)
          have hN2 : Hid (negOk d.data.toList = true → -(V : Int) = -(val d.data.toList : Int)) := fun _ => by rw [← e2]
          clear hnz
          clear e1 e2
          go_wp2
          go_ret2
          exact ⟨⟨_, ret_ib rfl hN.out, hN2.out⟩, rfl⟩
end Go.Proofs.Ytanjgppdjdcnaaa
