/- whole of layer 6's reference: the number that a text writes. -/
import Derived.Test.YtklfnphkepfmaaaGreatDoorLxR2
import Derived.Test.YtklfnphkepfmaaaGreatDoorLxTok2
import Derived.Test.YtklfnphkepfmaaaGreatDoorLxR
import Derived.Test.YtklfnphkepfmaaaGreatDoorLxQ2
import Derived.Deep.RegionLaw
import Derived.Deep.DrawnRows
import Derived.Test.YtklfnphkepfmaaaGreatDoorLxM3
import Derived.Test.YtklfnphkepfmaaaGreatDoorLxInt
import Derived.Test.YtklfnphkepfmaaaGreatDoorLxRow
import Derived.Test.YtklfnphkepfmaaaGreatDoorLxQ
namespace Go.Proofs.YtklfnphkepfmaaaGreatDoor
open Go.RowKit

theorem foldl_ge (r : List UInt8) : ∀ c : Nat, c * 10 ^ r.length ≤ r.foldl (fun n b => 10 * n + (b.toNat - 48)) c := by
  induction r with
  | nil => intro c; simp
  | cons b r ih =>
    intro c
    rw [List.foldl_cons, List.length_cons, Nat.pow_succ]
    have h := ih (10 * c + (b.toNat - 48))
    have e : c * (10 ^ r.length * 10) = (10 * c) * 10 ^ r.length := by rw [Nat.mul_comm (10 ^ r.length) 10, ← Nat.mul_assoc, Nat.mul_comm c 10]
    rw [e]
    exact Nat.le_trans (Nat.mul_le_mul_right _ (Nat.le_add_right _ _)) h
theorem foldl_lt (r : List UInt8) : ∀ c : Nat, digs r = true → r.foldl (fun n b => 10 * n + (b.toNat - 48)) c < (c + 1) * 10 ^ r.length := by
  induction r with
  | nil => intro c _; simp
  | cons b r ih =>
    intro c hd
    simp only [digs, List.all_cons, Bool.and_eq_true, decide_eq_true_eq] at hd
    rw [List.foldl_cons, List.length_cons, Nat.pow_succ]
    have h := ih (10 * c + (b.toNat - 48)) hd.2
    have e : (c + 1) * (10 ^ r.length * 10) = (10 * (c + 1)) * 10 ^ r.length := by rw [Nat.mul_comm (10 ^ r.length) 10, ← Nat.mul_assoc, Nat.mul_comm (c + 1) 10]
    rw [e]
    exact Nat.lt_of_lt_of_le h (Nat.mul_le_mul_right _ (by omega))
theorem val_lt {l : List UInt8} (h : digs l = true) (hl : l.length ≤ 16) : valD l < 10000000000000000 := by
  have h1 := foldl_lt l 0 h
  have h2 : 10 ^ l.length ≤ 10 ^ 16 := Nat.pow_le_pow_right (by decide) hl
  have h3 : (10 : Nat) ^ 16 = 10000000000000000 := by decide
  unfold valD
  omega
theorem long_no {l : List UInt8} (h : 16 < l.length) : numOk l = false := by
  cases hk : numOk l with
  | false => rfl
  | true =>
    exfalso
    simp only [numOk, Bool.and_eq_true, Bool.not_eq_true', Bool.and_eq_false_iff, decide_eq_false_iff_not, decide_eq_true_eq] at hk
    obtain ⟨⟨⟨h1, h2⟩, h3⟩, h4⟩ := hk
    cases l with
    | nil => simp at h
    | cons b r =>
      have hb : b ≠ 48 := by
        rcases h4 with h4 | h4
        · exact fun e => h4 (by rw [e]; rfl)
        · exact absurd (by omega) h4
      have hd : 48 ≤ b.toNat ∧ b.toNat ≤ 57 := by
        simp only [digs, List.all_cons, Bool.and_eq_true, decide_eq_true_eq] at h1
        exact h1.1
      have hb2 : b.toNat ≠ 48 := fun e => hb (UInt8.toNat_inj.1 e)
      have h5 := foldl_ge r (b.toNat - 48)
      have e : valD (b :: r) = r.foldl (fun n b => 10 * n + (b.toNat - 48)) (b.toNat - 48) := by
        unfold valD
        rw [List.foldl_cons]
        simp
      rw [e] at h2
      have h6 : 10 ^ 16 ≤ 10 ^ r.length := Nat.pow_le_pow_right (by decide) (by simp at h; omega)
      have h7 : (b.toNat - 48) * 10 ^ r.length ≥ 1 * 10 ^ r.length := Nat.mul_le_mul_right _ (by omega)
      have h8 : (10 : Nat) ^ 16 = 10000000000000000 := by decide
      unfold maxI at h2
      omega
theorem zero_no {d : ByteArray} (h0 : 0 < d.size) (hz : d[0].toNat = 48) (hl : 1 < d.size) : numOk d.data.toList = false := by
  have hhead : d.data.toList.head? = some d[0] := by
    rw [List.head?_eq_getElem?, List.getElem?_eq_getElem (by simp; omega)]
    rfl
  have e0 : d[0] = 48 := UInt8.toNat_inj.1 hz
  simp [numOk, hhead, e0]
  intros
  simpa using hl
theorem num_end {d : ByteArray} (h0 : 0 < d.size) (hz : d[0].toNat = 48 → d.size ≤ 1) {k : Nat} (hk : d.size ≤ k) (h1 : digs (d.data.toList.take k) = true) : numOk d.data.toList = decide (valD (d.data.toList.take k) ≤ 1125899906842624) ∧ valD (d.data.toList.take k) = valD d.data.toList := by
  rw [List.take_of_length_le (by simpa using hk)] at h1 ⊢
  have hhead : d.data.toList.head? = some d[0] := by
    rw [List.head?_eq_getElem?, List.getElem?_eq_getElem (by simp; omega)]
    rfl
  have h3 : (decide (d.data.toList.head? = some 48) && decide (1 < d.data.toList.length)) = false := by
    by_cases h : d.data.toList.head? = some 48
    · have e : d[0] = 48 := by rw [hhead] at h; exact Option.some.inj h
      have := hz (by rw [e]; rfl)
      simp
      intro _
      exact this
    · simp [h]
  have h4 : decide (1 ≤ d.data.toList.length) = true := by simp; omega
  refine ⟨?_, rfl⟩
  simp only [numOk, h1, h3, h4, maxI, Bool.true_and, Bool.and_true, Bool.not_false]
  rfl
theorem zero_val {d : ByteArray} (h0 : d.size = 1) (hz : d[0].toNat = 48) : valD d.data.toList = 0 := by
  have e : d.data.toList = [d[0]] := by
    apply List.ext_getElem
    · simp; exact h0
    · intro i h1 h2
      have : i = 0 := by simp at h2; omega
      subst this
      rfl
  rw [e]
  simp only [valD, List.foldl_cons, List.foldl_nil, hz]
theorem val_zero {d : ByteArray} (h0 : 0 < d.size) (hk : numOk d.data.toList = true) (hz : d[0].toNat ≠ 48) : valD d.data.toList ≠ 0 := by
  obtain ⟨b, r, e⟩ : ∃ b r, d.data.toList = b :: r := by
    cases hd : d.data.toList with
    | nil =>
      have h1 : d.data.toList.length = 0 := by rw [hd]; rfl
      have h2 : d.data.toList.length = d.size := by simp
      omega
    | cons b r => exact ⟨b, r, rfl⟩
  have hb : b = d[0] := by
    have : d.data.toList.head? = some d[0] := by
      rw [List.head?_eq_getElem?, List.getElem?_eq_getElem (by simp; omega)]
      rfl
    rw [e] at this
    exact Option.some.inj this
  simp only [numOk, Bool.and_eq_true] at hk
  have h1 := hk.1.1.1
  rw [e] at h1 ⊢
  simp only [digs, List.all_cons, Bool.and_eq_true, decide_eq_true_eq] at h1
  have h2 := foldl_le r (b.toNat - 48)
  have e2 : valD (b :: r) = r.foldl (fun n b => 10 * n + (b.toNat - 48)) (b.toNat - 48) := by
    unfold valD
    rw [List.foldl_cons]
    simp
  rw [e2]
  rw [← hb] at hz
  omega
/-- Is it one behind a sign? -/
def negOk (l : List UInt8) : Bool := numOk l && decide (valD l ≠ 0)
theorem ret_ib {a b : Int} {x y : Bool} (h : a = b) (k : x = y) : Ending.returned (.tuple #[.int .i64 a, .bool x]) = .returned (.tuple #[.int .i64 b, .bool y]) := by rw [h, k]
set_option maxHeartbeats 2000000 in
theorem whole_pos (d : ByteArray) (w : World) (hs : d.size ≤ 281474976710656) (hd0 : 0 < d.size) (hf : d[0].toNat ≠ 45) :
    Calls Tryz.prog 129 #[.string d] w fun e w' => (∃ n : Int, e = .returned (.tuple #[.int .i64 n, .bool (numOk d.data.toList)]) ∧ (numOk d.data.toList = true → n = (valD d.data.toList : Int))) ∧ w' = w := by
  have ef : (((d[0].toNat : Nat) : Int) == 45) = false := beq_eq_false_iff_ne.2 (by omega)
  clear hf
  have ez : ((d.size : Int) == 0) = false := beq_eq_false_iff_ne.2 (by omega)
  by_cases hlong : 16 < d.size
  · have hzz := long_no (l := d.data.toList) (by simpa using hlong)
    have hN : Hid (false = numOk d.data.toList) := by show _ = _; rw [hzz]
    clear hzz
    go_enter Tryz.func129, Tryz.ntmps129
    go_wp2
    go_ret2
    exact ⟨⟨0, ret_ib rfl hN.out, fun h => absurd (hN.out.trans h) (by decide)⟩, rfl⟩
  · by_cases hz : d[0].toNat = 48
    · have eh : (((d[0].toNat : Nat) : Int) == 48) = true := by simp [hz]
      by_cases h1 : 1 < d.size
      · have hzz := zero_no hd0 hz h1
        clear hz
        have hN : Hid (false = numOk d.data.toList) := by show _ = _; rw [hzz]
        clear hzz
        go_enter Tryz.func129, Tryz.ntmps129
        go_wp2
        go_ret2
        exact ⟨⟨0, ret_ib rfl hN.out, fun h => absurd (hN.out.trans h) (by decide)⟩, rfl⟩
      · have hz0 : d[0].toNat = 48 → d.size ≤ 1 := fun _ => by omega
        clear hz
        go_enter Tryz.func129, Tryz.ntmps129
        go_wp2
        go_loop [5, 6] (fun n i => ∃ k V : Nat, k ≤ d.size ∧ i = .int .i64 k ∧ n = .int .i64 V ∧ Hid (V = valD (d.data.toList.take k)) ∧ Hid (digs (d.data.toList.take k) = true) ∧ V < 10000000000000000) (fun _ i => d.size - (intOf i).toNat)
        case atStart => exact ⟨0, 0, by omega, rfl, rfl, rfl, rfl, by omega⟩
        case round =>
          obtain ⟨k, V, hk, rfl, rfl, hV, hD, hM⟩ := hrel
          by_cases hlt : k < d.size
          · have hc := rdigit_any d[k].toNat w
            by_cases h5 : kb d[k].toNat = 5
            · have hb := (kb_5 _).1 h5
              have hb1 : 48 ≤ (d[k].toNat : Int) := by omega
              have hb2 : (d[k].toNat : Int) ≤ 57 := by omega
              have hD' : digs (d.data.toList.take (k + 1)) = true := by
                rw [take_snoc d k hlt, digs_snoc, hD.out]
                simpa using hb
              have hV' : Hid (10 * V + (d[k].toNat - 48) = valD (d.data.toList.take (k + 1))) := by
                have e := val_snoc (d.data.toList.take k) d[k]
                rw [← take_snoc d k hlt, ← hV.out] at e
                exact e.symm
              have hM' : 10 * V + (d[k].toNat - 48) < 10000000000000000 := by
                rw [hV'.out]
                exact val_lt hD' (by simp; omega)
              have HD := hid hD'
              rw [decide_eq_true h5] at hc
              clear h5 hD'
              go_wp2_with (go_at_call 128; refine hc.mono ?_; rintro e w ⟨rfl, rfl⟩)
              exact ⟨⟨k + 1, _, by omega, congrArg (Value.int .i64) (by omega), congrArg (Value.int .i64) (by omega), hV', HD, hM'⟩, by simp [intOf]; omega⟩
            · have hno := digs_no hlt (by rw [kd_byte hlt]; exact h5)
              have hN : Hid (false = numOk d.data.toList) := by show _ = _; rw [hno]
              rw [decide_eq_false h5] at hc
              clear hno h5
              go_wp2_with (go_at_call 128; refine hc.mono ?_; rintro e w ⟨rfl, rfl⟩)
              go_ret2
              exact ⟨⟨0, ret_ib rfl hN.out, fun h => absurd (hN.out.trans h) (by decide)⟩, rfl⟩
          · obtain ⟨e1, e2⟩ := num_end hd0 hz0 (show d.size ≤ k by omega) hD.out
            rw [← hV.out] at e1 e2
            have hN : Hid (decide ((V : Int) ≤ 1125899906842624) = numOk d.data.toList) := by
              show _ = _
              rw [e1, decide_eq_decide]
              omega
            have hN2 : Hid (numOk d.data.toList = true → (V : Int) = (valD d.data.toList : Int)) := fun _ => by rw [← e2]
            clear e1 e2
            go_wp2
            go_ret2
            exact ⟨⟨_, ret_ib rfl hN.out, hN2.out⟩, rfl⟩
    · have eh : (((d[0].toNat : Nat) : Int) == 48) = false := beq_eq_false_iff_ne.2 (by omega)
      have hz0 : d[0].toNat = 48 → d.size ≤ 1 := fun h => absurd h hz
      clear hz
      go_enter Tryz.func129, Tryz.ntmps129
      go_wp2
      go_loop [5, 6] (fun n i => ∃ k V : Nat, k ≤ d.size ∧ i = .int .i64 k ∧ n = .int .i64 V ∧ Hid (V = valD (d.data.toList.take k)) ∧ Hid (digs (d.data.toList.take k) = true) ∧ V < 10000000000000000) (fun _ i => d.size - (intOf i).toNat)
      case atStart => exact ⟨0, 0, by omega, rfl, rfl, rfl, rfl, by omega⟩
      case round =>
        obtain ⟨k, V, hk, rfl, rfl, hV, hD, hM⟩ := hrel
        by_cases hlt : k < d.size
        · have hc := rdigit_any d[k].toNat w
          by_cases h5 : kb d[k].toNat = 5
          · have hb := (kb_5 _).1 h5
            have hb1 : 48 ≤ (d[k].toNat : Int) := by omega
            have hb2 : (d[k].toNat : Int) ≤ 57 := by omega
            have hD' : digs (d.data.toList.take (k + 1)) = true := by
              rw [take_snoc d k hlt, digs_snoc, hD.out]
              simpa using hb
            have hV' : Hid (10 * V + (d[k].toNat - 48) = valD (d.data.toList.take (k + 1))) := by
              have e := val_snoc (d.data.toList.take k) d[k]
              rw [← take_snoc d k hlt, ← hV.out] at e
              exact e.symm
            have hM' : 10 * V + (d[k].toNat - 48) < 10000000000000000 := by
              rw [hV'.out]
              exact val_lt hD' (by simp; omega)
            have HD := hid hD'
            rw [decide_eq_true h5] at hc
            clear h5 hD'
            go_wp2_with (go_at_call 128; refine hc.mono ?_; rintro e w ⟨rfl, rfl⟩)
            exact ⟨⟨k + 1, _, by omega, congrArg (Value.int .i64) (by omega), congrArg (Value.int .i64) (by omega), hV', HD, hM'⟩, by simp [intOf]; omega⟩
          · have hno := digs_no hlt (by rw [kd_byte hlt]; exact h5)
            have hN : Hid (false = numOk d.data.toList) := by show _ = _; rw [hno]
            rw [decide_eq_false h5] at hc
            clear hno h5
            go_wp2_with (go_at_call 128; refine hc.mono ?_; rintro e w ⟨rfl, rfl⟩)
            go_ret2
            exact ⟨⟨0, ret_ib rfl hN.out, fun h => absurd (hN.out.trans h) (by decide)⟩, rfl⟩
        · obtain ⟨e1, e2⟩ := num_end hd0 hz0 (show d.size ≤ k by omega) hD.out
          rw [← hV.out] at e1 e2
          have hN : Hid (decide ((V : Int) ≤ 1125899906842624) = numOk d.data.toList) := by
            show _ = _
            rw [e1, decide_eq_decide]
            omega
          have hN2 : Hid (numOk d.data.toList = true → (V : Int) = (valD d.data.toList : Int)) := fun _ => by rw [← e2]
          clear e1 e2
          go_wp2
          go_ret2
          exact ⟨⟨_, ret_ib rfl hN.out, hN2.out⟩, rfl⟩
set_option maxHeartbeats 2000000 in
theorem whole_neg (t d : ByteArray) (w : World) (hs : t.size ≤ 281474976710656) (ht0 : 0 < t.size) (hf : t[0].toNat = 45) (hD0 : t.extract 1 t.size = d) (hd0 : 0 < d.size) (hds : d.size ≤ 281474976710656) :
    Calls Tryz.prog 129 #[.string t] w fun e w' => (∃ n : Int, e = .returned (.tuple #[.int .i64 n, .bool (negOk d.data.toList)]) ∧ (negOk d.data.toList = true → n = -(valD d.data.toList : Int))) ∧ w' = w := by
  have ef : (((t[0].toNat : Nat) : Int) == 45) = true := by simp [hf]
  clear hf
  have ez : ((d.size : Int) == 0) = false := beq_eq_false_iff_ne.2 (by omega)
  by_cases hlong : 16 < d.size
  · have hzz := long_no (l := d.data.toList) (by simpa using hlong)
    have hN : Hid (false = negOk d.data.toList) := by show _ = _; rw [negOk, hzz]; rfl
    clear hzz
    go_enter Tryz.func129, Tryz.ntmps129
    go_wp2
    go_ret2
    exact ⟨⟨0, ret_ib rfl hN.out, fun h => absurd (hN.out.trans h) (by decide)⟩, rfl⟩
  · by_cases hz : d[0].toNat = 48
    · have eh : (((d[0].toNat : Nat) : Int) == 48) = true := by simp [hz]
      by_cases h1 : 1 < d.size
      · have hzz := zero_no hd0 hz h1
        clear hz
        have hN : Hid (false = negOk d.data.toList) := by show _ = _; rw [negOk, hzz]; rfl
        clear hzz
        go_enter Tryz.func129, Tryz.ntmps129
        go_wp2
        go_ret2
        exact ⟨⟨0, ret_ib rfl hN.out, fun h => absurd (hN.out.trans h) (by decide)⟩, rfl⟩
      · have hzz := zero_val (by omega) hz
        clear hz
        have hN : Hid (false = negOk d.data.toList) := by show _ = _; rw [negOk, hzz]; simp
        clear hzz
        go_enter Tryz.func129, Tryz.ntmps129
        go_wp2
        go_ret2
        exact ⟨⟨0, ret_ib rfl hN.out, fun h => absurd (hN.out.trans h) (by decide)⟩, rfl⟩
    · have eh : (((d[0].toNat : Nat) : Int) == 48) = false := beq_eq_false_iff_ne.2 (by omega)
      have hz0 : d[0].toNat = 48 → d.size ≤ 1 := fun h => absurd h hz
      have hz1 := hid hz
      clear hz
      go_enter Tryz.func129, Tryz.ntmps129
      go_wp2
      go_loop [5, 6] (fun n i => ∃ k V : Nat, k ≤ d.size ∧ i = .int .i64 k ∧ n = .int .i64 V ∧ Hid (V = valD (d.data.toList.take k)) ∧ Hid (digs (d.data.toList.take k) = true) ∧ V < 10000000000000000) (fun _ i => d.size - (intOf i).toNat)
      case atStart => exact ⟨0, 0, by omega, rfl, rfl, rfl, rfl, by omega⟩
      case round =>
        obtain ⟨k, V, hk, rfl, rfl, hV, hD, hM⟩ := hrel
        by_cases hlt : k < d.size
        · have hc := rdigit_any d[k].toNat w
          by_cases h5 : kb d[k].toNat = 5
          · have hb := (kb_5 _).1 h5
            have hb1 : 48 ≤ (d[k].toNat : Int) := by omega
            have hb2 : (d[k].toNat : Int) ≤ 57 := by omega
            have hD' : digs (d.data.toList.take (k + 1)) = true := by
              rw [take_snoc d k hlt, digs_snoc, hD.out]
              simpa using hb
            have hV' : Hid (10 * V + (d[k].toNat - 48) = valD (d.data.toList.take (k + 1))) := by
              have e := val_snoc (d.data.toList.take k) d[k]
              rw [← take_snoc d k hlt, ← hV.out] at e
              exact e.symm
            have hM' : 10 * V + (d[k].toNat - 48) < 10000000000000000 := by
              rw [hV'.out]
              exact val_lt hD' (by simp; omega)
            have HD := hid hD'
            rw [decide_eq_true h5] at hc
            clear h5 hD'
            go_wp2_with (go_at_call 128; refine hc.mono ?_; rintro e w ⟨rfl, rfl⟩)
            exact ⟨⟨k + 1, _, by omega, congrArg (Value.int .i64) (by omega), congrArg (Value.int .i64) (by omega), hV', HD, hM'⟩, by simp [intOf]; omega⟩
          · have hno := digs_no hlt (by rw [kd_byte hlt]; exact h5)
            have hN : Hid (false = negOk d.data.toList) := by show _ = _; rw [negOk, hno]; rfl
            rw [decide_eq_false h5] at hc
            clear hno h5
            go_wp2_with (go_at_call 128; refine hc.mono ?_; rintro e w ⟨rfl, rfl⟩)
            go_ret2
            exact ⟨⟨0, ret_ib rfl hN.out, fun h => absurd (hN.out.trans h) (by decide)⟩, rfl⟩
        · obtain ⟨e1, e2⟩ := num_end hd0 hz0 (show d.size ≤ k by omega) hD.out
          rw [← hV.out] at e1 e2
          have hnz : numOk d.data.toList = true → valD d.data.toList ≠ 0 := fun h => val_zero hd0 h hz1.out
          have hN : Hid (decide ((V : Int) ≤ 1125899906842624) = negOk d.data.toList) := by
            show _ = _
            unfold negOk
            cases hk2 : numOk d.data.toList with
            | true =>
              rw [decide_eq_true (hnz hk2), Bool.and_true]
              rw [hk2] at e1
              have := of_decide_eq_true e1.symm
              exact decide_eq_true (by omega)
            | false =>
              rw [Bool.false_and]
              rw [hk2] at e1
              have := of_decide_eq_false e1.symm
              exact decide_eq_false (by omega)
          have hN2 : Hid (negOk d.data.toList = true → -(V : Int) = -(valD d.data.toList : Int)) := fun _ => by rw [← e2]
          clear hnz
          clear e1 e2
          go_wp2
          go_ret2
          exact ⟨⟨_, ret_ib rfl hN.out, hN2.out⟩, rfl⟩
end Go.Proofs.YtklfnphkepfmaaaGreatDoor

/- quoted of layer 6's reference, at every source and place. -/
namespace Go.Proofs.YtklfnphkepfmaaaGreatDoor
open Go.RowKit

/-- The block of a fault of the reference. -/
def fltObj (c a : Int) : Obj := .cells #[.int .i64 c, .int .i64 a, .string ⟨#[]⟩, .slice none 0 0] 34
theorem flt_facts {w : World} {q : Nat} {c a : Int} (h : w.heap[q]? = some (fltObj c a)) :
    (w.cell? ⟨q, 0, none⟩ = some (.int .i64 c) ∧ w.cell? ⟨q, 1, none⟩ = some (.int .i64 a) ∧ w.cell? ⟨q, 2, none⟩ = some (.string ⟨#[]⟩) ∧ w.cell? ⟨q, 3, none⟩ = some (.slice none 0 0)) ∧
    (w.frozen? ⟨q, 0, none⟩ = false ∧ w.frozen? ⟨q, 1, none⟩ = false ∧ w.frozen? ⟨q, 2, none⟩ = false ∧ w.frozen? ⟨q, 3, none⟩ = false) := by
  simp [World.cell?, World.frozen?, h, fltObj]
theorem flt_cells {w : World} {q : Nat} {c a : Int} (h : w.heap[q]? = some (fltObj c a)) :
    (∃ u0 u1 u2 u3, w.cell? ⟨q, 0, none⟩ = some u0 ∧ w.cell? ⟨q, 1, none⟩ = some u1 ∧ w.cell? ⟨q, 2, none⟩ = some u2 ∧ w.cell? ⟨q, 3, none⟩ = some u3) ∧
    (w.frozen? ⟨q, 0, none⟩ = false ∧ w.frozen? ⟨q, 1, none⟩ = false ∧ w.frozen? ⟨q, 2, none⟩ = false ∧ w.frozen? ⟨q, 3, none⟩ = false) := by
  obtain ⟨⟨h0, h1, h2, h3⟩, hf⟩ := flt_facts h
  exact ⟨⟨_, _, _, _, h0, h1, h2, h3⟩, hf⟩
abbrev fltEnd (w : World) (q : Nat) (c a : Int) : World :=
  (((w.setCell ⟨q, 0, none⟩ (.int .i64 c)).setCell ⟨q, 1, none⟩ (.int .i64 a)).setCell ⟨q, 2, none⟩ (.string ⟨#[]⟩)).setCell ⟨q, 3, none⟩ (.slice none 0 0)
theorem flt_end {w : World} {q : Nat} {c0 a0 : Int} (c a : Int) (h : w.heap[q]? = some (fltObj c0 a0)) : (fltEnd w q c a).heap[q]? = some (fltObj c a) := by
  have h0 := heap_setCell_same w q 0 _ _ (.int .i64 c) h
  have h1 := heap_setCell_same _ q 1 _ _ (.int .i64 a) h0
  have h2 := heap_setCell_same _ q 2 _ _ (.string ⟨#[]⟩) h1
  have h3 := heap_setCell_same _ q 3 _ _ (.slice none 0 0) h2
  rw [fltEnd, h3]
  rfl
theorem fltEnd_below {W w : World} {B q : Nat} {c a : Int} (h : Below B W w) (hq : B ≤ q) : Below B W (fltEnd w q c a) :=
  (((h.setCell (p := ⟨q, 0, none⟩) hq _).setCell (p := ⟨q, 1, none⟩) hq _).setCell (p := ⟨q, 2, none⟩) hq _).setCell (p := ⟨q, 3, none⟩) hq _
set_option maxHeartbeats 400000 in
theorem no_eq (w : World) :
    Calls Tryz.prog 107 #[] w fun e w' => e = .returned (flt 0 0) ∧ w' = w.alloc (fltObj 0 0) := by
  go_enter Tryz.func107, Tryz.ntmps107
  go_wp2
  exact bodyPost_ret (v := flt 0 0) (by simp [results, Tryz.results107, go_sem, flt]) rfl ⟨rfl, rfl⟩
set_option maxHeartbeats 400000 in
theorem at_ex (c a : Int) (w : World) :
    Calls Tryz.prog 71 #[.int .i64 c, .int .i64 a] w fun e w' => e = .returned (flt c a) ∧ Below w.heap.size w w' := by
  go_enter Tryz.func71, Tryz.ntmps71
  go_wp2
  exact bodyPost_ret (v := flt c a) (by simp [results, Tryz.results71, go_sem, flt]) rfl ⟨rfl, (Below.refl _ _).alloc (Nat.le_refl _) _⟩
/-- A name, its end and the fault, as the reference answers them. -/
def QAns (w : World) (x : Lx) (e : Ending) (w' : World) : Prop := e = .returned (.tuple #[.string x.tok.text, .int .i64 (x.tok.end_ : Int), flt x.code x.pl]) ∧ Below w.heap.size w w'
theorem ret_q {w : World} {fn : Func} {s t u : Tmp} (hfn : fn.results = #[.tmp s, .tmp t, .cell u 34]) {tmps : Array Value} {q : Nat} {c a : Int} {v1 v2 : Value} (h1 : tmps[s]?.getD undef = v1) (h2 : tmps[t]?.getD undef = v2) (h4 : tmps[u]?.getD undef = .pointer (some ⟨q, 0, none⟩)) (hq : w.heap[q]? = some (fltObj c a)) : (results fn tmps).run Tryz.prog w = .ok (.tuple #[v1, v2, flt c a]) w := by
  obtain ⟨⟨z0, z1, z2, z3⟩, _⟩ := flt_facts hq
  simp [results, hfn, go_sem, h1, h2, h4, z0, z1, z2, z3]
theorem q_end {w w2 : World} {a : Act} (x : Lx) {y : Lx} (hxy : x = y) {c0 a0 : Int} (hq : w2.heap[w.heap.size]? = some (fltObj c0 a0)) (hb : Below w.heap.size w w2)
    (h1 : a.tmps[4]?.getD undef = .string x.tok.text) (h2 : a.tmps[5]?.getD undef = .int .i64 (x.tok.end_ : Int)) (h4 : a.tmps[6]?.getD undef = .pointer (some ⟨w.heap.size, 0, none⟩)) (hd : a.defers = []) :
    bodyPost Tryz.prog Tryz.f127 (QAns w y) .ret a (fltEnd w2 w.heap.size x.code x.pl) := by
  subst hxy
  exact bodyPost_ret (ret_q Tryz.results127 h1 h2 h4 (flt_end _ _ hq)) hd ⟨rfl, fltEnd_below hb (Nat.le_refl _)⟩
theorem q_end2 {w w2 : World} {a : Act} (x : Lx) {y : Lx} (hxy : x = y) {c0 a0 : Int} {o : Obj} (hq : w2.heap[w.heap.size]? = some (fltObj c0 a0)) (hb : Below w.heap.size w w2)
    (h1 : a.tmps[4]?.getD undef = .string x.tok.text) (h2 : a.tmps[5]?.getD undef = .int .i64 (x.tok.end_ : Int)) (h4 : a.tmps[6]?.getD undef = .pointer (some ⟨w.heap.size, 0, none⟩)) (hd : a.defers = []) :
    bodyPost Tryz.prog Tryz.f127 (QAns w y) .ret a ((fltEnd w2 w.heap.size x.code x.pl).alloc o).drew := by
  subst hxy
  have h := flt_end x.code x.pl hq
  have h' : ((fltEnd w2 w.heap.size x.code x.pl).alloc o).drew.heap[w.heap.size]? = some (fltObj x.code x.pl) := (Below.heap_alloc _ _ _ (lt_of_block h)).trans h
  have hB : Below w.heap.size w (fltEnd w2 w.heap.size x.code x.pl) := fltEnd_below hb (Nat.le_refl _)
  exact bodyPost_ret (ret_q Tryz.results127 h1 h2 h4 h') hd ⟨rfl, (hB.alloc hB.size _).drew⟩
set_option maxRecDepth 100000 in
set_option maxHeartbeats 4000000 in
theorem rquoted_any (s : ByteArray) (a : Nat) (w : World) (hs : s.size ≤ 4194304) (ha : a < s.size) :
    Calls Tryz.prog 127 #[.string s, .int .i64 (a : Int)] w (QAns w (quo s a (a + 1) [])) := by
  obtain ⟨i0, hi, hz0, hz1, hz2⟩ := info_parts infoB
  go_enter Tryz.func127, Tryz.ntmps127
  go_wp2
  go_loopw [7, 8] (fun nm i wr => ∃ (k : Nat) (acc : List UInt8), k ≤ s.size ∧ acc.length ≤ k ∧ i = .int .i64 (k : Int) ∧ wr.ownsRow (w.heap.size + 1) 5 1 nm acc.length (bcells acc) ∧ wr.heap[w.heap.size]? = some (fltObj 0 0) ∧ Below w.heap.size w wr ∧ Hid (quo s a k acc = quo s a (a + 1) [])) (fun _ i _ => s.size - (intOf i).toNat)
  case atStart =>
    have h1 : ((w.alloc (fltObj 0 0)).alloc (.cells #[] 5)).heap[w.heap.size + 1]? = some (.cells #[] 5) := by
      have := heap_alloc_new (w.alloc (fltObj 0 0)) (.cells #[] 5)
      simpa using this
    have h0 : ((w.alloc (fltObj 0 0)).alloc (.cells #[] 5)).heap[w.heap.size]? = some (fltObj 0 0) := by
      rw [Below.heap_alloc _ _ _ (by simp)]
      exact heap_alloc_new w _
    exact ⟨a + 1, [], by omega, by simp, by go_num, ⟨rfl, Or.inr ⟨w.heap.size + 1, 0, #[], rfl, Nat.le_refl _, h1, Nat.le_refl _, Nat.zero_le _, rfl, rfl⟩⟩, h0, ((Below.refl _ w).alloc (Nat.le_refl _) _).alloc (by simp) _, rfl⟩
  case round =>
    obtain ⟨k, acc, hk, hla, rfl, hrow, hq, hB, hQ⟩ := hrel
    have hzr := hB.size
    have hzq := lt_of_block hq
    by_cases hlt : k < s.size
    · have hQ2 := (quo_in (a := a) (acc := acc) hlt).symm.trans hQ.out
      have hbk := bt_in hlt
      rw [hbk] at hQ2
      by_cases h39 : s[k].toNat = 39
      · rw [if_pos h39] at hQ2
        have e39 : (((s[k].toNat : Nat) : Int) == 39) = true := by simp [h39]
        by_cases hl1 : acc.length < 1
        · have HX : Hid (badT 62 a = quo s a (a + 1) []) := by rw [if_pos (Or.inl hl1)] at hQ2; exact hQ2
          clear hQ2 hbk h39
          obtain ⟨ao, c, rfl⟩ := own_shape hrow
          go_wp2_with (go_at_call 71; refine (at_ex _ _ _).mono ?_; rintro x w2 ⟨rfl, hb⟩; have hq2 := keep_q hq hb; obtain ⟨⟨u0, u1, u2, u3, q0, q1, q2, q3⟩, g0, g1, g2, g3⟩ := flt_cells hq2)
          exact q_end (badT 62 a) HX.out hq2 (Below.next hB hb) (by rfl) (by rfl) (by rfl) rfl
        · by_cases hl2 : 32 < acc.length
          · have HX : Hid (badT 62 a = quo s a (a + 1) []) := by rw [if_pos (Or.inr hl2)] at hQ2; exact hQ2
            clear hQ2 hbk h39
            obtain ⟨ao, c, rfl⟩ := own_shape hrow
            go_wp2_with (go_at_call 71; refine (at_ex _ _ _).mono ?_; rintro x w2 ⟨rfl, hb⟩; have hq2 := keep_q hq hb; obtain ⟨⟨u0, u1, u2, u3, q0, q1, q2, q3⟩, g0, g1, g2, g3⟩ := flt_cells hq2)
            exact q_end (badT 62 a) HX.out hq2 (Below.next hB hb) (by rfl) (by rfl) (by rfl) rfl
          · have HX : Hid (okT ⟨1, ⟨acc.toArray⟩, 0, a, k + 1⟩ = quo s a (a + 1) []) := by rw [if_neg (by omega)] at hQ2; exact hQ2
            have hcv0 := conv_row (w := wr.drew) hrow.drew (by omega)
            have hcv1 := fun o => conv_row (w := (wr.alloc o).drew) (hrow.alloc o).drew (by omega)
            have hwr : IntKind.i64.wrap ((k : Int) + 1) = (k : Int) + 1 := by rw [IntKind.wrap_i64]; omega
            obtain ⟨⟨u0, u1, u2, u3, q0, q1, q2, q3⟩, g0, g1, g2, g3⟩ := flt_cells hq
            clear hQ2 hbk h39
            obtain ⟨ao, c, rfl⟩ := own_shape hrow
            go_wp2
            go_region_law (go_simp; go_at_call 107; refine (no_eq _).mono ?_; rintro e wq ⟨rfl, hwq⟩; subst hwq)
            all_goals go_wp2
            all_goals exact q_end2 (okT ⟨1, ⟨acc.toArray⟩, 0, a, k + 1⟩) HX.out hq hB (by rfl) (by rfl) (by rfl) rfl
      · rw [if_neg h39] at hQ2
        have e39 : (((s[k].toNat : Nat) : Int) == 39) = false := int_ne h39 rfl
        by_cases h92 : s[k].toNat = 92
        · rw [if_pos h92] at hQ2
          have e92 : (((s[k].toNat : Nat) : Int) == 92) = true := by simp [h92]
          by_cases hl2 : k + 1 < s.size
          · rw [dif_pos hl2, bt_in hl2] at hQ2
            have ez : decide ((s.size : Int) ≤ (k : Int) + 1) = false := decide_eq_false (by omega)
            by_cases he : esc s[k + 1].toNat = true
            · have HX : Hid (quo s a (k + 2) (acc ++ [s[k + 1]]) = quo s a (a + 1) []) := by rw [if_pos he] at hQ2; exact hQ2
              have he2 : s[k + 1].toNat = 39 ∨ s[k + 1].toNat = 92 := by simpa [esc] using he
              clear hQ2 hbk h39 h92 he
              obtain ⟨ao, c, rfl⟩ := own_shape hrow
              rcases he2 with he2 | he2
              · have x39 : (((s[k + 1].toNat : Nat) : Int) != 39) = false := by simp [he2]
                clear he2
                go_wp2_with (at_builtin; refine wpList_append_own _ rfl _ _ 49 rfl (w.heap.size + 1) 5 i0 (.int .u8 0) 1 1 Tryz.underlying49 hi hz0 hz1 hz2 rfl (by decide) _ _ _ rfl (hrow.alloc _) ⟨wr.heap.size, 0, none⟩ 1 1 [.int .u8 (s[k + 1].toNat : Int)] rfl rfl (cell_one_new _ _ _) (by simp [Value.oneCell']) (by unfold maxLen; omega) (by omega) (by simp; omega) ?_; intro v' w1 hown' hgrow _)
                obtain ⟨hB1, hq1⟩ := row_next hrow hB hq hgrow
                exact ⟨⟨k + 2, acc ++ [s[k + 1]], by omega, by simp; omega, congrArg (Value.int .i64) (by omega), by rw [bcells_snoc]; simpa using hown', hq1, hB1, HX⟩, by simp [intOf]; omega⟩
              · have x39 : (((s[k + 1].toNat : Nat) : Int) != 39) = true := by simp [he2]
                have x92 : (((s[k + 1].toNat : Nat) : Int) != 92) = false := by simp [he2]
                clear he2
                go_wp2_with (at_builtin; refine wpList_append_own _ rfl _ _ 49 rfl (w.heap.size + 1) 5 i0 (.int .u8 0) 1 1 Tryz.underlying49 hi hz0 hz1 hz2 rfl (by decide) _ _ _ rfl (hrow.alloc _) ⟨wr.heap.size, 0, none⟩ 1 1 [.int .u8 (s[k + 1].toNat : Int)] rfl rfl (cell_one_new _ _ _) (by simp [Value.oneCell']) (by unfold maxLen; omega) (by omega) (by simp; omega) ?_; intro v' w1 hown' hgrow _)
                obtain ⟨hB1, hq1⟩ := row_next hrow hB hq hgrow
                exact ⟨⟨k + 2, acc ++ [s[k + 1]], by omega, by simp; omega, congrArg (Value.int .i64) (by omega), by rw [bcells_snoc]; simpa using hown', hq1, hB1, HX⟩, by simp [intOf]; omega⟩
            · have he' : ¬ (s[k + 1].toNat = 39 ∨ s[k + 1].toNat = 92) := fun h => he (by simpa [esc] using h)
              have x39 : (((s[k + 1].toNat : Nat) : Int) != 39) = true := bne_iff_ne.2 (by omega)
              have x92 : (((s[k + 1].toNat : Nat) : Int) != 92) = true := bne_iff_ne.2 (by omega)
              have HX : Hid (badT 65 k = quo s a (a + 1) []) := by rw [if_neg he] at hQ2; exact hQ2
              clear hQ2 hbk h39 h92 he he'
              obtain ⟨ao, c, rfl⟩ := own_shape hrow
              go_wp2_with (go_at_call 71; refine (at_ex _ _ _).mono ?_; rintro x w2 ⟨rfl, hb⟩; have hq2 := keep_q hq hb; obtain ⟨⟨u0, u1, u2, u3, q0, q1, q2, q3⟩, g0, g1, g2, g3⟩ := flt_cells hq2)
              exact q_end (badT 65 k) HX.out hq2 (Below.next hB hb) (by rfl) (by rfl) (by rfl) rfl
          · have ez : decide ((s.size : Int) ≤ (k : Int) + 1) = true := decide_eq_true (by omega)
            have HX : Hid (badT 65 k = quo s a (a + 1) []) := by rw [dif_neg hl2] at hQ2; exact hQ2
            clear hQ2 hbk h39 h92
            obtain ⟨ao, c, rfl⟩ := own_shape hrow
            go_wp2_with (go_at_call 71; refine (at_ex _ _ _).mono ?_; rintro x w2 ⟨rfl, hb⟩; have hq2 := keep_q hq hb; obtain ⟨⟨u0, u1, u2, u3, q0, q1, q2, q3⟩, g0, g1, g2, g3⟩ := flt_cells hq2)
            exact q_end (badT 65 k) HX.out hq2 (Below.next hB hb) (by rfl) (by rfl) (by rfl) rfl
        · rw [if_neg h92] at hQ2
          have e92 : (((s[k].toNat : Nat) : Int) == 92) = false := int_ne h92 rfl
          by_cases hlo : s[k].toNat < 33
          · have HX : Hid (badT 61 k = quo s a (a + 1) []) := by rw [if_pos (Or.inl hlo)] at hQ2; exact hQ2
            clear hQ2 hbk h39 h92
            obtain ⟨ao, c, rfl⟩ := own_shape hrow
            go_wp2_with (go_at_call 71; refine (at_ex _ _ _).mono ?_; rintro x w2 ⟨rfl, hb⟩; have hq2 := keep_q hq hb; obtain ⟨⟨u0, u1, u2, u3, q0, q1, q2, q3⟩, g0, g1, g2, g3⟩ := flt_cells hq2)
            exact q_end (badT 61 k) HX.out hq2 (Below.next hB hb) (by rfl) (by rfl) (by rfl) rfl
          · by_cases hhi : 126 < s[k].toNat
            · have HX : Hid (badT 61 k = quo s a (a + 1) []) := by rw [if_pos (Or.inr hhi)] at hQ2; exact hQ2
              clear hQ2 hbk h39 h92
              obtain ⟨ao, c, rfl⟩ := own_shape hrow
              go_wp2_with (go_at_call 71; refine (at_ex _ _ _).mono ?_; rintro x w2 ⟨rfl, hb⟩; have hq2 := keep_q hq hb; obtain ⟨⟨u0, u1, u2, u3, q0, q1, q2, q3⟩, g0, g1, g2, g3⟩ := flt_cells hq2)
              exact q_end (badT 61 k) HX.out hq2 (Below.next hB hb) (by rfl) (by rfl) (by rfl) rfl
            · have HX : Hid (quo s a (k + 1) (acc ++ [s[k]]) = quo s a (a + 1) []) := by rw [if_neg (by omega)] at hQ2; exact hQ2
              clear hQ2 hbk h39 h92
              obtain ⟨ao, c, rfl⟩ := own_shape hrow
              go_wp2_with (at_builtin; refine wpList_append_own _ rfl _ _ 49 rfl (w.heap.size + 1) 5 i0 (.int .u8 0) 1 1 Tryz.underlying49 hi hz0 hz1 hz2 rfl (by decide) _ _ _ rfl (hrow.alloc _) ⟨wr.heap.size, 0, none⟩ 1 1 [.int .u8 (s[k].toNat : Int)] rfl rfl (cell_one_new _ _ _) (by simp [Value.oneCell']) (by unfold maxLen; omega) (by omega) (by simp; omega) ?_; intro v' w1 hown' hgrow _)
              obtain ⟨hB1, hq1⟩ := row_next hrow hB hq hgrow
              exact ⟨⟨k + 1, acc ++ [s[k]], by omega, by simp; omega, congrArg (Value.int .i64) (by omega), by rw [bcells_snoc]; simpa using hown', hq1, hB1, HX⟩, by simp [intOf]; omega⟩
    · have HX : Hid (badT 64 a = quo s a (a + 1) []) := (quo_end (a := a) (acc := acc) (by omega)).symm.trans hQ.out
      obtain ⟨ao, c, rfl⟩ := own_shape hrow
      go_wp2_with (go_at_call 71; refine (at_ex _ _ _).mono ?_; rintro x w2 ⟨rfl, hb⟩; have hq2 := keep_q hq hb; obtain ⟨⟨u0, u1, u2, u3, q0, q1, q2, q3⟩, g0, g1, g2, g3⟩ := flt_cells hq2)
      exact q_end (badT 64 a) HX.out hq2 (Below.next hB hb) (by rfl) (by rfl) (by rfl) rfl
end Go.Proofs.YtklfnphkepfmaaaGreatDoor

/- Token of layer 6's reference, at every source and place. -/
namespace Go.Proofs.YtklfnphkepfmaaaGreatDoor
open Go.RowKit

set_option maxHeartbeats 400000 in
theorem at_eq (c a : Int) (w : World) :
    Calls Tryz.prog 71 #[.int .i64 c, .int .i64 a] w fun e w' => e = .returned (flt c a) ∧ w' = w.alloc (fltObj c a) := by
  go_enter Tryz.func71, Tryz.ntmps71
  go_wp2
  exact bodyPost_ret (v := flt c a) (by simp [results, Tryz.results71, go_sem, flt]) rfl ⟨rfl, rfl⟩
/-- A token and a fault, as the reference answers them. -/
def TAns (w : World) (x : Lx) (e : Ending) (w' : World) : Prop := e = .returned (.tuple #[tokV x.tok, flt x.code x.pl]) ∧ Below w.heap.size w w'
set_option maxRecDepth 100000 in
set_option maxHeartbeats 2000000 in
theorem rtok_small_no {s : ByteArray} {a : Nat} {w : World} (hs : s.size ≤ 4194304) (ha : a < s.size) (hk : kd s a = 3) (hl : 32 < wEnd s a - a) :
    Calls Tryz.prog 106 #[.string s, .int .i64 (a : Int)] w (TAns w (badT 62 a)) := by
  have hkb := kd_byte ha
  have hsm := fun W => rsmall_any s[a].toNat W
  have hgr := fun W => rgreat_any s[a].toNat W
  have hdi := fun W => rdigit_any s[a].toNat W
  have hma := fun W => rmark_any s[a].toNat W
  rw [← hkb] at hsm hgr hdi hma
  rw [decide_eq_true hk] at hsm
  rw [decide_eq_false (show ¬ kd s a = 4 by omega)] at hgr
  rw [decide_eq_false (show ¬ kd s a = 5 by omega)] at hdi
  rw [decide_eq_false (show ¬ kd s a = 9 by omega)] at hma
  have hro := fun W => rrow_any s a W (by omega) (by omega)
  have h1 := wEnd_ge s a
  have h2 : wEnd s a ≤ s.size := wEnd_le (by omega)
  have hl' : (32 : Int) < (wEnd s a : Int) - (a : Int) := by omega
  clear hk hl
  clear hkb
  go_enter Tryz.func106, Tryz.ntmps106
  go_wp2_with (first
    | (go_at_call 83; refine (hsm _).mono ?_; rintro x w2 ⟨rfl, rfl⟩)
    | (go_at_call 112; refine (hgr _).mono ?_; rintro x w2 ⟨rfl, rfl⟩)
    | (go_at_call 84; refine (hro _).mono ?_; rintro x w2 ⟨rfl, rfl⟩)
    | (go_at_call 71; refine (at_eq _ _ _).mono ?_; rintro x w2 ⟨rfl, rfl⟩))
  all_goals
    refine bodyPost_ret (v := .tuple #[tokV tk0, flt 62 a]) (by simp [results, Tryz.results106, go_sem, flt, fltObj]) rfl ⟨rfl, ?_⟩
    repeat (first | exact Below.refl _ _ | refine Below.drew ?_ | refine Below.setCell ?_ (by first | (simp; done) | (simp; omega)) _ | refine Below.alloc ?_ (by first | (simp; done) | (simp; omega)) _)
set_option maxRecDepth 100000 in
set_option maxHeartbeats 2000000 in
theorem rtok_small_yes {s : ByteArray} {a : Nat} {w : World} (hs : s.size ≤ 4194304) (ha : a < s.size) (hk : kd s a = 3) (hl : ¬ 32 < wEnd s a - a) (e : Nat) (he : e = wEnd s a) :
    Calls Tryz.prog 106 #[.string s, .int .i64 (a : Int)] w (TAns w (okT ⟨1, cutB s a e, 0, a, e⟩)) := by
  have hkb := kd_byte ha
  have hsm := fun W => rsmall_any s[a].toNat W
  have hgr := fun W => rgreat_any s[a].toNat W
  have hdi := fun W => rdigit_any s[a].toNat W
  have hma := fun W => rmark_any s[a].toNat W
  rw [← hkb] at hsm hgr hdi hma
  rw [decide_eq_true hk] at hsm
  rw [decide_eq_false (show ¬ kd s a = 4 by omega)] at hgr
  rw [decide_eq_false (show ¬ kd s a = 5 by omega)] at hdi
  rw [decide_eq_false (show ¬ kd s a = 9 by omega)] at hma
  have hro := fun W => rrow_any s a W (by omega) (by omega)
  have h1 := wEnd_ge s a
  have h2 : wEnd s a ≤ s.size := wEnd_le (by omega)
  rw [← he] at hro h1 h2 hl
  have hl' : ¬ (32 : Int) < (e : Int) - (a : Int) := by omega
  have e1 : (a : Int) + ((e : Int) - (a : Int)) = (e : Int) := by omega
  have hwr : IntKind.i64.wrap (e : Int) = (e : Int) := by rw [IntKind.wrap_i64]; omega
  have b1 : (0 : Int) ≤ (e : Int) := by omega
  have b2 : (e : Int) ≤ (s.size : Int) := by omega
  have b3 : (a : Int) ≤ (e : Int) := by omega
  clear hk hl he
  clear hkb
  go_enter Tryz.func106, Tryz.ntmps106
  go_wp2_with (first
    | (go_at_call 83; refine (hsm _).mono ?_; rintro x w2 ⟨rfl, rfl⟩)
    | (go_at_call 112; refine (hgr _).mono ?_; rintro x w2 ⟨rfl, rfl⟩)
    | (go_at_call 84; refine (hro _).mono ?_; rintro x w2 ⟨rfl, rfl⟩))
  go_region_law (go_simp; go_at_call 107; refine (no_eq _).mono ?_; rintro x wq ⟨rfl, hwq⟩; subst hwq)
  all_goals go_wp2
  all_goals
    refine bodyPost_ret (v := .tuple #[tokV ⟨1, cutB s a e, 0, a, e⟩, flt 0 0]) (by simp [results, Tryz.results106, go_sem, flt, fltObj, cutB]) rfl ⟨rfl, ?_⟩
    repeat (first | exact Below.refl _ _ | refine Below.drew ?_ | refine Below.setCell ?_ (by first | (simp; done) | (simp; omega)) _ | refine Below.alloc ?_ (by first | (simp; done) | (simp; omega)) _)
set_option maxRecDepth 100000 in
set_option maxHeartbeats 2000000 in
theorem rtok_great_no {s : ByteArray} {a : Nat} {w : World} (hs : s.size ≤ 4194304) (ha : a < s.size) (hk : kd s a = 4) (hl : 32 < wEnd s a - a) :
    Calls Tryz.prog 106 #[.string s, .int .i64 (a : Int)] w (TAns w (badT 62 a)) := by
  have hkb := kd_byte ha
  have hsm := fun W => rsmall_any s[a].toNat W
  have hgr := fun W => rgreat_any s[a].toNat W
  have hdi := fun W => rdigit_any s[a].toNat W
  have hma := fun W => rmark_any s[a].toNat W
  rw [← hkb] at hsm hgr hdi hma
  rw [decide_eq_false (show ¬ kd s a = 3 by omega)] at hsm
  rw [decide_eq_true hk] at hgr
  rw [decide_eq_false (show ¬ kd s a = 5 by omega)] at hdi
  rw [decide_eq_false (show ¬ kd s a = 9 by omega)] at hma
  have hro := fun W => rrow_any s a W (by omega) (by omega)
  have h1 := wEnd_ge s a
  have h2 : wEnd s a ≤ s.size := wEnd_le (by omega)
  have hl' : (32 : Int) < (wEnd s a : Int) - (a : Int) := by omega
  clear hk hl
  clear hkb
  go_enter Tryz.func106, Tryz.ntmps106
  go_wp2_with (first
    | (go_at_call 83; refine (hsm _).mono ?_; rintro x w2 ⟨rfl, rfl⟩)
    | (go_at_call 112; refine (hgr _).mono ?_; rintro x w2 ⟨rfl, rfl⟩)
    | (go_at_call 84; refine (hro _).mono ?_; rintro x w2 ⟨rfl, rfl⟩)
    | (go_at_call 71; refine (at_eq _ _ _).mono ?_; rintro x w2 ⟨rfl, rfl⟩))
  all_goals
    refine bodyPost_ret (v := .tuple #[tokV tk0, flt 62 a]) (by simp [results, Tryz.results106, go_sem, flt, fltObj]) rfl ⟨rfl, ?_⟩
    repeat (first | exact Below.refl _ _ | refine Below.drew ?_ | refine Below.setCell ?_ (by first | (simp; done) | (simp; omega)) _ | refine Below.alloc ?_ (by first | (simp; done) | (simp; omega)) _)
set_option maxRecDepth 100000 in
set_option maxHeartbeats 2000000 in
theorem rtok_great_yes {s : ByteArray} {a : Nat} {w : World} (hs : s.size ≤ 4194304) (ha : a < s.size) (hk : kd s a = 4) (hl : ¬ 32 < wEnd s a - a) (e : Nat) (he : e = wEnd s a) :
    Calls Tryz.prog 106 #[.string s, .int .i64 (a : Int)] w (TAns w (okT ⟨2, cutB s a e, 0, a, e⟩)) := by
  have hkb := kd_byte ha
  have hsm := fun W => rsmall_any s[a].toNat W
  have hgr := fun W => rgreat_any s[a].toNat W
  have hdi := fun W => rdigit_any s[a].toNat W
  have hma := fun W => rmark_any s[a].toNat W
  rw [← hkb] at hsm hgr hdi hma
  rw [decide_eq_false (show ¬ kd s a = 3 by omega)] at hsm
  rw [decide_eq_true hk] at hgr
  rw [decide_eq_false (show ¬ kd s a = 5 by omega)] at hdi
  rw [decide_eq_false (show ¬ kd s a = 9 by omega)] at hma
  have hro := fun W => rrow_any s a W (by omega) (by omega)
  have h1 := wEnd_ge s a
  have h2 : wEnd s a ≤ s.size := wEnd_le (by omega)
  rw [← he] at hro h1 h2 hl
  have hl' : ¬ (32 : Int) < (e : Int) - (a : Int) := by omega
  have e1 : (a : Int) + ((e : Int) - (a : Int)) = (e : Int) := by omega
  have hwr : IntKind.i64.wrap (e : Int) = (e : Int) := by rw [IntKind.wrap_i64]; omega
  have b1 : (0 : Int) ≤ (e : Int) := by omega
  have b2 : (e : Int) ≤ (s.size : Int) := by omega
  have b3 : (a : Int) ≤ (e : Int) := by omega
  clear hk hl he
  clear hkb
  go_enter Tryz.func106, Tryz.ntmps106
  go_wp2_with (first
    | (go_at_call 83; refine (hsm _).mono ?_; rintro x w2 ⟨rfl, rfl⟩)
    | (go_at_call 112; refine (hgr _).mono ?_; rintro x w2 ⟨rfl, rfl⟩)
    | (go_at_call 84; refine (hro _).mono ?_; rintro x w2 ⟨rfl, rfl⟩))
  go_region_law (go_simp; go_at_call 107; refine (no_eq _).mono ?_; rintro x wq ⟨rfl, hwq⟩; subst hwq)
  all_goals go_wp2
  all_goals
    refine bodyPost_ret (v := .tuple #[tokV ⟨2, cutB s a e, 0, a, e⟩, flt 0 0]) (by simp [results, Tryz.results106, go_sem, flt, fltObj, cutB]) rfl ⟨rfl, ?_⟩
    repeat (first | exact Below.refl _ _ | refine Below.drew ?_ | refine Below.setCell ?_ (by first | (simp; done) | (simp; omega)) _ | refine Below.alloc ?_ (by first | (simp; done) | (simp; omega)) _)
set_option maxRecDepth 100000 in
set_option maxHeartbeats 2000000 in
theorem rtok_digit_yes {s : ByteArray} {a : Nat} {w : World} (hs : s.size ≤ 4194304) (ha : a < s.size) (hk : kd s a = 5) (e : Nat) (he : e = wEnd s (a + 1)) (V : Int) (hwh : ∀ W, Calls Tryz.prog 129 #[.string (s.extract a e)] W fun x w' => (x = .returned (.tuple #[.int .i64 V, .bool true])) ∧ w' = W) :
    Calls Tryz.prog 106 #[.string s, .int .i64 (a : Int)] w (TAns w (okT ⟨3, ⟨#[]⟩, V, a, e⟩)) := by
  have hkb := kd_byte ha
  have hsm := fun W => rsmall_any s[a].toNat W
  have hgr := fun W => rgreat_any s[a].toNat W
  have hdi := fun W => rdigit_any s[a].toNat W
  have hma := fun W => rmark_any s[a].toNat W
  rw [← hkb] at hsm hgr hdi hma
  rw [decide_eq_false (show ¬ kd s a = 3 by omega)] at hsm
  rw [decide_eq_false (show ¬ kd s a = 4 by omega)] at hgr
  rw [decide_eq_true hk] at hdi
  rw [decide_eq_false (show ¬ kd s a = 9 by omega)] at hma
  have x39 : (((s[a].toNat : Nat) : Int) == 39) = false := by
    rw [hkb] at hk
    exact beq_eq_false_iff_ne.2 (fun h => by rw [show s[a].toNat = 39 by omega] at hk; exact absurd hk (by decide))
  have hro := fun W => rrow_any s (a + 1) W (by omega) (by omega)
  have h1 := wEnd_ge s (a + 1)
  have h2 : wEnd s (a + 1) ≤ s.size := wEnd_le (by omega)
  rw [← he] at hro h1 h2
  rw [Int.natCast_add, Int.natCast_one] at hro
  have e1 : (a : Int) + 1 + ((e : Int) - ((a : Int) + 1)) = (e : Int) := by omega
  clear hk he
  clear hkb
  go_enter Tryz.func106, Tryz.ntmps106
  go_wp2_with (first
    | (go_at_call 83; refine (hsm _).mono ?_; rintro x w2 ⟨rfl, rfl⟩)
    | (go_at_call 112; refine (hgr _).mono ?_; rintro x w2 ⟨rfl, rfl⟩)
    | (go_at_call 128; refine (hdi _).mono ?_; clear hdi; rintro x w2 ⟨rfl, rfl⟩)
    | (go_at_call 84; refine (hro _).mono ?_; rintro x w2 ⟨rfl, rfl⟩)
    | (go_at_call 129; refine (hwh _).mono ?_; rintro x w2 ⟨rfl, rfl⟩)
    | (go_at_call 107; refine (no_eq _).mono ?_; rintro x w2 ⟨rfl, rfl⟩))
  all_goals
    refine bodyPost_ret (v := .tuple #[tokV ⟨3, ⟨#[]⟩, V, a, e⟩, flt 0 0]) (by simp [results, Tryz.results106, go_sem, flt, fltObj]) rfl ⟨rfl, ?_⟩
    repeat (first | exact Below.refl _ _ | refine Below.drew ?_ | refine Below.setCell ?_ (by first | (simp; done) | (simp; omega)) _ | refine Below.alloc ?_ (by first | (simp; done) | (simp; omega)) _)
set_option maxRecDepth 100000 in
set_option maxHeartbeats 2000000 in
theorem rtok_digit_no {s : ByteArray} {a : Nat} {w : World} (hs : s.size ≤ 4194304) (ha : a < s.size) (hk : kd s a = 5) (e : Nat) (he : e = wEnd s (a + 1)) (hwh : ∀ W, Calls Tryz.prog 129 #[.string (s.extract a e)] W fun x w' => (∃ n : Int, x = .returned (.tuple #[.int .i64 n, .bool false])) ∧ w' = W) :
    Calls Tryz.prog 106 #[.string s, .int .i64 (a : Int)] w (TAns w (badT 63 a)) := by
  have hkb := kd_byte ha
  have hsm := fun W => rsmall_any s[a].toNat W
  have hgr := fun W => rgreat_any s[a].toNat W
  have hdi := fun W => rdigit_any s[a].toNat W
  have hma := fun W => rmark_any s[a].toNat W
  rw [← hkb] at hsm hgr hdi hma
  rw [decide_eq_false (show ¬ kd s a = 3 by omega)] at hsm
  rw [decide_eq_false (show ¬ kd s a = 4 by omega)] at hgr
  rw [decide_eq_true hk] at hdi
  rw [decide_eq_false (show ¬ kd s a = 9 by omega)] at hma
  have x39 : (((s[a].toNat : Nat) : Int) == 39) = false := by
    rw [hkb] at hk
    exact beq_eq_false_iff_ne.2 (fun h => by rw [show s[a].toNat = 39 by omega] at hk; exact absurd hk (by decide))
  have hro := fun W => rrow_any s (a + 1) W (by omega) (by omega)
  have h1 := wEnd_ge s (a + 1)
  have h2 : wEnd s (a + 1) ≤ s.size := wEnd_le (by omega)
  rw [← he] at hro h1 h2
  rw [Int.natCast_add, Int.natCast_one] at hro
  have e1 : (a : Int) + 1 + ((e : Int) - ((a : Int) + 1)) = (e : Int) := by omega
  clear hk he
  clear hkb
  go_enter Tryz.func106, Tryz.ntmps106
  go_wp2_with (first
    | (go_at_call 83; refine (hsm _).mono ?_; rintro x w2 ⟨rfl, rfl⟩)
    | (go_at_call 112; refine (hgr _).mono ?_; rintro x w2 ⟨rfl, rfl⟩)
    | (go_at_call 128; refine (hdi _).mono ?_; clear hdi; rintro x w2 ⟨rfl, rfl⟩)
    | (go_at_call 84; refine (hro _).mono ?_; rintro x w2 ⟨rfl, rfl⟩)
    | (go_at_call 129; refine (hwh _).mono ?_; rintro x w2 ⟨⟨n, rfl⟩, rfl⟩)
    | (go_at_call 71; refine (at_eq _ _ _).mono ?_; rintro x w2 ⟨rfl, rfl⟩))
  all_goals
    refine bodyPost_ret (v := .tuple #[tokV tk0, flt 63 a]) (by simp [results, Tryz.results106, go_sem, flt, fltObj]) rfl ⟨rfl, ?_⟩
    repeat (first | exact Below.refl _ _ | refine Below.drew ?_ | refine Below.setCell ?_ (by first | (simp; done) | (simp; omega)) _ | refine Below.alloc ?_ (by first | (simp; done) | (simp; omega)) _)
set_option maxRecDepth 100000 in
set_option maxHeartbeats 2000000 in
theorem rtok_sign_yes {s : ByteArray} {a : Nat} {w : World} (hs : s.size ≤ 4194304) (ha : a < s.size) (hk : kd s a = 6) (h5 : kd s (a + 1) = 5) (e : Nat) (he : e = wEnd s (a + 1)) (V : Int) (hwh : ∀ W, Calls Tryz.prog 129 #[.string (s.extract a e)] W fun x w' => (x = .returned (.tuple #[.int .i64 V, .bool true])) ∧ w' = W) :
    Calls Tryz.prog 106 #[.string s, .int .i64 (a : Int)] w (TAns w (okT ⟨3, ⟨#[]⟩, V, a, e⟩)) := by
  have hkb := kd_byte ha
  have hsm := fun W => rsmall_any s[a].toNat W
  have hgr := fun W => rgreat_any s[a].toNat W
  have hdi := fun W => rdigit_any s[a].toNat W
  have hma := fun W => rmark_any s[a].toNat W
  rw [← hkb] at hsm hgr hdi hma
  rw [decide_eq_false (show ¬ kd s a = 3 by omega)] at hsm
  rw [decide_eq_false (show ¬ kd s a = 4 by omega)] at hgr
  rw [decide_eq_false (show ¬ kd s a = 5 by omega)] at hdi
  rw [decide_eq_false (show ¬ kd s a = 9 by omega)] at hma
  have ha1 : a + 1 < s.size := kd_lt (by omega)
  have hdi2 := fun W => rdigit_any s[a + 1].toNat W
  rw [← kd_byte ha1, decide_eq_true h5] at hdi2
  have x39 : (((s[a].toNat : Nat) : Int) == 39) = false := by
    rw [hkb] at hk
    exact beq_eq_false_iff_ne.2 (fun h => by rw [show s[a].toNat = 39 by omega] at hk; exact absurd hk (by decide))
  have x45 : (((s[a].toNat : Nat) : Int) == 45) = true := by
    rw [hkb] at hk
    rw [(kb_6 _).1 hk]
    rfl
  have hro := fun W => rrow_any s (a + 1) W (by omega) (by omega)
  have h1 := wEnd_ge s (a + 1)
  have h2 : wEnd s (a + 1) ≤ s.size := wEnd_le (by omega)
  rw [← he] at hro h1 h2
  rw [Int.natCast_add, Int.natCast_one] at hro
  have e1 : (a : Int) + 1 + ((e : Int) - ((a : Int) + 1)) = (e : Int) := by omega
  clear hk he h5
  clear hkb
  go_enter Tryz.func106, Tryz.ntmps106
  go_wp2_with (first
    | (go_at_call 83; refine (hsm _).mono ?_; rintro x w2 ⟨rfl, rfl⟩)
    | (go_at_call 112; refine (hgr _).mono ?_; rintro x w2 ⟨rfl, rfl⟩)
    | (go_at_call 128; refine (hdi _).mono ?_; clear hdi; rintro x w2 ⟨rfl, rfl⟩)
    | (go_at_call 128; refine (hdi2 _).mono ?_; rintro x w2 ⟨rfl, rfl⟩)
    | (go_at_call 84; refine (hro _).mono ?_; rintro x w2 ⟨rfl, rfl⟩)
    | (go_at_call 129; refine (hwh _).mono ?_; rintro x w2 ⟨rfl, rfl⟩)
    | (go_at_call 107; refine (no_eq _).mono ?_; rintro x w2 ⟨rfl, rfl⟩))
  all_goals
    refine bodyPost_ret (v := .tuple #[tokV ⟨3, ⟨#[]⟩, V, a, e⟩, flt 0 0]) (by simp [results, Tryz.results106, go_sem, flt, fltObj]) rfl ⟨rfl, ?_⟩
    repeat (first | exact Below.refl _ _ | refine Below.drew ?_ | refine Below.setCell ?_ (by first | (simp; done) | (simp; omega)) _ | refine Below.alloc ?_ (by first | (simp; done) | (simp; omega)) _)
set_option maxRecDepth 100000 in
set_option maxHeartbeats 2000000 in
theorem rtok_sign_no {s : ByteArray} {a : Nat} {w : World} (hs : s.size ≤ 4194304) (ha : a < s.size) (hk : kd s a = 6) (h5 : kd s (a + 1) = 5) (e : Nat) (he : e = wEnd s (a + 1)) (hwh : ∀ W, Calls Tryz.prog 129 #[.string (s.extract a e)] W fun x w' => (∃ n : Int, x = .returned (.tuple #[.int .i64 n, .bool false])) ∧ w' = W) :
    Calls Tryz.prog 106 #[.string s, .int .i64 (a : Int)] w (TAns w (badT 63 a)) := by
  have hkb := kd_byte ha
  have hsm := fun W => rsmall_any s[a].toNat W
  have hgr := fun W => rgreat_any s[a].toNat W
  have hdi := fun W => rdigit_any s[a].toNat W
  have hma := fun W => rmark_any s[a].toNat W
  rw [← hkb] at hsm hgr hdi hma
  rw [decide_eq_false (show ¬ kd s a = 3 by omega)] at hsm
  rw [decide_eq_false (show ¬ kd s a = 4 by omega)] at hgr
  rw [decide_eq_false (show ¬ kd s a = 5 by omega)] at hdi
  rw [decide_eq_false (show ¬ kd s a = 9 by omega)] at hma
  have ha1 : a + 1 < s.size := kd_lt (by omega)
  have hdi2 := fun W => rdigit_any s[a + 1].toNat W
  rw [← kd_byte ha1, decide_eq_true h5] at hdi2
  have x39 : (((s[a].toNat : Nat) : Int) == 39) = false := by
    rw [hkb] at hk
    exact beq_eq_false_iff_ne.2 (fun h => by rw [show s[a].toNat = 39 by omega] at hk; exact absurd hk (by decide))
  have x45 : (((s[a].toNat : Nat) : Int) == 45) = true := by
    rw [hkb] at hk
    rw [(kb_6 _).1 hk]
    rfl
  have hro := fun W => rrow_any s (a + 1) W (by omega) (by omega)
  have h1 := wEnd_ge s (a + 1)
  have h2 : wEnd s (a + 1) ≤ s.size := wEnd_le (by omega)
  rw [← he] at hro h1 h2
  rw [Int.natCast_add, Int.natCast_one] at hro
  have e1 : (a : Int) + 1 + ((e : Int) - ((a : Int) + 1)) = (e : Int) := by omega
  clear hk he h5
  clear hkb
  go_enter Tryz.func106, Tryz.ntmps106
  go_wp2_with (first
    | (go_at_call 83; refine (hsm _).mono ?_; rintro x w2 ⟨rfl, rfl⟩)
    | (go_at_call 112; refine (hgr _).mono ?_; rintro x w2 ⟨rfl, rfl⟩)
    | (go_at_call 128; refine (hdi _).mono ?_; clear hdi; rintro x w2 ⟨rfl, rfl⟩)
    | (go_at_call 128; refine (hdi2 _).mono ?_; rintro x w2 ⟨rfl, rfl⟩)
    | (go_at_call 84; refine (hro _).mono ?_; rintro x w2 ⟨rfl, rfl⟩)
    | (go_at_call 129; refine (hwh _).mono ?_; rintro x w2 ⟨⟨n, rfl⟩, rfl⟩)
    | (go_at_call 71; refine (at_eq _ _ _).mono ?_; rintro x w2 ⟨rfl, rfl⟩))
  all_goals
    refine bodyPost_ret (v := .tuple #[tokV tk0, flt 63 a]) (by simp [results, Tryz.results106, go_sem, flt, fltObj]) rfl ⟨rfl, ?_⟩
    repeat (first | exact Below.refl _ _ | refine Below.drew ?_ | refine Below.setCell ?_ (by first | (simp; done) | (simp; omega)) _ | refine Below.alloc ?_ (by first | (simp; done) | (simp; omega)) _)
set_option maxRecDepth 100000 in
set_option maxHeartbeats 2000000 in
theorem rtok_sign_bad {s : ByteArray} {a : Nat} {w : World} (hs : s.size ≤ 4194304) (ha : a < s.size) (hk : kd s a = 6) (h5 : kd s (a + 1) ≠ 5) (ha1 : a + 1 < s.size) :
    Calls Tryz.prog 106 #[.string s, .int .i64 (a : Int)] w (TAns w (badT 61 a)) := by
  have hkb := kd_byte ha
  have hsm := fun W => rsmall_any s[a].toNat W
  have hgr := fun W => rgreat_any s[a].toNat W
  have hdi := fun W => rdigit_any s[a].toNat W
  have hma := fun W => rmark_any s[a].toNat W
  rw [← hkb] at hsm hgr hdi hma
  rw [decide_eq_false (show ¬ kd s a = 3 by omega)] at hsm
  rw [decide_eq_false (show ¬ kd s a = 4 by omega)] at hgr
  rw [decide_eq_false (show ¬ kd s a = 5 by omega)] at hdi
  rw [decide_eq_false (show ¬ kd s a = 9 by omega)] at hma
  have hdi2 := fun W => rdigit_any s[a + 1].toNat W
  rw [← kd_byte ha1, decide_eq_false h5] at hdi2
  have x39 : (((s[a].toNat : Nat) : Int) == 39) = false := by
    rw [hkb] at hk
    exact beq_eq_false_iff_ne.2 (fun h => by rw [show s[a].toNat = 39 by omega] at hk; exact absurd hk (by decide))
  have x45 : (((s[a].toNat : Nat) : Int) == 45) = true := by
    rw [hkb] at hk
    rw [(kb_6 _).1 hk]
    rfl
  have x58 : (((s[a].toNat : Nat) : Int) == 58) = false := by
    rw [hkb] at hk
    exact beq_eq_false_iff_ne.2 (fun h => by rw [show s[a].toNat = 58 by omega] at hk; exact absurd hk (by decide))
  clear hk h5
  clear hkb
  go_enter Tryz.func106, Tryz.ntmps106
  go_wp2_with (first
    | (go_at_call 83; refine (hsm _).mono ?_; rintro x w2 ⟨rfl, rfl⟩)
    | (go_at_call 112; refine (hgr _).mono ?_; rintro x w2 ⟨rfl, rfl⟩)
    | (go_at_call 128; refine (hdi _).mono ?_; clear hdi; rintro x w2 ⟨rfl, rfl⟩)
    | (go_at_call 128; refine (hdi2 _).mono ?_; rintro x w2 ⟨rfl, rfl⟩)
    | (go_at_call 130; refine (hma _).mono ?_; rintro x w2 ⟨rfl, rfl⟩)
    | (go_at_call 71; refine (at_eq _ _ _).mono ?_; rintro x w2 ⟨rfl, rfl⟩))
  all_goals
    refine bodyPost_ret (v := .tuple #[tokV tk0, flt 61 a]) (by simp [results, Tryz.results106, go_sem, flt, fltObj]) rfl ⟨rfl, ?_⟩
    repeat (first | exact Below.refl _ _ | refine Below.drew ?_ | refine Below.setCell ?_ (by first | (simp; done) | (simp; omega)) _ | refine Below.alloc ?_ (by first | (simp; done) | (simp; omega)) _)
set_option maxRecDepth 100000 in
set_option maxHeartbeats 2000000 in
theorem rtok_sign_last {s : ByteArray} {a : Nat} {w : World} (hs : s.size ≤ 4194304) (ha : a < s.size) (hk : kd s a = 6) (ha1 : ¬ a + 1 < s.size) :
    Calls Tryz.prog 106 #[.string s, .int .i64 (a : Int)] w (TAns w (badT 61 a)) := by
  have hkb := kd_byte ha
  have hsm := fun W => rsmall_any s[a].toNat W
  have hgr := fun W => rgreat_any s[a].toNat W
  have hdi := fun W => rdigit_any s[a].toNat W
  have hma := fun W => rmark_any s[a].toNat W
  rw [← hkb] at hsm hgr hdi hma
  rw [decide_eq_false (show ¬ kd s a = 3 by omega)] at hsm
  rw [decide_eq_false (show ¬ kd s a = 4 by omega)] at hgr
  rw [decide_eq_false (show ¬ kd s a = 5 by omega)] at hdi
  rw [decide_eq_false (show ¬ kd s a = 9 by omega)] at hma
  have x39 : (((s[a].toNat : Nat) : Int) == 39) = false := by
    rw [hkb] at hk
    exact beq_eq_false_iff_ne.2 (fun h => by rw [show s[a].toNat = 39 by omega] at hk; exact absurd hk (by decide))
  have x45 : (((s[a].toNat : Nat) : Int) == 45) = true := by
    rw [hkb] at hk
    rw [(kb_6 _).1 hk]
    rfl
  have x58 : (((s[a].toNat : Nat) : Int) == 58) = false := by
    rw [hkb] at hk
    exact beq_eq_false_iff_ne.2 (fun h => by rw [show s[a].toNat = 58 by omega] at hk; exact absurd hk (by decide))
  have hd : decide ((a : Int) + 1 < (s.size : Int)) = false := decide_eq_false (by omega)
  clear hk ha1
  clear hkb
  go_enter Tryz.func106, Tryz.ntmps106
  go_wp2_with (first
    | (go_at_call 83; refine (hsm _).mono ?_; rintro x w2 ⟨rfl, rfl⟩)
    | (go_at_call 112; refine (hgr _).mono ?_; rintro x w2 ⟨rfl, rfl⟩)
    | (go_at_call 128; refine (hdi _).mono ?_; clear hdi; rintro x w2 ⟨rfl, rfl⟩)
    | (go_at_call 130; refine (hma _).mono ?_; rintro x w2 ⟨rfl, rfl⟩)
    | (go_at_call 71; refine (at_eq _ _ _).mono ?_; rintro x w2 ⟨rfl, rfl⟩))
  all_goals
    refine bodyPost_ret (v := .tuple #[tokV tk0, flt 61 a]) (by simp [results, Tryz.results106, go_sem, flt, fltObj]) rfl ⟨rfl, ?_⟩
    repeat (first | exact Below.refl _ _ | refine Below.drew ?_ | refine Below.setCell ?_ (by first | (simp; done) | (simp; omega)) _ | refine Below.alloc ?_ (by first | (simp; done) | (simp; omega)) _)
set_option maxRecDepth 100000 in
set_option maxHeartbeats 2000000 in
theorem rtok_mark {s : ByteArray} {a : Nat} {w : World} (hs : s.size ≤ 4194304) (ha : a < s.size) (hk : kd s a = 9) :
    Calls Tryz.prog 106 #[.string s, .int .i64 (a : Int)] w (TAns w (okT ⟨4, cutB s a (a + 1), 0, a, a + 1⟩)) := by
  have hkb := kd_byte ha
  have hsm := fun W => rsmall_any s[a].toNat W
  have hgr := fun W => rgreat_any s[a].toNat W
  have hdi := fun W => rdigit_any s[a].toNat W
  have hma := fun W => rmark_any s[a].toNat W
  rw [← hkb] at hsm hgr hdi hma
  rw [decide_eq_false (show ¬ kd s a = 3 by omega)] at hsm
  rw [decide_eq_false (show ¬ kd s a = 4 by omega)] at hgr
  rw [decide_eq_false (show ¬ kd s a = 5 by omega)] at hdi
  rw [decide_eq_true hk] at hma
  have x39 : (((s[a].toNat : Nat) : Int) == 39) = false := by
    rw [hkb] at hk
    exact beq_eq_false_iff_ne.2 (fun h => by rw [show s[a].toNat = 39 by omega] at hk; exact absurd hk (by decide))
  have x45 : (((s[a].toNat : Nat) : Int) == 45) = false := by
    rw [hkb] at hk
    exact beq_eq_false_iff_ne.2 (fun h => by rw [show s[a].toNat = 45 by omega] at hk; exact absurd hk (by decide))
  have x58 : (((s[a].toNat : Nat) : Int) == 58) = false := by
    rw [hkb] at hk
    exact beq_eq_false_iff_ne.2 (fun h => by rw [show s[a].toNat = 58 by omega] at hk; exact absurd hk (by decide))
  have hwr : IntKind.i64.wrap ((a : Int) + 1) = (a : Int) + 1 := by rw [IntKind.wrap_i64]; omega
  have b2 : (a : Int) + 1 ≤ (s.size : Int) := by omega
  have b1 : (0 : Int) ≤ (a : Int) + 1 := by omega
  have b3 : (a : Int) ≤ (a : Int) + 1 := by omega
  clear hk
  clear hkb
  go_enter Tryz.func106, Tryz.ntmps106
  go_wp2_with (first
    | (go_at_call 83; refine (hsm _).mono ?_; rintro x w2 ⟨rfl, rfl⟩)
    | (go_at_call 112; refine (hgr _).mono ?_; rintro x w2 ⟨rfl, rfl⟩)
    | (go_at_call 128; refine (hdi _).mono ?_; clear hdi; rintro x w2 ⟨rfl, rfl⟩)
    | (go_at_call 130; refine (hma _).mono ?_; rintro x w2 ⟨rfl, rfl⟩))
  go_region_law (go_simp; go_at_call 107; refine (no_eq _).mono ?_; rintro x wq ⟨rfl, hwq⟩; subst hwq)
  all_goals go_wp2
  all_goals
    refine bodyPost_ret (v := .tuple #[tokV ⟨4, cutB s a (a + 1), 0, a, a + 1⟩, flt 0 0]) (by simp [results, Tryz.results106, go_sem, flt, fltObj, cutB]) rfl ⟨rfl, ?_⟩
    repeat (first | exact Below.refl _ _ | refine Below.drew ?_ | refine Below.setCell ?_ (by first | (simp; done) | (simp; omega)) _ | refine Below.alloc ?_ (by first | (simp; done) | (simp; omega)) _)
set_option maxRecDepth 100000 in
set_option maxHeartbeats 2000000 in
theorem rtok_none {s : ByteArray} {a : Nat} {w : World} (hs : s.size ≤ 4194304) (ha : a < s.size) (hk : kd s a ≠ 3 ∧ kd s a ≠ 4 ∧ kd s a ≠ 5 ∧ kd s a ≠ 6 ∧ kd s a ≠ 7 ∧ kd s a ≠ 8 ∧ kd s a ≠ 9) :
    Calls Tryz.prog 106 #[.string s, .int .i64 (a : Int)] w (TAns w (badT 61 a)) := by
  have hkb := kd_byte ha
  have hsm := fun W => rsmall_any s[a].toNat W
  have hgr := fun W => rgreat_any s[a].toNat W
  have hdi := fun W => rdigit_any s[a].toNat W
  have hma := fun W => rmark_any s[a].toNat W
  rw [← hkb] at hsm hgr hdi hma
  have _hs := hs
  obtain ⟨k3, k4, k5, k6, k7, k8, k9⟩ := hk
  rw [decide_eq_false k3] at hsm
  rw [decide_eq_false k4] at hgr
  rw [decide_eq_false k5] at hdi
  rw [decide_eq_false k9] at hma
  have x39 : (((s[a].toNat : Nat) : Int) == 39) = false := beq_eq_false_iff_ne.2 (fun h => k7 (hkb.trans ((kb_7 _).2 (by omega))))
  have x45 : (((s[a].toNat : Nat) : Int) == 45) = false := beq_eq_false_iff_ne.2 (fun h => k6 (hkb.trans ((kb_6 _).2 (by omega))))
  have x58 : (((s[a].toNat : Nat) : Int) == 58) = false := beq_eq_false_iff_ne.2 (fun h => k8 (hkb.trans ((kb_8 _).2 (by omega))))
  clear k3 k4 k5 k6 k7 k8 k9
  clear hkb
  go_enter Tryz.func106, Tryz.ntmps106
  go_wp2_with (first
    | (go_at_call 83; refine (hsm _).mono ?_; rintro x w2 ⟨rfl, rfl⟩)
    | (go_at_call 112; refine (hgr _).mono ?_; rintro x w2 ⟨rfl, rfl⟩)
    | (go_at_call 128; refine (hdi _).mono ?_; clear hdi; rintro x w2 ⟨rfl, rfl⟩)
    | (go_at_call 130; refine (hma _).mono ?_; rintro x w2 ⟨rfl, rfl⟩)
    | (go_at_call 71; refine (at_eq _ _ _).mono ?_; rintro x w2 ⟨rfl, rfl⟩))
  all_goals
    refine bodyPost_ret (v := .tuple #[tokV tk0, flt 61 a]) (by simp [results, Tryz.results106, go_sem, flt, fltObj]) rfl ⟨rfl, ?_⟩
    repeat (first | exact Below.refl _ _ | refine Below.drew ?_ | refine Below.setCell ?_ (by first | (simp; done) | (simp; omega)) _ | refine Below.alloc ?_ (by first | (simp; done) | (simp; omega)) _)
set_option maxRecDepth 100000 in
set_option maxHeartbeats 2000000 in
theorem rtok_colon_yes {s : ByteArray} {a : Nat} {w : World} (hs : s.size ≤ 4194304) (ha : a < s.size) (hk : kd s a = 8) (h6 : kd s (a + 1) = 6) :
    Calls Tryz.prog 106 #[.string s, .int .i64 (a : Int)] w (TAns w (okT ⟨4, cutB s a (a + 2), 0, a, a + 2⟩)) := by
  have hkb := kd_byte ha
  have hsm := fun W => rsmall_any s[a].toNat W
  have hgr := fun W => rgreat_any s[a].toNat W
  have hdi := fun W => rdigit_any s[a].toNat W
  have hma := fun W => rmark_any s[a].toNat W
  rw [← hkb] at hsm hgr hdi hma
  rw [decide_eq_false (show ¬ kd s a = 3 by omega)] at hsm
  rw [decide_eq_false (show ¬ kd s a = 4 by omega)] at hgr
  rw [decide_eq_false (show ¬ kd s a = 5 by omega)] at hdi
  rw [decide_eq_false (show ¬ kd s a = 9 by omega)] at hma
  have ha1 : a + 1 < s.size := kd_lt (by omega)
  have x39 : (((s[a].toNat : Nat) : Int) == 39) = false := by
    rw [hkb] at hk
    exact beq_eq_false_iff_ne.2 (fun h => by rw [show s[a].toNat = 39 by omega] at hk; exact absurd hk (by decide))
  have x45 : (((s[a].toNat : Nat) : Int) == 45) = false := by
    rw [hkb] at hk
    exact beq_eq_false_iff_ne.2 (fun h => by rw [show s[a].toNat = 45 by omega] at hk; exact absurd hk (by decide))
  have x58 : (((s[a].toNat : Nat) : Int) == 58) = true := by
    rw [hkb] at hk
    rw [(kb_8 _).1 hk]
    rfl
  have y45 : (((s[a + 1].toNat : Nat) : Int) == 45) = true := by
    rw [kd_byte ha1] at h6
    rw [(kb_6 _).1 h6]
    rfl
  have hwr : IntKind.i64.wrap ((a : Int) + 2) = (a : Int) + 2 := by rw [IntKind.wrap_i64]; omega
  have b2 : (a : Int) + 2 ≤ (s.size : Int) := by omega
  have b1 : (0 : Int) ≤ (a : Int) + 2 := by omega
  have b3 : (a : Int) ≤ (a : Int) + 2 := by omega
  clear hk h6
  clear hkb
  go_enter Tryz.func106, Tryz.ntmps106
  go_wp2_with (first
    | (go_at_call 83; refine (hsm _).mono ?_; rintro x w2 ⟨rfl, rfl⟩)
    | (go_at_call 112; refine (hgr _).mono ?_; rintro x w2 ⟨rfl, rfl⟩)
    | (go_at_call 128; refine (hdi _).mono ?_; clear hdi; rintro x w2 ⟨rfl, rfl⟩)
    | (go_at_call 130; refine (hma _).mono ?_; rintro x w2 ⟨rfl, rfl⟩))
  go_region_law (go_simp; go_at_call 107; refine (no_eq _).mono ?_; rintro x wq ⟨rfl, hwq⟩; subst hwq)
  all_goals go_wp2
  all_goals
    refine bodyPost_ret (v := .tuple #[tokV ⟨4, cutB s a (a + 2), 0, a, a + 2⟩, flt 0 0]) (by simp [results, Tryz.results106, go_sem, flt, fltObj, cutB, show ((a : Int) + 2).toNat = a + 2 by omega]) rfl ⟨rfl, ?_⟩
    repeat (first | exact Below.refl _ _ | refine Below.drew ?_ | refine Below.setCell ?_ (by first | (simp; done) | (simp; omega)) _ | refine Below.alloc ?_ (by first | (simp; done) | (simp; omega)) _)
set_option maxRecDepth 100000 in
set_option maxHeartbeats 2000000 in
theorem rtok_colon_bad {s : ByteArray} {a : Nat} {w : World} (hs : s.size ≤ 4194304) (ha : a < s.size) (hk : kd s a = 8) (h6 : kd s (a + 1) ≠ 6) (ha1 : a + 1 < s.size) :
    Calls Tryz.prog 106 #[.string s, .int .i64 (a : Int)] w (TAns w (badT 61 a)) := by
  have hkb := kd_byte ha
  have hsm := fun W => rsmall_any s[a].toNat W
  have hgr := fun W => rgreat_any s[a].toNat W
  have hdi := fun W => rdigit_any s[a].toNat W
  have hma := fun W => rmark_any s[a].toNat W
  rw [← hkb] at hsm hgr hdi hma
  rw [decide_eq_false (show ¬ kd s a = 3 by omega)] at hsm
  rw [decide_eq_false (show ¬ kd s a = 4 by omega)] at hgr
  rw [decide_eq_false (show ¬ kd s a = 5 by omega)] at hdi
  rw [decide_eq_false (show ¬ kd s a = 9 by omega)] at hma
  have x39 : (((s[a].toNat : Nat) : Int) == 39) = false := by
    rw [hkb] at hk
    exact beq_eq_false_iff_ne.2 (fun h => by rw [show s[a].toNat = 39 by omega] at hk; exact absurd hk (by decide))
  have x45 : (((s[a].toNat : Nat) : Int) == 45) = false := by
    rw [hkb] at hk
    exact beq_eq_false_iff_ne.2 (fun h => by rw [show s[a].toNat = 45 by omega] at hk; exact absurd hk (by decide))
  have x58 : (((s[a].toNat : Nat) : Int) == 58) = true := by
    rw [hkb] at hk
    rw [(kb_8 _).1 hk]
    rfl
  have y45 : (((s[a + 1].toNat : Nat) : Int) == 45) = false := beq_eq_false_iff_ne.2 (fun h => h6 ((kd_byte ha1).trans ((kb_6 _).2 (by omega))))
  clear hk h6
  clear hkb
  go_enter Tryz.func106, Tryz.ntmps106
  go_wp2_with (first
    | (go_at_call 83; refine (hsm _).mono ?_; rintro x w2 ⟨rfl, rfl⟩)
    | (go_at_call 112; refine (hgr _).mono ?_; rintro x w2 ⟨rfl, rfl⟩)
    | (go_at_call 128; refine (hdi _).mono ?_; clear hdi; rintro x w2 ⟨rfl, rfl⟩)
    | (go_at_call 130; refine (hma _).mono ?_; rintro x w2 ⟨rfl, rfl⟩)
    | (go_at_call 71; refine (at_eq _ _ _).mono ?_; rintro x w2 ⟨rfl, rfl⟩))
  all_goals
    refine bodyPost_ret (v := .tuple #[tokV tk0, flt 61 a]) (by simp [results, Tryz.results106, go_sem, flt, fltObj]) rfl ⟨rfl, ?_⟩
    repeat (first | exact Below.refl _ _ | refine Below.drew ?_ | refine Below.setCell ?_ (by first | (simp; done) | (simp; omega)) _ | refine Below.alloc ?_ (by first | (simp; done) | (simp; omega)) _)
set_option maxRecDepth 100000 in
set_option maxHeartbeats 2000000 in
theorem rtok_colon_last {s : ByteArray} {a : Nat} {w : World} (hs : s.size ≤ 4194304) (ha : a < s.size) (hk : kd s a = 8) (ha1 : ¬ a + 1 < s.size) :
    Calls Tryz.prog 106 #[.string s, .int .i64 (a : Int)] w (TAns w (badT 61 a)) := by
  have hkb := kd_byte ha
  have hsm := fun W => rsmall_any s[a].toNat W
  have hgr := fun W => rgreat_any s[a].toNat W
  have hdi := fun W => rdigit_any s[a].toNat W
  have hma := fun W => rmark_any s[a].toNat W
  rw [← hkb] at hsm hgr hdi hma
  rw [decide_eq_false (show ¬ kd s a = 3 by omega)] at hsm
  rw [decide_eq_false (show ¬ kd s a = 4 by omega)] at hgr
  rw [decide_eq_false (show ¬ kd s a = 5 by omega)] at hdi
  rw [decide_eq_false (show ¬ kd s a = 9 by omega)] at hma
  have x39 : (((s[a].toNat : Nat) : Int) == 39) = false := by
    rw [hkb] at hk
    exact beq_eq_false_iff_ne.2 (fun h => by rw [show s[a].toNat = 39 by omega] at hk; exact absurd hk (by decide))
  have x45 : (((s[a].toNat : Nat) : Int) == 45) = false := by
    rw [hkb] at hk
    exact beq_eq_false_iff_ne.2 (fun h => by rw [show s[a].toNat = 45 by omega] at hk; exact absurd hk (by decide))
  have x58 : (((s[a].toNat : Nat) : Int) == 58) = true := by
    rw [hkb] at hk
    rw [(kb_8 _).1 hk]
    rfl
  have hd : decide ((a : Int) + 1 < (s.size : Int)) = false := decide_eq_false (by omega)
  clear hk ha1
  clear hkb
  go_enter Tryz.func106, Tryz.ntmps106
  go_wp2_with (first
    | (go_at_call 83; refine (hsm _).mono ?_; rintro x w2 ⟨rfl, rfl⟩)
    | (go_at_call 112; refine (hgr _).mono ?_; rintro x w2 ⟨rfl, rfl⟩)
    | (go_at_call 128; refine (hdi _).mono ?_; clear hdi; rintro x w2 ⟨rfl, rfl⟩)
    | (go_at_call 130; refine (hma _).mono ?_; rintro x w2 ⟨rfl, rfl⟩)
    | (go_at_call 71; refine (at_eq _ _ _).mono ?_; rintro x w2 ⟨rfl, rfl⟩))
  all_goals
    refine bodyPost_ret (v := .tuple #[tokV tk0, flt 61 a]) (by simp [results, Tryz.results106, go_sem, flt, fltObj]) rfl ⟨rfl, ?_⟩
    repeat (first | exact Below.refl _ _ | refine Below.drew ?_ | refine Below.setCell ?_ (by first | (simp; done) | (simp; omega)) _ | refine Below.alloc ?_ (by first | (simp; done) | (simp; omega)) _)
end Go.Proofs.YtklfnphkepfmaaaGreatDoor

/- Token of layer 6's reference where a quoted name begins. -/
namespace Go.Proofs.YtklfnphkepfmaaaGreatDoor
open Go.RowKit

set_option maxHeartbeats 400000 in
theorem bad_eq (c a : Int) (w : World) :
    Calls Tryz.prog 67 #[flt c a] w fun e w' => e = .returned (.bool (c != 0)) ∧ w' = w.alloc (fltObj c a) := by
  go_enter Tryz.func67, Tryz.ntmps67
  go_wp2
  go_ret
  exact ⟨rfl, rfl⟩
theorem two_kept {w w2 : World} (h : Below ((w.alloc (tokObj tk0)).alloc (fltObj 0 0)).heap.size ((w.alloc (tokObj tk0)).alloc (fltObj 0 0)) w2) :
    w2.heap[w.heap.size]? = some (tokObj tk0) ∧ w2.heap[w.heap.size + 1]? = some (fltObj 0 0) ∧ Below w.heap.size w w2 ∧ w.heap.size + 1 < w2.heap.size := by
  have h0 : ((w.alloc (tokObj tk0)).alloc (fltObj 0 0)).heap[w.heap.size]? = some (tokObj tk0) := by
    rw [Below.heap_alloc _ _ _ (by simp)]
    exact heap_alloc_new w _
  have h1 : ((w.alloc (tokObj tk0)).alloc (fltObj 0 0)).heap[w.heap.size + 1]? = some (fltObj 0 0) := by
    have := heap_alloc_new (w.alloc (tokObj tk0)) (fltObj 0 0)
    simpa using this
  refine ⟨keep_q h0 h, keep_q h1 h, (((Below.refl _ w).alloc (Nat.le_refl _) _).alloc (by simp) _).trans (h.mono (by simp; omega)), ?_⟩
  have := h.size
  simp at this
  omega
theorem three_kept {w w2 w3 : World} {c p : Int} (hq : w2.heap[w.heap.size]? = some (tokObj tk0)) (hf : w2.heap[w.heap.size + 1]? = some (fltObj 0 0)) (hB : Below w.heap.size w w2) (h : Below (w2.alloc (fltObj c p)).heap.size (w2.alloc (fltObj c p)) w3) :
    w3.heap[w.heap.size]? = some (tokObj tk0) ∧ w3.heap[w.heap.size + 1]? = some (fltObj 0 0) ∧ w3.heap[w2.heap.size]? = some (fltObj c p) ∧ Below w.heap.size w w3 :=
  ⟨keep_q ((Below.heap_alloc w2 _ _ (lt_of_block hq)).trans hq) h, keep_q ((Below.heap_alloc w2 _ _ (lt_of_block hf)).trans hf) h, kept_first h, Below.next hB (below_first h)⟩
theorem bad_ex (c a : Int) (w : World) :
    Calls Tryz.prog 67 #[flt c a] w fun e w' => e = .returned (.bool (c != 0)) ∧ Below w.heap.size w w' :=
  (bad_eq c a w).mono fun _ _ h => ⟨h.1, by rw [h.2]; exact below_alloc w _⟩
/-- The end where both lie in cells of their own. -/
theorem t_end {w w3 : World} {a : Act} (x : Lx) (hq : w3.heap[w.heap.size]? = some (tokObj tk0)) (hf : w3.heap[w.heap.size + 1]? = some (fltObj 0 0)) (hB : Below w.heap.size w w3)
    (h1 : a.tmps[4]?.getD undef = .pointer (some ⟨w.heap.size, 0, none⟩)) (h2 : a.tmps[5]?.getD undef = .pointer (some ⟨w.heap.size + 1, 0, none⟩)) (hd : a.defers = []) :
    bodyPost Tryz.prog Tryz.f106 (TAns w x) .ret a (fltEnd (tokEnd w3 w.heap.size x.tok) (w.heap.size + 1) x.code x.pl).drew := by
  have k0 := tok_end x.tok hq
  have k1 : (tokEnd w3 w.heap.size x.tok).heap[w.heap.size + 1]? = some (fltObj 0 0) := by
    rw [Below.heap_setCell _ ⟨w.heap.size, 4, none⟩ _ _ (by simp), Below.heap_setCell _ ⟨w.heap.size, 3, none⟩ _ _ (by simp), Below.heap_setCell _ ⟨w.heap.size, 2, none⟩ _ _ (by simp), Below.heap_setCell _ ⟨w.heap.size, 1, none⟩ _ _ (by simp), Below.heap_setCell _ ⟨w.heap.size, 0, none⟩ _ _ (by simp)]
    exact hf
  have k2 := flt_end x.code x.pl k1
  have k3 : (fltEnd (tokEnd w3 w.heap.size x.tok) (w.heap.size + 1) x.code x.pl).heap[w.heap.size]? = some (tokObj x.tok) := by
    rw [Below.heap_setCell _ ⟨w.heap.size + 1, 3, none⟩ _ _ (by simp), Below.heap_setCell _ ⟨w.heap.size + 1, 2, none⟩ _ _ (by simp), Below.heap_setCell _ ⟨w.heap.size + 1, 1, none⟩ _ _ (by simp), Below.heap_setCell _ ⟨w.heap.size + 1, 0, none⟩ _ _ (by simp)]
    exact k0
  obtain ⟨⟨z0, z1, z2, z3⟩, _⟩ := flt_facts k2
  obtain ⟨⟨y0, y1, y2, y3, y4⟩, _⟩ := tok_facts k3
  have hB2 : Below w.heap.size w (fltEnd (tokEnd w3 w.heap.size x.tok) (w.heap.size + 1) x.code x.pl) := fltEnd_below (tokEnd_below hB (Nat.le_refl _)) (by omega)
  generalize fltEnd (tokEnd w3 w.heap.size x.tok) (w.heap.size + 1) x.code x.pl = W at *
  refine bodyPost_ret (v := .tuple #[tokV x.tok, flt x.code x.pl]) ?_ hd ⟨rfl, hB2.drew⟩
  simp [results, Tryz.results106, go_sem, h1, h2, y0, y1, y2, y3, y4, z0, z1, z2, z3]
set_option maxRecDepth 100000 in
set_option maxHeartbeats 2000000 in
theorem rtok_quote_bad {s : ByteArray} {a : Nat} {w : World} (hs : s.size ≤ 4194304) (ha : a < s.size) (hk : kd s a = 7) (c p : Int) (hX : quo s a (a + 1) [] = badT c p) (hc : c ≠ 0) :
    Calls Tryz.prog 106 #[.string s, .int .i64 (a : Int)] w (TAns w (badT c p)) := by
  have hkb := kd_byte ha
  have hsm := fun W => rsmall_any s[a].toNat W
  have hgr := fun W => rgreat_any s[a].toNat W
  rw [← hkb] at hsm hgr
  rw [decide_eq_false (show ¬ kd s a = 3 by omega)] at hsm
  rw [decide_eq_false (show ¬ kd s a = 4 by omega)] at hgr
  have x39 : (((s[a].toNat : Nat) : Int) == 39) = true := by
    rw [hkb] at hk
    rw [(kb_7 _).1 hk]
    rfl
  have hqu := fun W => rquoted_any s a W hs ha
  rw [hX] at hqu
  have hz : ((badT c p).code != 0) = true := bne_iff_ne.2 hc
  clear hc
  clear hk hkb hX
  go_enter Tryz.func106, Tryz.ntmps106
  go_wp2_with (first
    | (go_at_call 83; refine (hsm _).mono ?_; rintro x w2 ⟨rfl, rfl⟩)
    | (go_at_call 112; refine (hgr _).mono ?_; rintro x w2 ⟨rfl, rfl⟩)
    | (go_at_call 127; go_must (refine (hqu _).mono ?_; rintro x w2 ⟨rfl, hb⟩; obtain ⟨hq, hf, hB, _⟩ := two_kept hb))
    | (go_at_call 67; go_must (refine (bad_ex _ _ _).mono ?_; rintro x w3 ⟨rfl, hb3⟩; obtain ⟨hq3, hf3, hs3, hB3⟩ := three_kept hq hf hB hb3; obtain ⟨⟨u0, u1, u2, u3, u4, q0, q1, q2, q3, q4⟩, g0, g1, g2, g3, g4⟩ := tok_cells (t := tk0) hq3; obtain ⟨⟨v0, v1, v2, v3, r0, r1, r2, r3⟩, s0, s1, s2, s3⟩ := flt_cells hf3; obtain ⟨⟨t0, t1, t2, t3⟩, _⟩ := flt_facts hs3)))
  go_region_law (fail)
  all_goals go_wp2
  all_goals exact t_end (badT c p) hq3 hf3 hB3 (by rfl) (by rfl) rfl
set_option maxRecDepth 100000 in
set_option maxHeartbeats 2000000 in
theorem rtok_quote_yes {s : ByteArray} {a : Nat} {w : World} (hs : s.size ≤ 4194304) (ha : a < s.size) (hk : kd s a = 7) (t : ByteArray) (e : Nat) (hX : quo s a (a + 1) [] = okT ⟨1, t, 0, a, e⟩) :
    Calls Tryz.prog 106 #[.string s, .int .i64 (a : Int)] w (TAns w (okT ⟨1, t, 0, a, e⟩)) := by
  have hkb := kd_byte ha
  have hsm := fun W => rsmall_any s[a].toNat W
  have hgr := fun W => rgreat_any s[a].toNat W
  rw [← hkb] at hsm hgr
  rw [decide_eq_false (show ¬ kd s a = 3 by omega)] at hsm
  rw [decide_eq_false (show ¬ kd s a = 4 by omega)] at hgr
  have x39 : (((s[a].toNat : Nat) : Int) == 39) = true := by
    rw [hkb] at hk
    rw [(kb_7 _).1 hk]
    rfl
  have hqu := fun W => rquoted_any s a W hs ha
  rw [hX] at hqu
  have hz : ((okT ⟨1, t, 0, a, e⟩).code != 0) = false := rfl
  clear hk hkb hX
  go_enter Tryz.func106, Tryz.ntmps106
  go_wp2_with (first
    | (go_at_call 83; refine (hsm _).mono ?_; rintro x w2 ⟨rfl, rfl⟩)
    | (go_at_call 112; refine (hgr _).mono ?_; rintro x w2 ⟨rfl, rfl⟩)
    | (go_at_call 127; go_must (refine (hqu _).mono ?_; rintro x w2 ⟨rfl, hb⟩; obtain ⟨hq, hf, hB, _⟩ := two_kept hb))
    | (go_at_call 67; go_must (refine (bad_ex _ _ _).mono ?_; rintro x w3 ⟨rfl, hb3⟩; obtain ⟨hq3, hf3, hs3, hB3⟩ := three_kept hq hf hB hb3; obtain ⟨⟨u0, u1, u2, u3, u4, q0, q1, q2, q3, q4⟩, g0, g1, g2, g3, g4⟩ := tok_cells (t := tk0) hq3; obtain ⟨⟨v0, v1, v2, v3, r0, r1, r2, r3⟩, s0, s1, s2, s3⟩ := flt_cells hf3; obtain ⟨⟨t0, t1, t2, t3⟩, _⟩ := flt_facts hs3)))
  go_region_law (fail)
  all_goals go_wp2
  all_goals exact t_end (okT ⟨1, t, 0, a, e⟩) hq3 hf3 hB3 (by rfl) (by rfl) rfl

theorem quo_cases (s : ByteArray) (a i : Nat) (acc : List UInt8) : (∃ c p, c ≠ 0 ∧ quo s a i acc = badT c p) ∨ ∃ t e, quo s a i acc = okT ⟨1, t, 0, a, e⟩ := by
  have h1 := qF_shape s a (s.size - i) i acc
  have h2 := qF_bad s a (s.size - i) i acc
  rw [← quo] at h1 h2
  generalize quo s a i acc = X at *
  obtain ⟨t, c, p⟩ := X
  by_cases hc : c = 0
  · right
    obtain ⟨e1, e2⟩ := h1 hc
    simp only at hc e1 e2
    subst hc e2
    exact ⟨t.text, t.end_, by rw [okT, ← e1]⟩
  · left
    have e := h2 hc
    simp only at e
    subst e
    exact ⟨c, p, hc, rfl⟩
theorem cut_head {s : ByteArray} {a e : Nat} (hae : a < e) (he : e ≤ s.size) : ∃ h : 0 < (s.extract a e).size, (s.extract a e)[0] = s[a]'(by omega) := by
  have hz := cut_size_eq (s := s) (f := a) (e := e) (by omega) he
  refine ⟨by omega, ?_⟩
  rw [ByteArray.getElem_extract]
  simp
theorem cut_tail {s : ByteArray} {a e : Nat} (hae : a < e) (he : e ≤ s.size) : (s.extract a e).extract 1 (s.extract a e).size = s.extract (a + 1) e := by
  have hz := cut_size_eq (s := s) (f := a) (e := e) (by omega) he
  rw [hz, ByteArray.extract_extract]
  congr 1
  omega
/-- Token of layer 6's reference, at every source and place. -/
theorem rtok_any (s : ByteArray) (a : Nat) (w : World) (hs : s.size ≤ 4194304) (ha : a < s.size) :
    Calls Tryz.prog 106 #[.string s, .int .i64 (a : Int)] w (TAns w (tokF s a)) := by
  have hr := kd_range s a
  unfold tokF
  split
  · rename_i hk
    unfold wordF
    split
    · exact rtok_small_no hs ha hk (by assumption)
    · exact rtok_small_yes hs ha hk (by assumption) _ rfl
  · split
    · rename_i hk
      unfold wordF
      split
      · exact rtok_great_no hs ha hk (by assumption)
      · exact rtok_great_yes hs ha hk (by assumption) _ rfl
    · split
      · rename_i hk
        have hwe : wEnd s a = wEnd s (a + 1) := wEnd_in (by omega)
        have hgt : a < wEnd s a := wEnd_gt (by omega)
        have hle : wEnd s a ≤ s.size := wEnd_le (by omega)
        obtain ⟨hz, hh⟩ := cut_head hgt hle
        have hw := fun W => whole_pos (s.extract a (wEnd s a)) W (by have := cut_size s a (wEnd s a); omega) hz (by
          rw [hh]
          intro e
          rw [kd_byte ha, e] at hk
          exact absurd hk (by decide))
        have hI : intF s a a = if numOk (s.extract a (wEnd s a)).data.toList = true then okT ⟨3, ⟨#[]⟩, (valD (s.extract a (wEnd s a)).data.toList : Int), a, wEnd s a⟩ else badT 63 a := by
          unfold intF cutB
          by_cases h : numOk (s.extract a (wEnd s a)).data.toList = true
          · rw [if_pos ⟨h, fun h' => by omega⟩, if_neg (by omega), if_pos h]
          · rw [if_neg (fun h' => h h'.1), if_neg h]
        rw [hI]
        cases hn : numOk (s.extract a (wEnd s a)).data.toList with
        | true =>
          rw [if_pos rfl]
          exact rtok_digit_yes hs ha hk _ hwe _ (fun W => (hw W).mono fun x w' h => by
            obtain ⟨⟨n, rfl, h2⟩, rfl⟩ := h
            rw [hn, h2 hn]
            exact ⟨rfl, rfl⟩)
        | false =>
          rw [if_neg (by simp)]
          exact rtok_digit_no hs ha hk _ hwe (fun W => (hw W).mono fun x w' h => by
            obtain ⟨⟨n, rfl, h2⟩, rfl⟩ := h
            rw [hn]
            exact ⟨⟨n, rfl⟩, rfl⟩)
      · split
        · rename_i hk
          split
          · rename_i h5
            have ha1 : a + 1 < s.size := kd_lt (by omega)
            have hgt : a + 1 < wEnd s (a + 1) := wEnd_gt (by omega)
            have hle : wEnd s (a + 1) ≤ s.size := wEnd_le (by omega)
            obtain ⟨hz, hh⟩ := cut_head (s := s) (a := a) (e := wEnd s (a + 1)) (by omega) hle
            have hd := cut_tail (s := s) (a := a) (e := wEnd s (a + 1)) (by omega) hle
            have hzd := cut_size_eq (s := s) (f := a + 1) (e := wEnd s (a + 1)) (by omega) hle
            have hw := fun W => whole_neg (s.extract a (wEnd s (a + 1))) (s.extract (a + 1) (wEnd s (a + 1))) W (by have := cut_size s a (wEnd s (a + 1)); omega) hz (by
              rw [hh]
              rw [kd_byte ha] at hk
              exact (kb_6 _).1 hk) hd (by omega) (by omega)
            have hI : intF s a (a + 1) = if negOk (s.extract (a + 1) (wEnd s (a + 1))).data.toList = true then okT ⟨3, ⟨#[]⟩, -(valD (s.extract (a + 1) (wEnd s (a + 1))).data.toList : Int), a, wEnd s (a + 1)⟩ else badT 63 a := by
              unfold intF cutB negOk
              by_cases h : numOk (s.extract (a + 1) (wEnd s (a + 1))).data.toList = true ∧ valD (s.extract (a + 1) (wEnd s (a + 1))).data.toList ≠ 0
              · rw [if_pos ⟨h.1, fun _ => h.2⟩, if_pos (by omega), if_pos (by simpa using h)]
              · rw [if_neg (fun h' => h ⟨h'.1, h'.2 (by omega)⟩), if_neg (by simpa using h)]
            rw [hI]
            cases hn : negOk (s.extract (a + 1) (wEnd s (a + 1))).data.toList with
            | true =>
              rw [if_pos rfl]
              exact rtok_sign_yes hs ha hk h5 _ rfl _ (fun W => (hw W).mono fun x w' h => by
                obtain ⟨⟨n, rfl, h2⟩, rfl⟩ := h
                rw [hn, h2 hn]
                exact ⟨rfl, rfl⟩)
            | false =>
              rw [if_neg (by simp)]
              exact rtok_sign_no hs ha hk h5 _ rfl (fun W => (hw W).mono fun x w' h => by
                obtain ⟨⟨n, rfl, h2⟩, rfl⟩ := h
                rw [hn]
                exact ⟨⟨n, rfl⟩, rfl⟩)
          · rename_i h5
            by_cases ha1 : a + 1 < s.size
            · exact rtok_sign_bad hs ha hk h5 ha1
            · exact rtok_sign_last hs ha hk ha1
        · split
          · rename_i hk
            rcases quo_cases s a (a + 1) [] with ⟨c, p, hc, hX⟩ | ⟨t, e, hX⟩
            · rw [hX]
              exact rtok_quote_bad hs ha hk c p hX hc
            · rw [hX]
              exact rtok_quote_yes hs ha hk t e hX
          · split
            · rename_i hk
              split
              · exact rtok_colon_yes hs ha hk (by assumption)
              · rename_i h6
                by_cases ha1 : a + 1 < s.size
                · exact rtok_colon_bad hs ha hk h6 ha1
                · exact rtok_colon_last hs ha hk ha1
            · split
              · exact rtok_mark hs ha (by assumption)
              · exact rtok_none hs ha ⟨by assumption, by assumption, by assumption, by assumption, by assumption, by assumption, by assumption⟩
end Go.Proofs.YtklfnphkepfmaaaGreatDoor

/- Some of layer 6's reference: all tokens ahead of the end or of a fault. -/
namespace Go.Proofs.YtklfnphkepfmaaaGreatDoor
open Go.RowKit

/-- A row of tokens and a fault, as the reference answers them. -/
def SAns (w : World) (l : List Tk) (c p : Int) (e : Ending) (w' : World) : Prop := ∃ v, e = .returned (.tuple #[v, flt c p]) ∧ Tr w' w.heap.size v l ∧ Below w.heap.size w w'
theorem ret_s {w : World} {fn : Func} {s u : Tmp} (hfn : fn.results = #[.tmp s, .cell u 34]) {tmps : Array Value} {q : Nat} {c a : Int} {v1 : Value} (h1 : tmps[s]?.getD undef = v1) (h4 : tmps[u]?.getD undef = .pointer (some ⟨q, 0, none⟩)) (hq : w.heap[q]? = some (fltObj c a)) : (results fn tmps).run Tryz.prog w = .ok (.tuple #[v1, flt c a]) w := by
  obtain ⟨⟨z0, z1, z2, z3⟩, _⟩ := flt_facts hq
  simp [results, hfn, go_sem, h1, h4, z0, z1, z2, z3]
theorem s_end {w w3 : World} {a : Act} {v : Value} {l l' : List Tk} {c p c' p' c0 p0 : Int} (hl : l = l') (hc : c = c') (hp : p = p') (hq : w3.heap[w.heap.size]? = some (fltObj c0 p0)) (hrow : Tr w3 (w.heap.size + 1) v l) (hB : Below w.heap.size w w3)
    (h1 : a.tmps[2]?.getD undef = v) (h4 : a.tmps[3]?.getD undef = .pointer (some ⟨w.heap.size, 0, none⟩)) (hd : a.defers = []) :
    bodyPost Tryz.prog Tryz.f66 (SAns w l' c' p') .ret a (fltEnd w3 w.heap.size c p) := by
  subst hl hc hp
  refine bodyPost_ret (ret_s Tryz.results66 h1 h4 (flt_end c p hq)) hd ⟨v, rfl, own_base (own_keep hrow fun k hk => ?_) (by omega), fltEnd_below hB (Nat.le_refl _)⟩
  have := (hrow.lt k hk).1
  rw [Below.heap_setCell _ ⟨w.heap.size, 3, none⟩ _ _ (by simp; omega), Below.heap_setCell _ ⟨w.heap.size, 2, none⟩ _ _ (by simp; omega), Below.heap_setCell _ ⟨w.heap.size, 1, none⟩ _ _ (by simp; omega), Below.heap_setCell _ ⟨w.heap.size, 0, none⟩ _ _ (by simp; omega)]
theorem s_end_d {w w3 : World} {a : Act} {v : Value} {l l' : List Tk} {c p c' p' c0 p0 : Int} (hl : l = l') (hc : c = c') (hp : p = p') (hq : w3.heap[w.heap.size]? = some (fltObj c0 p0)) (hrow : Tr w3 (w.heap.size + 1) v l) (hB : Below w.heap.size w w3)
    (h1 : a.tmps[2]?.getD undef = v) (h4 : a.tmps[3]?.getD undef = .pointer (some ⟨w.heap.size, 0, none⟩)) (hd : a.defers = []) :
    bodyPost Tryz.prog Tryz.f66 (SAns w l' c' p') .ret a (fltEnd w3 w.heap.size c p).drew :=
  s_end (w3 := w3.drew) hl hc hp hq hrow.drew hB.drew h1 h4 hd
set_option maxHeartbeats 1000000 in
theorem rsome_long (s : ByteArray) (w : World) (hs : 4194304 < s.size) :
    Calls Tryz.prog 66 #[.string s] w (SAns w [] 60 4194304) := by
  have hs' : (4194304 : Int) < (s.size : Int) := by omega
  go_enter Tryz.func66, Tryz.ntmps66
  go_wp2_with (go_at_call 71; refine (at_ex _ _ _).mono ?_; rintro x w2 ⟨rfl, hb⟩; have hq := kept_first hb; obtain ⟨⟨v0, v1, v2, v3, r0, r1, r2, r3⟩, s0, s1, s2, s3⟩ := flt_cells (c := 0) (a := 0) hq)
  exact s_end (v := .slice none 0 0) (l := []) rfl rfl rfl (c0 := 0) (p0 := 0) hq (World.ownsRow_nil _ _ _ _) (below_first hb) (by rfl) (by rfl) rfl
/-- What one token's round leaves. -/
theorem tok_round {w wr w2 w3 : World} {v : Value} {l : List Tk} {t : Tk} {c p : Int} (hq : wr.heap[w.heap.size]? = some (fltObj 0 0)) (hrow : Tr wr (w.heap.size + 1) v l) (hB : Below w.heap.size w wr) (hb : Below wr.heap.size wr w2)
    (h : Below ((w2.alloc (tokObj t)).alloc (fltObj c p)).heap.size ((w2.alloc (tokObj t)).alloc (fltObj c p)) w3) :
    w3.heap[w.heap.size]? = some (fltObj 0 0) ∧ Tr w3 (w.heap.size + 1) v l ∧ Below w.heap.size w w3 ∧ w3.heap[w2.heap.size]? = some (tokObj t) ∧ w3.heap[w2.heap.size + 1]? = some (fltObj c p) ∧ (∀ k, v.ownBlock = some k → k < w2.heap.size) := by
  have hb3 : Below w2.heap.size w2 w3 := (((Below.refl _ w2).alloc (Nat.le_refl _) _).alloc (by simp) _).trans (h.mono (by simp; omega))
  have h0 : ((w2.alloc (tokObj t)).alloc (fltObj c p)).heap[w2.heap.size]? = some (tokObj t) := by
    rw [Below.heap_alloc _ _ _ (by simp)]
    exact heap_alloc_new w2 _
  have h1 : ((w2.alloc (tokObj t)).alloc (fltObj c p)).heap[w2.heap.size + 1]? = some (fltObj c p) := by
    have := heap_alloc_new (w2.alloc (tokObj t)) (fltObj c p)
    simpa using this
  exact ⟨keep_q (keep_q hq hb) hb3, own_below (own_below hrow hb) hb3, Below.next (Below.next hB hb) hb3, keep_q h0 h, keep_q h1 h, fun k hk => Nat.lt_of_lt_of_le (hrow.lt k hk).2 hb.size⟩
/-- What an append of a token leaves. -/
theorem tok_append {w w3 w4 : World} {o o' : Obj} {v v' : Value} {l : List Tk} {t : Tk} {b : Nat} (hq : w3.heap[w.heap.size]? = some o') (hrow : Tr w3 (w.heap.size + 1) v l) (hB : Below w.heap.size w w3) (hg : (w3.alloc o).grownBy w4 v.ownBlock)
    (hown : w4.ownsRow (w.heap.size + 1) 77 5 v' (l.length + 1) (tcells l ++ tcell t)) (ht : w3.heap[b]? = some (tokObj t)) (hb : ∀ k, v.ownBlock = some k → k < b) :
    Tr w4 (w.heap.size + 1) v' (l ++ [t]) ∧ Below w.heap.size w w4 ∧ w4.heap[w.heap.size]? = some o' ∧ w4.cell? ⟨b, 4, none⟩ = some (.int .i64 (t.end_ : Int)) := by
  have hlq := lt_of_block hq
  have hlt := lt_of_block ht
  refine ⟨?_, (hB.alloc hB.size o).grown hg (by have := hB.size; simp; omega) (fun k e => by have := (hrow.lt k e).1; omega), ?_, ?_⟩
  · show w4.ownsRow _ _ _ _ _ _
    rw [List.length_append, tcells_snoc]
    exact hown
  · rw [hg.block _ (by simp; omega) (fun e => by have := (hrow.lt _ e.symm).1; omega), Below.heap_alloc _ _ _ hlq]
    exact hq
  · have h2 : w4.heap[b]? = some (tokObj t) := by
      rw [hg.block _ (by simp; omega) (fun e => by have := hb _ e.symm; omega), Below.heap_alloc _ _ _ hlt]
      exact ht
    exact (tok_facts h2).1.2.2.2.2
theorem tok_last {w w3 w4 : World} {o o' : Obj} {v v' : Value} {l : List Tk} {t : Tk} (hq : w3.heap[w.heap.size]? = some o') (hrow : Tr w3 (w.heap.size + 1) v l) (hB : Below w.heap.size w w3) (hg : (w3.alloc o).grownBy w4 v.ownBlock)
    (hown : w4.ownsRow (w.heap.size + 1) 77 5 v' (l.length + 1) (tcells l ++ tcell t)) : Tr w4 (w.heap.size + 1) v' (l ++ [t]) ∧ Below w.heap.size w w4 ∧ w4.heap[w.heap.size]? = some o' := by
  have hlq := lt_of_block hq
  refine ⟨?_, (hB.alloc hB.size o).grown hg (by have := hB.size; simp; omega) (fun k e => by have := (hrow.lt k e).1; omega), ?_⟩
  · show w4.ownsRow _ _ _ _ _ _
    rw [List.length_append, tcells_snoc]
    exact hown
  · rw [hg.block _ (by simp; omega) (fun e => by have := (hrow.lt _ e.symm).1; omega), Below.heap_alloc _ _ _ hlq]
    exact hq
theorem no_ex (w : World) : Calls Tryz.prog 107 #[] w fun e w' => e = .returned (flt 0 0) ∧ Below w.heap.size w w' :=
  (no_eq w).mono fun _ _ h => ⟨h.1, by rw [h.2]; exact below_alloc w _⟩
theorem own_shape5 {w : World} {B : Nat} {v : Value} {l : List Tk} (h : Tr w B v l) : ∃ ao c, v = .slice ao l.length c := own_shape h
set_option maxRecDepth 100000 in
set_option maxHeartbeats 4000000 in
theorem rsome_all (s : ByteArray) (w : World) (hs : s.size ≤ 4194304) :
    Calls Tryz.prog 66 #[.string s] w (SAns w (allT s 0) (allC s 0) (allP s 0)) := by
  obtain ⟨i0, hi, hz0, hz1, hz2⟩ := info_parts infoT
  have hlen := allT_le (s := s) (a := 0) (Nat.zero_le _)
  have hsk0 := fun W => rskip_any s 0 W (by omega) (by omega)
  go_enter Tryz.func66, Tryz.ntmps66
  go_wp2_with (go_at_call 105; refine (hsk0 _).mono ?_; rintro x w2 ⟨rfl, rfl⟩)
  go_loopw [4, 5] (fun out i wr => ∃ (a : Nat) (pre : List Tk), a ≤ s.size ∧ i = .int .i64 (skp s a : Nat) ∧ Tr wr (w.heap.size + 1) out pre ∧ wr.heap[w.heap.size]? = some (fltObj 0 0) ∧ Below w.heap.size w wr ∧ Hid (pre ++ allT s a = allT s 0 ∧ allC s a = allC s 0 ∧ allP s a = allP s 0)) (fun _ i _ => s.size - (intOf i).toNat)
  case atStart => exact ⟨0, [], by omega, rfl, World.ownsRow_nil _ _ _ _, heap_alloc_new w _, below_alloc w _, rfl, rfl, rfl⟩
  case round =>
    obtain ⟨a, pre, ha, rfl, hrow, hq, hB, hA⟩ := hrel
    have hzr := hB.size
    have hzq := lt_of_block hq
    have hpl : pre.length ≤ s.size + 1 := by
      have := congrArg List.length hA.out.1
      rw [List.length_append] at this
      omega
    have hle := skp_le ha
    have hge := skp_ge s a
    rcases nxt_ways ha with ⟨e1, e2⟩ | ⟨e1, e2, e3, e4, e5, e6, e7⟩ | ⟨e1, e2, e3⟩
    · have hE := all_end e1
      have hN : Hid (pre ++ [endT s] = allT s 0 ∧ (0 : Int) = allC s 0 ∧ (0 : Int) = allP s 0) := by
        obtain ⟨a1, a2, a3⟩ := hA.out
        rw [hE.1] at a1
        exact ⟨a1, hE.2.1.symm.trans a2, hE.2.2.symm.trans a3⟩
      have hn : ¬ ((skp s a : Nat) : Int) < (s.size : Int) := by omega
      clear hE hA e1 e2
      obtain ⟨ao, c, rfl⟩ := own_shape5 hrow
      go_wp2_with (first
        | (at_builtin; go_must (refine wpList_append_own _ rfl _ _ 72 rfl (w.heap.size + 1) 77 i0 (tokV tk0) 5 48 Tryz.underlying72 hi hz0 hz1 hz2 rfl (by decide) _ _ _ rfl (hrow.alloc _) ⟨wr.heap.size, 0, none⟩ 1 1 (tcell (endT s)) rfl rfl (World.news_of_block (cs := (tcell (endT s)).toArray) (t := 77) (fr := (0, 0)) (heap_alloc_new wr _)) (by simp [Value.oneCell', tcell]) (by unfold maxLen; omega) (by omega) (by simp; omega) ?_; intro v' w4 hown' hgrow _; obtain ⟨hr4, hB4, hq4⟩ := tok_last hq hrow hB hgrow hown'))
        | (go_at_call 107; go_must (refine (no_ex _).mono ?_; rintro x w5 ⟨rfl, hb5⟩; have hq5 := keep_q hq4 hb5; obtain ⟨⟨v0, v1, v2, v3, r0, r1, r2, r3⟩, s0, s1, s2, s3⟩ := flt_cells hq5)))
      exact s_end hN.out.1 hN.out.2.1 hN.out.2.2 hq5 (own_below hr4 hb5) (Below.next hB4 hb5) (by rfl) (by rfl) rfl
    · have hT := fun W => rtok_any s (skp s a) W hs e1
      have hsk := fun W => rskip_any s (nxt s a).tok.end_ W (by omega) e6
      have hge2 := skp_ge s (nxt s a).tok.end_
      have hE := all_tok ha (by omega) e3
      rw [← e2] at hT
      have hN : Hid ((pre ++ [(nxt s a).tok]) ++ allT s (nxt s a).tok.end_ = allT s 0 ∧ allC s (nxt s a).tok.end_ = allC s 0 ∧ allP s (nxt s a).tok.end_ = allP s 0) := by
        obtain ⟨a1, a2, a3⟩ := hA.out
        rw [hE.1] at a1
        exact ⟨by rw [← a1]; simp, hE.2.1.symm.trans a2, hE.2.2.symm.trans a3⟩
      have hz : ((nxt s a).code != 0) = false := by simp [e3]
      have hlt : ((skp s a : Nat) : Int) < (s.size : Int) := by omega
      have hgt : skp s a < (nxt s a).tok.end_ := by
        have hl := tokF_lies s (skp s a)
        rw [← e2] at hl
        exact (hl e3).2.1
      clear hE hA e2 e3 e4 e5 e7
      generalize nxt s a = X at *
      obtain ⟨ao, c, rfl⟩ := own_shape5 hrow
      go_wp2_with (first
        | (go_at_call 106; go_must (refine (hT _).mono ?_; rintro x w2 ⟨rfl, hb⟩))
        | (go_at_call 67; go_must (refine (bad_ex _ _ _).mono ?_; rintro x w3 ⟨rfl, hb3⟩; obtain ⟨hq3, hr3, hB3, ht3, hf3, hk3⟩ := tok_round hq hrow hB hb hb3; obtain ⟨⟨q0, q1, q2, q3, q4⟩, _⟩ := tok_facts ht3; have hz3 := lt_of_block hq3; have hz4 := lt_of_block ht3))
        | (at_builtin; go_must (refine wpList_append_own _ rfl _ _ 72 rfl (w.heap.size + 1) 77 i0 (tokV tk0) 5 48 Tryz.underlying72 hi hz0 hz1 hz2 rfl (by decide) _ _ _ rfl (hr3.alloc _) ⟨w3.heap.size, 0, none⟩ 1 1 (tcell X.tok) rfl rfl (World.news_of_block (cs := (tcell X.tok).toArray) (t := 77) (fr := (0, 0)) (heap_alloc_new w3 _)) (by simp [Value.oneCell', tcell]) (by unfold maxLen; omega) (by omega) (by simp; omega) ?_; intro v' w4 hown' hgrow _; obtain ⟨hr4, hB4, hq4, hc4⟩ := tok_append hq3 hr3 hB3 hgrow hown' ht3 hk3; obtain ⟨ao', c', rfl⟩ := own_shape5 hr4))
        | (go_at_call 105; go_must (refine (hsk _).mono ?_; rintro x w4 ⟨rfl, rfl⟩)))
      exact ⟨⟨X.tok.end_, pre ++ [X.tok], e6, rfl, by simpa using hr4, hq4, hB4, hN⟩, by simp [intOf]; omega⟩
    · have hT := fun W => rtok_any s (skp s a) W hs e1
      have hE := all_bad e3
      rw [← e2] at hT
      have hN : Hid (pre = allT s 0 ∧ (nxt s a).code = allC s 0 ∧ (nxt s a).pl = allP s 0) := by
        obtain ⟨a1, a2, a3⟩ := hA.out
        rw [hE.1, List.append_nil] at a1
        exact ⟨a1, hE.2.1.symm.trans a2, hE.2.2.symm.trans a3⟩
      have hz : ((nxt s a).code != 0) = true := bne_iff_ne.2 e3
      have hlt : ((skp s a : Nat) : Int) < (s.size : Int) := by omega
      clear hE hA e2 e3
      generalize nxt s a = X at *
      obtain ⟨ao, c, rfl⟩ := own_shape5 hrow
      go_wp2_with (first
        | (go_at_call 106; go_must (refine (hT _).mono ?_; rintro x w2 ⟨rfl, hb⟩))
        | (go_at_call 67; go_must (refine (bad_ex _ _ _).mono ?_; rintro x w3 ⟨rfl, hb3⟩; obtain ⟨hq3, hr3, hB3, ht3, hf3, hk3⟩ := tok_round hq hrow hB hb hb3; obtain ⟨⟨v0, v1, v2, v3, r0, r1, r2, r3⟩, s0, s1, s2, s3⟩ := flt_cells hq3; obtain ⟨⟨t0, t1, t2, t3⟩, _⟩ := flt_facts hf3)))
      go_region_law (fail)
      all_goals go_wp2
      all_goals exact s_end_d hN.out.1 hN.out.2.1 hN.out.2.2 hq3 hr3 hB3 (by rfl) (by rfl) rfl
end Go.Proofs.YtklfnphkepfmaaaGreatDoor
