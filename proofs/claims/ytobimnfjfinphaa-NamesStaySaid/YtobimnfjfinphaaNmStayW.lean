/- NamesStay, walked: a theorem a way. -/
import Derived.Test.YtobimnfjfinphaaNmStayS
namespace Go.Proofs.Ytobimnfjfinphaa
open Go.RowKit Go.Maps

set_option maxRecDepth 100000 in
set_option maxHeartbeats 4000000 in
theorem stay_unlike {W : World} (a : ByteArray) (za : a.size ≤ 281474976710656) (b : ByteArray) (zb : b.size ≤ 281474976710656) (v : Value) (l : List ByteArray) (rs : Rs W v l) (zl : ∀ s ∈ l, s.size ≤ 281474976710656) (hl : l.length ≤ 900) (ga : goodS a = true) (gb : goodS b = true) (hab : a ≠ b) :
    Calls Try.prog 5 #[.string a, .string b, v] W fun e w' => e = .returned (.bool true) ∧ Below W.heap.size W w' := by
  obtain ⟨ao, c, rfl⟩ := rs.shape
  have hl' : decide ((900 : Int) < (l.length : Int)) = false := by simp; omega
  have hc1 : putC [] a = 0 := putC_first.2 ga
  have hc2 : putC [a] b = 0 := putC_second gb
  have hn2 : putN [a] b = 1 := putN_other gb hab
  have he : (a.toList == b.toList) = false := toList_ne hab
  go_enter Try.func5, Try.ntmps5
  go_wp2_with (first
    | (go_at_call 8; refine (lives_any W).mono ?_; rintro e w0 ⟨rfl, hb0⟩; have z0 := hb0.size)
    | (go_at_call 11; refine (new_any w0 W.heap.size z0).mono ?_; rintro e w1 ⟨rfl, ht1, hb1⟩; have z1 := hb1.size; replace hb1 := hb0.trans (hb1.mono z0))
    | (go_at_call 12; refine (put_yes (w := w1) ht1 (by omega) a za hc1).mono ?_; clear hc1; rintro e w2 ⟨rfl, ⟨v2, hu2, _⟩, hb2⟩; have z2 := hb2.size; replace hb2 := hb1.trans hb2; rw [putL_first ga] at hu2; rw [putN_first]; have ht2 := hu2.tb; clear hu2)
    | (go_at_call 12; refine (put_yes (w := w2) ht2 (by omega) b zb hc2).mono ?_; clear hc2; rintro e w3 ⟨rfl, ⟨v3, hu3, _⟩, hb3⟩; have z3 := hb3.size; replace hb3 := hb2.trans hb3; rw [hn2]; have ht3 := hu3.tb; clear hu3))
  go_loopw [59] (fun i wr => ∃ (k : Nat) (lT : List ByteArray) (vT : Value), k ≤ l.length ∧ i = .int .i64 k ∧ Tb wr W.heap.size (w0.heap.size + 1) vT w0.heap.size lT ∧ Hid (∃ r, lT = a :: r) ∧ Below W.heap.size W wr) (fun i _ => l.length - (intOf i).toNat)
  case atStart => exact ⟨0, _, _, Nat.zero_le _, rfl, ht3, putL_head ⟨[], rfl⟩, hb3⟩
  case round =>
    obtain ⟨k, lT, vT, hk, rfl, hT, hH, hbr⟩ := hrel
    have zr := hbr.size
    by_cases hlt : k < l.length
    · obtain ⟨s, hs⟩ : ∃ s, s = l.getD k ⟨#[]⟩ := ⟨_, rfl⟩
      have zs : s.size ≤ 281474976710656 := zl s (by rw [hs]; simp [List.getD, hlt])
      obtain ⟨rb, ro, rfl, hcell⟩ : ∃ rb ro, ao = some ⟨rb, ro, none⟩ ∧ wr.cell? ⟨rb, ro + k, none⟩ = some (.string s) := by
        rcases rs.below hbr with ⟨_, h0⟩ | ⟨_, _, _, h0⟩ | ⟨rb, ro, rc, h0, hc⟩
        · rw [h0] at hlt
          simp at hlt
        · rw [h0] at hlt
          simp at hlt
        · refine ⟨rb, ro, by injection h0, ?_⟩
          rw [hs]
          exact hc k hlt
      clear hs
      by_cases hc : putC lT s = 0
      · have hlt2 := putN_lt hc
        have hle2 := putN_le lT s hT.len
        have hst : Hid (∀ x : ByteArray, (x.toList == x.toList) = true) := fun x => by simp
        go_wp2_with (first
          | (go_at_call 12; refine (put_yes (w := wr) hT zr s zs hc).mono ?_; rintro e w5 ⟨rfl, ⟨v5, hu5, _⟩, hb5⟩; have ht5 := hu5.tb; clear hu5)
          | (go_at_call 18; refine (name_yes (w := w5) ht5 (putN lT s) hlt2.1).mono ?_; rintro e w5 ⟨rfl, rfl⟩; rw [hlt2.2]))
        go_roundw
        case rel => exact ⟨k + 1, _, _, by omega, congrArg (Value.int .i64) (by omega), ht5, putL_head hH.out, hbr.trans hb5⟩
        case measure => simp [intOf]; omega
      · go_wp2_with (first
          | (go_at_call 12; refine (put_no (w := wr) hT zr s zs hc).mono ?_; rintro e w5 ⟨⟨b5, rfl⟩, ⟨v5, hu5, _⟩, hb5⟩; have ht5 := hu5.tb; clear hu5)
          | (go_at_call 18; refine (name_zero (w := w5) ht5).mono ?_; rintro e w5 ⟨⟨xs, xo, rfl⟩, rfl⟩))
        go_roundw
        case rel => exact ⟨k + 1, _, _, by omega, congrArg (Value.int .i64) (by omega), ht5, hH, hbr.trans hb5⟩
        case measure => simp [intOf]; omega
    · obtain ⟨r, hr⟩ := hH.out
      have hn := num_head a r
      rw [← hr] at hn
      have hci : putC lT a = 0 := by simp [putC, ga, hn.2]
      have hni : putN lT a = 0 := by simp [putN, ga, hn.2, hn.1]
      have hli : putL lT a = lT := by simp [putL, hn.2]
      clear hr r
      go_wp2_with (first
        | (go_at_call 12; refine (put_yes (w := wr) hT zr a za hci).mono ?_; rintro e w5 ⟨rfl, ⟨v5, hu5, _⟩, hb5⟩; rw [hli] at hu5; have ht5 := hu5.tb; clear hu5; rw [hni])
        | (go_at_call 16; refine (find_any (w := w5) ht5 a za).mono ?_; rintro e w5 ⟨rfl, rfl⟩; rw [hn.1, hn.2]))
      go_ret
      exact ⟨rfl, hbr.trans hb5⟩
set_option maxRecDepth 100000 in
set_option maxHeartbeats 4000000 in
theorem stay_one {W : World} (a : ByteArray) (za : a.size ≤ 281474976710656) (b : ByteArray) (zb : b.size ≤ 281474976710656) (v : Value) (l : List ByteArray) (rs : Rs W v l) (zl : ∀ s ∈ l, s.size ≤ 281474976710656) (hl : l.length ≤ 900) (ga : goodS a = true) (gb : goodS b ≠ true) :
    Calls Try.prog 5 #[.string a, .string b, v] W fun e w' => e = .returned (.bool true) ∧ Below W.heap.size W w' := by
  obtain ⟨ao, c, rfl⟩ := rs.shape
  have hl' : decide ((900 : Int) < (l.length : Int)) = false := by simp; omega
  have hc1 : putC [] a = 0 := putC_first.2 ga
  have hc2 : putC [a] b ≠ 0 := putC_bad gb
  go_enter Try.func5, Try.ntmps5
  go_wp2_with (first
    | (go_at_call 8; refine (lives_any W).mono ?_; rintro e w0 ⟨rfl, hb0⟩; have z0 := hb0.size)
    | (go_at_call 11; refine (new_any w0 W.heap.size z0).mono ?_; rintro e w1 ⟨rfl, ht1, hb1⟩; have z1 := hb1.size; replace hb1 := hb0.trans (hb1.mono z0))
    | (go_at_call 12; refine (put_yes (w := w1) ht1 (by omega) a za hc1).mono ?_; clear hc1; rintro e w2 ⟨rfl, ⟨v2, hu2, _⟩, hb2⟩; have z2 := hb2.size; replace hb2 := hb1.trans hb2; rw [putL_first ga] at hu2; rw [putN_first]; have ht2 := hu2.tb; clear hu2)
    | (go_at_call 12; refine (put_no (w := w2) ht2 (by omega) b zb hc2).mono ?_; clear hc2; rintro e w3 ⟨⟨b3, rfl⟩, ⟨v3, hu3, _⟩, hb3⟩; have z3 := hb3.size; replace hb3 := hb2.trans hb3; have ht3 := hu3.tb; clear hu3))
  go_loopw [59] (fun i wr => ∃ (k : Nat) (lT : List ByteArray) (vT : Value), k ≤ l.length ∧ i = .int .i64 k ∧ Tb wr W.heap.size (w0.heap.size + 1) vT w0.heap.size lT ∧ Hid (∃ r, lT = a :: r) ∧ Below W.heap.size W wr) (fun i _ => l.length - (intOf i).toNat)
  case atStart => exact ⟨0, _, _, Nat.zero_le _, rfl, ht3, ⟨[], rfl⟩, hb3⟩
  case round =>
    obtain ⟨k, lT, vT, hk, rfl, hT, hH, hbr⟩ := hrel
    have zr := hbr.size
    by_cases hlt : k < l.length
    · obtain ⟨s, hs⟩ : ∃ s, s = l.getD k ⟨#[]⟩ := ⟨_, rfl⟩
      have zs : s.size ≤ 281474976710656 := zl s (by rw [hs]; simp [List.getD, hlt])
      obtain ⟨rb, ro, rfl, hcell⟩ : ∃ rb ro, ao = some ⟨rb, ro, none⟩ ∧ wr.cell? ⟨rb, ro + k, none⟩ = some (.string s) := by
        rcases rs.below hbr with ⟨_, h0⟩ | ⟨_, _, _, h0⟩ | ⟨rb, ro, rc, h0, hc⟩
        · rw [h0] at hlt
          simp at hlt
        · rw [h0] at hlt
          simp at hlt
        · refine ⟨rb, ro, by injection h0, ?_⟩
          rw [hs]
          exact hc k hlt
      clear hs
      by_cases hc : putC lT s = 0
      · have hlt2 := putN_lt hc
        have hle2 := putN_le lT s hT.len
        have hst : Hid (∀ x : ByteArray, (x.toList == x.toList) = true) := fun x => by simp
        go_wp2_with (first
          | (go_at_call 12; refine (put_yes (w := wr) hT zr s zs hc).mono ?_; rintro e w5 ⟨rfl, ⟨v5, hu5, _⟩, hb5⟩; have ht5 := hu5.tb; clear hu5)
          | (go_at_call 18; refine (name_yes (w := w5) ht5 (putN lT s) hlt2.1).mono ?_; rintro e w5 ⟨rfl, rfl⟩; rw [hlt2.2]))
        go_roundw
        case rel => exact ⟨k + 1, _, _, by omega, congrArg (Value.int .i64) (by omega), ht5, putL_head hH.out, hbr.trans hb5⟩
        case measure => simp [intOf]; omega
      · go_wp2_with (first
          | (go_at_call 12; refine (put_no (w := wr) hT zr s zs hc).mono ?_; rintro e w5 ⟨⟨b5, rfl⟩, ⟨v5, hu5, _⟩, hb5⟩; have ht5 := hu5.tb; clear hu5)
          | (go_at_call 18; refine (name_zero (w := w5) ht5).mono ?_; rintro e w5 ⟨⟨xs, xo, rfl⟩, rfl⟩))
        go_roundw
        case rel => exact ⟨k + 1, _, _, by omega, congrArg (Value.int .i64) (by omega), ht5, hH, hbr.trans hb5⟩
        case measure => simp [intOf]; omega
    · obtain ⟨r, hr⟩ := hH.out
      have hn := num_head a r
      rw [← hr] at hn
      have hci : putC lT a = 0 := by simp [putC, ga, hn.2]
      have hni : putN lT a = 0 := by simp [putN, ga, hn.2, hn.1]
      have hli : putL lT a = lT := by simp [putL, hn.2]
      clear hr r
      go_wp2_with (first
        | (go_at_call 12; refine (put_yes (w := wr) hT zr a za hci).mono ?_; rintro e w5 ⟨rfl, ⟨v5, hu5, _⟩, hb5⟩; rw [hli] at hu5; have ht5 := hu5.tb; clear hu5; rw [hni])
        | (go_at_call 16; refine (find_any (w := w5) ht5 a za).mono ?_; rintro e w5 ⟨rfl, rfl⟩; rw [hn.1, hn.2]))
      go_ret
      exact ⟨rfl, hbr.trans hb5⟩
set_option maxRecDepth 100000 in
set_option maxHeartbeats 4000000 in
theorem stay_other {W : World} (a : ByteArray) (za : a.size ≤ 281474976710656) (b : ByteArray) (zb : b.size ≤ 281474976710656) (v : Value) (l : List ByteArray) (rs : Rs W v l) (zl : ∀ s ∈ l, s.size ≤ 281474976710656) (hl : l.length ≤ 900) (ga : goodS a ≠ true) (gb : goodS b = true) :
    Calls Try.prog 5 #[.string a, .string b, v] W fun e w' => e = .returned (.bool true) ∧ Below W.heap.size W w' := by
  obtain ⟨ao, c, rfl⟩ := rs.shape
  have hl' : decide ((900 : Int) < (l.length : Int)) = false := by simp; omega
  have hc1 : putC [] a ≠ 0 := fun h => ga (putC_first.1 h)
  have hc2 : putC [] b = 0 := putC_first.2 gb
  go_enter Try.func5, Try.ntmps5
  go_wp2_with (first
    | (go_at_call 8; refine (lives_any W).mono ?_; rintro e w0 ⟨rfl, hb0⟩; have z0 := hb0.size)
    | (go_at_call 11; refine (new_any w0 W.heap.size z0).mono ?_; rintro e w1 ⟨rfl, ht1, hb1⟩; have z1 := hb1.size; replace hb1 := hb0.trans (hb1.mono z0))
    | (go_at_call 12; refine (put_no (w := w1) ht1 (by omega) a za hc1).mono ?_; clear hc1; rintro e w2 ⟨⟨b2, rfl⟩, ⟨v2, hu2, _⟩, hb2⟩; have z2 := hb2.size; replace hb2 := hb1.trans hb2; have ht2 := hu2.tb; clear hu2)
    | (go_at_call 12; refine (put_yes (w := w2) ht2 (by omega) b zb hc2).mono ?_; clear hc2; rintro e w3 ⟨rfl, ⟨v3, hu3, _⟩, hb3⟩; have z3 := hb3.size; replace hb3 := hb2.trans hb3; rw [putN_first]; have ht3 := hu3.tb; clear hu3))
  go_loopw [59] (fun i wr => ∃ (k : Nat) (lT : List ByteArray) (vT : Value), k ≤ l.length ∧ i = .int .i64 k ∧ Tb wr W.heap.size (w0.heap.size + 1) vT w0.heap.size lT ∧ Hid (True) ∧ Below W.heap.size W wr) (fun i _ => l.length - (intOf i).toNat)
  case atStart => exact ⟨0, _, _, Nat.zero_le _, rfl, ht3, trivial, hb3⟩
  case round =>
    obtain ⟨k, lT, vT, hk, rfl, hT, hH, hbr⟩ := hrel
    have zr := hbr.size
    by_cases hlt : k < l.length
    · obtain ⟨s, hs⟩ : ∃ s, s = l.getD k ⟨#[]⟩ := ⟨_, rfl⟩
      have zs : s.size ≤ 281474976710656 := zl s (by rw [hs]; simp [List.getD, hlt])
      obtain ⟨rb, ro, rfl, hcell⟩ : ∃ rb ro, ao = some ⟨rb, ro, none⟩ ∧ wr.cell? ⟨rb, ro + k, none⟩ = some (.string s) := by
        rcases rs.below hbr with ⟨_, h0⟩ | ⟨_, _, _, h0⟩ | ⟨rb, ro, rc, h0, hc⟩
        · rw [h0] at hlt
          simp at hlt
        · rw [h0] at hlt
          simp at hlt
        · refine ⟨rb, ro, by injection h0, ?_⟩
          rw [hs]
          exact hc k hlt
      clear hs
      by_cases hc : putC lT s = 0
      · have hlt2 := putN_lt hc
        have hle2 := putN_le lT s hT.len
        have hst : Hid (∀ x : ByteArray, (x.toList == x.toList) = true) := fun x => by simp
        go_wp2_with (first
          | (go_at_call 12; refine (put_yes (w := wr) hT zr s zs hc).mono ?_; rintro e w5 ⟨rfl, ⟨v5, hu5, _⟩, hb5⟩; have ht5 := hu5.tb; clear hu5)
          | (go_at_call 18; refine (name_yes (w := w5) ht5 (putN lT s) hlt2.1).mono ?_; rintro e w5 ⟨rfl, rfl⟩; rw [hlt2.2]))
        go_roundw
        case rel => exact ⟨k + 1, _, _, by omega, congrArg (Value.int .i64) (by omega), ht5, trivial, hbr.trans hb5⟩
        case measure => simp [intOf]; omega
      · go_wp2_with (first
          | (go_at_call 12; refine (put_no (w := wr) hT zr s zs hc).mono ?_; rintro e w5 ⟨⟨b5, rfl⟩, ⟨v5, hu5, _⟩, hb5⟩; have ht5 := hu5.tb; clear hu5)
          | (go_at_call 18; refine (name_zero (w := w5) ht5).mono ?_; rintro e w5 ⟨⟨xs, xo, rfl⟩, rfl⟩))
        go_roundw
        case rel => exact ⟨k + 1, _, _, by omega, congrArg (Value.int .i64) (by omega), ht5, hH, hbr.trans hb5⟩
        case measure => simp [intOf]; omega
    · have hn := bad_out hT ga
      go_wp2_with (go_at_call 16; refine (find_any (w := wr) hT a za).mono ?_; rintro e wr ⟨rfl, rfl⟩; rw [hn])
      go_ret
      exact ⟨rfl, hbr⟩
set_option maxRecDepth 100000 in
set_option maxHeartbeats 4000000 in
theorem stay_none {W : World} (a : ByteArray) (za : a.size ≤ 281474976710656) (b : ByteArray) (zb : b.size ≤ 281474976710656) (v : Value) (l : List ByteArray) (rs : Rs W v l) (zl : ∀ s ∈ l, s.size ≤ 281474976710656) (hl : l.length ≤ 900) (ga : goodS a ≠ true) (gb : goodS b ≠ true) :
    Calls Try.prog 5 #[.string a, .string b, v] W fun e w' => e = .returned (.bool true) ∧ Below W.heap.size W w' := by
  obtain ⟨ao, c, rfl⟩ := rs.shape
  have hl' : decide ((900 : Int) < (l.length : Int)) = false := by simp; omega
  have hc1 : putC [] a ≠ 0 := fun h => ga (putC_first.1 h)
  have hc2 : putC [] b ≠ 0 := fun h => gb (putC_first.1 h)
  go_enter Try.func5, Try.ntmps5
  go_wp2_with (first
    | (go_at_call 8; refine (lives_any W).mono ?_; rintro e w0 ⟨rfl, hb0⟩; have z0 := hb0.size)
    | (go_at_call 11; refine (new_any w0 W.heap.size z0).mono ?_; rintro e w1 ⟨rfl, ht1, hb1⟩; have z1 := hb1.size; replace hb1 := hb0.trans (hb1.mono z0))
    | (go_at_call 12; refine (put_no (w := w1) ht1 (by omega) a za hc1).mono ?_; clear hc1; rintro e w2 ⟨⟨b2, rfl⟩, ⟨v2, hu2, _⟩, hb2⟩; have z2 := hb2.size; replace hb2 := hb1.trans hb2; have ht2 := hu2.tb; clear hu2)
    | (go_at_call 12; refine (put_no (w := w2) ht2 (by omega) b zb hc2).mono ?_; clear hc2; rintro e w3 ⟨⟨b3, rfl⟩, ⟨v3, hu3, _⟩, hb3⟩; have z3 := hb3.size; replace hb3 := hb2.trans hb3; have ht3 := hu3.tb; clear hu3))
  go_loopw [59] (fun i wr => ∃ (k : Nat) (lT : List ByteArray) (vT : Value), k ≤ l.length ∧ i = .int .i64 k ∧ Tb wr W.heap.size (w0.heap.size + 1) vT w0.heap.size lT ∧ Hid (True) ∧ Below W.heap.size W wr) (fun i _ => l.length - (intOf i).toNat)
  case atStart => exact ⟨0, _, _, Nat.zero_le _, rfl, ht3, trivial, hb3⟩
  case round =>
    obtain ⟨k, lT, vT, hk, rfl, hT, hH, hbr⟩ := hrel
    have zr := hbr.size
    by_cases hlt : k < l.length
    · obtain ⟨s, hs⟩ : ∃ s, s = l.getD k ⟨#[]⟩ := ⟨_, rfl⟩
      have zs : s.size ≤ 281474976710656 := zl s (by rw [hs]; simp [List.getD, hlt])
      obtain ⟨rb, ro, rfl, hcell⟩ : ∃ rb ro, ao = some ⟨rb, ro, none⟩ ∧ wr.cell? ⟨rb, ro + k, none⟩ = some (.string s) := by
        rcases rs.below hbr with ⟨_, h0⟩ | ⟨_, _, _, h0⟩ | ⟨rb, ro, rc, h0, hc⟩
        · rw [h0] at hlt
          simp at hlt
        · rw [h0] at hlt
          simp at hlt
        · refine ⟨rb, ro, by injection h0, ?_⟩
          rw [hs]
          exact hc k hlt
      clear hs
      by_cases hc : putC lT s = 0
      · have hlt2 := putN_lt hc
        have hle2 := putN_le lT s hT.len
        have hst : Hid (∀ x : ByteArray, (x.toList == x.toList) = true) := fun x => by simp
        go_wp2_with (first
          | (go_at_call 12; refine (put_yes (w := wr) hT zr s zs hc).mono ?_; rintro e w5 ⟨rfl, ⟨v5, hu5, _⟩, hb5⟩; have ht5 := hu5.tb; clear hu5)
          | (go_at_call 18; refine (name_yes (w := w5) ht5 (putN lT s) hlt2.1).mono ?_; rintro e w5 ⟨rfl, rfl⟩; rw [hlt2.2]))
        go_roundw
        case rel => exact ⟨k + 1, _, _, by omega, congrArg (Value.int .i64) (by omega), ht5, trivial, hbr.trans hb5⟩
        case measure => simp [intOf]; omega
      · go_wp2_with (first
          | (go_at_call 12; refine (put_no (w := wr) hT zr s zs hc).mono ?_; rintro e w5 ⟨⟨b5, rfl⟩, ⟨v5, hu5, _⟩, hb5⟩; have ht5 := hu5.tb; clear hu5)
          | (go_at_call 18; refine (name_zero (w := w5) ht5).mono ?_; rintro e w5 ⟨⟨xs, xo, rfl⟩, rfl⟩))
        go_roundw
        case rel => exact ⟨k + 1, _, _, by omega, congrArg (Value.int .i64) (by omega), ht5, hH, hbr.trans hb5⟩
        case measure => simp [intOf]; omega
    · have hn := bad_out hT ga
      go_wp2_with (go_at_call 16; refine (find_any (w := wr) hT a za).mono ?_; rintro e wr ⟨rfl, rfl⟩; rw [hn])
      go_ret
      exact ⟨rfl, hbr⟩
set_option maxRecDepth 100000 in
set_option maxHeartbeats 1000000 in
theorem stay_long {W : World} (a b : ByteArray) (v : Value) (l : List ByteArray) (rs : Rs W v l) (hl : 900 < l.length) :
    Calls Try.prog 5 #[.string a, .string b, v] W fun e w' => e = .returned (.bool true) ∧ Below W.heap.size W w' := by
  obtain ⟨ao, c, rfl⟩ := rs.shape
  have hl' : (900 : Int) < (l.length : Int) := by omega
  go_enter Try.func5, Try.ntmps5
  go_wp2_with (go_at_call 8; refine (lives_any W).mono ?_; rintro e w0 ⟨rfl, hb0⟩)
  go_ret
  exact ⟨rfl, hb0⟩
theorem namesStay_walk {W : World} (a : ByteArray) (za : a.size ≤ 281474976710656) (b : ByteArray) (zb : b.size ≤ 281474976710656) (v : Value) (l : List ByteArray) (rs : Rs W v l) (zl : ∀ s ∈ l, s.size ≤ 281474976710656) :
    Calls Try.prog 5 #[.string a, .string b, v] W fun e w' => e = .returned (.bool true) ∧ Below W.heap.size W w' := by
  by_cases hl : l.length ≤ 900
  · by_cases ga : goodS a = true
    · by_cases gb : goodS b = true
      · by_cases hab : a = b
        · exact stay_same a za b zb v l rs zl hl ga gb hab
        · exact stay_unlike a za b zb v l rs zl hl ga gb hab
      · exact stay_one a za b zb v l rs zl hl ga gb
    · by_cases gb : goodS b = true
      · exact stay_other a za b zb v l rs zl hl ga gb
      · exact stay_none a za b zb v l rs zl hl ga gb
  · exact stay_long a b v l rs (by omega)
end Go.Proofs.Ytobimnfjfinphaa
