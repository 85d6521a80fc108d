/- What the laws of layer 3 share: Put where it answers a number and where it answers a fault; the fixed fact; what grows. -/
import Derived.Test.YtobimnfjfinphaaNmPut
namespace Go.Proofs.Ytobimnfjfinphaa
open Go.RowKit Go.Maps

theorem putC_zero {l : List ByteArray} {s : ByteArray} (h : putC l s = 0) : goodS s = true ∧ (inL l s = true ∨ (inL l s = false ∧ l.length < 1024)) := by
  unfold putC at h
  cases hg : goodS s with
  | false => simp [hg] at h
  | true =>
    refine ⟨rfl, ?_⟩
    cases hi : inL l s with
    | true => exact Or.inl rfl
    | false =>
      by_cases hl : l.length < 1024
      · exact Or.inr ⟨rfl, hl⟩
      · simp [hg, hi, hl] at h
theorem putN_lt {l : List ByteArray} {s : ByteArray} (h : putC l s = 0) : putN l s < (putL l s).length ∧ (putL l s).getD (putN l s) ⟨#[]⟩ = s := by
  obtain ⟨hg, hi | ⟨hi, hl⟩⟩ := putC_zero h
  · have e1 : putN l s = num l s := by simp [putN, hg, hi]
    have e3 : putL l s = l := by simp [putL, hi]
    rw [e1, e3]
    exact ⟨num_lt hi, num_at hi⟩
  · have e1 : putN l s = l.length := by simp [putN, hg, hi, hl]
    have e3 : putL l s = l ++ [s] := by simp [putL, hg, hi, hl]
    rw [e1, e3]
    simp
theorem putN_no {l : List ByteArray} {s : ByteArray} (h : putC l s ≠ 0) : putN l s = 0 ∧ putL l s = l := by
  unfold putC at h
  cases hg : goodS s with
  | false => simp [putN, putL, hg]
  | true =>
    cases hi : inL l s with
    | true => simp [hg, hi] at h
    | false =>
      by_cases hl : l.length < 1024
      · simp [hg, hl] at h
      · simp [putN, putL, hi, hl]
theorem putL_cases (l : List ByteArray) (s : ByteArray) : putL l s = l ∨ putL l s = l ++ [s] := by
  unfold putL
  split
  · exact Or.inr rfl
  · exact Or.inl rfl
theorem putN_le (l : List ByteArray) (s : ByteArray) (hl : l.length ≤ 1024) : putN l s ≤ 1024 := by
  unfold putN
  have := num_le l s
  (repeat' split) <;> omega
/-- Put, where it answers a number. -/
theorem put_yes {w : World} {B p q : Nat} {v : Value} {l : List ByteArray} (h : Tb w B p v q l) (hB : B ≤ w.heap.size) (s : ByteArray) (hs : s.size ≤ 281474976710656) (hc : putC l s = 0) :
    Calls Try.prog 12 #[.pointer (some ⟨p, 0, none⟩), .string s] w fun e w' => e = .returned (.tuple #[.int .i64 (putN l s : Int), .nilIface]) ∧ (∃ v', Upd w w' B p v q (putL l s) v' ∧ Rs w' v l) ∧ Below B w w' := by
  refine (put_any h hB s hs).mono ?_
  rintro e w' ⟨ev, v', rfl, hE, hU, hr⟩
  rcases hE.nil with ⟨_, rfl⟩ | ⟨h0, _⟩
  · exact ⟨rfl, ⟨v', hU, hr⟩, hU.below h hB⟩
  · exact absurd hc h0
/-- Put, where it answers a fault. -/
theorem put_no {w : World} {B p q : Nat} {v : Value} {l : List ByteArray} (h : Tb w B p v q l) (hB : B ≤ w.heap.size) (s : ByteArray) (hs : s.size ≤ 281474976710656) (hc : putC l s ≠ 0) :
    Calls Try.prog 12 #[.pointer (some ⟨p, 0, none⟩), .string s] w fun e w' => (∃ b, e = .returned (.tuple #[.int .i64 0, .iface 62 (.pointer (some ⟨b, 0, none⟩))])) ∧ (∃ v', Upd w w' B p v q l v' ∧ Rs w' v l) ∧ Below B w w' := by
  have e0 := putN_no hc
  refine (put_any h hB s hs).mono ?_
  rintro e w' ⟨ev, v', rfl, hE, hU, hr⟩
  rcases hE.nil with ⟨h0, _⟩ | ⟨_, b, rfl⟩
  · exact absurd h0 hc
  · exact ⟨⟨b, by rw [e0.1]; rfl⟩, ⟨v', by rw [← e0.2]; exact hU, hr⟩, hU.below h hB⟩
/-- Put, whatever it answers. -/
theorem put_some {w : World} {B p q : Nat} {v : Value} {l : List ByteArray} (h : Tb w B p v q l) (hB : B ≤ w.heap.size) (s : ByteArray) (hs : s.size ≤ 281474976710656) :
    Calls Try.prog 12 #[.pointer (some ⟨p, 0, none⟩), .string s] w fun e w' => (∃ ev, e = .returned (.tuple #[.int .i64 (putN l s : Int), ev])) ∧ (∃ v', Upd w w' B p v q (putL l s) v' ∧ Rs w' v l) ∧ Below B w w' := by
  refine (put_any h hB s hs).mono ?_
  rintro e w' ⟨ev, v', rfl, _, hU, hr⟩
  exact ⟨⟨ev, rfl⟩, ⟨v', hU, hr⟩, hU.below h hB⟩
/-- Name at 0, whatever it answers. -/
theorem name_zero {w : World} {B p q : Nat} {v : Value} {l : List ByteArray} (h : Tb w B p v q l) :
    Calls Try.prog 18 #[.pointer (some ⟨p, 0, none⟩), .int .i64 0] w fun e w' => (∃ x ok, e = .returned (.tuple #[.string x, .bool ok])) ∧ w' = w := by
  by_cases hl : 0 < l.length
  · refine (name_yes h 0 hl).mono ?_
    rintro e w' ⟨rfl, rfl⟩
    exact ⟨⟨_, _, rfl⟩, rfl⟩
  · refine (name_no h 0 (by omega) (by omega) (Or.inr (by omega))).mono ?_
    rintro e w' ⟨rfl, rfl⟩
    exact ⟨⟨_, _, rfl⟩, rfl⟩
set_option maxRecDepth 100000 in
set_option maxHeartbeats 1000000 in
theorem lives_any (w : World) : Calls Try.prog 8 #[] w fun e w' => e = .returned (.bool true) ∧ Below w.heap.size w w' := by
  have g1 : putC [] ⟨#[98]⟩ = 0 := by decide
  have g2 : putC [⟨#[98]⟩] ⟨#[97]⟩ = 0 := by decide
  have n2 : putN [⟨#[98]⟩] ⟨#[97]⟩ = 1 := by decide
  have l1 : putL [] ⟨#[98]⟩ = [⟨#[98]⟩] := by decide
  have l2 : putL [⟨#[98]⟩] ⟨#[97]⟩ = [⟨#[98]⟩, ⟨#[97]⟩] := by decide
  have s1 : (⟨#[98]⟩ : ByteArray).size ≤ 281474976710656 := show 1 ≤ 281474976710656 by omega
  have s2 : (⟨#[97]⟩ : ByteArray).size ≤ 281474976710656 := show 1 ≤ 281474976710656 by omega
  go_enter Try.func8, Try.ntmps8
  go_wp2_with (first
    | (go_at_call 11; refine (new_any w w.heap.size (Nat.le_refl _)).mono ?_; rintro e w1 ⟨rfl, ht, hb⟩; have z1 := hb.size)
    | (go_at_call 12; refine (put_yes (w := w1) ht z1 _ s1 g1).mono ?_; clear s1 g1; rintro e w2 ⟨rfl, ⟨v2, hu, _⟩, hb2⟩; have z2 := hb2.size; rw [l1] at hu; have ht2 := hu.tb)
    | (go_at_call 12; refine (put_yes (w := w2) ht2 (by omega) _ s2 g2).mono ?_; rintro e w3 ⟨rfl, ⟨v3, hu3, _⟩, hb3⟩; rw [l2] at hu3; rw [n2]; have ht3 := hu3.tb)
    | (go_at_call 15; refine (len_any ht3).mono ?_; rintro e w3 ⟨rfl, rfl⟩))
  go_ret
  exact ⟨rfl, (hb.trans hb2).trans hb3⟩
end Go.Proofs.Ytobimnfjfinphaa
