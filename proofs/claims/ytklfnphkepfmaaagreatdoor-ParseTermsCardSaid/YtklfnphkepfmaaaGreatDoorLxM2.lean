/- Where tokens lie, and all tokens of a source. No program stands in it. -/
import Derived.Test.YtklfnphkepfmaaaGreatDoorLxM
namespace Go.Proofs.YtklfnphkepfmaaaGreatDoor
open Go.RowKit

/-- A token that lies where it should. -/
def lies (s : ByteArray) (a : Nat) (x : Lx) : Prop := x.code = 0 → x.tok.at_ = a ∧ a < x.tok.end_ ∧ x.tok.end_ ≤ s.size ∧ x.tok.kind ≠ 0
theorem lies_bad (s : ByteArray) (a : Nat) {c p : Int} (h : c ≠ 0) : lies s a (badT c p) := fun e => absurd e h
theorem lies_ok {s : ByteArray} {a : Nat} {k : Int} {t : ByteArray} {n : Int} {e : Nat} (h1 : a < e) (h2 : e ≤ s.size) (hk : k ≠ 0) : lies s a (okT ⟨k, t, n, a, e⟩) := fun _ => ⟨rfl, h1, h2, hk⟩
theorem wordF_lies {s : ByteArray} {a : Nat} {k : Int} (h : 3 ≤ kd s a ∧ kd s a ≤ 5) (hk : k ≠ 0) : lies s a (wordF s a k) := by
  have hl : a < s.size := kd_lt (by omega)
  unfold wordF
  split
  · exact lies_bad s a (by decide)
  · exact lies_ok (wEnd_gt h) (wEnd_le (by omega)) hk
theorem intF_lies {s : ByteArray} {a f : Nat} (haf : a ≤ f) (h : 3 ≤ kd s f ∧ kd s f ≤ 5) : lies s a (intF s a f) := by
  have hl : f < s.size := kd_lt (by omega)
  have := wEnd_gt h
  unfold intF
  split
  · exact lies_ok (by omega) (wEnd_le (by omega)) (by decide)
  · exact lies_bad s a (by decide)
theorem qF_lies (s : ByteArray) (a : Nat) : ∀ n i acc, a < i → lies s a (qF s a n i acc)
  | 0, i, acc, h => lies_bad s a (by decide)
  | n + 1, i, acc, h => by
    rw [qF]
    split
    · split
      · split
        · exact lies_bad s a (by decide)
        · exact lies_ok (by omega) (by omega) (by decide)
      · split
        · split
          · split
            · exact qF_lies s a n (i + 2) _ (by omega)
            · exact lies_bad s a (by decide)
          · exact lies_bad s a (by decide)
        · split
          · exact lies_bad s a (by decide)
          · exact qF_lies s a n (i + 1) _ (by omega)
    · exact lies_bad s a (by decide)
theorem tokF_lies (s : ByteArray) (a : Nat) : lies s a (tokF s a) := by
  unfold tokF
  split
  · exact wordF_lies (by omega) (by decide)
  · split
    · exact wordF_lies (by omega) (by decide)
    · split
      · exact intF_lies (Nat.le_refl _) (by omega)
      · split
        · split
          · exact intF_lies (by omega) (by omega)
          · exact lies_bad s a (by decide)
        · split
          · exact qF_lies s a _ _ _ (by omega)
          · split
            · split
              · have h2 : a + 1 < s.size := kd_lt (by omega)
                exact lies_ok (by omega) (by omega) (by decide)
              · exact lies_bad s a (by decide)
            · split
              · have h2 : a < s.size := kd_lt (by omega)
                exact lies_ok (by omega) (by omega) (by decide)
              · exact lies_bad s a (by decide)
/-- What the first token from a place on is: the end, a token that lies behind it, or a fault. -/
theorem nxt_ways {s : ByteArray} {a : Nat} (h : a ≤ s.size) :
    (skp s a = s.size ∧ nxt s a = okT (endT s)) ∨ (skp s a < s.size ∧ nxt s a = tokF s (skp s a) ∧ (nxt s a).code = 0 ∧ (nxt s a).tok.at_ = skp s a ∧ a < (nxt s a).tok.end_ ∧ (nxt s a).tok.end_ ≤ s.size ∧ (nxt s a).tok.kind ≠ 0)
      ∨ (skp s a < s.size ∧ nxt s a = tokF s (skp s a) ∧ (nxt s a).code ≠ 0) := by
  have h1 := skp_le h
  have h2 := skp_ge s a
  by_cases e : skp s a = s.size
  · exact Or.inl ⟨e, by rw [nxt, if_pos e]⟩
  · right
    have e2 : nxt s a = tokF s (skp s a) := by rw [nxt, if_neg e]
    by_cases hc : (nxt s a).code = 0
    · left
      have hl := tokF_lies s (skp s a)
      rw [← e2] at hl
      obtain ⟨l1, l2, l3, l4⟩ := hl hc
      exact ⟨by omega, e2, hc, l1, by omega, l3, l4⟩
    · right
      exact ⟨by omega, e2, hc⟩
/-- All tokens from a place on, ahead of a fault; the fault. -/
def allF (s : ByteArray) : Nat → Nat → List Tk × Int × Int
  | 0, _ => ([], 0, 0)
  | n + 1, a =>
    if (nxt s a).code = 0 then
      (if skp s a = s.size then ([endT s], 0, 0) else ((nxt s a).tok :: (allF s n (nxt s a).tok.end_).1, (allF s n (nxt s a).tok.end_).2))
    else ([], (nxt s a).code, (nxt s a).pl)
theorem allF_enough (s : ByteArray) : ∀ n m a, a ≤ s.size → s.size - a < n → s.size - a < m → allF s n a = allF s m a
  | 0, m, a, _, h, _ => by omega
  | n + 1, 0, a, _, _, h => by omega
  | n + 1, m + 1, a, ha, h1, h2 => by
    rw [allF, allF]
    rcases nxt_ways ha with ⟨e1, e2⟩ | ⟨e1, e2, e3, e4, e5, e6, e7⟩ | ⟨e1, e2, e3⟩
    · rw [if_pos e1, if_pos e1]
    · rw [if_pos e3, if_pos e3, allF_enough s n m _ e6 (by omega) (by omega)]
    · rw [if_neg e3, if_neg e3]
/-- All tokens from a place on. -/
def allT (s : ByteArray) (a : Nat) : List Tk := (allF s (s.size - a + 1) a).1
/-- The fault that they end in (0: none), and its place. -/
def allC (s : ByteArray) (a : Nat) : Int := (allF s (s.size - a + 1) a).2.1
def allP (s : ByteArray) (a : Nat) : Int := (allF s (s.size - a + 1) a).2.2
theorem all_end {s : ByteArray} {a : Nat} (h : skp s a = s.size) : allT s a = [endT s] ∧ allC s a = 0 ∧ allP s a = 0 := by
  have e : (nxt s a).code = 0 := by rw [nxt, if_pos h]; rfl
  refine ⟨?_, ?_, ?_⟩ <;> simp only [allT, allC, allP, allF, if_pos e, if_pos h]
theorem all_bad {s : ByteArray} {a : Nat} (h : (nxt s a).code ≠ 0) : allT s a = [] ∧ allC s a = (nxt s a).code ∧ allP s a = (nxt s a).pl := by
  refine ⟨?_, ?_, ?_⟩ <;> simp only [allT, allC, allP, allF, if_neg h]
theorem all_tok {s : ByteArray} {a : Nat} (ha : a ≤ s.size) (h0 : skp s a ≠ s.size) (h : (nxt s a).code = 0) :
    allT s a = (nxt s a).tok :: allT s (nxt s a).tok.end_ ∧ allC s a = allC s (nxt s a).tok.end_ ∧ allP s a = allP s (nxt s a).tok.end_ := by
  rcases nxt_ways ha with ⟨e1, e2⟩ | ⟨e1, e2, e3, e4, e5, e6, e7⟩ | ⟨e1, e2, e3⟩
  · exact absurd e1 h0
  · have he := allF_enough s (s.size - a) (s.size - (nxt s a).tok.end_ + 1) (nxt s a).tok.end_ e6 (by omega) (by omega)
    refine ⟨?_, ?_, ?_⟩ <;> (simp only [allT, allC, allP, ← he]; rw [allF, if_pos h, if_neg h0])
  · exact absurd h e3
theorem allT_length {s : ByteArray} : ∀ n a, a ≤ s.size → s.size - a < n → (allT s a).length ≤ s.size - a + 1
  | 0, a, _, h => by omega
  | n + 1, a, ha, h => by
    rcases nxt_ways ha with ⟨e1, e2⟩ | ⟨e1, e2, e3, e4, e5, e6, e7⟩ | ⟨e1, e2, e3⟩
    · rw [(all_end e1).1]; simp
    · rw [(all_tok ha (by omega) e3).1]
      have := allT_length (s := s) n _ e6 (by omega)
      simp only [List.length_cons]
      omega
    · rw [(all_bad e3).1]; simp
theorem allT_le {s : ByteArray} {a : Nat} (h : a ≤ s.size) : (allT s a).length ≤ s.size + 1 := by
  have := allT_length (s := s) (s.size - a + 1) a h (by omega)
  omega
end Go.Proofs.YtklfnphkepfmaaaGreatDoor
