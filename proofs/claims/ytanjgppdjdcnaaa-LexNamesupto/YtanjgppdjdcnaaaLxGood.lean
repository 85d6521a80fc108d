/- Names that are good: Good of the reference, and the tokens of a name as it is written. -/
import Derived.Test.YtanjgppdjdcnaaaLxQuo2
import Derived.Test.YtanjgppdjdcnaaaLxAg2
namespace Go.Proofs.Ytanjgppdjdcnaaa
open Go.RowKit

/-- Is a text a name? -/
def goodS (s : ByteArray) : Bool := decide (1 ≤ s.size) && decide (s.size ≤ 32) && s.data.toList.all (fun b => decide (33 ≤ b.toNat) && decide (b.toNat ≤ 126))
theorem goodS_size {s : ByteArray} (h : goodS s = true) : 1 ≤ s.size ∧ s.size ≤ 32 := by
  simp only [goodS, Bool.and_eq_true, decide_eq_true_eq] at h
  exact h.1
theorem byte_at (s : ByteArray) (k : Nat) (h : k < s.size) : s.data.toList[k]? = some s[k] := by
  rw [List.getElem?_eq_getElem (by simpa using h)]
  rfl
theorem goodS_byte {s : ByteArray} (h : goodS s = true) (k : Nat) (hk : k < s.size) : 33 ≤ (s[k].toNat : Int) ∧ (s[k].toNat : Int) ≤ 126 := by
  simp only [goodS, Bool.and_eq_true, List.all_eq_true, decide_eq_true_eq] at h
  have := h.2 s[k] (List.mem_of_getElem? (byte_at s k hk))
  omega
theorem goodS_of {s : ByteArray} (h1 : 1 ≤ s.size) (h2 : s.size ≤ 32) (h : ∀ k (hk : k < s.size), 33 ≤ (s[k].toNat : Int) ∧ (s[k].toNat : Int) ≤ 126) : goodS s = true := by
  simp only [goodS, Bool.and_eq_true, List.all_eq_true, decide_eq_true_eq]
  refine ⟨⟨h1, h2⟩, fun x hx => ?_⟩
  obtain ⟨k, hk, rfl⟩ := List.getElem_of_mem hx
  have hk' : k < s.size := by simpa using hk
  have := h k hk'
  have e : s.data.toList[k] = s[k] := rfl
  rw [e]
  omega
theorem goodS_no {s : ByteArray} (k : Nat) (hk : k < s.size) (h : ¬ (33 ≤ (s[k].toNat : Int) ∧ (s[k].toNat : Int) ≤ 126)) : goodS s = false := by
  cases hg : goodS s with
  | false => rfl
  | true => exact absurd (goodS_byte hg k hk) h
theorem goodS_short {s : ByteArray} (h : s.size < 1 ∨ 32 < s.size) : goodS s = false := by
  cases hg : goodS s with
  | false => rfl
  | true => have := goodS_size hg; omega
set_option maxHeartbeats 1000000 in
theorem rgood_any (s : ByteArray) (w : World) (hs : s.size ≤ 281474976710656) :
    Calls Try.prog 20 #[.string s] w fun e w' => e = .returned (.bool (goodS s)) ∧ w' = w := by
  by_cases h1 : s.size < 1
  · have hG : Hid (goodS s = false) := goodS_short (Or.inl h1)
    go_enter Try.func20, Try.ntmps20
    go_wp2
    go_ret
    exact ⟨ret_bool hG.out.symm, rfl⟩
  · by_cases h2 : 32 < s.size
    · have hG : Hid (goodS s = false) := goodS_short (Or.inr h2)
      go_enter Try.func20, Try.ntmps20
      go_wp2
      go_ret
      exact ⟨ret_bool hG.out.symm, rfl⟩
    · go_enter Try.func20, Try.ntmps20
      go_wp2
      go_loop [3] (fun i => ∃ k : Nat, k ≤ s.size ∧ i = .int .i64 k ∧ Hid (∀ j (hj : j < s.size), j < k → 33 ≤ (s[j].toNat : Int) ∧ (s[j].toNat : Int) ≤ 126)) (fun i => s.size - (intOf i).toNat)
      case atStart => exact ⟨0, by omega, rfl, fun j hj h0 => by omega⟩
      case round =>
        obtain ⟨k, hk, rfl, hm⟩ := hrel
        by_cases hlt : k < s.size
        · by_cases hd : 33 ≤ (s[k].toNat : Int)
          · by_cases hd' : (s[k].toNat : Int) ≤ 126
            · have hst : Hid (∀ j (hj : j < s.size), j < k + 1 → 33 ≤ (s[j].toNat : Int) ∧ (s[j].toNat : Int) ≤ 126) := fun j hj h0 => by
                rcases Nat.lt_or_eq_of_le (Nat.le_of_lt_succ h0) with h3 | h3
                · exact hm.out j hj h3
                · subst h3
                  exact ⟨hd, hd'⟩
              go_wp2
              exact ⟨⟨k + 1, by omega, congrArg (Value.int .i64) (by omega), hst⟩, by simp [intOf]; omega⟩
            · have hG : Hid (goodS s = false) := goodS_no k hlt (by omega)
              go_wp2
              go_ret
              exact ⟨ret_bool hG.out.symm, rfl⟩
          · have hG : Hid (goodS s = false) := goodS_no k hlt (by omega)
            go_wp2
            go_ret
            exact ⟨ret_bool hG.out.symm, rfl⟩
        · have hG : Hid (goodS s = true) := goodS_of (by omega) (by omega) (fun j hj => hm.out j hj (by omega))
          go_wp2
          go_ret
          exact ⟨ret_bool hG.out.symm, rfl⟩

/-! A name as it is written is read again. -/
theorem at_list {q : ByteArray} {pre rest : List UInt8} {b : UInt8} (h : q.data.toList = pre ++ b :: rest) : ∃ hi : pre.length < q.size, q[pre.length] = b := by
  have hz : q.size = (pre ++ b :: rest).length := by rw [← h]; simp
  have hi : pre.length < q.size := by rw [hz]; simp
  refine ⟨hi, ?_⟩
  have h1 := byte_at q pre.length hi
  rw [h] at h1
  simpa using h1.symm
/-- What stands within the quotes is what was written. -/
theorem quo_esc (q : ByteArray) (a : Nat) : ∀ (l pre acc : List UInt8), q.data.toList = pre ++ (escL l ++ [39]) →
    ((∀ b ∈ l, 33 ≤ b.toNat ∧ b.toNat ≤ 126) ∧ quo q a pre.length acc = (if (acc ++ l).length < 1 ∨ 32 < (acc ++ l).length then badT 62 a else okT ⟨1, ⟨(acc ++ l).toArray⟩, 0, a, q.size⟩)) ∨ ((∃ b ∈ l, ¬ (33 ≤ b.toNat ∧ b.toNat ≤ 126)) ∧ (quo q a pre.length acc).code ≠ 0)
  | [], pre, acc, h => by
    left
    have h' : q.data.toList = pre ++ 39 :: [] := by simpa [escL] using h
    obtain ⟨hi, hb⟩ := at_list h'
    have hz : q.size = pre.length + 1 := by
      have := congrArg List.length h'
      simpa using this
    refine ⟨fun b hb => absurd hb (List.not_mem_nil), ?_⟩
    rw [quo_in hi, bt_in hi, hb, if_pos (by decide), List.append_nil, hz]
  | b :: r, pre, acc, h => by
    have e : escL (b :: r) = (if esc b.toNat = true then [92, b] else [b]) ++ escL r := by simp [escL]
    rw [e] at h
    by_cases he : esc b.toNat = true
    · rw [if_pos he] at h
      have h1 : q.data.toList = pre ++ 92 :: (b :: (escL r ++ [39])) := by simpa using h
      have h2 : q.data.toList = (pre ++ [92]) ++ b :: (escL r ++ [39]) := by simpa using h
      have h3 : q.data.toList = (pre ++ [92, b]) ++ (escL r ++ [39]) := by simpa using h
      obtain ⟨hi, hb⟩ := at_list h1
      obtain ⟨hi2, hb2⟩ := at_list h2
      have el : (pre ++ [92]).length = pre.length + 1 := by simp
      have el2 : (pre ++ [92, b]).length = pre.length + 2 := by simp
      simp only [el] at hi2 hb2
      have hstep : quo q a pre.length acc = quo q a (pre.length + 2) (acc ++ [b]) := by
        rw [quo_in hi, bt_in hi, hb, if_neg (by decide), if_pos (by decide), dif_pos hi2, bt_in hi2, hb2, if_pos he]
      have ih := quo_esc q a r (pre ++ [92, b]) (acc ++ [b]) h3
      rw [el2, List.append_assoc, ← hstep] at ih
      rcases ih with ⟨ig, ih⟩ | ⟨⟨x, hx, hx2⟩, ih⟩
      · refine Or.inl ⟨fun x hx => ?_, ih⟩
        rcases List.mem_cons.1 hx with rfl | hx
        · simp [esc] at he
          omega
        · exact ig x hx
      · exact Or.inr ⟨⟨x, List.mem_cons_of_mem _ hx, hx2⟩, ih⟩
    · rw [if_neg he] at h
      have h1 : q.data.toList = pre ++ b :: (escL r ++ [39]) := by simpa using h
      have h3 : q.data.toList = (pre ++ [b]) ++ (escL r ++ [39]) := by simpa using h
      obtain ⟨hi, hb⟩ := at_list h1
      have el : (pre ++ [b]).length = pre.length + 1 := by simp
      have n39 : b.toNat ≠ 39 := fun e => he (by simp [esc, e])
      have n92 : b.toNat ≠ 92 := fun e => he (by simp [esc, e])
      by_cases hg : b.toNat < 33 ∨ 126 < b.toNat
      · right
        refine ⟨⟨b, List.mem_cons_self, by omega⟩, ?_⟩
        rw [quo_in hi, bt_in hi, hb, if_neg n39, if_neg n92, if_pos hg]
        show (61 : Int) ≠ 0
        decide
      · have hstep : quo q a pre.length acc = quo q a (pre.length + 1) (acc ++ [b]) := by
          rw [quo_in hi, bt_in hi, hb, if_neg n39, if_neg n92, if_neg hg]
        have ih := quo_esc q a r (pre ++ [b]) (acc ++ [b]) h3
        rw [el, List.append_assoc, ← hstep] at ih
        rcases ih with ⟨ig, ih⟩ | ⟨⟨x, hx, hx2⟩, ih⟩
        · refine Or.inl ⟨fun x hx => ?_, ih⟩
          rcases List.mem_cons.1 hx with rfl | hx
          · omega
          · exact ig x hx
        · exact Or.inr ⟨⟨x, List.mem_cons_of_mem _ hx, hx2⟩, ih⟩
theorem kd_word {b : Nat} (h : 3 ≤ kb b ∧ kb b ≤ 5) : 33 ≤ b ∧ b ≤ 126 := by
  unfold kb loneB at h
  revert h
  (repeat' split) <;> omega
theorem isW_good {s : ByteArray} (h : isW s 3 = true) : goodS s = true := by
  obtain ⟨g1, g2, g3, g4⟩ := isW_true (by decide) h
  refine goodS_of g1 g2 (fun k hk => ?_)
  have := wEnd_mid (s := s) (a := 0) (j := k) (Nat.zero_le _) (by omega)
  have := kd_word this
  rw [bt_in hk] at this
  omega
/-- A name that is good is read again. -/
theorem name_good {s : ByteArray} (h : goodS s = true) : allT (quoteS s) 0 = [⟨1, s, 0, 0, (quoteS s).size⟩, endT (quoteS s)] ∧ allC (quoteS s) 0 = 0 := by
  obtain ⟨z1, z2⟩ := goodS_size h
  by_cases hw : isW s 3 = true
  · obtain ⟨g1, g2, g3, g4⟩ := isW_true (by decide) hw
    have e : quoteS s = s := by rw [quoteS, if_pos hw]
    rw [e]
    refine one_tok ?_ (by omega) rfl (by omega)
    rw [tokF, if_pos g3, wordF, if_neg (by omega), g4]
    congr 2
    simp [cutB]
  · obtain ⟨q, hq⟩ : ∃ q, q = quoteS s := ⟨_, rfl⟩
    have e : q.data.toList = [39] ++ (escL s.data.toList ++ [39]) := by rw [hq, quoteS, if_neg hw]; simp
    rw [← hq]
    obtain ⟨hi, hb⟩ := at_list (pre := []) (rest := escL s.data.toList ++ [39]) (b := 39) (by simpa using e)
    have hi : 0 < q.size := hi
    have hk : kd q 0 = 7 := by
      rw [kd, bt_in hi]
      have hb : q[0] = 39 := hb
      rw [hb]
      decide
    refine one_tok ?_ (by omega) rfl hi
    rw [tokF, if_neg (by omega), if_neg (by omega), if_neg (by omega), if_neg (by omega), if_pos hk]
    have hlen : s.data.toList.length = s.size := by simp
    rcases quo_esc q 0 s.data.toList [39] [] e with ⟨_, h1⟩ | ⟨⟨b, hb, hb2⟩, _⟩
    · have h1 : quo q 0 (0 + 1) [] = _ := h1
      rw [h1, List.nil_append, hlen, if_neg (by omega)]
    · simp only [goodS, Bool.and_eq_true, List.all_eq_true, decide_eq_true_eq] at h
      exact absurd (by have := h.2 b hb; omega) hb2
/-- A name that is not good is not. -/
theorem name_bad {s : ByteArray} (h : goodS s = false) : allC (quoteS s) 0 ≠ 0 := by
  have hw : ¬ isW s 3 = true := fun e => by rw [isW_good e] at h; cases h
  obtain ⟨q, hq⟩ : ∃ q, q = quoteS s := ⟨_, rfl⟩
  have e : q.data.toList = [39] ++ (escL s.data.toList ++ [39]) := by rw [hq, quoteS, if_neg hw]; simp
  rw [← hq]
  obtain ⟨hi, hb⟩ := at_list (pre := []) (rest := escL s.data.toList ++ [39]) (b := 39) (by simpa using e)
  have hi : 0 < q.size := hi
  have hk : kd q 0 = 7 := by
    rw [kd, bt_in hi]
    have hb : q[0] = 39 := hb
    rw [hb]
    decide
  have hT : (tokF q 0).code ≠ 0 := by
    rw [tokF, if_neg (by omega), if_neg (by omega), if_neg (by omega), if_neg (by omega), if_pos hk]
    have hlen : s.data.toList.length = s.size := by simp
    rcases quo_esc q 0 s.data.toList [39] [] e with ⟨hg, h1⟩ | ⟨_, h2⟩
    · have h1 : quo q 0 (0 + 1) [] = _ := h1
      rw [h1, List.nil_append, hlen]
      by_cases hl : s.size < 1 ∨ 32 < s.size
      · rw [if_pos hl]
        show (62 : Int) ≠ 0
        decide
      · exfalso
        have := goodS_of (s := s) (by omega) (by omega) (fun k hk => by
          have := hg s[k] (List.mem_of_getElem? (byte_at s k hk))
          omega)
        rw [this] at h
        cases h
    · exact h2
  have hs : skp q 0 = 0 := skp_out (by omega) (by omega)
  have hn : nxt q 0 = tokF q 0 := by rw [nxt, if_neg (by omega), hs]
  rw [(all_bad (by rw [hn]; exact hT)).2.1, hn]
  exact hT
end Go.Proofs.Ytanjgppdjdcnaaa
