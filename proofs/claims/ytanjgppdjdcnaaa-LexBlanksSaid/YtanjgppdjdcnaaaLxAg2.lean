/- A token cut out alone; where faults lie; rows of tokens that end. No program stands in it. -/
import Derived.Test.YtanjgppdjdcnaaaLxAg
namespace Go.Proofs.Ytanjgppdjdcnaaa
open Go.RowKit

theorem allT_ne {s : ByteArray} {a : Nat} (ha : a ≤ s.size) (hc : allC s a = 0) : allT s a ≠ [] := by
  rcases nxt_ways ha with ⟨e1, e2⟩ | ⟨e1, e2, e3, e4, e5, e6, e7⟩ | ⟨e1, e2, e3⟩
  · rw [(all_end e1).1]
    simp
  · rw [(all_tok ha (by omega) e3).1]
    simp
  · rw [(all_bad e3).2.1] at hc
    exact absurd hc e3
theorem bt_cut {s : ByteArray} {p e j : Nat} (hpe : p ≤ e) (he : e ≤ s.size) (hj : j < e - p) : bt (s.extract p e) j = bt s (p + j) := by
  have hz : (s.extract p e).size = e - p := by rw [ByteArray.size_extract]; omega
  rw [bt_in (by omega), bt_in (by omega), ByteArray.getElem_extract]
theorem cut_ag {s : ByteArray} {p e : Nat} (hpe : p ≤ e) (he : e ≤ s.size) : Ag s (s.extract p e) p 0 (e - p) :=
  ⟨by omega, by rw [ByteArray.size_extract]; omega, fun j hj => by rw [Nat.zero_add, bt_cut hpe he hj]⟩
/-- What begins a token is neither blank nor remark. -/
theorem tokF_kd {s : ByteArray} {a : Nat} (h : (tokF s a).code = 0) : kd s a ≠ 1 ∧ kd s a ≠ 2 := by
  unfold tokF at h
  refine ⟨fun e => ?_, fun e => ?_⟩
  all_goals
    rw [if_neg (by omega), if_neg (by omega), if_neg (by omega), if_neg (by omega), if_neg (by omega), if_neg (by omega), if_neg (by omega)] at h
    exact absurd h (by show (61 : Int) ≠ 0; decide)
/-- A source that is one token. -/
theorem one_tok {c : ByteArray} {t : Tk} (h : tokF c 0 = okT t) (hk : kd c 0 ≠ 1 ∧ kd c 0 ≠ 2) (he : t.end_ = c.size) (h0 : 0 < c.size) : allT c 0 = [t, endT c] ∧ allC c 0 = 0 := by
  have hs : skp c 0 = 0 := skp_out hk.1 hk.2
  have hn : nxt c 0 = okT t := by rw [nxt, if_neg (by omega), hs, h]
  have hc : (nxt c 0).code = 0 := by rw [hn]; rfl
  obtain ⟨a1, a2, _⟩ := all_tok (Nat.zero_le _) (by omega) hc
  have ht : (nxt c 0).tok = t := by rw [hn]; rfl
  have hse : skp c c.size = c.size := skp_out (by rw [kd_out (Nat.le_refl _)]; decide) (by rw [kd_out (Nat.le_refl _)]; decide)
  obtain ⟨b1, b2, _⟩ := all_end hse
  rw [ht, he] at a1 a2
  rw [a1, a2, b1, b2]
  exact ⟨rfl, rfl⟩
/-- A token cut out alone is that token. -/
theorem cut_alone {s : ByteArray} {a : Nat} (hok : (tokF s a).code = 0) : allT (s.extract a (tokF s a).tok.end_) 0 = [moved (tokF s a).tok a 0, endT (s.extract a (tokF s a).tok.end_)] ∧ allC (s.extract a (tokF s a).tok.end_) 0 = 0 ∧ (s.extract a (tokF s a).tok.end_).size = (tokF s a).tok.end_ - a := by
  obtain ⟨l1, l2, l3, l4⟩ := tokF_lies s a hok
  have hA := cut_ag (s := s) (p := a) (e := (tokF s a).tok.end_) (by omega) l3
  have hz : (s.extract a (tokF s a).tok.end_).size = (tokF s a).tok.end_ - a := by rw [ByteArray.size_extract]; omega
  have hst : stopK (kd (s.extract a (tokF s a).tok.end_) (0 + ((tokF s a).tok.end_ - a))) := by rw [kd_out (by omega)]; unfold stopK; omega
  have hT := tokF_ag hA hok (by omega) hst
  have hk := tokF_kd hok
  have hk0 : kd s a = kd (s.extract a (tokF s a).tok.end_) 0 := hA.kd (j := 0) (by omega)
  rw [hk0] at hk
  obtain ⟨r1, r2⟩ := one_tok hT hk (by rw [hz]; simp [moved]) (by omega)
  exact ⟨r1, r2, hz⟩
/-- A fault's place lies within the source. -/
def placed (s : ByteArray) (x : Lx) : Prop := x.code ≠ 0 → 0 ≤ x.pl ∧ x.pl < (s.size : Int)
theorem placed_ok (s : ByteArray) (t : Tk) : placed s (okT t) := fun h => absurd rfl h
theorem placed_bad {s : ByteArray} {c : Int} {p : Nat} (h : p < s.size) : placed s (badT c p) := fun _ => by
  show 0 ≤ (p : Int) ∧ (p : Int) < (s.size : Int)
  omega
theorem qF_placed {s : ByteArray} {a : Nat} (ha : a < s.size) : ∀ n i acc, placed s (qF s a n i acc)
  | 0, i, acc => placed_bad ha
  | n + 1, i, acc => by
    rw [qF]
    split
    · split
      · split
        · exact placed_bad ha
        · exact placed_ok s _
      · split
        · split
          · split
            · exact qF_placed ha n _ _
            · exact placed_bad (by assumption)
          · exact placed_bad (by assumption)
        · split
          · exact placed_bad (by assumption)
          · exact qF_placed ha n _ _
    · exact placed_bad ha
theorem tokF_placed {s : ByteArray} {a : Nat} (ha : a < s.size) : placed s (tokF s a) := by
  have hw : ∀ k, placed s (wordF s a k) := fun k => by
    unfold wordF
    split
    · exact placed_bad ha
    · exact placed_ok s _
  have hi : ∀ f, placed s (intF s a f) := fun f => by
    unfold intF
    split
    · exact placed_ok s _
    · exact placed_bad ha
  unfold tokF
  split
  · exact hw _
  · split
    · exact hw _
    · split
      · exact hi _
      · split
        · split
          · exact hi _
          · exact placed_bad ha
        · split
          · exact qF_placed ha _ _ _
          · split
            · split
              · exact placed_ok s _
              · exact placed_bad ha
            · split
              · exact placed_ok s _
              · exact placed_bad ha
theorem allP_in {s : ByteArray} : ∀ n a, a ≤ s.size → s.size - a < n → allC s a ≠ 0 → 0 ≤ allP s a ∧ allP s a < (s.size : Int)
  | 0, a, _, h, _ => by omega
  | n + 1, a, ha, h, hc => by
    rcases nxt_ways ha with ⟨e1, e2⟩ | ⟨e1, e2, e3, e4, e5, e6, e7⟩ | ⟨e1, e2, e3⟩
    · exact absurd (all_end e1).2.1 hc
    · obtain ⟨_, a2, a3⟩ := all_tok ha (by omega) e3
      rw [a2] at hc
      rw [a3]
      exact allP_in n _ e6 (by omega) hc
    · obtain ⟨_, a2, a3⟩ := all_bad e3
      rw [a3, e2]
      rw [e2] at e3
      exact tokF_placed e1 e3
end Go.Proofs.Ytanjgppdjdcnaaa
