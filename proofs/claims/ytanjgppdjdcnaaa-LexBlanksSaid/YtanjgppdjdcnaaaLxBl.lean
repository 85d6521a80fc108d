/- What is put ahead of a source, and what behind it. No program stands in it. -/
import Derived.Test.YtanjgppdjdcnaaaLxAg2
namespace Go.Proofs.Ytanjgppdjdcnaaa
open Go.RowKit

/-- From d on the one source is the other. -/
structure Sh (s y : ByteArray) (d : Nat) : Prop where
  sz : y.size = d + s.size
  same : ∀ j, bt y (d + j) = bt s j
theorem Sh.kd {s y : ByteArray} {d : Nat} (h : Sh s y d) (j : Nat) : kd y (d + j) = kd s j := by unfold Go.Proofs.Ytanjgppdjdcnaaa.kd; rw [h.same]
theorem Sh.ag {s y : ByteArray} {d : Nat} (h : Sh s y d) {a : Nat} (ha : a ≤ s.size) : Ag s y a (d + a) (s.size - a) :=
  ⟨by omega, by have := h.sz; omega, fun j _ => by rw [← h.same (a + j), Nat.add_assoc]⟩
theorem sk_sh {s y : ByteArray} {d : Nat} (h : Sh s y d) : ∀ n m a, sk y n m (d + a) = d + sk s n m a
  | 0, m, a => by cases m <;> rfl
  | n + 1, false, a => by
    rw [sk, sk, h.kd, Nat.add_assoc, sk_sh h n false (a + 1), sk_sh h n true (a + 1)]
    split
    · rfl
    · split <;> rfl
  | n + 1, true, a => by
    rw [sk, sk, h.same, Nat.add_assoc, sk_sh h n false (a + 1), sk_sh h n true (a + 1)]
    split <;> rfl
theorem skp_sh {s y : ByteArray} {d : Nat} (h : Sh s y d) (a : Nat) : skp y (d + a) = d + skp s a := by
  rw [skp, skp, ← sk_sh h, show y.size - (d + a) = s.size - a by have := h.sz; omega]
/-- A token laid farther on. -/
def far (d : Nat) (t : Tk) : Tk := ⟨t.kind, t.text, t.num, d + t.at_, d + t.end_⟩
theorem tokF_sh {s y : ByteArray} {d a : Nat} (h : Sh s y d) (ha : a ≤ s.size) (hok : (tokF s a).code = 0) : tokF y (d + a) = okT (far d (tokF s a).tok) := by
  obtain ⟨l1, l2, l3, l4⟩ := tokF_lies s a hok
  have hst : stopK (kd y (d + a + (s.size - a))) := by rw [kd_out (by have := h.sz; omega)]; unfold stopK; omega
  rw [tokF_ag (h.ag ha) hok (by omega) hst]
  simp only [moved, far, l1]
  congr 2
  omega
theorem tokF_hs {s y : ByteArray} {d a : Nat} (h : Sh s y d) (ha : a ≤ s.size) (hok : (tokF y (d + a)).code = 0) : (tokF s a).code = 0 := by
  obtain ⟨l1, l2, l3, l4⟩ := tokF_lies y (d + a) hok
  have hz := h.sz
  have hst : stopK (kd s (a + (s.size - a))) := by rw [kd_out (by omega)]; unfold stopK; omega
  rw [tokF_ag (h.ag ha).symm hok (by omega) hst]
  rfl
theorem all_sh {s y : ByteArray} {d : Nat} (h : Sh s y d) : ∀ n a, a ≤ s.size → s.size - a < n → allT y (d + a) = (allT s a).map (far d) ∧ (allC y (d + a) = 0 ↔ allC s a = 0)
  | 0, a, _, hn => by omega
  | n + 1, a, ha, hn => by
    have hz := h.sz
    have hsk := skp_sh h a
    have hnx : skp s a < s.size → nxt y (d + a) = tokF y (d + skp s a) := fun hl => by rw [nxt, if_neg (by omega), hsk]
    rcases nxt_ways ha with ⟨e1, e2⟩ | ⟨e1, e2, e3, e4, e5, e6, e7⟩ | ⟨e1, e2, e3⟩
    · have hy := all_end (s := y) (a := d + a) (by omega)
      have hx := all_end e1
      rw [hy.1, hy.2.1, hx.1, hx.2.1]
      refine ⟨?_, Iff.rfl⟩
      simp [endT, far, hz]
    · have hT := tokF_sh h (skp_le ha) (by rw [← e2]; exact e3)
      rw [← hnx e1, ← e2] at hT
      have hx := all_tok ha (by omega) e3
      have hy := all_tok (s := y) (a := d + a) (by omega) (by omega) (by rw [hT]; rfl)
      rw [hT] at hy
      have ih := all_sh h n (nxt s a).tok.end_ e6 (by omega)
      have hy1 : allT y (d + a) = far d (nxt s a).tok :: allT y (d + (nxt s a).tok.end_) := hy.1
      have hy2 : allC y (d + a) = allC y (d + (nxt s a).tok.end_) := hy.2.1
      rw [hy1, hy2, hx.1, hx.2.1, ih.1]
      exact ⟨rfl, ih.2⟩
    · have hb : (nxt y (d + a)).code ≠ 0 := fun hc => by
        rw [hnx e1] at hc
        have := tokF_hs h (skp_le ha) hc
        rw [← e2] at this
        exact e3 this
      have hx := all_bad e3
      have hy := all_bad hb
      rw [hy.1, hy.2.1, hx.1, hx.2.1]
      exact ⟨rfl, ⟨fun h => absurd h hb, fun h => absurd h e3⟩⟩
/-- What stands behind a source and a line's end. -/
structure Be (s t z : ByteArray) : Prop where
  sz : z.size = s.size + (1 + t.size)
  same : ∀ j, j < s.size → bt z j = bt s j
  nl : bt z s.size = 10
theorem Be.kd {s t z : ByteArray} (h : Be s t z) {j : Nat} (hj : j < s.size) : kd z j = kd s j := by unfold Go.Proofs.Ytanjgppdjdcnaaa.kd; rw [h.same j hj]
theorem Be.kd1 {s t z : ByteArray} (h : Be s t z) : Go.Proofs.Ytanjgppdjdcnaaa.kd z s.size = 1 := by unfold Go.Proofs.Ytanjgppdjdcnaaa.kd; rw [h.nl]; decide
theorem sk_be {s t z : ByteArray} (h : Be s t z) : ∀ n m a, a + n = s.size → (sk s n m a = s.size ∧ sk z (n + (1 + t.size)) m a = skp z (s.size + 1)) ∨ (sk s n m a < s.size ∧ sk z (n + (1 + t.size)) m a = sk s n m a)
  | 0, m, a, ha => by
    left
    have ea : a = s.size := by omega
    subst ea
    have hq : skp z (s.size + 1) = sk z t.size false (s.size + 1) := by rw [skp, show z.size - (s.size + 1) = t.size by have := h.sz; omega]
    rw [show 0 + (1 + t.size) = t.size + 1 by omega, hq]
    cases m
    · rw [sk, sk, if_pos h.kd1]
      exact ⟨rfl, rfl⟩
    · rw [sk, sk, if_pos h.nl]
      exact ⟨rfl, rfl⟩
  | n + 1, false, a, ha => by
    have i1 := sk_be h n false (a + 1) (by omega)
    have i2 := sk_be h n true (a + 1) (by omega)
    rw [show n + 1 + (1 + t.size) = n + (1 + t.size) + 1 by omega, sk, sk, h.kd (by omega)]
    split
    · exact i1
    · split
      · exact i2
      · exact Or.inr ⟨by omega, rfl⟩
  | n + 1, true, a, ha => by
    have i1 := sk_be h n false (a + 1) (by omega)
    have i2 := sk_be h n true (a + 1) (by omega)
    rw [show n + 1 + (1 + t.size) = n + (1 + t.size) + 1 by omega, sk, sk, h.same a (by omega)]
    split
    · exact i1
    · exact i2
theorem skp_be {s t z : ByteArray} (h : Be s t z) {a : Nat} (ha : a ≤ s.size) : (skp s a = s.size ∧ skp z a = skp z (s.size + 1)) ∨ (skp s a < s.size ∧ skp z a = skp s a) := by
  have := sk_be h (s.size - a) false a (by omega)
  rw [show s.size - a + (1 + t.size) = z.size - a by have := h.sz; omega] at this
  exact this
theorem all_skp {s : ByteArray} {a b : Nat} (ha : a ≤ s.size) (hb : b ≤ s.size) (h : skp s a = skp s b) : allT s a = allT s b ∧ allC s a = allC s b := by
  have hn : nxt s a = nxt s b := by unfold nxt; rw [h]
  by_cases h0 : skp s a = s.size
  · have h1 := all_end h0
    have h2 := all_end (h ▸ h0)
    exact ⟨h1.1.trans h2.1.symm, h1.2.1.trans h2.2.1.symm⟩
  · by_cases hc : (nxt s a).code = 0
    · have h1 := all_tok ha h0 hc
      have h2 := all_tok hb (h ▸ h0) (hn ▸ hc)
      rw [h1.1, h1.2.1, h2.1, h2.2.1, hn]
      exact ⟨rfl, rfl⟩
    · have h1 := all_bad hc
      have h2 := all_bad (hn ▸ hc)
      rw [h1.1, h1.2.1, h2.1, h2.2.1, hn]
      exact ⟨rfl, rfl⟩
theorem all_be {s t z : ByteArray} (h : Be s t z) : ∀ n a, a ≤ s.size → s.size - a < n → allC s a = 0 → allT z a = (allT s a).dropLast ++ allT z (s.size + 1) ∧ allC z a = allC z (s.size + 1)
  | 0, a, _, hn, _ => by omega
  | n + 1, a, ha, hn, hc => by
    have hz := h.sz
    rcases nxt_ways ha with ⟨e1, e2⟩ | ⟨e1, e2, e3, e4, e5, e6, e7⟩ | ⟨e1, e2, e3⟩
    · rcases skp_be h ha with ⟨_, hk⟩ | ⟨hk, _⟩
      · rw [(all_end e1).1]
        exact all_skp (by omega) (by omega) hk
      · omega
    · rcases skp_be h ha with ⟨hk, _⟩ | ⟨_, hk⟩
      · omega
      · have hcode : (tokF s (skp s a)).code = 0 := by rw [← e2]; exact e3
        have hle := skp_le ha
        have hA : Ag s z (skp s a) (skp s a) (s.size - skp s a) := ⟨by omega, by omega, fun j hj => (h.same _ (by omega)).symm⟩
        have hst : stopK (kd z (skp s a + (s.size - skp s a))) := by
          rw [show skp s a + (s.size - skp s a) = s.size by omega, h.kd1]
          unfold stopK
          omega
        obtain ⟨l1, l2, l3, l4⟩ := tokF_lies s (skp s a) hcode
        have hT := tokF_ag hA hcode (by omega) hst
        have hmv : moved (tokF s (skp s a)).tok (skp s a) (skp s a) = (tokF s (skp s a)).tok := by
          rw [moved, show skp s a + ((tokF s (skp s a)).tok.end_ - skp s a) = (tokF s (skp s a)).tok.end_ by omega]
          conv => rhs; rw [show (tokF s (skp s a)).tok = ⟨(tokF s (skp s a)).tok.kind, (tokF s (skp s a)).tok.text, (tokF s (skp s a)).tok.num, (tokF s (skp s a)).tok.at_, (tokF s (skp s a)).tok.end_⟩ from rfl, l1]
        rw [hmv, ← e2] at hT
        have hnx : nxt z a = okT (nxt s a).tok := by rw [nxt, if_neg (by omega), hk, hT]
        have hx := all_tok ha (by omega) e3
        have hy := all_tok (s := z) (a := a) (by omega) (by omega) (by rw [hnx]; rfl)
        rw [hnx] at hy
        have hy1 : allT z a = (nxt s a).tok :: allT z (nxt s a).tok.end_ := hy.1
        have hy2 : allC z a = allC z (nxt s a).tok.end_ := hy.2.1
        have hc2 : allC s (nxt s a).tok.end_ = 0 := by rw [← hx.2.1]; exact hc
        have ih := all_be h n _ e6 (by omega) hc2
        have hne := allT_ne e6 hc2
        rw [hy1, hy2, hx.1, ih.1, List.dropLast_cons_of_ne_nil hne]
        exact ⟨rfl, ih.2⟩
    · exact absurd hc (by rw [(all_bad e3).2.1]; exact e3)
theorem bt_app_right (p s : ByteArray) (j : Nat) : bt (p ++ s) (p.size + j) = bt s j := by
  by_cases h : j < s.size
  · rw [bt_in h, bt_in (by rw [ByteArray.size_append]; omega), ByteArray.getElem_append_right (by omega)]
    simp
  · rw [bt_out (s := s) (by omega), bt_out (s := p ++ s) (by rw [ByteArray.size_append]; omega)]
theorem bt_app_left {p s : ByteArray} {j : Nat} (h : j < p.size) : bt (p ++ s) j = bt p j := by
  rw [bt_in h, bt_in (by rw [ByteArray.size_append]; omega), ByteArray.getElem_append_left h]
theorem sh_app (p s : ByteArray) : Sh s (p ++ s) p.size := ⟨ByteArray.size_append, bt_app_right p s⟩
/-- What is put ahead. -/
abbrev headB : ByteArray := ⟨#[32, 37, 120, 58, 39, 10, 9]⟩
theorem skp_head (s : ByteArray) : skp (headB ++ s) 0 = skp (headB ++ s) 7 := by
  have hb : ∀ j, (hj : j < 7) → bt (headB ++ s) j = bt headB j := fun j hj => bt_app_left hj
  have hz : (headB ++ s).size = 7 + s.size := ByteArray.size_append
  have k : ∀ j, (hj : j < 7) → kd (headB ++ s) j = kd headB j := fun j hj => by unfold kd; rw [hb j hj]
  rw [skp_blank (a := 0) (by rw [k 0 (by omega)]; decide), skp_rem (a := 0 + 1) (by rw [k 1 (by omega)]; decide)]
  rw [skr_on (a := 0 + 1 + 1) (by omega) (by rw [hb 2 (by omega)]; decide), skr_on (a := 0 + 1 + 1 + 1) (by omega) (by rw [hb 3 (by omega)]; decide), skr_on (a := 0 + 1 + 1 + 1 + 1) (by omega) (by rw [hb 4 (by omega)]; decide)]
  rw [skr_nl (a := 0 + 1 + 1 + 1 + 1 + 1) (by rw [hb 5 (by omega)]; decide), skp_blank (a := 0 + 1 + 1 + 1 + 1 + 1 + 1) (by rw [k 6 (by omega)]; decide)]
/-- Blanks and a remark put ahead move the places, and nothing else. -/
theorem ahead (s : ByteArray) : allT (headB ++ s) 0 = (allT s 0).map (far 7) ∧ (allC (headB ++ s) 0 = 0 ↔ allC s 0 = 0) := by
  have h1 := all_sh (sh_app headB s) (s.size + 1) 0 (Nat.zero_le _) (by omega)
  have hz : (headB ++ s).size = 7 + s.size := ByteArray.size_append
  have h2 := all_skp (s := headB ++ s) (a := 0) (b := 7) (by omega) (by omega) (skp_head s)
  rw [h2.1, h2.2]
  exact h1
theorem be_app (s t : ByteArray) : Be s t (s ++ ⟨#[10]⟩ ++ t) ∧ Sh t (s ++ ⟨#[10]⟩ ++ t) (s.size + 1) := by
  have hz1 : (s ++ (⟨#[10]⟩ : ByteArray)).size = s.size + 1 := ByteArray.size_append
  have hz2 : (s ++ ⟨#[10]⟩ ++ t).size = (s ++ (⟨#[10]⟩ : ByteArray)).size + t.size := ByteArray.size_append
  refine ⟨⟨by omega, fun j hj => ?_, ?_⟩, ?_⟩
  · rw [bt_app_left (by omega), bt_app_left hj]
  · rw [bt_app_left (by omega)]
    exact bt_app_right s ⟨#[10]⟩ 0
  · have := sh_app (s ++ ⟨#[10]⟩) t
    rw [hz1] at this
    exact this
/-- A source of two with a blank between has the tokens of the one and then of the other. -/
theorem both {s t : ByteArray} (hs : allC s 0 = 0) (ht : allC t 0 = 0) : allT (s ++ ⟨#[10]⟩ ++ t) 0 = (allT s 0).dropLast ++ (allT t 0).map (far (s.size + 1)) ∧ allC (s ++ ⟨#[10]⟩ ++ t) 0 = 0 := by
  obtain ⟨h1, h2⟩ := be_app s t
  have h3 := all_be h1 (s.size + 1) 0 (Nat.zero_le _) (by omega) hs
  have h4 := all_sh h2 (t.size + 1) 0 (Nat.zero_le _) (by omega)
  simp only [Nat.add_zero] at h4
  rw [h3.1, h3.2, h4.1]
  exact ⟨rfl, h4.2.2 ht⟩
end Go.Proofs.Ytanjgppdjdcnaaa
