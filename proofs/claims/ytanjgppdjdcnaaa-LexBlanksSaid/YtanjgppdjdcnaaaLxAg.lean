/- Two sources that agree for a while have the same token there. No program stands in it. -/
import Derived.Test.YtanjgppdjdcnaaaLxM3
namespace Go.Proofs.Ytanjgppdjdcnaaa
open Go.RowKit

/-- From p and from q on, so many bytes are the same. -/
structure Ag (x y : ByteArray) (p q m : Nat) : Prop where
  hx : p + m ≤ x.size
  hy : q + m ≤ y.size
  same : ∀ j, j < m → bt x (p + j) = bt y (q + j)
theorem Ag.symm {x y : ByteArray} {p q m : Nat} (h : Ag x y p q m) : Ag y x q p m := ⟨h.hy, h.hx, fun j hj => (h.same j hj).symm⟩
theorem Ag.kd {x y : ByteArray} {p q m : Nat} (h : Ag x y p q m) {j : Nat} (hj : j < m) : kd x (p + j) = kd y (q + j) := by unfold Go.Proofs.Ytanjgppdjdcnaaa.kd; rw [h.same j hj]
theorem Ag.byte {x y : ByteArray} {p q m : Nat} (h : Ag x y p q m) {j : Nat} (hj : j < m) : x[p + j]'(by have := h.hx; omega) = y[q + j]'(by have := h.hy; omega) := by
  have h1 := h.same j hj
  rw [bt_in (by have := h.hx; omega), bt_in (by have := h.hy; omega)] at h1
  exact UInt8.toNat_inj.1 h1
theorem Ag.cut {x y : ByteArray} {p q m : Nat} (h : Ag x y p q m) {i e : Nat} (he : e ≤ m) : x.extract (p + i) (p + e) = y.extract (q + i) (q + e) := by
  have hx := h.hx
  have hy := h.hy
  apply ByteArray.ext_getElem
  · rw [ByteArray.size_extract, ByteArray.size_extract]
    omega
  · intro j h1 h2
    rw [ByteArray.size_extract] at h1
    rw [ByteArray.getElem_extract, ByteArray.getElem_extract]
    have := h.byte (j := i + j) (by omega)
    simp only [← Nat.add_assoc] at this
    exact this
/-- No letter, digit or _ . -/
def stopK (k : Int) : Prop := ¬ (3 ≤ k ∧ k ≤ 5)
theorem wEnd_ag {x y : ByteArray} {p q m i e : Nat} (h : Ag x y p q m) (hie : i ≤ e) (he : e ≤ m) (hw : wEnd x (p + i) = p + e) (hst : stopK (kd y (q + m))) : wEnd y (q + i) = q + e := by
  refine wEnd_stop (by omega) (fun j h1 h2 => ?_) ?_
  · have := wEnd_mid (s := x) (a := p + i) (j := p + (j - q)) (by omega) (by omega)
    rw [h.kd (by omega), show q + (j - q) = j by omega] at this
    exact this
  · by_cases hem : e < m
    · have := wEnd_no (s := x) (p + i)
      rw [hw, h.kd hem] at this
      exact this
    · rw [show e = m by omega]
      exact hst
theorem bad_ne {c p : Int} {t : Tk} (hc : c ≠ 0) : badT c p ≠ okT t := fun h => hc (congrArg Lx.code h)
theorem lx_eta {X : Lx} {t : Tk} (h1 : X.tok = t) (h2 : X.code = 0) (h3 : X.pl = 0) : X = okT t := by
  obtain ⟨a, b, c⟩ := X
  simp only at h1 h2 h3
  subst h1 h2 h3
  rfl
theorem okT_inj {t u : Tk} (h : okT t = okT u) : t = u := congrArg Lx.tok h
theorem quo_ag {x y : ByteArray} {p q m e : Nat} {t : ByteArray} (h : Ag x y p q m) (he : e ≤ m) : ∀ (n i : Nat) (acc : List UInt8), x.size - (p + i) ≤ n → quo x p (p + i) acc = okT ⟨1, t, 0, p, p + e⟩ → i < e ∧ quo y q (q + i) acc = okT ⟨1, t, 0, q, q + e⟩
  | 0, i, acc, hn, hq => by
    rw [quo_end (by omega)] at hq
    exact absurd hq (bad_ne (by decide))
  | n + 1, i, acc, hn, hq => by
    have hhx := h.hx
    have hhy := h.hy
    by_cases hi : p + i < x.size
    · rw [quo_in hi] at hq
      by_cases h39 : bt x (p + i) = 39
      · rw [if_pos h39] at hq
        by_cases hl : acc.length < 1 ∨ 32 < acc.length
        · rw [if_pos hl] at hq
          exact absurd hq (bad_ne (by decide))
        · rw [if_neg hl] at hq
          have ht := okT_inj hq
          injection ht with _ e1 _ _ e2
          have hie : i < e := by omega
          refine ⟨hie, ?_⟩
          rw [quo_in (by omega), ← h.same i (by omega), if_pos h39, if_neg hl, e1, show q + i + 1 = q + e by omega]
      · rw [if_neg h39] at hq
        by_cases h92 : bt x (p + i) = 92
        · rw [if_pos h92] at hq
          by_cases hl : p + i + 1 < x.size
          · rw [dif_pos hl] at hq
            by_cases hes : esc (bt x (p + i + 1)) = true
            · rw [if_pos hes] at hq
              obtain ⟨r1, r2⟩ := quo_ag h he n (i + 2) (acc ++ [x[p + i + 1]]) (by omega) (by rw [← Nat.add_assoc]; exact hq)
              refine ⟨by omega, ?_⟩
              have hb := h.byte (j := i + 1) (by omega)
              have hs1 := h.same (i + 1) (by omega)
              simp only [← Nat.add_assoc] at hb hs1 r2
              rw [quo_in (by omega), ← h.same i (by omega), if_neg h39, if_pos h92, dif_pos (by omega), ← hs1, if_pos hes, ← hb]
              exact r2
            · rw [if_neg hes] at hq
              exact absurd hq (bad_ne (by decide))
          · rw [dif_neg hl] at hq
            exact absurd hq (bad_ne (by decide))
        · rw [if_neg h92] at hq
          by_cases hr : bt x (p + i) < 33 ∨ 126 < bt x (p + i)
          · rw [if_pos hr] at hq
            exact absurd hq (bad_ne (by decide))
          · rw [if_neg hr] at hq
            obtain ⟨r1, r2⟩ := quo_ag h he n (i + 1) (acc ++ [x[p + i]]) (by omega) (by rw [← Nat.add_assoc]; exact hq)
            refine ⟨by omega, ?_⟩
            have hb := h.byte (j := i) (by omega)
            simp only [← Nat.add_assoc] at r2
            rw [quo_in (by omega), ← h.same i (by omega), if_neg h39, if_neg h92, if_neg hr, ← hb]
            exact r2
    · rw [quo_end (by omega)] at hq
      exact absurd hq (bad_ne (by decide))
/-- A token laid elsewhere. -/
def moved (t : Tk) (p q : Nat) : Tk := ⟨t.kind, t.text, t.num, q, q + (t.end_ - p)⟩
theorem intF_ag {x y : ByteArray} {p q m f : Nat} (h : Ag x y p q m) (hf : f ≤ 1) (hok : (intF x p (p + f)).code = 0) (he : (intF x p (p + f)).tok.end_ ≤ p + m) (hst : stopK (kd y (q + m))) : intF y q (q + f) = okT (moved (intF x p (p + f)).tok p q) := by
  have hge := wEnd_ge x (p + f)
  obtain ⟨e, hE⟩ : ∃ e, wEnd x (p + f) = p + e := ⟨wEnd x (p + f) - p, by omega⟩
  by_cases hc : numOk (cutB x (p + f) (wEnd x (p + f))).data.toList = true ∧ (p < p + f → val (cutB x (p + f) (wEnd x (p + f))).data.toList ≠ 0)
  · have h1 : intF x p (p + f) = okT ⟨3, ⟨#[]⟩, if p < p + f then -(val (cutB x (p + f) (wEnd x (p + f))).data.toList : Int) else (val (cutB x (p + f) (wEnd x (p + f))).data.toList : Int), p, wEnd x (p + f)⟩ := by rw [intF, if_pos hc]
    rw [h1] at he ⊢
    have he' : wEnd x (p + f) ≤ p + m := he
    have hw := wEnd_ag h (by omega) (by omega) hE hst
    have hcut : cutB y (q + f) (wEnd y (q + f)) = cutB x (p + f) (wEnd x (p + f)) := by
      rw [hw, hE]
      exact (h.cut (by omega)).symm
    have hlt : (q < q + f) ↔ (p < p + f) := by omega
    have ee : q + (wEnd x (p + f) - p) = wEnd y (q + f) := by omega
    rw [intF, hcut, if_pos ⟨hc.1, fun h' => hc.2 (hlt.1 h')⟩]
    simp only [moved, okT, hlt]
    rw [ee]
  · have h1 : intF x p (p + f) = badT 63 p := by rw [intF, if_neg hc]
    rw [h1] at hok
    exact absurd hok (by show (63 : Int) ≠ 0; decide)
theorem wordF_ag {x y : ByteArray} {p q m : Nat} {k : Int} (h : Ag x y p q m) (hok : (wordF x p k).code = 0) (he : (wordF x p k).tok.end_ ≤ p + m) (hst : stopK (kd y (q + m))) : wordF y q k = okT (moved (wordF x p k).tok p q) := by
  have hge := wEnd_ge x p
  obtain ⟨e, hE⟩ : ∃ e, wEnd x p = p + e := ⟨wEnd x p - p, by omega⟩
  by_cases hc : 32 < wEnd x p - p
  · have h1 : wordF x p k = badT 62 p := by rw [wordF, if_pos hc]
    rw [h1] at hok
    exact absurd hok (by show (62 : Int) ≠ 0; decide)
  · have h1 : wordF x p k = okT ⟨k, cutB x p (wEnd x p), 0, p, wEnd x p⟩ := by rw [wordF, if_neg hc]
    rw [h1] at he ⊢
    have he' : wEnd x p ≤ p + m := he
    have hw : wEnd y q = q + e := wEnd_ag (i := 0) h (by omega) (by omega) hE hst
    have hcut : cutB y q (q + e) = cutB x p (p + e) := (h.cut (i := 0) (by omega)).symm
    rw [wordF, hw, hcut, if_neg (by omega), hE]
    simp only [moved, okT]
    congr 2
    omega
/-- The token is the same, laid elsewhere. -/
theorem tokF_ag {x y : ByteArray} {p q m : Nat} (h : Ag x y p q m) (hok : (tokF x p).code = 0) (he : (tokF x p).tok.end_ ≤ p + m) (hst : stopK (kd y (q + m))) : tokF y q = okT (moved (tokF x p).tok p q) := by
  have hl := tokF_lies x p hok
  have hm : 0 < m := by omega
  have hk : kd x p = kd y q := h.kd (j := 0) hm
  have hhy := h.hy
  unfold tokF at hok he ⊢
  rw [← hk]
  by_cases k3 : kd x p = 3
  · simp only [if_pos k3] at hok he ⊢
    exact wordF_ag h hok he hst
  · simp only [if_neg k3] at hok he ⊢
    by_cases k4 : kd x p = 4
    · simp only [if_pos k4] at hok he ⊢
      exact wordF_ag h hok he hst
    · simp only [if_neg k4] at hok he ⊢
      by_cases k5 : kd x p = 5
      · simp only [if_pos k5] at hok he ⊢
        exact intF_ag (f := 0) h (by omega) hok he hst
      · simp only [if_neg k5] at hok he ⊢
        by_cases k6 : kd x p = 6
        · simp only [if_pos k6] at hok he ⊢
          by_cases n5 : kd x (p + 1) = 5
          · simp only [if_pos n5] at hok he ⊢
            have hgt : p + 1 < wEnd x (p + 1) := wEnd_gt (by omega)
            have hwe : (intF x p (p + 1)).tok.end_ = wEnd x (p + 1) := by
              unfold intF at hok ⊢
              split
              · rfl
              · rename_i hn
                rw [if_neg hn] at hok
                exact absurd hok (by show (63 : Int) ≠ 0; decide)
            have h1 : 1 < m := by omega
            rw [if_pos (by rw [← h.kd h1]; exact n5)]
            exact intF_ag (f := 1) h (Nat.le_refl _) hok he hst
          · simp only [if_neg n5] at hok
            exact absurd hok (by show (61 : Int) ≠ 0; decide)
        · simp only [if_neg k6] at hok he ⊢
          by_cases k7 : kd x p = 7
          · simp only [if_pos k7] at hok he ⊢
            have hsh := qF_shape x p (x.size - (p + 1)) (p + 1) []
            rw [← quo] at hsh
            obtain ⟨e1, e2⟩ := hsh hok
            have hlies := qF_lies x p (x.size - (p + 1)) (p + 1) [] (by omega)
            rw [← quo] at hlies
            obtain ⟨_, l2, _, _⟩ := hlies hok
            obtain ⟨T, hT⟩ : ∃ T, T = (quo x p (p + 1) []).tok.text := ⟨_, rfl⟩
            obtain ⟨e, hE⟩ : ∃ e, (quo x p (p + 1) []).tok.end_ = p + e := ⟨(quo x p (p + 1) []).tok.end_ - p, by omega⟩
            have hX : quo x p (p + 1) [] = okT ⟨1, T, 0, p, p + e⟩ := lx_eta (by rw [← hT, hE] at e1; exact e1) hok e2
            obtain ⟨_, r2⟩ := quo_ag h (by omega) _ 1 [] (Nat.le_refl _) hX
            rw [r2, hX]
            simp only [moved, okT]
            congr 2
            omega
          · simp only [if_neg k7] at hok he ⊢
            by_cases k8 : kd x p = 8
            · simp only [if_pos k8] at hok he ⊢
              by_cases n6 : kd x (p + 1) = 6
              · simp only [if_pos n6] at hok he ⊢
                have he' : p + 2 ≤ p + m := he
                rw [if_pos (by rw [← h.kd (j := 1) (by omega)]; exact n6)]
                have hcut := h.cut (i := 0) (e := 2) (by omega)
                simp only [moved, okT, cutB, Nat.add_zero] at hcut ⊢
                rw [hcut]
                congr 2
                omega
              · simp only [if_neg n6] at hok
                exact absurd hok (by show (61 : Int) ≠ 0; decide)
            · simp only [if_neg k8] at hok he ⊢
              by_cases k9 : kd x p = 9
              · simp only [if_pos k9] at hok he ⊢
                have he' : p + 1 ≤ p + m := he
                have hcut := h.cut (i := 0) (e := 1) (by omega)
                simp only [moved, okT, cutB, Nat.add_zero] at hcut ⊢
                rw [hcut]
                congr 2
                omega
              · simp only [if_neg k9] at hok
                exact absurd hok (by show (61 : Int) ≠ 0; decide)
end Go.Proofs.Ytanjgppdjdcnaaa
