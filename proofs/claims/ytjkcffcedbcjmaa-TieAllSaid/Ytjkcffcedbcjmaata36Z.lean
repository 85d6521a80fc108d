/- What is put down, part by part. -/
import Derived.Test.Ytjkcffcedbcjmaata35Z
import Derived.Test.Ytjkcffcedbcjmaata27Z
namespace Go.Proofs.Ytjkcffcedbcjmaa
set_option maxRecDepth 100000
open Go.RowKit
mutual
def flatX (ns : List ByteArray) : Nat → Ex → Nat × List Nd
  | p, .mk k n m xs =>
    if (decide (k = 1) && !isU n) = true then (ixN ns n, [])
    else if k = 1 then (p, [varN])
    else (p, ⟨k, n, m, (flatXs ns (p + 1) xs).1⟩ :: (flatXs ns (p + 1) xs).2)
def flatXs (ns : List ByteArray) : Nat → List Ex → List Int × List Nd
  | _, [] => ([], [])
  | p, x :: r => (((flatX ns p x).1 : Int) :: (flatXs ns (p + (flatX ns p x).2.length) r).1, (flatX ns p x).2 ++ (flatXs ns (p + (flatX ns p x).2.length) r).2)
end
theorem setA_mid (st P : List Nd) (x : Nd) (al : List Int) : setA (st ++ [x] ++ P) st.length al = st ++ ({ x with args := al } :: P) := by
  have e : (st ++ [x] ++ P).getD st.length nd0 = x := by simp [List.getD]
  unfold setA
  rw [e, List.append_assoc, List.set_append_right _ _ (Nat.le_refl _)]
  simp
mutual
theorem lay_flat (ns : List ByteArray) : ∀ (st : List Nd) (x : Ex), layX ns st x = ((flatX ns st.length x).1, st ++ (flatX ns st.length x).2)
  | st, .mk k n m xs => by
    rw [layX, flatX]
    split
    · simp
    · split
      · rfl
      · have h := lay_flats ns (st ++ [⟨k, n, m, []⟩]) xs
        rw [h]
        simp only [List.length_append, List.length_cons, List.length_nil]
        rw [setA_mid]
theorem lay_flats (ns : List ByteArray) : ∀ (st : List Nd) (xs : List Ex), layXs ns st xs = ((flatXs ns st.length xs).1, st ++ (flatXs ns st.length xs).2)
  | st, [] => by rw [layXs, flatXs]; simp
  | st, x :: r => by
    have h1 := lay_flat ns st x
    have h2 := lay_flats ns (layX ns st x).2 r
    rw [layXs, flatXs, h2, h1]
    simp only [List.length_append, List.append_assoc]
end
def flatQ (ns : List ByteArray) : Nat → List (ByteArray × Ex) → List (Nat × Nat) × List Nd
  | _, [] => ([], [])
  | p, q :: r => ((ixN ns q.1, (flatX ns p q.2).1) :: (flatQ ns (p + (flatX ns p q.2).2.length) r).1, (flatX ns p q.2).2 ++ (flatQ ns (p + (flatX ns p q.2).2.length) r).2)
theorem lay_flatQ (ns : List ByteArray) : ∀ (st : List Nd) (qs : List (ByteArray × Ex)), layQ ns st qs = ((flatQ ns st.length qs).1, st ++ (flatQ ns st.length qs).2)
  | st, [] => by rw [layQ, flatQ]; simp
  | st, q :: r => by
    have h1 := lay_flat ns st q.2
    have h2 := lay_flatQ ns (layX ns st q.2).2 r
    rw [layQ, flatQ, h2, h1]
    simp only [List.length_append, List.append_assoc]
theorem goodX_parts {nest : Nat} {k : Int} {n : ByteArray} {m : Int} {xs : List Ex} (h : goodX nest (.mk k n m xs) = true) : (k = 1 ∧ isW n 4 = true ∧ m = 0 ∧ xs = []) ∨ (k = 2 ∧ goodS n = true ∧ m = 0 ∧ xs = []) ∨ (k = 3 ∧ n.toList = [] ∧ -1125899906842624 ≤ m ∧ m ≤ 1125899906842624 ∧ xs = []) ∨ (k = 4 ∧ goodS n = true ∧ m = 0 ∧ 1 ≤ xs.length ∧ xs.length ≤ 8 ∧ goodXs (nest + 1) xs = true) := by
  rw [goodX] at h
  split at h
  · cases h
  · split at h
    · rename_i e
      simp only [Bool.and_eq_true, decide_eq_true_eq, List.length_eq_zero_iff] at h
      exact Or.inl ⟨e, h.1, h.2.1, h.2.2⟩
    · split at h
      · rename_i e
        simp only [Bool.and_eq_true, decide_eq_true_eq, List.length_eq_zero_iff] at h
        exact Or.inr (Or.inl ⟨e, h.1, h.2.1, h.2.2⟩)
      · split at h
        · rename_i e
          simp only [Bool.and_eq_true, decide_eq_true_eq, List.length_eq_zero_iff] at h
          exact Or.inr (Or.inr (Or.inl ⟨e, h.1, h.2.1, h.2.2.1, h.2.2.2⟩))
        · split at h
          · rename_i e
            simp only [Bool.and_eq_true, decide_eq_true_eq] at h
            exact Or.inr (Or.inr (Or.inr ⟨e, h.1, h.2.1, h.2.2.1, h.2.2.2.1, h.2.2.2.2⟩))
          · cases h
mutual
theorem flat_len (ns : List ByteArray) : ∀ (nest p : Nat) (x : Ex), goodX nest x = true → (flatX ns p x).2.length = othX x
  | nest, p, .mk k n m xs, h => by
    rw [flatX, othX]
    by_cases hn : (decide (k = 1) && !isU n) = true
    · rw [if_pos hn, if_pos hn]
      rcases goodX_parts h with ⟨_, _, _, rfl⟩ | ⟨e, _⟩ | ⟨e, _⟩ | ⟨e, _⟩
      · rfl
      all_goals
        subst e
        simp at hn
    · rw [if_neg hn, if_neg hn]
      by_cases hk : k = 1
      · rw [if_pos hk]
        rcases goodX_parts h with ⟨_, _, _, rfl⟩ | ⟨e, _⟩ | ⟨e, _⟩ | ⟨e, _⟩
        · rfl
        all_goals omega
      · rw [if_neg hk]
        have hx : (flatXs ns (p + 1) xs).2.length = othXs xs := by
          rcases goodX_parts h with ⟨e, _⟩ | ⟨_, _, _, rfl⟩ | ⟨_, _, _, _, rfl⟩ | ⟨_, _, _, _, _, hg⟩
          · exact absurd e hk
          · rfl
          · rfl
          · exact flats_len ns (nest + 1) (p + 1) xs hg
        simp only [List.length_cons]
        omega
theorem flats_len (ns : List ByteArray) : ∀ (nest p : Nat) (xs : List Ex), goodXs nest xs = true → (flatXs ns p xs).2.length = othXs xs
  | nest, p, [], _ => by rw [flatXs, othXs]; rfl
  | nest, p, x :: r, h => by
    rw [goodXs, Bool.and_eq_true] at h
    rw [flatXs, othXs, List.length_append, flat_len ns nest p x h.1, flats_len ns nest _ r h.2]
end
theorem goodNd_var (M : Nat) : goodNd M varN = true := by
  have h : (⟨#[]⟩ : ByteArray).toList = [] := by
    rw [ByteArray.toList, ByteArray.toList.loop]
    rfl
  unfold goodNd
  rw [if_pos rfl, h]
  rfl
mutual
theorem flat_good (ns : List ByteArray) (M : Nat) : ∀ (nest p : Nat) (x : Ex), goodX nest x = true → okX ns x → ns.length ≤ M → p + (flatX ns p x).2.length ≤ M → (∀ n ∈ (flatX ns p x).2, goodNd M n = true) ∧ (flatX ns p x).1 < M
  | nest, p, .mk k n m xs, h, hok, hns, hp => by
    rw [flatX] at hp ⊢
    by_cases hn : (decide (k = 1) && !isU n) = true
    · rw [if_pos hn]
      have := ixN_lt (hok.1 hn)
      exact ⟨by simp, by show ixN ns n < M; omega⟩
    · rw [if_neg hn] at hp ⊢
      by_cases hk : k = 1
      · rw [if_pos hk] at hp ⊢
        simp at hp
        exact ⟨fun y hy => by simp at hy; subst hy; exact goodNd_var M, by show p < M; omega⟩
      · rw [if_neg hk] at hp ⊢
        simp only [List.length_cons] at hp
        refine ⟨fun y hy => ?_, by show p < M; omega⟩
        rcases goodX_parts h with ⟨e, _⟩ | ⟨rfl, hs, rfl, rfl⟩ | ⟨rfl, hs, h1, h2, rfl⟩ | ⟨rfl, hs, rfl, h1, h8, hg⟩
        · exact absurd e hk
        · rw [flatXs] at hy
          simp at hy
          subst hy
          unfold goodNd
          simp [hs]
        · rw [flatXs] at hy
          simp at hy
          subst hy
          unfold goodNd
          simp [hs, h1, h2]
        · have ih := flats_good ns M (nest + 1) (p + 1) xs hg hok.2 hns (by omega)
          rcases List.mem_cons.1 hy with e | e
          · subst e
            have hl : (flatXs ns (p + 1) xs).1.length = xs.length := ih.2.2
            have hst : (flatXs ns (p + 1) xs).1.any (strange M) = false := by
              rw [List.any_eq_false]
              intro z hz
              have := ih.2.1 z hz
              simp [strange]
              omega
            unfold goodNd
            simp [hs, hl, h1, h8, hst]
          · exact ih.1 y e
theorem flats_good (ns : List ByteArray) (M : Nat) : ∀ (nest p : Nat) (xs : List Ex), goodXs nest xs = true → okXs ns xs → ns.length ≤ M → p + (flatXs ns p xs).2.length ≤ M → (∀ n ∈ (flatXs ns p xs).2, goodNd M n = true) ∧ (∀ z ∈ (flatXs ns p xs).1, 0 ≤ z ∧ z < (M : Int)) ∧ (flatXs ns p xs).1.length = xs.length
  | nest, p, [], _, _, _, _ => by rw [flatXs]; simp
  | nest, p, x :: r, h, hok, hns, hp => by
    rw [goodXs, Bool.and_eq_true] at h
    rw [flatXs] at hp ⊢
    simp only [List.length_append] at hp
    have h1 := flat_good ns M nest p x h.1 hok.1 hns (by omega)
    have h2 := flats_good ns M nest (p + (flatX ns p x).2.length) r h.2 hok.2 hns (by omega)
    refine ⟨fun n hn => ?_, fun z hz => ?_, by simp [h2.2.2]⟩
    · rcases List.mem_append.1 hn with e | e
      · exact h1.1 n e
      · exact h2.1 n e
    · rcases List.mem_cons.1 hz with e | e
      · subst e
        have := h1.2
        omega
      · exact h2.2.1 z e
end
theorem flatQ_good (ns : List ByteArray) (M : Nat) : ∀ (p : Nat) (qs : List (ByteArray × Ex)), (∀ q ∈ qs, goodX 0 q.2 = true ∧ okX ns q.2 ∧ inN ns q.1 = true) → ns.length ≤ M → p + (flatQ ns p qs).2.length ≤ M → (∀ n ∈ (flatQ ns p qs).2, goodNd M n = true) ∧ ∀ z ∈ (flatQ ns p qs).1, z.1 < M ∧ z.2 < M
  | p, [], _, _, _ => by rw [flatQ]; simp
  | p, q :: r, h, hns, hp => by
    rw [flatQ] at hp ⊢
    simp only [List.length_append] at hp
    have h0 := h q (by simp)
    have h1 := flat_good ns M 0 p q.2 h0.1 h0.2.1 hns (by omega)
    have h2 := flatQ_good ns M (p + (flatX ns p q.2).2.length) r (fun y hy => h y (by simp [hy])) hns (by omega)
    refine ⟨fun n hn => ?_, fun z hz => ?_⟩
    · rcases List.mem_append.1 hn with e | e
      · exact h1.1 n e
      · exact h2.1 n e
    · rcases List.mem_cons.1 hz with e | e
      · subst e
        have := ixN_lt h0.2.2
        exact ⟨by show ixN ns q.1 < M; omega, h1.2⟩
      · exact h2.2 z e
theorem flatQ_len (ns : List ByteArray) : ∀ (p : Nat) (qs : List (ByteArray × Ex)), (∀ q ∈ qs, goodX 0 q.2 = true) → (flatQ ns p qs).2.length = othQ qs
  | p, [], _ => by rw [flatQ, othQ]; rfl
  | p, q :: r, h => by
    rw [flatQ, othQ, List.length_append, flat_len ns 0 p q.2 (h q (by simp)), flatQ_len ns _ r (fun y hy => h y (by simp [hy]))]
end Go.Proofs.Ytjkcffcedbcjmaa

namespace Go.Proofs.Ytjkcffcedbcjmaa
set_option maxRecDepth 100000
open Go.RowKit
def mcells (l : List (ByteArray × Int)) : List Value := l.flatMap fun p => [.string p.1, .int .i64 p.2]
theorem mcells_snoc (l : List (ByteArray × Int)) (p : ByteArray × Int) : mcells (l ++ [p]) = mcells l ++ [.string p.1, .int .i64 p.2] := by simp [mcells]
def nmdF (e : Nat → Nat → Bool) (g : Gf) (E : Nat → Nat) (names : List ByteArray) : Nat → List (ByteArray × Int)
  | 0 => []
  | j + 1 => if clsI e g.nodes.length ((E j : Nat) : Int) ∈ metF (quoF e g) then nmdF e g E names j ++ [(names.getD j ⟨#[]⟩, posF (metF (quoF e g)) (clsI e g.nodes.length ((E j : Nat) : Int)))] else nmdF e g E names j
theorem nmdF_len (e : Nat → Nat → Bool) (g : Gf) (E : Nat → Nat) (names : List ByteArray) : ∀ j, (nmdF e g E names j).length ≤ j
  | 0 => by simp [nmdF]
  | j + 1 => by
    have := nmdF_len e g E names j
    rw [nmdF]
    split
    · simp; omega
    · omega
theorem infoMd : (Try.prog.info? 56).map (fun i => (i.zero, i.size, i.bytes)) = some (some (.agg #[.string ⟨#[]⟩, .int .i64 0]), 2, 24) := by kernel_rfl
end Go.Proofs.Ytjkcffcedbcjmaa
