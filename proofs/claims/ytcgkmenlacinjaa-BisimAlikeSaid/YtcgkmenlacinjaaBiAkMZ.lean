/- Two graphs gone through side by side, pair by pair: as plain mathematics. -/
import Derived.Test.YtcgkmenlacinjaaBiCZ
namespace Go.Proofs.Ytcgkmenlacinjaa
open Go.RowKit

/-- A pair of nodes. -/
abbrev Pn := Nat × Nat
/-- Two nodes are labelled alike. -/
def labP (a b : Gf) (p : Pn) : Prop := (a.nodes.getD p.1 nd0).kind = (b.nodes.getD p.2 nd0).kind ∧ (a.nodes.getD p.1 nd0).name = (b.nodes.getD p.2 nd0).name ∧ (a.nodes.getD p.1 nd0).num = (b.nodes.getD p.2 nd0).num ∧ (a.nodes.getD p.1 nd0).args.length = (b.nodes.getD p.2 nd0).args.length
/-- The pair of the k-th arguments. -/
def argP (a b : Gf) (p : Pn) (k : Nat) : Pn := (((a.nodes.getD p.1 nd0).args.getD k 0).toNat, ((b.nodes.getD p.2 nd0).args.getD k 0).toNat)
/-- The pair of the i-th roots. -/
def rootP (a b : Gf) (i : Nat) : Pn := ((a.roots.getD i 0).toNat, (b.roots.getD i 0).toNat)
/-- How many arguments. -/
def arP (a : Gf) (p : Pn) : Nat := (a.nodes.getD p.1 nd0).args.length
/-- The kinds of a pair's nodes. -/
def kdA (a : Gf) (p : Pn) : Int := (a.nodes.getD p.1 nd0).kind
def kdB (b : Gf) (p : Pn) : Int := (b.nodes.getD p.2 nd0).kind
/-- S was seen, T is to do; of c the arguments from j on are not yet pushed. -/
structure Aw (a b : Gf) (S T : List Pn) (c : Pn) (j : Nat) : Prop where
  root : ∀ i, i < a.roots.length → rootP a b i ∈ S ∨ rootP a b i ∈ T
  rng : ∀ p, p ∈ S ∨ p ∈ T → p.1 < a.nodes.length ∧ p.2 < b.nodes.length
  lab : ∀ p ∈ S, labP a b p
  arg : ∀ p ∈ S, ∀ k, k < arP a p → (p = c → k < j) → argP a b p k ∈ S ∨ argP a b p k ∈ T
  v1 : ∀ x y y', (x, y) ∈ S → (x, y') ∈ S → (a.nodes.getD x nd0).kind = 1 → y = y'
  v2 : ∀ x x' y, (x, y) ∈ S → (x', y) ∈ S → (a.nodes.getD x nd0).kind = 1 → x = x'
  need : ∀ R, Pr a b R → ∀ p, p ∈ S ∨ p ∈ T → R (p.1 : Int) (p.2 : Int)
  nd : S.Nodup
section
variable {a b : Gf} {S T : List Pn} {c p : Pn} {j : Nat}
theorem ar_le (ha : Good a) (hp : p.1 < a.nodes.length) : arP a p ≤ 8 := (good_args (ha.node (a.nodes.getD p.1 nd0) (by simp [List.getD, hp]))).2
theorem mem_snoc {q p : Pn} {l : List Pn} : q ∈ l ++ [p] ↔ q ∈ l ∨ q = p := by simp
theorem Aw.skip (h : Aw a b S (T ++ [p]) c 9) (hp : p ∈ S) : Aw a b S T c 9 := by
  have e : ∀ q, (q ∈ S ∨ q ∈ T ++ [p]) → q ∈ S ∨ q ∈ T := fun q hq => by
    rcases hq with hq | hq
    · exact Or.inl hq
    · rcases mem_snoc.1 hq with hq | rfl
      · exact Or.inr hq
      · exact Or.inl hp
  have e' : ∀ q, (q ∈ S ∨ q ∈ T) → q ∈ S ∨ q ∈ T ++ [p] := fun q hq => hq.imp_right (fun h => mem_snoc.2 (Or.inl h))
  exact ⟨fun i hi => e _ (h.root i hi), fun q hq => h.rng q (e' q hq), h.lab, fun q hq k hk hc => e _ (h.arg q hq k hk hc), h.v1, h.v2, fun R hR q hq => h.need R hR q (e' q hq), h.nd⟩
theorem Aw.take (ha : Good a) (h : Aw a b S (T ++ [p]) c 9) (hp : p ∉ S) (hl : labP a b p) (hv : (a.nodes.getD p.1 nd0).kind = 1 → (∀ y, (p.1, y) ∈ S → y = p.2) ∧ ∀ x, (x, p.2) ∈ S → x = p.1) : Aw a b (S ++ [p]) T p 0 := by
  have e : ∀ q, (q ∈ S ∨ q ∈ T ++ [p]) → q ∈ S ++ [p] ∨ q ∈ T := fun q hq => by
    rcases hq with hq | hq
    · exact Or.inl (mem_snoc.2 (Or.inl hq))
    · rcases mem_snoc.1 hq with hq | hq
      · exact Or.inr hq
      · exact Or.inl (mem_snoc.2 (Or.inr hq))
  have e' : ∀ q, (q ∈ S ++ [p] ∨ q ∈ T) → q ∈ S ∨ q ∈ T ++ [p] := fun q hq => by
    rcases hq with hq | hq
    · rcases mem_snoc.1 hq with hq | hq
      · exact Or.inl hq
      · exact Or.inr (mem_snoc.2 (Or.inr hq))
    · exact Or.inr (mem_snoc.2 (Or.inl hq))
  have hkv : ∀ x y, (x, y) ∈ S → (a.nodes.getD x nd0).kind = (b.nodes.getD y nd0).kind := fun x y hxy => (h.lab _ hxy).1
  refine ⟨fun i hi => e _ (h.root i hi), fun q hq => h.rng q (e' q hq), fun q hq => ?_, fun q hq k hk hc => ?_, fun x y y' h1 h2 hk => ?_, fun x x' y h1 h2 hk => ?_, fun R hR q hq => h.need R hR q (e' q hq), ?_⟩
  · rcases mem_snoc.1 hq with hq | rfl
    · exact h.lab q hq
    · exact hl
  · rcases mem_snoc.1 hq with hq | rfl
    · refine e _ (h.arg q hq k hk (fun _ => ?_))
      have := ar_le ha (h.rng q (Or.inl hq)).1
      omega
    · exact absurd (hc rfl) (Nat.not_lt_zero _)
  · rcases mem_snoc.1 h1 with k1 | k1
    · rcases mem_snoc.1 h2 with k2 | k2
      · exact h.v1 x y y' k1 k2 hk
      · subst k2
        exact (hv hk).1 y k1
    · subst k1
      rcases mem_snoc.1 h2 with k2 | k2
      · exact ((hv hk).1 y' k2).symm
      · exact (congrArg Prod.snd k2).symm
  · rcases mem_snoc.1 h1 with k1 | k1
    · rcases mem_snoc.1 h2 with k2 | k2
      · exact h.v2 x x' y k1 k2 hk
      · subst k2
        have hk2 : (a.nodes.getD x' nd0).kind = 1 := by
          have e1 : (a.nodes.getD x' nd0).kind = (b.nodes.getD y nd0).kind := hl.1
          rw [e1, ← hkv x y k1]
          exact hk
        exact (hv hk2).2 x k1
    · subst k1
      rcases mem_snoc.1 h2 with k2 | k2
      · exact ((hv hk).2 x' k2).symm
      · exact (congrArg Prod.fst k2).symm
  · exact List.nodup_append.2 ⟨h.nd, by simp, fun x hx y hy e => hp (by
      have : y = p := by simpa using hy
      rw [← this, ← e]
      exact hx)⟩
theorem argP_cast (ha : Good a) (hb : Good b) (h1 : p.1 < a.nodes.length) (h2 : p.2 < b.nodes.length) {k : Nat} (hk : k < arP a p) (hl : labP a b p) : ((argP a b p k).1 : Int) = a.arg (p.1 : Int) k ∧ ((argP a b p k).2 : Int) = b.arg (p.2 : Int) k ∧ (argP a b p k).1 < a.nodes.length ∧ (argP a b p k).2 < b.nodes.length := by
  have hk2 : k < (b.nodes.getD p.2 nd0).args.length := by rw [← hl.2.2.2]; exact hk
  have g1 := (good_args (ha.node (a.nodes.getD p.1 nd0) (by simp [List.getD, h1]))).1 _ (getD_mem hk)
  have g2 := (good_args (hb.node (b.nodes.getD p.2 nd0) (by simp [List.getD, h2]))).1 _ (getD_mem hk2)
  have e1 : a.arg (p.1 : Int) k = (a.nodes.getD p.1 nd0).args.getD k 0 := rfl
  have e2 : b.arg (p.2 : Int) k = (b.nodes.getD p.2 nd0).args.getD k 0 := rfl
  rw [e1, e2]
  unfold argP
  simp only
  omega
theorem Aw.push (ha : Good a) (hb : Good b) (h : Aw a b S T p j) (hp : p ∈ S) (hj : j < arP a p) : Aw a b S (T ++ [argP a b p j]) p (j + 1) := by
  have e : ∀ q, (q ∈ S ∨ q ∈ T) → q ∈ S ∨ q ∈ T ++ [argP a b p j] := fun q hq => hq.imp_right (fun h => mem_snoc.2 (Or.inl h))
  have hr := h.rng p (Or.inl hp)
  have hc := argP_cast ha hb hr.1 hr.2 hj (h.lab p hp)
  refine ⟨fun i hi => e _ (h.root i hi), fun q hq => ?_, h.lab, fun q hq k hk hck => ?_, h.v1, h.v2, fun R hR q hq => ?_, h.nd⟩
  · rcases hq with hq | hq
    · exact h.rng q (Or.inl hq)
    · rcases mem_snoc.1 hq with hq | rfl
      · exact h.rng q (Or.inr hq)
      · exact hc.2.2
  · by_cases ek : q = p ∧ k = j
    · rw [ek.1, ek.2]
      exact Or.inr (mem_snoc.2 (Or.inr rfl))
    · refine e _ (h.arg q hq k hk (fun eq => ?_))
      have h1 := hck eq
      have h2 : k ≠ j := fun e2 => ek ⟨eq, e2⟩
      omega
  · rcases hq with hq | hq
    · exact h.need R hR q (Or.inl hq)
    · rcases mem_snoc.1 hq with hq | rfl
      · exact h.need R hR q (Or.inr hq)
      · rw [hc.1, hc.2.1]
        exact hR.arg _ _ (h.need R hR p (Or.inl hp)) j hj
theorem Aw.done (h : Aw a b S T p j) (hj : arP a p ≤ j) (c : Pn) : Aw a b S T c 9 :=
  ⟨h.root, h.rng, h.lab, fun q hq k hk _ => h.arg q hq k hk (fun e => by rw [e] at hk; omega), h.v1, h.v2, h.need, h.nd⟩
theorem Aw.last (ha : Good a) (hb : Good b) (h : Aw a b S [] c 9) (hlen : a.roots.length = b.roots.length) : Pr a b (fun x y => ∃ p ∈ S, x = (p.1 : Int) ∧ y = (p.2 : Int)) := by
  refine ⟨fun x y ⟨p, hp, hx, hy⟩ => ?_, fun x y ⟨p, hp, hx, hy⟩ => ?_, fun x y ⟨p, hp, hx, hy⟩ k hk => ?_, fun x y y' ⟨p, hp, hx, hy⟩ ⟨q, hq, hx', hy'⟩ hk => ?_, fun x x' y ⟨p, hp, hx, hy⟩ ⟨q, hq, hx', hy'⟩ hk => ?_, hlen, fun i hi => ?_⟩
  · have := h.rng p (Or.inl hp)
    subst hx hy
    exact ⟨⟨by omega, by omega⟩, by omega, by omega⟩
  · subst hx hy
    exact h.lab p hp
  · subst hx hy
    have hr := h.rng p (Or.inl hp)
    have hk' : k < arP a p := hk
    have hc := argP_cast ha hb hr.1 hr.2 hk' (h.lab p hp)
    have hin := (h.arg p hp k hk' (fun _ => by have := ar_le ha hr.1; omega)).resolve_right (by simp)
    exact ⟨_, hin, hc.1.symm, hc.2.1.symm⟩
  · subst hx hy hy'
    have e : p.1 = q.1 := by omega
    have hq' : (p.1, q.2) ∈ S := by rw [e]; exact hq
    have := h.v1 p.1 p.2 q.2 hp hq' hk
    omega
  · subst hx hy hx'
    have e : p.2 = q.2 := by omega
    have hq' : (q.1, p.2) ∈ S := by rw [e]; exact hq
    have hka : (a.nodes.getD p.1 nd0).kind = 1 := by rw [(h.lab p hp).1]; exact hk
    have := h.v2 p.1 q.1 p.2 hp hq' hka
    omega
  · have hib : i < b.roots.length := by omega
    have h1 := ha.root _ (getD_mem hi)
    have h2 := hb.root _ (getD_mem hib)
    have hin := (h.root i hi).resolve_right (by simp)
    exact ⟨_, hin, by unfold rootP; simp only; omega, by unfold rootP; simp only; omega⟩
theorem Aw.bad_lab (h : Aw a b S (T ++ [p]) c 9) (hl : ¬ labP a b p) : ¬ ∃ R, Pr a b R := fun ⟨R, hR⟩ => hl (hR.lab _ _ (h.need R hR p (Or.inr (mem_snoc.2 (Or.inr rfl)))))
theorem Aw.bad_v1 (h : Aw a b S (T ++ [p]) c 9) (hk : (a.nodes.getD p.1 nd0).kind = 1) {y : Nat} (hy : (p.1, y) ∈ S) (hne : y ≠ p.2) : ¬ ∃ R, Pr a b R := fun ⟨R, hR⟩ => by
  have h1 := h.need R hR p (Or.inr (mem_snoc.2 (Or.inr rfl)))
  have h2 := h.need R hR (p.1, y) (Or.inl hy)
  have := hR.v1 _ _ _ h2 h1 hk
  omega
theorem Aw.bad_v2 (h : Aw a b S (T ++ [p]) c 9) (hk : (b.nodes.getD p.2 nd0).kind = 1) {x : Nat} (hx : (x, p.2) ∈ S) (hne : x ≠ p.1) : ¬ ∃ R, Pr a b R := fun ⟨R, hR⟩ => by
  have h1 := h.need R hR p (Or.inr (mem_snoc.2 (Or.inr rfl)))
  have h2 := h.need R hR (x, p.2) (Or.inl hx)
  have := hR.v2 _ _ _ h2 h1 hk
  omega
theorem Aw.size (h : Aw a b S T c j) : S.length ≤ a.nodes.length * b.nodes.length := by
  have h1 := pigeon (a.nodes.length * b.nodes.length) (S.map (fun p => ((p.1 * b.nodes.length + p.2 : Nat) : Int))) ?_ ?_
  · simpa using h1
  · rw [List.nodup_iff_pairwise_ne, List.pairwise_map]
    have h2 := List.nodup_iff_pairwise_ne.1 h.nd
    refine h2.imp_of_mem (fun {x y} hx hy hne e => hne ?_)
    have r1 := (h.rng x (Or.inl hx)).2
    have r2 := (h.rng y (Or.inl hy)).2
    have e' : x.1 * b.nodes.length + x.2 = y.1 * b.nodes.length + y.2 := by omega
    have m1 : (x.1 * b.nodes.length + x.2) % b.nodes.length = x.2 := by rw [Nat.mul_comm, Nat.mul_add_mod]; exact Nat.mod_eq_of_lt r1
    have m2 : (y.1 * b.nodes.length + y.2) % b.nodes.length = y.2 := by rw [Nat.mul_comm, Nat.mul_add_mod]; exact Nat.mod_eq_of_lt r2
    have e2 : x.2 = y.2 := by rw [← m1, ← m2, e']
    have e3 : x.1 * b.nodes.length = y.1 * b.nodes.length := by omega
    have e1 : x.1 = y.1 := Nat.eq_of_mul_eq_mul_right (by omega) e3
    exact Prod.ext e1 e2
  · intro z hz
    obtain ⟨p, hp, rfl⟩ := List.mem_map.1 hz
    have r := h.rng p (Or.inl hp)
    refine ⟨by omega, ?_⟩
    have h3 : (p.1 + 1) * b.nodes.length ≤ a.nodes.length * b.nodes.length := Nat.mul_le_mul_right _ r.1
    rw [Nat.succ_mul] at h3
    omega
/-- The pairs of the first roots. -/
def rootsP (a b : Gf) (m : Nat) : List Pn := (List.range m).map (rootP a b)
theorem Aw.start (ha : Good a) (hb : Good b) (hlen : a.roots.length = b.roots.length) : Aw a b [] (rootsP a b a.roots.length) (0, 0) 9 := by
  refine ⟨fun i hi => Or.inr (List.mem_map.2 ⟨i, List.mem_range.2 hi, rfl⟩), fun p hp => ?_, by simp, by simp, by simp, by simp, fun R hR p hp => ?_, List.nodup_nil⟩
  · rcases hp with hp | hp
    · simp at hp
    · obtain ⟨i, hi, rfl⟩ := List.mem_map.1 hp
      have hi' := List.mem_range.1 hi
      have h1 := ha.root _ (getD_mem hi')
      have h2 := hb.root _ (getD_mem (show i < b.roots.length by omega))
      unfold rootP
      simp only
      omega
  · rcases hp with hp | hp
    · simp at hp
    · obtain ⟨i, hi, rfl⟩ := List.mem_map.1 hp
      have hi' := List.mem_range.1 hi
      have h1 := ha.root _ (getD_mem hi')
      have h2 := hb.root _ (getD_mem (show i < b.roots.length by omega))
      have := hR.root i hi'
      have e1 : ((rootP a b i).1 : Int) = a.roots.getD i 0 := by unfold rootP; simp only; omega
      have e2 : ((rootP a b i).2 : Int) = b.roots.getD i 0 := by unfold rootP; simp only; omega
      rw [e1, e2]
      exact this
end
end Go.Proofs.Ytcgkmenlacinjaa
