/- What a good graph is, and where a path leads in it. -/
import Derived.Test.Ytncileojdighnaaow01Z
namespace Go.Proofs.Ytncileojdighnaa
set_option maxRecDepth 100000
open Go.RowKit
theorem strange_no {N : Nat} {x : Int} (h : strange N x = false) : 0 ≤ x ∧ x < N := by
  simp [strange] at h
  omega
theorem good_args {N : Nat} {n : Nd} (h : goodNd N n = true) : (∀ x ∈ n.args, 0 ≤ x ∧ x < (N : Int)) ∧ n.args.length ≤ 8 := by
  unfold goodNd at h
  split at h
  · simp at h
    simp [h.2]
  · split at h
    · simp at h
      simp [h.2]
    · split at h
      · simp at h
        simp [h.2]
      · split at h
        · simp only [Bool.and_eq_true, decide_eq_true_eq, Bool.not_eq_true'] at h
          refine ⟨fun x hx => ?_, h.1.2⟩
          have h2 := h.2
          rw [List.any_eq_false] at h2
          exact strange_no (by simpa using h2 x hx)
        · simp at h
structure Good (g : Gf) : Prop where
  nodes : g.nodes.length ≤ 4096
  roots : g.roots.length ≤ 4096
  node : ∀ n ∈ g.nodes, goodNd g.nodes.length n = true
  root : ∀ x ∈ g.roots, 0 ≤ x ∧ x < (g.nodes.length : Int)
theorem ixOf_all {α : Type} (p : α → Bool) (l : List α) (h : ¬ 0 ≤ ixOf p l) : ∀ x ∈ l, p x = false := by
  have h1 := ixOf_any p l
  rw [decide_eq_false h] at h1
  intro x hx
  have := List.any_eq_false.1 h1.symm x hx
  simpa using this
theorem chk_good {g : Gf} (h : one (chk g) = []) : Good g := by
  unfold one at h
  split at h
  · rename_i h0
    unfold chk at h0
    split at h0
    · simp at h0
    · split at h0
      · simp at h0
      · split at h0
        · simp at h0
        · split at h0
          · simp at h0
          · rename_i h1 h2 h3 h4
            refine ⟨by omega, by omega, fun n hn => ?_, fun x hx => strange_no (ixOf_all _ _ h4 x hx)⟩
            have := ixOf_all _ _ h3 n hn
            simpa using this
  · simp at h
theorem chk_of_good {g : Gf} (h : Good g) : one (chk g) = [] := by
  have h3 : ixOf (fun n => !goodNd g.nodes.length n) g.nodes = -1 := ixOf_none _ _ (by
    rw [List.any_eq_false]
    intro x hx
    simp [h.node x hx])
  have h4 : ixOf (strange g.nodes.length) g.roots = -1 := ixOf_none _ _ (by
    rw [List.any_eq_false]
    intro x hx
    have := h.root x hx
    simp [strange]
    omega)
  have a1 := h.nodes
  have a2 := h.roots
  unfold one chk
  rw [h3, h4]
  rw [if_neg (by omega : ¬ 4096 < g.nodes.length), if_neg (by omega : ¬ 4096 < g.roots.length)]
  simp
def Gf.argsOf (g : Gf) (x : Int) : List Int := (g.nodes.getD x.toNat nd0).args
theorem Good.args {g : Gf} (h : Good g) {x : Int} (h0 : 0 ≤ x) (h1 : x < g.nodes.length) : (∀ y ∈ g.argsOf x, 0 ≤ y ∧ y < (g.nodes.length : Int)) ∧ (g.argsOf x).length ≤ 8 := by
  have hx : x.toNat < g.nodes.length := by omega
  refine good_args (h.node _ ?_)
  simp [List.getD, hx]
theorem getD_mem {l : List Int} {k : Nat} (h : k < l.length) : l.getD k 0 ∈ l := by simp [List.getD, h]
theorem drop_step {l : List Int} {k : Nat} (h : k < l.length) : l.drop k = l.getD k 0 :: l.drop (k + 1) := by
  rw [List.drop_eq_getElem_cons h]
  simp [List.getD, h]
end Go.Proofs.Ytncileojdighnaa

namespace Go.Proofs.Ytncileojdighnaa
set_option maxRecDepth 100000
open Go.RowKit
def meetF (g : Gf) : Nat → List Int → List Int → List Int
  | 0, _, m => m
  | f + 1, l, m => l.foldl (fun m n => if n ∈ m then m else meetF g f (g.argsOf n) (m ++ [n])) m
def stepF (g : Gf) (f : Nat) (m : List Int) (n : Int) : List Int := if n ∈ m then m else meetF g f (g.argsOf n) (m ++ [n])
theorem meetF_succ (g : Gf) (f : Nat) (l m : List Int) : meetF g (f + 1) l m = l.foldl (stepF g f) m := rfl
structure Ok (N : Nat) (m : List Int) : Prop where
  nodup : m.Nodup
  rng : ∀ x ∈ m, 0 ≤ x ∧ x < (N : Int)
theorem ok_nil (N : Nat) : Ok N [] := ⟨List.nodup_nil, by simp⟩
theorem ok_snoc {N : Nat} {m : List Int} {n : Int} (h : Ok N m) (hn : n ∉ m) (h0 : 0 ≤ n) (h1 : n < N) : Ok N (m ++ [n]) := by
  refine ⟨List.nodup_append.2 ⟨h.nodup, by simp, ?_⟩, fun x hx => ?_⟩
  · intro a ha b hb e
    simp at hb
    subst e hb
    exact hn ha
  · rcases List.mem_append.1 hx with hx | hx
    · exact h.rng x hx
    · simp at hx
      subst hx
      exact ⟨h0, h1⟩
theorem pigeon : ∀ (N : Nat) (l : List Int), l.Nodup → (∀ x ∈ l, 0 ≤ x ∧ x < (N : Int)) → l.length ≤ N
  | 0, l, _, h => by
    cases l with
    | nil => simp
    | cons a r =>
      have := h a (by simp)
      omega
  | N + 1, l, hn, h => by
    by_cases hm : (N : Int) ∈ l
    · have h1 := pigeon N (l.erase (N : Int)) (hn.erase _) (fun x hx => by
        have h2 := (hn.mem_erase_iff).1 hx
        have := h x h2.2
        have := h2.1
        omega)
      rw [List.length_erase_of_mem hm] at h1
      omega
    · have := pigeon N l hn (fun x hx => by
        have := h x hx
        have : x ≠ (N : Int) := fun e => hm (by rw [← e]; exact hx)
        omega)
      omega
theorem Ok.le {N : Nat} {m : List Int} (h : Ok N m) : m.length ≤ N := pigeon N m h.nodup h.rng
theorem Ok.full {N : Nat} {m : List Int} (h : Ok N m) (hl : N ≤ m.length) {x : Int} (h0 : 0 ≤ x) (h1 : x < N) : x ∈ m := by
  by_cases hx : x ∈ m
  · exact hx
  · have := (ok_snoc h hx h0 h1).le
    simp at this
    omega
theorem meet_ok {g : Gf} (hg : Good g) : ∀ (f : Nat) (l m : List Int), (∀ x ∈ l, 0 ≤ x ∧ x < (g.nodes.length : Int)) → Ok g.nodes.length m → Ok g.nodes.length (meetF g f l m) ∧ m <+: meetF g f l m
  | 0, _, m, _, h => ⟨h, List.prefix_refl _⟩
  | f + 1, l, m, hl, h => by
    rw [meetF_succ]
    induction l generalizing m with
    | nil => exact ⟨h, List.prefix_refl _⟩
    | cons n r ih =>
      rw [List.foldl_cons]
      have hn := hl n (by simp)
      have hs : Ok g.nodes.length (stepF g f m n) ∧ m <+: stepF g f m n := by
        unfold stepF
        split
        · exact ⟨h, List.prefix_refl _⟩
        · rename_i hm
          have h1 := meet_ok hg f (g.argsOf n) (m ++ [n]) (hg.args hn.1 hn.2).1 (ok_snoc h hm hn.1 hn.2)
          exact ⟨h1.1, (List.prefix_append m [n]).trans h1.2⟩
      have h2 := ih (stepF g f m n) (fun x hx => hl x (by simp [hx])) hs.1
      exact ⟨h2.1, hs.2.trans h2.2⟩
theorem meet_full {g : Gf} (hg : Good g) (f : Nat) (l m : List Int) (hl : ∀ x ∈ l, 0 ≤ x ∧ x < (g.nodes.length : Int)) (h : Ok g.nodes.length m) (hN : g.nodes.length ≤ m.length) : meetF g f l m = m := by
  have h1 := meet_ok hg f l m hl h
  have h2 := h1.1.le
  exact (h1.2.eq_of_length_le (by omega)).symm
theorem step_ok {g : Gf} (hg : Good g) (f : Nat) {m : List Int} {n : Int} (h : Ok g.nodes.length m) (h0 : 0 ≤ n) (h1 : n < g.nodes.length) : Ok g.nodes.length (stepF g f m n) ∧ m <+: stepF g f m n := by
  have := meet_ok hg (f + 1) [n] m (by simpa using ⟨h0, h1⟩) h
  exact this
theorem meet_has {g : Gf} (hg : Good g) : ∀ (f : Nat) (l m : List Int), (∀ x ∈ l, 0 ≤ x ∧ x < (g.nodes.length : Int)) → Ok g.nodes.length m → g.nodes.length ≤ m.length + f →
    (∀ x ∈ l, x ∈ meetF g f l m) ∧ ∀ x ∈ meetF g f l m, x ∉ m → ∀ y ∈ g.argsOf x, y ∈ meetF g f l m
  | 0, l, m, hl, h, hN => by
    refine ⟨fun x hx => ?_, fun x hx hn => absurd hx hn⟩
    have := hl x hx
    exact h.full (by simpa using hN) this.1 this.2
  | f + 1, l, m, hl, h, hN => by
    rw [meetF_succ]
    induction l generalizing m with
    | nil => exact ⟨by simp, fun x hx hn => absurd hx hn⟩
    | cons n r ih =>
      rw [List.foldl_cons]
      have hn := hl n (by simp)
      have hs := step_ok hg f h hn.1 hn.2
      have hlen : m.length ≤ (stepF g f m n).length := hs.2.length_le
      have h2 := ih (stepF g f m n) (fun x hx => hl x (by simp [hx])) hs.1 (by omega)
      have hpre : stepF g f m n <+: r.foldl (stepF g f) (stepF g f m n) := by
        have := meet_ok hg (f + 1) r (stepF g f m n) (fun x hx => hl x (by simp [hx])) hs.1
        exact this.2
      have hin : n ∈ stepF g f m n ∧ ∀ x ∈ stepF g f m n, x ∉ m → ∀ y ∈ g.argsOf x, y ∈ stepF g f m n := by
        unfold stepF
        split
        · rename_i hm
          exact ⟨hm, fun x hx hn => absurd hx hn⟩
        · rename_i hm
          have h3 := meet_has hg f (g.argsOf n) (m ++ [n]) (hg.args hn.1 hn.2).1 (ok_snoc h hm hn.1 hn.2) (by simp; omega)
          have h4 := (meet_ok hg f (g.argsOf n) (m ++ [n]) (hg.args hn.1 hn.2).1 (ok_snoc h hm hn.1 hn.2)).2
          refine ⟨h4.subset (by simp), fun x hx hxm y hy => ?_⟩
          by_cases e : x = n
          · subst e
            exact h3.1 y hy
          · exact h3.2 x hx (by simp [hxm, e]) y hy
      refine ⟨fun x hx => ?_, fun x hx hxm y hy => ?_⟩
      · rcases List.mem_cons.1 hx with rfl | hx
        · exact hpre.subset hin.1
        · exact h2.1 x hx
      · by_cases e : x ∈ stepF g f m n
        · exact hpre.subset (hin.2 x e hxm y hy)
        · exact h2.2 x hx e y hy
def metF (g : Gf) : List Int := meetF g g.nodes.length g.roots []
theorem met_ok {g : Gf} (hg : Good g) : Ok g.nodes.length (metF g) := (meet_ok hg _ _ _ hg.root (ok_nil _)).1
theorem met_root {g : Gf} (hg : Good g) : ∀ x ∈ g.roots, x ∈ metF g := (meet_has hg _ _ _ hg.root (ok_nil _) (by simp)).1
theorem met_arg {g : Gf} (hg : Good g) : ∀ x ∈ metF g, ∀ y ∈ g.argsOf x, y ∈ metF g := fun x hx => (meet_has hg _ _ _ hg.root (ok_nil _) (by simp)).2 x hx (by simp)
end Go.Proofs.Ytncileojdighnaa
