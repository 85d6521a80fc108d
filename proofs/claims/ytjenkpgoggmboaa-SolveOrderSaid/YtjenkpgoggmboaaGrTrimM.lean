/- What a trimmed graph is, as plain mathematics: all its nodes are met, in their order; trimmed again it is the same; paths lead to what is labelled as before. -/
import Derived.Test.YtjenkpgoggmboaaGrTrim
namespace Go.Proofs.Ytjenkpgoggmboaa
open Go.RowKit

theorem len_le_of_subset : ∀ (S l : List Int), l.Nodup → (∀ x ∈ l, x ∈ S) → l.length ≤ S.length
  | [], l, _, h => by
    cases l with
    | nil => simp
    | cons a r => exact absurd (h a (by simp)) (by simp)
  | a :: S, l, hn, h => by
    by_cases hm : a ∈ l
    · have h1 := len_le_of_subset S (l.erase a) (hn.erase _) (fun x hx => by
        have h2 := (hn.mem_erase_iff).1 hx
        rcases List.mem_cons.1 (h x h2.2) with e | e
        · exact absurd e h2.1
        · exact e)
      rw [List.length_erase_of_mem hm] at h1
      simp only [List.length_cons]
      omega
    · have := len_le_of_subset S l hn (fun x hx => by
        rcases List.mem_cons.1 (h x hx) with e | e
        · exact absurd (by rw [← e]; exact hx) hm
        · exact e)
      simp only [List.length_cons]
      omega
/-- A list of nodes within S, none twice. -/
structure In (S m : List Int) : Prop where
  nodup : m.Nodup
  sub : ∀ x ∈ m, x ∈ S
theorem In.snoc {S m : List Int} {n : Int} (h : In S m) (hn : n ∉ m) (hS : n ∈ S) : In S (m ++ [n]) := by
  refine ⟨List.nodup_append.2 ⟨h.nodup, by simp, ?_⟩, fun x hx => ?_⟩
  · intro a ha b hb e
    simp at hb
    subst e hb
    exact hn ha
  · rcases List.mem_append.1 hx with hx | hx
    · exact h.sub x hx
    · simp at hx
      subst hx
      exact hS
theorem In.full {S m : List Int} (h : In S m) (hl : S.length ≤ m.length) {x : Int} (hx : x ∈ S) : x ∈ m := by
  by_cases hm : x ∈ m
  · exact hm
  · have h1 := h.snoc hm hx
    have := len_le_of_subset S (m ++ [x]) h1.nodup h1.sub
    simp at this
    omega
theorem meet_still {g : Gf} (f : Nat) (l m : List Int) (h : ∀ x ∈ l, x ∈ m) : meetF g f l m = m := by
  cases f with
  | zero => rfl
  | succ f =>
    rw [meetF_succ]
    induction l with
    | nil => rfl
    | cons n r ih =>
      rw [List.foldl_cons]
      have : stepF g f m n = m := if_pos (h n (by simp))
      rw [this]
      exact ih (fun x hx => h x (by simp [hx]))
theorem meet_inS {g : Gf} {S : List Int} (hc : ∀ x ∈ S, ∀ y ∈ g.argsOf x, y ∈ S) : ∀ (f : Nat) (l m : List Int), (∀ x ∈ l, x ∈ S) → In S m → In S (meetF g f l m) ∧ m.length ≤ (meetF g f l m).length
  | 0, _, m, _, h => ⟨h, Nat.le_refl _⟩
  | f + 1, l, m, hl, h => by
    rw [meetF_succ]
    induction l generalizing m with
    | nil => exact ⟨h, Nat.le_refl _⟩
    | cons n r ih =>
      rw [List.foldl_cons]
      have hn := hl n (by simp)
      have hs : In S (stepF g f m n) ∧ m.length ≤ (stepF g f m n).length := by
        unfold stepF
        split
        · exact ⟨h, Nat.le_refl _⟩
        · rename_i hm
          have h1 := meet_inS hc f (g.argsOf n) (m ++ [n]) (hc n hn) (h.snoc hm hn)
          refine ⟨h1.1, ?_⟩
          have := h1.2
          simp at this
          omega
      have h2 := ih (stepF g f m n) (fun x hx => hl x (by simp [hx])) hs.1
      exact ⟨h2.1, Nat.le_trans hs.2 h2.2⟩
/-- How deep one may go makes no difference, if it is deep enough. -/
theorem meet_fuel {g : Gf} {S : List Int} (hc : ∀ x ∈ S, ∀ y ∈ g.argsOf x, y ∈ S) : ∀ (f f' : Nat) (l m : List Int), (∀ x ∈ l, x ∈ S) → In S m → S.length ≤ m.length + f → S.length ≤ m.length + f' → meetF g f l m = meetF g f' l m
  | 0, f', l, m, hl, h, hf, _ => by
    rw [meet_still f' l m (fun x hx => h.full (by omega) (hl x hx))]
    rfl
  | f + 1, 0, l, m, hl, h, _, hf' => by
    rw [meet_still (f + 1) l m (fun x hx => h.full (by omega) (hl x hx))]
    rfl
  | f + 1, f' + 1, l, m, hl, h, hf, hf' => by
    rw [meetF_succ, meetF_succ]
    induction l generalizing m with
    | nil => rfl
    | cons n r ih =>
      rw [List.foldl_cons, List.foldl_cons]
      have hn := hl n (by simp)
      have hs : stepF g f m n = stepF g f' m n := by
        unfold stepF
        split
        · rfl
        · rename_i hm
          exact meet_fuel hc f f' (g.argsOf n) (m ++ [n]) (hc n hn) (h.snoc hm hn) (by simp; omega) (by simp; omega)
      rw [← hs]
      have hk : In S (stepF g f m n) ∧ m.length ≤ (stepF g f m n).length := by
        have := meet_inS hc (f + 1) [n] m (by simpa using hn) h
        exact this
      exact ih (stepF g f m n) (fun x hx => hl x (by simp [hx])) hk.1 (by omega) (by omega)
/-- The same walk in a graph whose nodes are numbered otherwise. -/
theorem meet_map {g t : Gf} {S : List Int} {F : Int → Int} (hc : ∀ x ∈ S, ∀ y ∈ g.argsOf x, y ∈ S) (hF : ∀ x ∈ S, ∀ y ∈ S, F x = F y → x = y) (ht : ∀ x ∈ S, t.argsOf (F x) = (g.argsOf x).map F) :
    ∀ (f : Nat) (l m : List Int), (∀ x ∈ l, x ∈ S) → In S m → meetF t f (l.map F) (m.map F) = (meetF g f l m).map F
  | 0, _, _, _, _ => rfl
  | f + 1, l, m, hl, h => by
    rw [meetF_succ, meetF_succ]
    induction l generalizing m with
    | nil => rfl
    | cons n r ih =>
      rw [List.map_cons, List.foldl_cons, List.foldl_cons]
      have hn := hl n (by simp)
      have hs : stepF t f (m.map F) (F n) = (stepF g f m n).map F := by
        unfold stepF
        by_cases hm : n ∈ m
        · rw [if_pos hm, if_pos (List.mem_map.2 ⟨n, hm, rfl⟩)]
        · have hm' : F n ∉ m.map F := fun hx => by
            obtain ⟨y, hy, e⟩ := List.mem_map.1 hx
            exact hm (by rw [← hF y (h.sub y hy) n hn e]; exact hy)
          rw [if_neg hm, if_neg hm', ht n hn]
          have := meet_map hc hF ht f (g.argsOf n) (m ++ [n]) (hc n hn) (h.snoc hm hn)
          rw [List.map_append] at this
          exact this
      rw [hs]
      have hk := (meet_inS hc (f + 1) [n] m (by simpa using hn) h).1
      exact ih (stepF g f m n) (fun x hx => hl x (by simp [hx])) hk
/-- The numbers from 0 on. -/
def iota (n : Nat) : List Int := (List.range n).map (fun (i : Nat) => (i : Int))
theorem iota_len (n : Nat) : (iota n).length = n := by simp [iota]
theorem iota_mem {n : Nat} {x : Int} : x ∈ iota n ↔ 0 ≤ x ∧ x < (n : Int) := by
  simp only [iota, List.mem_map, List.mem_range]
  constructor
  · rintro ⟨i, hi, rfl⟩
    omega
  · rintro ⟨h0, h1⟩
    exact ⟨x.toNat, by omega, by omega⟩
theorem iota_nodup (n : Nat) : (iota n).Nodup := by
  have h1 := List.nodup_iff_pairwise_ne.1 (List.nodup_range (n := n))
  rw [iota, List.nodup_iff_pairwise_ne, List.pairwise_map]
  have e : (fun (a b : Nat) => (a : Int) ≠ (b : Int)) = fun (a b : Nat) => a ≠ b := by
    funext a b
    exact propext ⟨fun h e => h (by rw [e]), fun h e => h (by omega)⟩
  rw [e]
  exact h1
theorem iota_getD {n i : Nat} (h : i < n) : (iota n).getD i 0 = (i : Int) := by simp [iota, List.getD, h]
theorem pos_of_getD : ∀ {m : List Int} {i : Nat}, m.Nodup → i < m.length → pos m (m.getD i 0) = i
  | [], i, _, h => absurd h (Nat.not_lt_zero _)
  | y :: r, 0, _, _ => by simp [pos]
  | y :: r, i + 1, hn, h => by
    have hr := List.nodup_cons.1 hn
    have hi : i < r.length := by simpa using h
    have h1 := pos_of_getD hr.2 hi
    have hne : ¬ y = r.getD i 0 := fun e => hr.1 (by rw [e]; exact getD_mem hi)
    simp only [List.getD_cons_succ, pos, if_neg hne, h1]
theorem posF_iota {n : Nat} {x : Int} (h0 : 0 ≤ x) (h1 : x < n) : posF (iota n) x = x := by
  have hx : x ∈ iota n := iota_mem.2 ⟨h0, h1⟩
  unfold posF
  rw [if_pos hx]
  have h2 := pos_of_getD (m := iota n) (i := x.toNat) (iota_nodup n) (by rw [iota_len]; omega)
  rw [iota_getD (by omega)] at h2
  have e : ((x.toNat : Nat) : Int) = x := by omega
  rw [e] at h2
  omega
theorem list_ext0 {l m : List Int} (h : l.length = m.length) (he : ∀ j, j < l.length → l.getD j 0 = m.getD j 0) : l = m := by
  apply List.ext_getElem h
  intro i h1 h2
  have := he i h1
  simpa [List.getD, h1, h2] using this
theorem map_pos {m : List Int} (h : m.Nodup) : m.map (posF m) = iota m.length := by
  apply list_ext0
  · simp [iota_len]
  · intro j hj
    have hj' : j < m.length := by simpa using hj
    rw [iota_getD hj']
    have e : (m.map (posF m)).getD j 0 = posF m (m.getD j 0) := by simp [List.getD, hj']
    rw [e]
    unfold posF
    rw [if_pos (getD_mem hj'), pos_of_getD h hj']
theorem pos_inj {g : Gf} (_ : Good g) : ∀ x ∈ metF g, ∀ y ∈ metF g, posF (metF g) x = posF (metF g) y → x = y := fun x hx y hy e => by
  unfold posF at e
  rw [if_pos hx, if_pos hy] at e
  have e' : pos (metF g) x = pos (metF g) y := by omega
  rw [← pos_at hx, ← pos_at hy, e']
theorem pos_rng {g : Gf} (_ : Good g) : ∀ x ∈ metF g, 0 ≤ posF (metF g) x ∧ posF (metF g) x < ((metF g).length : Int) := fun x hx => by
  have := pos_lt hx
  unfold posF
  rw [if_pos hx]
  omega
theorem trim_len {g : Gf} (_ : Good g) : (trimF g).nodes.length = (metF g).length := by simp [trimF]
/-- A node of the trimmed graph. -/
theorem trim_node {g : Gf} (_ : Good g) : ∀ x ∈ metF g, (trimF g).nodes.getD (posF (metF g) x).toNat nd0 = renum (posF (metF g)) (g.nodes.getD x.toNat nd0) := fun x hx => by
  have h1 := pos_lt hx
  have h2 : (posF (metF g) x).toNat = pos (metF g) x := by
    unfold posF
    rw [if_pos hx]
    omega
  rw [h2]
  have h3 := pos_at hx
  simp only [List.getD] at h3
  simp only [trimF, List.getD, List.getElem?_map, h1, List.getElem?_eq_getElem, Option.map_some, Option.getD_some]
  rw [List.getElem?_eq_getElem h1, Option.getD_some] at h3
  rw [h3]
theorem trim_args {g : Gf} (hg : Good g) : ∀ x ∈ metF g, (trimF g).argsOf (posF (metF g) x) = (g.argsOf x).map (posF (metF g)) := fun x hx => by
  unfold Gf.argsOf
  rw [trim_node hg x hx]
  rfl
theorem trim_met {g : Gf} (hg : Good g) : metF (trimF g) = iota (metF g).length := by
  have hc := met_arg hg
  have hS : In (metF g) [] := ⟨List.nodup_nil, by simp⟩
  have h1 := meet_map hc (pos_inj hg) (trim_args hg) (metF g).length g.roots [] (met_root hg) hS
  have h2 := meet_fuel hc (metF g).length g.nodes.length g.roots [] (met_root hg) hS (by simp) (by have := (met_ok hg).le; simp; omega)
  have h3 : meetF g g.nodes.length g.roots [] = metF g := rfl
  rw [h2, h3, map_pos (met_ok hg).nodup] at h1
  have h4 : metF (trimF g) = meetF (trimF g) (metF g).length (g.roots.map (posF (metF g))) [] := by
    unfold metF
    rw [trim_len hg]
    rfl
  rw [h4]
  exact h1
theorem trim_good0 {g : Gf} (hg : Good g) : Good (trimF g) := by
  have hml := (met_ok hg).le
  have h1 := hg.nodes
  have h2 := hg.roots
  refine ⟨by rw [trim_len hg]; omega, by simp [trimF]; omega, fun n hn => ?_, fun x hx => ?_⟩
  · obtain ⟨x, hx, rfl⟩ := List.mem_map.1 hn
    have hr := (met_ok hg).rng x hx
    have hgd := hg.node (g.nodes.getD x.toNat nd0) (by
      have : x.toNat < g.nodes.length := by omega
      simp [List.getD, this])
    have hst : ((g.nodes.getD x.toNat nd0).args.map (posF (metF g))).any (strange (trimF g).nodes.length) = false := by
      rw [List.any_eq_false]
      intro y hy
      obtain ⟨z, hz, rfl⟩ := List.mem_map.1 hy
      have := pos_rng hg z (met_arg hg x hx z hz)
      rw [trim_len hg]
      simp [strange]
      omega
    unfold goodNd at hgd ⊢
    simp only [renum, List.length_map, hst]
    split
    · rename_i hk
      rw [if_pos hk] at hgd
      exact hgd
    · rename_i hk
      rw [if_neg hk] at hgd
      split
      · rename_i hk2
        rw [if_pos hk2] at hgd
        exact hgd
      · rename_i hk2
        rw [if_neg hk2] at hgd
        split
        · rename_i hk3
          rw [if_pos hk3] at hgd
          exact hgd
        · rename_i hk3
          rw [if_neg hk3] at hgd
          split
          · rename_i hk4
            rw [if_pos hk4] at hgd
            simp only [Bool.and_eq_true] at hgd ⊢
            exact ⟨hgd.1, rfl⟩
          · rename_i hk4
            rw [if_neg hk4] at hgd
            exact hgd
  · obtain ⟨z, hz, rfl⟩ := List.mem_map.1 hx
    rw [trim_len hg]
    exact pos_rng hg z (met_root hg z hz)
theorem trim_twice {g : Gf} (hg : Good g) : trimF (trimF g) = trimF g := by
  have ht := trim_good0 hg
  have hm := trim_met hg
  have hl := trim_len hg
  have hid' : ∀ x : Int, 0 ≤ x → x < ((trimF g).nodes.length : Int) → posF (iota (metF g).length) x = x := fun x h0 h1 => posF_iota h0 (by rw [hl] at h1; exact h1)
  have hn : (trimF (trimF g)).nodes = (trimF g).nodes := by
    have e : (trimF (trimF g)).nodes = (iota (metF g).length).map (fun x => renum (posF (iota (metF g).length)) ((trimF g).nodes.getD x.toNat nd0)) := by
      rw [← hm]
      rfl
    rw [e]
    apply List.ext_getElem
    · simp [iota_len, hl]
    · intro i h1 h2
      have hi : i < (metF g).length := by simpa [iota_len] using h1
      have e2 : (trimF g).nodes.getD i nd0 = (trimF g).nodes[i] := by simp [List.getD, h2]
      simp only [List.getElem_map, iota, List.getElem_range, Int.toNat_natCast]
      rw [e2]
      have hga := (good_args (ht.node _ (List.getElem_mem h2))).1
      generalize (trimF g).nodes[i] = n at hga ⊢
      obtain ⟨k, s, u, a⟩ := n
      simp only [renum, Nd.mk.injEq, true_and]
      have h3 : a.map (posF (iota (metF g).length)) = a.map id := List.map_congr_left (fun x hx => hid' x (hga x hx).1 (hga x hx).2)
      exact h3.trans (List.map_id _)
  have hr : (trimF (trimF g)).roots = (trimF g).roots := by
    have e : (trimF (trimF g)).roots = (trimF g).roots.map (posF (iota (metF g).length)) := by
      rw [← hm]
      rfl
    rw [e]
    have h3 : (trimF g).roots.map (posF (iota (metF g).length)) = (trimF g).roots.map id := List.map_congr_left (fun x hx => hid' x (ht.root x hx).1 (ht.root x hx).2)
    rw [h3, List.map_id]
  have e1 : trimF (trimF g) = ⟨(trimF (trimF g)).nodes, (trimF (trimF g)).roots⟩ := rfl
  rw [e1, hn, hr]
/-- A path from a node that is met leads in the trimmed graph to the same node. -/
theorem trim_path {g : Gf} (hg : Good g) : ∀ (path : List Int) (x : Int), x ∈ metF g → (goF g x path).2 = (goF (trimF g) (posF (metF g) x) path).2 ∧ ((goF g x path).2 = true → (goF g x path).1 ∈ metF g ∧ (goF (trimF g) (posF (metF g) x) path).1 = posF (metF g) (goF g x path).1)
  | [], x, hx => ⟨rfl, fun _ => ⟨hx, rfl⟩⟩
  | s :: r, x, hx => by
    have ha := trim_args hg x hx
    simp only [goF, ha, List.length_map]
    by_cases hs : s < 0 ∨ ((g.argsOf x).length : Int) ≤ s
    · rw [if_pos hs, if_pos hs]
      exact ⟨rfl, fun h => by cases h⟩
    · rw [if_neg hs, if_neg hs]
      have hlt : s.toNat < (g.argsOf x).length := by omega
      have e : ((g.argsOf x).map (posF (metF g))).getD s.toNat 0 = posF (metF g) ((g.argsOf x).getD s.toNat 0) := by simp [List.getD, hlt]
      rw [e]
      exact trim_path hg r _ (met_arg hg x hx _ (getD_mem hlt))
end Go.Proofs.Ytjenkpgoggmboaa
