/- What a trimmed graph is, as plain mathematics: all its nodes are met, in their order; trimmed again it is the same; paths lead to what is labelled as before. -/
import Derived.Deep.QuietTactic
import Derived.BigQuiet
import Derived.Test.Ytjkcffcedbcjmaata11Z
import Derived.Test.Ytjkcffcedbcjmaata12Z
namespace Go.Proofs.Ytjkcffcedbcjmaa
set_option maxRecDepth 100000
open Go.RowKit
theorem len_le_of_subset : ∀ (S l : List Int), l.Nodup → (∀ x ∈ l, x ∈ S) → l.length ≤ S.length
  | [], l, _, h => by
    cases l with
    | nil => simp
    | cons a r => exact absurd (h a (by simp)) (by simp)
  | a :: S, l, hn, h => by
    by_cases hm : a ∈ l
    · have h1 := len_le_of_subset S (l.erase a) (hn.erase _) (fun x hx => by
        have h2 := (hn.mem_erase_iff).1 hx
        rcases List.mem_cons.1 (h x h2.2) with e | e
        · exact absurd e h2.1
        · exact e)
      rw [List.length_erase_of_mem hm] at h1
      simp only [List.length_cons]
      omega
    · have := len_le_of_subset S l hn (fun x hx => by
        rcases List.mem_cons.1 (h x hx) with e | e
        · exact absurd (by rw [← e]; exact hx) hm
        · exact e)
      simp only [List.length_cons]
      omega
structure In (S m : List Int) : Prop where
  nodup : m.Nodup
  sub : ∀ x ∈ m, x ∈ S
theorem In.snoc {S m : List Int} {n : Int} (h : In S m) (hn : n ∉ m) (hS : n ∈ S) : In S (m ++ [n]) := by
  refine ⟨List.nodup_append.2 ⟨h.nodup, by simp, ?_⟩, fun x hx => ?_⟩
  · intro a ha b hb e
    simp at hb
    subst e hb
    exact hn ha
  · rcases List.mem_append.1 hx with hx | hx
    · exact h.sub x hx
    · simp at hx
      subst hx
      exact hS
theorem In.full {S m : List Int} (h : In S m) (hl : S.length ≤ m.length) {x : Int} (hx : x ∈ S) : x ∈ m := by
  by_cases hm : x ∈ m
  · exact hm
  · have h1 := h.snoc hm hx
    have := len_le_of_subset S (m ++ [x]) h1.nodup h1.sub
    simp at this
    omega
theorem meet_still {g : Gf} (f : Nat) (l m : List Int) (h : ∀ x ∈ l, x ∈ m) : meetF g f l m = m := by
  cases f with
  | zero => rfl
  | succ f =>
    rw [meetF_succ]
    induction l with
    | nil => rfl
    | cons n r ih =>
      rw [List.foldl_cons]
      have : stepF g f m n = m := if_pos (h n (by simp))
      rw [this]
      exact ih (fun x hx => h x (by simp [hx]))
theorem meet_inS {g : Gf} {S : List Int} (hc : ∀ x ∈ S, ∀ y ∈ g.argsOf x, y ∈ S) : ∀ (f : Nat) (l m : List Int), (∀ x ∈ l, x ∈ S) → In S m → In S (meetF g f l m) ∧ m.length ≤ (meetF g f l m).length
  | 0, _, m, _, h => ⟨h, Nat.le_refl _⟩
  | f + 1, l, m, hl, h => by
    rw [meetF_succ]
    induction l generalizing m with
    | nil => exact ⟨h, Nat.le_refl _⟩
    | cons n r ih =>
      rw [List.foldl_cons]
      have hn := hl n (by simp)
      have hs : In S (stepF g f m n) ∧ m.length ≤ (stepF g f m n).length := by
        unfold stepF
        split
        · exact ⟨h, Nat.le_refl _⟩
        · rename_i hm
          have h1 := meet_inS hc f (g.argsOf n) (m ++ [n]) (hc n hn) (h.snoc hm hn)
          refine ⟨h1.1, ?_⟩
          have := h1.2
          simp at this
          omega
      have h2 := ih (stepF g f m n) (fun x hx => hl x (by simp [hx])) hs.1
      exact ⟨h2.1, Nat.le_trans hs.2 h2.2⟩
theorem meet_fuel {g : Gf} {S : List Int} (hc : ∀ x ∈ S, ∀ y ∈ g.argsOf x, y ∈ S) : ∀ (f f' : Nat) (l m : List Int), (∀ x ∈ l, x ∈ S) → In S m → S.length ≤ m.length + f → S.length ≤ m.length + f' → meetF g f l m = meetF g f' l m
  | 0, f', l, m, hl, h, hf, _ => by
    rw [meet_still f' l m (fun x hx => h.full (by omega) (hl x hx))]
    rfl
  | f + 1, 0, l, m, hl, h, _, hf' => by
    rw [meet_still (f + 1) l m (fun x hx => h.full (by omega) (hl x hx))]
    rfl
  | f + 1, f' + 1, l, m, hl, h, hf, hf' => by
    rw [meetF_succ, meetF_succ]
    induction l generalizing m with
    | nil => rfl
    | cons n r ih =>
      rw [List.foldl_cons, List.foldl_cons]
      have hn := hl n (by simp)
      have hs : stepF g f m n = stepF g f' m n := by
        unfold stepF
        split
        · rfl
        · rename_i hm
          exact meet_fuel hc f f' (g.argsOf n) (m ++ [n]) (hc n hn) (h.snoc hm hn) (by simp; omega) (by simp; omega)
      rw [← hs]
      have hk : In S (stepF g f m n) ∧ m.length ≤ (stepF g f m n).length := by
        have := meet_inS hc (f + 1) [n] m (by simpa using hn) h
        exact this
      exact ih (stepF g f m n) (fun x hx => hl x (by simp [hx])) hk.1 (by omega) (by omega)
theorem meet_map {g t : Gf} {S : List Int} {F : Int → Int} (hc : ∀ x ∈ S, ∀ y ∈ g.argsOf x, y ∈ S) (hF : ∀ x ∈ S, ∀ y ∈ S, F x = F y → x = y) (ht : ∀ x ∈ S, t.argsOf (F x) = (g.argsOf x).map F) :
    ∀ (f : Nat) (l m : List Int), (∀ x ∈ l, x ∈ S) → In S m → meetF t f (l.map F) (m.map F) = (meetF g f l m).map F
  | 0, _, _, _, _ => rfl
  | f + 1, l, m, hl, h => by
    rw [meetF_succ, meetF_succ]
    induction l generalizing m with
    | nil => rfl
    | cons n r ih =>
      rw [List.map_cons, List.foldl_cons, List.foldl_cons]
      have hn := hl n (by simp)
      have hs : stepF t f (m.map F) (F n) = (stepF g f m n).map F := by
        unfold stepF
        by_cases hm : n ∈ m
        · rw [if_pos hm, if_pos (List.mem_map.2 ⟨n, hm, rfl⟩)]
        · have hm' : F n ∉ m.map F := fun hx => by
            obtain ⟨y, hy, e⟩ := List.mem_map.1 hx
            exact hm (by rw [← hF y (h.sub y hy) n hn e]; exact hy)
          rw [if_neg hm, if_neg hm', ht n hn]
          have := meet_map hc hF ht f (g.argsOf n) (m ++ [n]) (hc n hn) (h.snoc hm hn)
          rw [List.map_append] at this
          exact this
      rw [hs]
      have hk := (meet_inS hc (f + 1) [n] m (by simpa using hn) h).1
      exact ih (stepF g f m n) (fun x hx => hl x (by simp [hx])) hk
theorem pos_of_getD : ∀ {m : List Int} {i : Nat}, m.Nodup → i < m.length → pos m (m.getD i 0) = i
  | [], i, _, h => absurd h (Nat.not_lt_zero _)
  | y :: r, 0, _, _ => by simp [pos]
  | y :: r, i + 1, hn, h => by
    have hr := List.nodup_cons.1 hn
    have hi : i < r.length := by simpa using h
    have h1 := pos_of_getD hr.2 hi
    have hne : ¬ y = r.getD i 0 := fun e => hr.1 (by rw [e]; exact getD_mem hi)
    simp only [List.getD_cons_succ, pos, if_neg hne, h1]
theorem list_ext0 {l m : List Int} (h : l.length = m.length) (he : ∀ j, j < l.length → l.getD j 0 = m.getD j 0) : l = m := by
  apply List.ext_getElem h
  intro i h1 h2
  have := he i h1
  simpa [List.getD, h1, h2] using this
theorem pos_inj {g : Gf} (_ : Good g) : ∀ x ∈ metF g, ∀ y ∈ metF g, posF (metF g) x = posF (metF g) y → x = y := fun x hx y hy e => by
  unfold posF at e
  rw [if_pos hx, if_pos hy] at e
  have e' : pos (metF g) x = pos (metF g) y := by omega
  rw [← pos_at hx, ← pos_at hy, e']
theorem pos_rng {g : Gf} (_ : Good g) : ∀ x ∈ metF g, 0 ≤ posF (metF g) x ∧ posF (metF g) x < ((metF g).length : Int) := fun x hx => by
  have := pos_lt hx
  unfold posF
  rw [if_pos hx]
  omega
theorem trim_len {g : Gf} (_ : Good g) : (trimF g).nodes.length = (metF g).length := by simp [trimF]
theorem trim_node {g : Gf} (_ : Good g) : ∀ x ∈ metF g, (trimF g).nodes.getD (posF (metF g) x).toNat nd0 = renum (posF (metF g)) (g.nodes.getD x.toNat nd0) := fun x hx => by
  have h1 := pos_lt hx
  have h2 : (posF (metF g) x).toNat = pos (metF g) x := by
    unfold posF
    rw [if_pos hx]
    omega
  rw [h2]
  have h3 := pos_at hx
  simp only [List.getD] at h3
  simp only [trimF, List.getD, List.getElem?_map, h1, List.getElem?_eq_getElem, Option.map_some, Option.getD_some]
  rw [List.getElem?_eq_getElem h1, Option.getD_some] at h3
  rw [h3]
theorem trim_args {g : Gf} (hg : Good g) : ∀ x ∈ metF g, (trimF g).argsOf (posF (metF g) x) = (g.argsOf x).map (posF (metF g)) := fun x hx => by
  unfold Gf.argsOf
  rw [trim_node hg x hx]
  rfl
theorem trim_good0 {g : Gf} (hg : Good g) : Good (trimF g) := by
  have hml := (met_ok hg).le
  have h1 := hg.nodes
  have h2 := hg.roots
  refine ⟨by rw [trim_len hg]; omega, by simp [trimF]; omega, fun n hn => ?_, fun x hx => ?_⟩
  · obtain ⟨x, hx, rfl⟩ := List.mem_map.1 hn
    have hr := (met_ok hg).rng x hx
    have hgd := hg.node (g.nodes.getD x.toNat nd0) (by
      have : x.toNat < g.nodes.length := by omega
      simp [List.getD, this])
    have hst : ((g.nodes.getD x.toNat nd0).args.map (posF (metF g))).any (strange (trimF g).nodes.length) = false := by
      rw [List.any_eq_false]
      intro y hy
      obtain ⟨z, hz, rfl⟩ := List.mem_map.1 hy
      have := pos_rng hg z (met_arg hg x hx z hz)
      rw [trim_len hg]
      simp [strange]
      omega
    unfold goodNd at hgd ⊢
    simp only [renum, List.length_map, hst]
    split
    · rename_i hk
      rw [if_pos hk] at hgd
      exact hgd
    · rename_i hk
      rw [if_neg hk] at hgd
      split
      · rename_i hk2
        rw [if_pos hk2] at hgd
        exact hgd
      · rename_i hk2
        rw [if_neg hk2] at hgd
        split
        · rename_i hk3
          rw [if_pos hk3] at hgd
          exact hgd
        · rename_i hk3
          rw [if_neg hk3] at hgd
          split
          · rename_i hk4
            rw [if_pos hk4] at hgd
            simp only [Bool.and_eq_true] at hgd ⊢
            exact ⟨hgd.1, rfl⟩
          · rename_i hk4
            rw [if_neg hk4] at hgd
            exact hgd
  · obtain ⟨z, hz, rfl⟩ := List.mem_map.1 hx
    rw [trim_len hg]
    exact pos_rng hg z (met_root hg z hz)
end Go.Proofs.Ytjkcffcedbcjmaa

namespace Go.Proofs.Ytjkcffcedbcjmaa
set_option maxRecDepth 100000
open Go.RowKit
set_option maxHeartbeats 2000000 in
theorem rlab_any {W : World} {na : Option Addr} {nc : Nat} {rv : Value} {g : Gf} (hN : Rn W (.slice na g.nodes.length nc) g.nodes) (hl : ∀ n ∈ g.nodes, n.args.length ≤ 5000) {i j : Nat} (hi : i < g.nodes.length) (hj : j < g.nodes.length) :
    Calls Try.prog 99 #[.agg #[.slice na g.nodes.length nc, rv], .int .i64 (i : Int), .int .i64 (j : Int)] W fun e w' => e = .returned (.bool (rlab g i j)) ∧ Below W.heap.size W w' := by
  have hE := hid (show rlab g i j = (if (g.nodes.getD i nd0).kind = 1 ∨ (g.nodes.getD j nd0).kind = 1 then decide (i = j) else ndL (g.nodes.getD i nd0) (g.nodes.getD j nd0)) from rfl)
  generalize rlab g i j = R at hE ⊢
  have hla := hl (g.nodes.getD i nd0) (by simp [List.getD, hi])
  have hlb := hl (g.nodes.getD j nd0) (by simp [List.getD, hj])
  obtain ⟨na', nc', e, hc⟩ := hN
  injection e with e1 _ _
  subst e1
  obtain ⟨b, o, av, rfl, n0, n1, n2, n3, n4⟩ := hc i hi
  obtain ⟨aa, ac, rfl, _⟩ := n4
  obtain ⟨b', o', av, h2, m0, m1, m2, m3, m4⟩ := hc j hj
  injection h2 with h2
  injection h2 with e1 e2 _
  subst e1 e2
  obtain ⟨ba, bc, rfl, _⟩ := m4
  clear hc hl
  generalize g.nodes.getD i nd0 = a at *
  generalize g.nodes.getD j nd0 = c at *
  obtain ⟨ak, ah, an, al⟩ := a
  obtain ⟨bk, bh, bn, bl⟩ := c
  dsimp only at *
  generalize g.nodes.length = N at *
  have hi' : (i : Int) < (N : Int) := by omega
  have hj' : (j : Int) < (N : Int) := by omega
  have hbW := lt_of_cell n0
  have hbb : ∀ o1 o2 o3 : Obj, Below W.heap.size W (((W.alloc o1).alloc o2).alloc o3) := fun o1 o2 o3 => ((below_alloc W _).alloc (by simp) _).alloc (by simp <;> omega) _
  by_cases h1 : ak = 1
  · have hR := hid (show R = decide (i = j) by rw [hE.out]; simp [h1])
    subst h1
    clear hE
    go_enter Try.func99, Try.ntmps99
    go_wp2
    go_ret
    exact ⟨ret_bool (by rw [hR.out, Bool.eq_iff_iff]; simp only [beq_iff_eq, decide_eq_true_eq]; omega), hbb _ _ _⟩
  by_cases h5 : bk = 1
  · have hR := hid (show R = decide (i = j) by rw [hE.out]; simp [h5])
    subst h5
    have h1' : (ak == 1) = false := by simpa using h1
    clear hE
    go_enter Try.func99, Try.ntmps99
    go_wp2
    go_ret
    exact ⟨ret_bool (by rw [hR.out, Bool.eq_iff_iff]; simp only [beq_iff_eq, decide_eq_true_eq]; omega), hbb _ _ _⟩
  have hE := hid (show R = (decide (ak = bk) && decide (ah.toList = bh.toList) && decide (an = bn) && decide (al.length = bl.length)) by rw [hE.out, if_neg (by simp [h1, h5])]; rfl)
  have h1' : (ak == 1) = false := by simpa using h1
  have h5' : (bk == 1) = false := by simpa using h5
  by_cases k1 : ak = bk
  · by_cases k2 : ah.toList = bh.toList
    · have k2' := str_eq k2
      by_cases k3 : an = bn
      · by_cases k4 : al.length = bl.length
        · have hR := hid (show R = true by rw [hE.out]; simp [k1, k2, k3, k4])
          subst k1 k3 k2'
          generalize al.length = n at *
          subst k4
          clear k2
          clear hE
          go_enter Try.func99, Try.ntmps99
          go_wp2
          go_ret
          exact ⟨ret_bool hR.out.symm, hbb _ _ _⟩
        · have hR := hid (show R = false by rw [hE.out]; simp [k4])
          subst k1 k3 k2'
          have k4' : ¬ (al.length : Int) = (bl.length : Int) := by omega
          clear k2
          clear hE
          go_enter Try.func99, Try.ntmps99
          go_wp2
          go_ret
          exact ⟨ret_bool (by rw [hR.out]; simpa using k4'), hbb _ _ _⟩
      · have hR := hid (show R = false by rw [hE.out]; simp [k3])
        subst k1 k2'
        have k3' : (an == bn) = false := by simpa using k3
        clear k2
        clear hE
        go_enter Try.func99, Try.ntmps99
        go_wp2
        go_ret
        exact ⟨ret_bool hR.out.symm, hbb _ _ _⟩
    · have hR := hid (show R = false by rw [hE.out]; simp [k2])
      subst k1
      have k2' : (ah.toList == bh.toList) = false := by simpa using k2
      clear hE
      go_enter Try.func99, Try.ntmps99
      go_wp2
      go_ret
      exact ⟨ret_bool hR.out.symm, hbb _ _ _⟩
  · have hR := hid (show R = false by rw [hE.out]; simp [k1])
    have k1' : (ak == bk) = false := by simpa using k1
    clear hE
    go_enter Try.func99, Try.ntmps99
    go_wp2
    go_ret
    exact ⟨ret_bool hR.out.symm, hbb _ _ _⟩
end Go.Proofs.Ytjkcffcedbcjmaa
