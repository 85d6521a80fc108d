/- Classes of package bisim; the fixed fact of layer 5. -/
import Derived.Test.YtllafbghomohhaaABZ
import Derived.Test.YtllafbghomohhaaGrTrim
namespace Go.Proofs.Ytllafbghomohhaa
open Go.RowKit

/-- Which nodes unfold alike, by yes and no. -/
theorem al_dec (g : Gf) : ∃ e : Nat → Nat → Bool, ∀ x y : Nat, (e x y = true ↔ Al g (x : Int) (y : Int)) :=
  ⟨fun x y => @decide (Al g (x : Int) (y : Int)) (Classical.propDecidable _), fun _ _ => @decide_eq_true_iff _ (Classical.propDecidable _)⟩
theorem al_eqv {g : Gf} (hg : Good g) {e : Nat → Nat → Bool} (he : ∀ x y : Nat, (e x y = true ↔ Al g (x : Int) (y : Int))) : Eqv e g.nodes.length :=
  ⟨fun x hx => (he x x).2 (al_refl hg ⟨by omega, by omega⟩), fun x y _ _ h => (he y x).2 (al_symm ((he x y).1 h)), fun x y z _ _ _ h1 h2 => (he x z).2 (al_trans ((he x y).1 h1) ((he y z).1 h2))⟩
/-- f of f of itself, f of itself, a variable. -/
def g4 : Gf := ⟨[⟨4, ⟨#[102]⟩, 0, [1]⟩, ⟨4, ⟨#[102]⟩, 0, [0]⟩, ⟨4, ⟨#[102]⟩, 0, [2]⟩, ⟨1, ⟨#[]⟩, 0, []⟩], []⟩
theorem g4_sized : Sized g4 := fun n hn => by
  simp [g4] at hn
  rcases hn with rfl | rfl | rfl | rfl <;> decide
theorem g4_good : one (chk g4) = [] := chk_of_good ⟨by decide, by decide, fun n hn => by
    simp [g4] at hn
    rcases hn with rfl | rfl | rfl | rfl
    · decide
    · decide
    · decide
    · simp [goodNd, ByteArray.toList_eq], fun x hx => by
    simp [g4] at hx⟩
theorem g4_al (x y : Int) (hx : 0 ≤ x ∧ x < 3) (hy : 0 ≤ y ∧ y < 3) : Al g4 x y := by
  refine ⟨fun a b => (0 ≤ a ∧ a < 3) ∧ 0 ≤ b ∧ b < 3, fun a b hab => ?_, hx, hy⟩
  obtain ⟨⟨h1, h2⟩, h3, h4⟩ := hab
  have ea : a = 0 ∨ a = 1 ∨ a = 2 := by omega
  have eb : b = 0 ∨ b = 1 ∨ b = 2 := by omega
  have hl : (g4.nodes.length : Int) = 4 := rfl
  refine ⟨⟨h1, by rw [hl]; omega⟩, ⟨h3, by rw [hl]; omega⟩, ?_, ?_⟩
  · rcases ea with rfl | rfl | rfl <;> rcases eb with rfl | rfl | rfl <;> exact ⟨rfl, rfl, rfl, rfl, fun h => absurd h (by decide)⟩
  · intro k hk
    have hk0 : k = 0 := by
      rcases ea with rfl | rfl | rfl <;> (have : k < 1 := hk; omega)
    subst hk0
    rcases ea with rfl | rfl | rfl <;> rcases eb with rfl | rfl | rfl <;> (show (0 ≤ _ ∧ _ < 3) ∧ 0 ≤ _ ∧ _ < 3; decide)
theorem g4_no : ¬ Al g4 3 0 := fun h => by
  have h1 := (al_sim g4 3 0 h).2.2.1.1
  revert h1
  decide
theorem g4_cs {e : Nat → Nat → Bool} (he : ∀ x y : Nat, (e x y = true ↔ Al g4 (x : Int) (y : Int))) : csF e 4 = [0, 0, 0, 1] := by
  have h1 : e 1 0 = true := (he 1 0).2 (g4_al 1 0 (by omega) (by omega))
  have h2 : e 2 0 = true := (he 2 0).2 (g4_al 2 0 (by omega) (by omega))
  have h3 : e 3 0 = false := by
    cases h : e 3 0
    · rfl
    · exact absurd ((he 3 0).1 h) g4_no
  simp [csF, numF, fnd, h1, h2, h3]
theorem g4_gr (w : World) : Gr (((((w.alloc (.cells #[.int .i64 1] 3)).alloc (.cells #[.int .i64 0] 3)).alloc (.cells #[.int .i64 2] 3)).alloc (.cells #[.int .i64 4, .string ⟨#[102]⟩, .int .i64 0, .slice (some ⟨w.heap.size, 0, none⟩) 1 1, .int .i64 4, .string ⟨#[102]⟩, .int .i64 0, .slice (some ⟨w.heap.size + 1, 0, none⟩) 1 1, .int .i64 4, .string ⟨#[102]⟩, .int .i64 0, .slice (some ⟨w.heap.size + 1 + 1, 0, none⟩) 1 1, .int .i64 1, .string ⟨#[]⟩, .int .i64 0, .slice none 0 0] 56)).alloc (.cells #[.slice (some ⟨w.heap.size + 1 + 1 + 1, 0, none⟩) 4 4, .slice none 0 0] 25)) (.slice (some ⟨w.heap.size + 1 + 1 + 1, 0, none⟩) 4 4) (.slice none 0 0) g4 := by
  refine ⟨⟨some ⟨w.heap.size + 1 + 1 + 1, 0, none⟩, 4, rfl, fun j hj => ?_⟩, Ri.nil _⟩
  have hj' : j < 4 := hj
  match j, hj' with
  | 0, _ => exact ⟨_, _, .slice (some ⟨w.heap.size, 0, none⟩) 1 1, rfl, by simp [g4, go_sem], by simp [g4, go_sem], by simp [g4, go_sem], by simp [go_sem], ⟨some ⟨w.heap.size, 0, none⟩, 1, rfl, fun i hi => by
      have hi' : i = 0 := by
        have : i < 1 := hi
        omega
      subst hi'
      exact ⟨_, _, rfl, by simp [g4, go_sem]⟩⟩⟩
  | 1, _ => exact ⟨_, _, .slice (some ⟨w.heap.size + 1, 0, none⟩) 1 1, rfl, by simp [g4, go_sem], by simp [g4, go_sem], by simp [g4, go_sem], by simp [go_sem], ⟨some ⟨w.heap.size + 1, 0, none⟩, 1, rfl, fun i hi => by
      have hi' : i = 0 := by
        have : i < 1 := hi
        omega
      subst hi'
      exact ⟨_, _, rfl, by simp [g4, go_sem]⟩⟩⟩
  | 2, _ => exact ⟨_, _, .slice (some ⟨w.heap.size + 1 + 1, 0, none⟩) 1 1, rfl, by simp [g4, go_sem], by simp [g4, go_sem], by simp [g4, go_sem], by simp [go_sem], ⟨some ⟨w.heap.size + 1 + 1, 0, none⟩, 1, rfl, fun i hi => by
      have hi' : i = 0 := by
        have : i < 1 := hi
        omega
      subst hi'
      exact ⟨_, _, rfl, by simp [g4, go_sem]⟩⟩⟩
  | 3, _ => exact ⟨_, _, .slice none 0 0, rfl, by simp [g4, go_sem], by simp [g4, go_sem], by simp [g4, go_sem], by simp [go_sem], Ri.nil _⟩
end Go.Proofs.Ytllafbghomohhaa

/- What a trimmed graph is, as plain mathematics: all its nodes are met, in their order; trimmed again it is the same; paths lead to what is labelled as before. -/
namespace Go.Proofs.Ytllafbghomohhaa
open Go.RowKit

theorem len_le_of_subset : ∀ (S l : List Int), l.Nodup → (∀ x ∈ l, x ∈ S) → l.length ≤ S.length
  | [], l, _, h => by
    cases l with
    | nil => simp
    | cons a r => exact absurd (h a (by simp)) (by simp)
  | a :: S, l, hn, h => by
    by_cases hm : a ∈ l
    · have h1 := len_le_of_subset S (l.erase a) (hn.erase _) (fun x hx => by
        have h2 := (hn.mem_erase_iff).1 hx
        rcases List.mem_cons.1 (h x h2.2) with e | e
        · exact absurd e h2.1
        · exact e)
      rw [List.length_erase_of_mem hm] at h1
      simp only [List.length_cons]
      omega
    · have := len_le_of_subset S l hn (fun x hx => by
        rcases List.mem_cons.1 (h x hx) with e | e
        · exact absurd (by rw [← e]; exact hx) hm
        · exact e)
      simp only [List.length_cons]
      omega
/-- A list of nodes within S, none twice. -/
structure In (S m : List Int) : Prop where
  nodup : m.Nodup
  sub : ∀ x ∈ m, x ∈ S
theorem In.snoc {S m : List Int} {n : Int} (h : In S m) (hn : n ∉ m) (hS : n ∈ S) : In S (m ++ [n]) := by
  refine ⟨List.nodup_append.2 ⟨h.nodup, by simp, ?_⟩, fun x hx => ?_⟩
  · intro a ha b hb e
    simp at hb
    subst e hb
    exact hn ha
  · rcases List.mem_append.1 hx with hx | hx
    · exact h.sub x hx
    · simp at hx
      subst hx
      exact hS
theorem In.full {S m : List Int} (h : In S m) (hl : S.length ≤ m.length) {x : Int} (hx : x ∈ S) : x ∈ m := by
  by_cases hm : x ∈ m
  · exact hm
  · have h1 := h.snoc hm hx
    have := len_le_of_subset S (m ++ [x]) h1.nodup h1.sub
    simp at this
    omega
theorem meet_still {g : Gf} (f : Nat) (l m : List Int) (h : ∀ x ∈ l, x ∈ m) : meetF g f l m = m := by
  cases f with
  | zero => rfl
  | succ f =>
    rw [meetF_succ]
    induction l with
    | nil => rfl
    | cons n r ih =>
      rw [List.foldl_cons]
      have : stepF g f m n = m := if_pos (h n (by simp))
      rw [this]
      exact ih (fun x hx => h x (by simp [hx]))
theorem meet_inS {g : Gf} {S : List Int} (hc : ∀ x ∈ S, ∀ y ∈ g.argsOf x, y ∈ S) : ∀ (f : Nat) (l m : List Int), (∀ x ∈ l, x ∈ S) → In S m → In S (meetF g f l m) ∧ m.length ≤ (meetF g f l m).length
  | 0, _, m, _, h => ⟨h, Nat.le_refl _⟩
  | f + 1, l, m, hl, h => by
    rw [meetF_succ]
    induction l generalizing m with
    | nil => exact ⟨h, Nat.le_refl _⟩
    | cons n r ih =>
      rw [List.foldl_cons]
      have hn := hl n (by simp)
      have hs : In S (stepF g f m n) ∧ m.length ≤ (stepF g f m n).length := by
        unfold stepF
        split
        · exact ⟨h, Nat.le_refl _⟩
        · rename_i hm
          have h1 := meet_inS hc f (g.argsOf n) (m ++ [n]) (hc n hn) (h.snoc hm hn)
          refine ⟨h1.1, ?_⟩
          have := h1.2
          simp at this
          omega
      have h2 := ih (stepF g f m n) (fun x hx => hl x (by simp [hx])) hs.1
      exact ⟨h2.1, Nat.le_trans hs.2 h2.2⟩
/-- How deep one may go makes no difference, if it is deep enough. -/
theorem meet_fuel {g : Gf} {S : List Int} (hc : ∀ x ∈ S, ∀ y ∈ g.argsOf x, y ∈ S) : ∀ (f f' : Nat) (l m : List Int), (∀ x ∈ l, x ∈ S) → In S m → S.length ≤ m.length + f → S.length ≤ m.length + f' → meetF g f l m = meetF g f' l m
  | 0, f', l, m, hl, h, hf, _ => by
    rw [meet_still f' l m (fun x hx => h.full (by omega) (hl x hx))]
    rfl
  | f + 1, 0, l, m, hl, h, _, hf' => by
    rw [meet_still (f + 1) l m (fun x hx => h.full (by omega) (hl x hx))]
    rfl
  | f + 1, f' + 1, l, m, hl, h, hf, hf' => by
    rw [meetF_succ, meetF_succ]
    induction l generalizing m with
    | nil => rfl
    | cons n r ih =>
      rw [List.foldl_cons, List.foldl_cons]
      have hn := hl n (by simp)
      have hs : stepF g f m n = stepF g f' m n := by
        unfold stepF
        split
        · rfl
        · rename_i hm
          exact meet_fuel hc f f' (g.argsOf n) (m ++ [n]) (hc n hn) (h.snoc hm hn) (by simp; omega) (by simp; omega)
      rw [← hs]
      have hk : In S (stepF g f m n) ∧ m.length ≤ (stepF g f m n).length := by
        have := meet_inS hc (f + 1) [n] m (by simpa using hn) h
        exact this
      exact ih (stepF g f m n) (fun x hx => hl x (by simp [hx])) hk.1 (by omega) (by omega)
/-- The same walk in a graph whose nodes are numbered otherwise. -/
theorem meet_map {g t : Gf} {S : List Int} {F : Int → Int} (hc : ∀ x ∈ S, ∀ y ∈ g.argsOf x, y ∈ S) (hF : ∀ x ∈ S, ∀ y ∈ S, F x = F y → x = y) (ht : ∀ x ∈ S, t.argsOf (F x) = (g.argsOf x).map F) :
    ∀ (f : Nat) (l m : List Int), (∀ x ∈ l, x ∈ S) → In S m → meetF t f (l.map F) (m.map F) = (meetF g f l m).map F
  | 0, _, _, _, _ => rfl
  | f + 1, l, m, hl, h => by
    rw [meetF_succ, meetF_succ]
    induction l generalizing m with
    | nil => rfl
    | cons n r ih =>
      rw [List.map_cons, List.foldl_cons, List.foldl_cons]
      have hn := hl n (by simp)
      have hs : stepF t f (m.map F) (F n) = (stepF g f m n).map F := by
        unfold stepF
        by_cases hm : n ∈ m
        · rw [if_pos hm, if_pos (List.mem_map.2 ⟨n, hm, rfl⟩)]
        · have hm' : F n ∉ m.map F := fun hx => by
            obtain ⟨y, hy, e⟩ := List.mem_map.1 hx
            exact hm (by rw [← hF y (h.sub y hy) n hn e]; exact hy)
          rw [if_neg hm, if_neg hm', ht n hn]
          have := meet_map hc hF ht f (g.argsOf n) (m ++ [n]) (hc n hn) (h.snoc hm hn)
          rw [List.map_append] at this
          exact this
      rw [hs]
      have hk := (meet_inS hc (f + 1) [n] m (by simpa using hn) h).1
      exact ih (stepF g f m n) (fun x hx => hl x (by simp [hx])) hk
/-- The numbers from 0 on. -/
def iota (n : Nat) : List Int := (List.range n).map (fun (i : Nat) => (i : Int))
theorem iota_len (n : Nat) : (iota n).length = n := by simp [iota]
theorem iota_mem {n : Nat} {x : Int} : x ∈ iota n ↔ 0 ≤ x ∧ x < (n : Int) := by
  simp only [iota, List.mem_map, List.mem_range]
  constructor
  · rintro ⟨i, hi, rfl⟩
    omega
  · rintro ⟨h0, h1⟩
    exact ⟨x.toNat, by omega, by omega⟩
theorem iota_nodup (n : Nat) : (iota n).Nodup := by
  have h1 := List.nodup_iff_pairwise_ne.1 (List.nodup_range (n := n))
  rw [iota, List.nodup_iff_pairwise_ne, List.pairwise_map]
  have e : (fun (a b : Nat) => (a : Int) ≠ (b : Int)) = fun (a b : Nat) => a ≠ b := by
    funext a b
    exact propext ⟨fun h e => h (by rw [e]), fun h e => h (by omega)⟩
  rw [e]
  exact h1
theorem iota_getD {n i : Nat} (h : i < n) : (iota n).getD i 0 = (i : Int) := by simp [iota, List.getD, h]
theorem pos_of_getD : ∀ {m : List Int} {i : Nat}, m.Nodup → i < m.length → pos m (m.getD i 0) = i
  | [], i, _, h => absurd h (Nat.not_lt_zero _)
  | y :: r, 0, _, _ => by simp [pos]
  | y :: r, i + 1, hn, h => by
    have hr := List.nodup_cons.1 hn
    have hi : i < r.length := by simpa using h
    have h1 := pos_of_getD hr.2 hi
    have hne : ¬ y = r.getD i 0 := fun e => hr.1 (by rw [e]; exact getD_mem hi)
    simp only [List.getD_cons_succ, pos, if_neg hne, h1]
theorem posF_iota {n : Nat} {x : Int} (h0 : 0 ≤ x) (h1 : x < n) : posF (iota n) x = x := by
  have hx : x ∈ iota n := iota_mem.2 ⟨h0, h1⟩
  unfold posF
  rw [if_pos hx]
  have h2 := pos_of_getD (m := iota n) (i := x.toNat) (iota_nodup n) (by rw [iota_len]; omega)
  rw [iota_getD (by omega)] at h2
  have e : ((x.toNat : Nat) : Int) = x := by omega
  rw [e] at h2
  omega
theorem list_ext0 {l m : List Int} (h : l.length = m.length) (he : ∀ j, j < l.length → l.getD j 0 = m.getD j 0) : l = m := by
  apply List.ext_getElem h
  intro i h1 h2
  have := he i h1
  simpa [List.getD, h1, h2] using this
theorem map_pos {m : List Int} (h : m.Nodup) : m.map (posF m) = iota m.length := by
  apply list_ext0
  · simp [iota_len]
  · intro j hj
    have hj' : j < m.length := by simpa using hj
    rw [iota_getD hj']
    have e : (m.map (posF m)).getD j 0 = posF m (m.getD j 0) := by simp [List.getD, hj']
    rw [e]
    unfold posF
    rw [if_pos (getD_mem hj'), pos_of_getD h hj']
theorem pos_inj {g : Gf} (_ : Good g) : ∀ x ∈ metF g, ∀ y ∈ metF g, posF (metF g) x = posF (metF g) y → x = y := fun x hx y hy e => by
  unfold posF at e
  rw [if_pos hx, if_pos hy] at e
  have e' : pos (metF g) x = pos (metF g) y := by omega
  rw [← pos_at hx, ← pos_at hy, e']
theorem pos_rng {g : Gf} (_ : Good g) : ∀ x ∈ metF g, 0 ≤ posF (metF g) x ∧ posF (metF g) x < ((metF g).length : Int) := fun x hx => by
  have := pos_lt hx
  unfold posF
  rw [if_pos hx]
  omega
theorem trim_len {g : Gf} (_ : Good g) : (trimF g).nodes.length = (metF g).length := by simp [trimF]
/-- A node of the trimmed graph. -/
theorem trim_node {g : Gf} (_ : Good g) : ∀ x ∈ metF g, (trimF g).nodes.getD (posF (metF g) x).toNat nd0 = renum (posF (metF g)) (g.nodes.getD x.toNat nd0) := fun x hx => by
  have h1 := pos_lt hx
  have h2 : (posF (metF g) x).toNat = pos (metF g) x := by
    unfold posF
    rw [if_pos hx]
    omega
  rw [h2]
  have h3 := pos_at hx
  simp only [List.getD] at h3
  simp only [trimF, List.getD, List.getElem?_map, h1, List.getElem?_eq_getElem, Option.map_some, Option.getD_some]
  rw [List.getElem?_eq_getElem h1, Option.getD_some] at h3
  rw [h3]
theorem trim_args {g : Gf} (hg : Good g) : ∀ x ∈ metF g, (trimF g).argsOf (posF (metF g) x) = (g.argsOf x).map (posF (metF g)) := fun x hx => by
  unfold Gf.argsOf
  rw [trim_node hg x hx]
  rfl
theorem trim_met {g : Gf} (hg : Good g) : metF (trimF g) = iota (metF g).length := by
  have hc := met_arg hg
  have hS : In (metF g) [] := ⟨List.nodup_nil, by simp⟩
  have h1 := meet_map hc (pos_inj hg) (trim_args hg) (metF g).length g.roots [] (met_root hg) hS
  have h2 := meet_fuel hc (metF g).length g.nodes.length g.roots [] (met_root hg) hS (by simp) (by have := (met_ok hg).le; simp; omega)
  have h3 : meetF g g.nodes.length g.roots [] = metF g := rfl
  rw [h2, h3, map_pos (met_ok hg).nodup] at h1
  have h4 : metF (trimF g) = meetF (trimF g) (metF g).length (g.roots.map (posF (metF g))) [] := by
    unfold metF
    rw [trim_len hg]
    rfl
  rw [h4]
  exact h1
theorem trim_good0 {g : Gf} (hg : Good g) : Good (trimF g) := by
  have hml := (met_ok hg).le
  have h1 := hg.nodes
  have h2 := hg.roots
  refine ⟨by rw [trim_len hg]; omega, by simp [trimF]; omega, fun n hn => ?_, fun x hx => ?_⟩
  · obtain ⟨x, hx, rfl⟩ := List.mem_map.1 hn
    have hr := (met_ok hg).rng x hx
    have hgd := hg.node (g.nodes.getD x.toNat nd0) (by
      have : x.toNat < g.nodes.length := by omega
      simp [List.getD, this])
    have hst : ((g.nodes.getD x.toNat nd0).args.map (posF (metF g))).any (strange (trimF g).nodes.length) = false := by
      rw [List.any_eq_false]
      intro y hy
      obtain ⟨z, hz, rfl⟩ := List.mem_map.1 hy
      have := pos_rng hg z (met_arg hg x hx z hz)
      rw [trim_len hg]
      simp [strange]
      omega
    unfold goodNd at hgd ⊢
    simp only [renum, List.length_map, hst]
    split
    · rename_i hk
      rw [if_pos hk] at hgd
      exact hgd
    · rename_i hk
      rw [if_neg hk] at hgd
      split
      · rename_i hk2
        rw [if_pos hk2] at hgd
        exact hgd
      · rename_i hk2
        rw [if_neg hk2] at hgd
        split
        · rename_i hk3
          rw [if_pos hk3] at hgd
          exact hgd
        · rename_i hk3
          rw [if_neg hk3] at hgd
          split
          · rename_i hk4
            rw [if_pos hk4] at hgd
            simp only [Bool.and_eq_true] at hgd ⊢
            exact ⟨hgd.1, rfl⟩
          · rename_i hk4
            rw [if_neg hk4] at hgd
            exact hgd
  · obtain ⟨z, hz, rfl⟩ := List.mem_map.1 hx
    rw [trim_len hg]
    exact pos_rng hg z (met_root hg z hz)
theorem trim_twice {g : Gf} (hg : Good g) : trimF (trimF g) = trimF g := by
  have ht := trim_good0 hg
  have hm := trim_met hg
  have hl := trim_len hg
  have hid' : ∀ x : Int, 0 ≤ x → x < ((trimF g).nodes.length : Int) → posF (iota (metF g).length) x = x := fun x h0 h1 => posF_iota h0 (by rw [hl] at h1; exact h1)
  have hn : (trimF (trimF g)).nodes = (trimF g).nodes := by
    have e : (trimF (trimF g)).nodes = (iota (metF g).length).map (fun x => renum (posF (iota (metF g).length)) ((trimF g).nodes.getD x.toNat nd0)) := by
      rw [← hm]
      rfl
    rw [e]
    apply List.ext_getElem
    · simp [iota_len, hl]
    · intro i h1 h2
      have hi : i < (metF g).length := by simpa [iota_len] using h1
      have e2 : (trimF g).nodes.getD i nd0 = (trimF g).nodes[i] := by simp [List.getD, h2]
      simp only [List.getElem_map, iota, List.getElem_range, Int.toNat_natCast]
      rw [e2]
      have hga := (good_args (ht.node _ (List.getElem_mem h2))).1
      generalize (trimF g).nodes[i] = n at hga ⊢
      obtain ⟨k, s, u, a⟩ := n
      simp only [renum, Nd.mk.injEq, true_and]
      have h3 : a.map (posF (iota (metF g).length)) = a.map id := List.map_congr_left (fun x hx => hid' x (hga x hx).1 (hga x hx).2)
      exact h3.trans (List.map_id _)
  have hr : (trimF (trimF g)).roots = (trimF g).roots := by
    have e : (trimF (trimF g)).roots = (trimF g).roots.map (posF (iota (metF g).length)) := by
      rw [← hm]
      rfl
    rw [e]
    have h3 : (trimF g).roots.map (posF (iota (metF g).length)) = (trimF g).roots.map id := List.map_congr_left (fun x hx => hid' x (ht.root x hx).1 (ht.root x hx).2)
    rw [h3, List.map_id]
  have e1 : trimF (trimF g) = ⟨(trimF (trimF g)).nodes, (trimF (trimF g)).roots⟩ := rfl
  rw [e1, hn, hr]
/-- A path from a node that is met leads in the trimmed graph to the same node. -/
theorem trim_path {g : Gf} (hg : Good g) : ∀ (path : List Int) (x : Int), x ∈ metF g → (goF g x path).2 = (goF (trimF g) (posF (metF g) x) path).2 ∧ ((goF g x path).2 = true → (goF g x path).1 ∈ metF g ∧ (goF (trimF g) (posF (metF g) x) path).1 = posF (metF g) (goF g x path).1)
  | [], x, hx => ⟨rfl, fun _ => ⟨hx, rfl⟩⟩
  | s :: r, x, hx => by
    have ha := trim_args hg x hx
    simp only [goF, ha, List.length_map]
    by_cases hs : s < 0 ∨ ((g.argsOf x).length : Int) ≤ s
    · rw [if_pos hs, if_pos hs]
      exact ⟨rfl, fun h => by cases h⟩
    · rw [if_neg hs, if_neg hs]
      have hlt : s.toNat < (g.argsOf x).length := by omega
      have e : ((g.argsOf x).map (posF (metF g))).getD s.toNat 0 = posF (metF g) ((g.argsOf x).getD s.toNat 0) := by simp [List.getD, hlt]
      rw [e]
      exact trim_path hg r _ (met_arg hg x hx _ (getD_mem hlt))
end Go.Proofs.Ytllafbghomohhaa

/- The least graph, as plain data; two graphs have the same least graph just if a pairing of their nodes keeps labels and leads on. -/
namespace Go.Proofs.Ytllafbghomohhaa
open Go.RowKit

/-- The class of a node, as a number. -/
def clsI (e : Nat → Nat → Bool) (N : Nat) (x : Int) : Int := (ints (csF e N)).getD x.toNat 0
/-- The graph of classes. -/
def quoF (e : Nat → Nat → Bool) (g : Gf) : Gf := ⟨(lsF e g.nodes.length).map (fun n => renum (clsI e g.nodes.length) (g.nodes.getD n nd0)), g.roots.map (clsI e g.nodes.length)⟩
theorem clsI_eq (e : Nat → Nat → Bool) {N : Nat} {x : Int} (h0 : 0 ≤ x) (h1 : x < (N : Int)) : clsI e N x = (((csF e N).getD x.toNat 0 : Nat) : Int) := ints_get (by rw [csF_len]; omega)
theorem cls_rng {e : Nat → Nat → Bool} {N : Nat} (he : Eqv e N) {x : Int} (h0 : 0 ≤ x) (h1 : x < (N : Int)) : 0 ≤ clsI e N x ∧ clsI e N x < ((lsF e N).length : Int) := by
  have := ((numF_said he N (Nat.le_refl _)).hit x.toNat (by omega)).1
  rw [clsI_eq e h0 h1]
  omega
theorem quo_len (e : Nat → Nat → Bool) (g : Gf) : (quoF e g).nodes.length = (lsF e g.nodes.length).length := by simp [quoF]
theorem renum_good {N M : Nat} {F : Int → Int} {n : Nd} (h : goodNd N n = true) (hF : ∀ x ∈ n.args, 0 ≤ F x ∧ F x < (M : Int)) : goodNd M (renum F n) = true := by
  have hst : (n.args.map F).any (strange M) = false := by
    rw [List.any_eq_false]
    intro y hy
    obtain ⟨z, hz, rfl⟩ := List.mem_map.1 hy
    have := hF z hz
    simp [strange]
    omega
  unfold goodNd at h ⊢
  simp only [renum, List.length_map, hst]
  split
  · rename_i hk
    rw [if_pos hk] at h
    exact h
  · rename_i hk
    rw [if_neg hk] at h
    split
    · rename_i hk2
      rw [if_pos hk2] at h
      exact h
    · rename_i hk2
      rw [if_neg hk2] at h
      split
      · rename_i hk3
        rw [if_pos hk3] at h
        exact h
      · rename_i hk3
        rw [if_neg hk3] at h
        split
        · rename_i hk4
          rw [if_pos hk4] at h
          simp only [Bool.and_eq_true] at h ⊢
          exact ⟨h.1, rfl⟩
        · rename_i hk4
          rw [if_neg hk4] at h
          exact h
theorem quo_good {g : Gf} (hg : Good g) {e : Nat → Nat → Bool} (he : Eqv e g.nodes.length) : Good (quoF e g) := by
  have h1 := hg.nodes
  have h2 := hg.roots
  have h3 := lsF_le e g.nodes.length
  refine ⟨by rw [quo_len]; omega, by simp [quoF]; omega, fun n hn => ?_, fun x hx => ?_⟩
  · obtain ⟨m, hm, rfl⟩ := List.mem_map.1 hn
    have hlt := lsF_lt e _ m hm
    have hgd := hg.node (g.nodes.getD m nd0) (by simp [List.getD, hlt])
    rw [quo_len]
    exact renum_good hgd (fun x hx => by
      have := (good_args hgd).1 x hx
      exact cls_rng he this.1 this.2)
  · obtain ⟨z, hz, rfl⟩ := List.mem_map.1 hx
    rw [quo_len]
    have := hg.root z hz
    exact cls_rng he this.1 this.2
theorem cls_al {g : Gf} (hg : Good g) {e : Nat → Nat → Bool} (hd : ∀ x y : Nat, (e x y = true ↔ Al g (x : Int) (y : Int))) {x y : Int} (hx : isN g x) (hy : isN g y) : clsI e g.nodes.length x = clsI e g.nodes.length y ↔ Al g x y := by
  obtain ⟨hx0, hx1⟩ := hx
  obtain ⟨hy0, hy1⟩ := hy
  have he := al_eqv hg hd
  have h := (numF_said he g.nodes.length (Nat.le_refl _)).same he (x := x.toNat) (y := y.toNat) (by omega) (by omega)
  have k := hd x.toNat y.toNat
  have ex : ((x.toNat : Nat) : Int) = x := by omega
  have ey : ((y.toNat : Nat) : Int) = y := by omega
  rw [ex, ey] at k
  rw [clsI_eq e hx0 hx1, clsI_eq e hy0 hy1, ← k, ← h]
  omega
/-- A node's class in the graph of classes is labelled as the node, and leads to the classes of its arguments. -/
theorem quo_nd {g : Gf} (hg : Good g) {e : Nat → Nat → Bool} (hd : ∀ x y : Nat, (e x y = true ↔ Al g (x : Int) (y : Int))) {x : Int} (hx : isN g x) : (quoF e g).nd (clsI e g.nodes.length x) = renum (clsI e g.nodes.length) (g.nd x) := by
  have he := al_eqv hg hd
  have hx0 := hx.1
  have hx1 := hx.2
  have hh := (numF_said he g.nodes.length (Nat.le_refl _)).hit x.toNat (by omega)
  have hc := clsI_eq e hx0 hx1
  have hr : ((lsF e g.nodes.length).getD ((csF e g.nodes.length).getD x.toNat 0) 0) < g.nodes.length := lsF_lt e _ _ (nget_mem hh.1)
  have hal := (hd _ _).1 hh.2
  have ex : ((x.toNat : Nat) : Int) = x := by omega
  rw [ex] at hal
  have e1 : (quoF e g).nd (clsI e g.nodes.length x) = renum (clsI e g.nodes.length) (g.nd (((lsF e g.nodes.length).getD ((csF e g.nodes.length).getD x.toNat 0) 0 : Nat) : Int)) := by
    rw [hc]
    unfold Gf.nd
    have h1 := hh.1
    generalize (csF e g.nodes.length).getD x.toNat 0 = c at h1 ⊢
    simp only [Int.toNat_natCast, quoF]
    simp [List.getD, h1]
  rw [e1]
  generalize (((lsF e g.nodes.length).getD ((csF e g.nodes.length).getD x.toNat 0) 0 : Nat) : Int) = y at hal
  obtain ⟨_, hy, hl, ha⟩ := al_sim g x y hal
  obtain ⟨l1, l2, l3, l4, _⟩ := hl
  unfold renum
  rw [l1, l2, l3]
  congr 1
  apply list_ext0
  · simp [l4]
  · intro j hj
    have hj' : j < (g.nd y).args.length := by simpa using hj
    have hjx : j < (g.nd x).args.length := by omega
    have e2 : ((g.nd y).args.map (clsI e g.nodes.length)).getD j 0 = clsI e g.nodes.length (g.arg y j) := by simp [Gf.arg, List.getD, hj']
    have e3 : ((g.nd x).args.map (clsI e g.nodes.length)).getD j 0 = clsI e g.nodes.length (g.arg x j) := by simp [Gf.arg, List.getD, hjx]
    rw [e2, e3]
    exact (cls_al hg hd (arg_isN hg hy hj') (arg_isN hg hx hjx)).2 (al_symm (ha j hjx))
/-- Two graphs that are one but for their nodes' numbers are trimmed to the same. -/
theorem pos_map {F : Int → Int} : ∀ {m : List Int} {x : Int}, (∀ y ∈ m, F y = F x → y = x) → pos (m.map F) (F x) = pos m x
  | [], _, _ => rfl
  | y :: r, x, h => by
    by_cases e : y = x
    · subst e
      simp [pos]
    · have h1 : ¬ F y = F x := fun h2 => e (h y (by simp) h2)
      simp only [List.map_cons, pos, if_neg e, if_neg h1]
      rw [pos_map (fun z hz => h z (by simp [hz]))]
theorem trim_iso {g t : Gf} (hg : Good g) (ht : Good t) {F : Int → Int} (hF : ∀ x ∈ metF g, ∀ y ∈ metF g, F x = F y → x = y) (hn : ∀ x ∈ metF g, t.nd (F x) = renum F (g.nd x)) (hr : t.roots = g.roots.map F) : trimF t = trimF g := by
  have hc := met_arg hg
  have hS : In (metF g) [] := ⟨List.nodup_nil, by simp⟩
  have hta : ∀ x ∈ metF g, t.argsOf (F x) = (g.argsOf x).map F := fun x hx => by
    have := hn x hx
    show (t.nd (F x)).args = _
    rw [this]
    rfl
  have hml := (met_ok hg).le
  have hlen : ((metF g).map F).length = (metF g).length := by simp
  have h1 := meet_map hc hF hta g.nodes.length g.roots [] (met_root hg) hS
  have hcS : ∀ x ∈ (metF g).map F, ∀ y ∈ t.argsOf x, y ∈ (metF g).map F := fun x hx y hy => by
    obtain ⟨z, hz, rfl⟩ := List.mem_map.1 hx
    rw [hta z hz] at hy
    obtain ⟨u, hu, rfl⟩ := List.mem_map.1 hy
    exact List.mem_map.2 ⟨u, hc z hz u hu, rfl⟩
  have hrS : ∀ x ∈ t.roots, x ∈ (metF g).map F := fun x hx => by
    rw [hr] at hx
    obtain ⟨z, hz, rfl⟩ := List.mem_map.1 hx
    exact List.mem_map.2 ⟨z, met_root hg z hz, rfl⟩
  have hS' : In ((metF g).map F) [] := ⟨List.nodup_nil, by simp⟩
  have hin := meet_inS hcS t.nodes.length t.roots [] hrS hS'
  have hmt : metF t = (metF g).map F := by
    have h2 := meet_fuel hcS (g.nodes.length + t.nodes.length) g.nodes.length t.roots [] hrS hS' (by rw [hlen]; simp; omega) (by rw [hlen]; simp; omega)
    have hcT := met_arg ht
    have hST : In (metF t) [] := ⟨List.nodup_nil, by simp⟩
    have hmlt := (met_ok ht).le
    have h3 := meet_fuel hcT t.nodes.length (g.nodes.length + t.nodes.length) t.roots [] (met_root ht) hST (by simp; omega) (by simp; omega)
    have h4 : metF t = meetF t t.nodes.length t.roots [] := rfl
    rw [h4, h3, h2, hr]
    exact h1
  have hpos : ∀ x ∈ metF g, posF (metF t) (F x) = posF (metF g) x := fun x hx => by
    rw [hmt]
    unfold posF
    rw [if_pos hx, if_pos (List.mem_map.2 ⟨x, hx, rfl⟩), pos_map (fun y hy e => hF y hy x hx e)]
  have hnodes : (metF t).map (fun x => renum (posF (metF t)) (t.nodes.getD x.toNat nd0)) = (metF g).map (fun x => renum (posF (metF g)) (g.nodes.getD x.toNat nd0)) := by
    rw [show (metF t).map (fun x => renum (posF (metF t)) (t.nodes.getD x.toNat nd0)) = ((metF g).map F).map (fun x => renum (posF (metF t)) (t.nodes.getD x.toNat nd0)) from congrArg (fun m => m.map (fun x => renum (posF (metF t)) (t.nodes.getD x.toNat nd0))) hmt]
    rw [List.map_map]
    apply List.map_congr_left
    intro x hx
    show renum (posF (metF t)) (t.nd (F x)) = renum (posF (metF g)) (g.nd x)
    rw [hn x hx]
    unfold renum
    congr 1
    rw [List.map_map]
    apply List.map_congr_left
    intro y hy
    exact hpos y (hc x hx y hy)
  have hroots : t.roots.map (posF (metF t)) = g.roots.map (posF (metF g)) := by
    rw [hr, List.map_map]
    apply List.map_congr_left
    intro y hy
    exact hpos y (met_root hg y hy)
  unfold trimF
  rw [hnodes, hroots]
/-- A pairing of the nodes of two graphs. -/
structure Pr (a b : Gf) (R : Int → Int → Prop) : Prop where
  rng : ∀ x y, R x y → isN a x ∧ isN b y
  lab : ∀ x y, R x y → (a.nd x).kind = (b.nd y).kind ∧ (a.nd x).name = (b.nd y).name ∧ (a.nd x).num = (b.nd y).num ∧ (a.nd x).args.length = (b.nd y).args.length
  arg : ∀ x y, R x y → ∀ k, k < (a.nd x).args.length → R (a.arg x k) (b.arg y k)
  v1 : ∀ x y y', R x y → R x y' → (a.nd x).kind = 1 → y = y'
  v2 : ∀ x x' y, R x y → R x' y → (b.nd y).kind = 1 → x = x'
  len : a.roots.length = b.roots.length
  root : ∀ i, i < a.roots.length → R (a.roots.getD i 0) (b.roots.getD i 0)
theorem Pr.symm {a b : Gf} {R : Int → Int → Prop} (h : Pr a b R) : Pr b a (fun y x => R x y) :=
  ⟨fun y x r => ⟨(h.rng x y r).2, (h.rng x y r).1⟩, fun y x r => by
    obtain ⟨h1, h2, h3, h4⟩ := h.lab x y r
    exact ⟨h1.symm, h2.symm, h3.symm, h4.symm⟩, fun y x r k hk => h.arg x y r k (by rw [(h.lab x y r).2.2.2]; exact hk), fun y x x' r r' hk => h.v2 x x' y r r' hk, fun y y' x r r' hk => h.v1 x y y' r r' hk, h.len.symm, fun i hi => h.root i (by rw [h.len]; exact hi)⟩
/-- What is alike on one side is alike on the other. -/
theorem Pr.al {a b : Gf} {R : Int → Int → Prop} (h : Pr a b R) {x x' y y' : Int} (h1 : R x y) (h2 : R x' y') (hal : Al a x x') : Al b y y' := by
  refine ⟨fun u v => ∃ s t, R s u ∧ R t v ∧ Al a s t, fun u v huv => ?_, x, x', h1, h2, hal⟩
  obtain ⟨s, t, hs, ht, hst⟩ := huv
  obtain ⟨_, _, hl, ha⟩ := al_sim a s t hst
  obtain ⟨l1, l2, l3, l4⟩ := h.lab s u hs
  obtain ⟨m1, m2, m3, m4⟩ := h.lab t v ht
  refine ⟨(h.rng s u hs).2, (h.rng t v ht).2, ⟨by rw [← l1, hl.1, m1], by rw [← l2, hl.2.1, m2], by rw [← l3, hl.2.2.1, m3], by rw [← l4, hl.2.2.2.1, m4], fun hk => ?_⟩, fun k hk => ?_⟩
  · have e : s = t := hl.2.2.2.2 (l1.trans hk)
    subst e
    exact h.v1 s u v hs ht (l1.trans hk)
  · have hk1 : k < (a.nd s).args.length := by rw [l4]; exact hk
    have hk2 : k < (a.nd t).args.length := by rw [← hl.2.2.2.1]; exact hk1
    exact ⟨_, _, h.arg s u hs k hk1, h.arg t v ht k hk2, ha k hk1⟩
theorem list_mem_getD {l : List Int} {x : Int} (h : x ∈ l) : ∃ i, i < l.length ∧ l.getD i 0 = x := by
  obtain ⟨i, hi, e⟩ := List.getElem_of_mem h
  exact ⟨i, hi, by simp [List.getD, hi, e]⟩
/-- A pairing makes the least graphs the same. -/
theorem Pr.least {a b : Gf} (ha : Good a) (hb : Good b) {ea eb : Nat → Nat → Bool} (hda : ∀ x y : Nat, (ea x y = true ↔ Al a (x : Int) (y : Int))) (hdb : ∀ x y : Nat, (eb x y = true ↔ Al b (x : Int) (y : Int))) {R : Int → Int → Prop} (h : Pr a b R) : trimF (quoF ea a) = trimF (quoF eb b) := by
  have hA := quo_good ha (al_eqv ha hda)
  have hB := quo_good hb (al_eqv hb hdb)
  let Q : Int → Int → Prop := fun c d => ∃ x y, R x y ∧ clsI ea a.nodes.length x = c ∧ clsI eb b.nodes.length y = d
  have hfun : ∀ c d d', Q c d → Q c d' → d = d' := by
    rintro c d d' ⟨x, y, r, rfl, rfl⟩ ⟨x', y', r', e, rfl⟩
    have h1 := h.rng x y r
    have h2 := h.rng x' y' r'
    exact (cls_al hb hdb h1.2 h2.2).2 (h.al r r' ((cls_al ha hda h1.1 h2.1).1 e.symm))
  have hinj : ∀ c c' d, Q c d → Q c' d → c = c' := by
    rintro c c' d ⟨x, y, r, rfl, rfl⟩ ⟨x', y', r', rfl, e⟩
    have h1 := h.rng x y r
    have h2 := h.rng x' y' r'
    exact (cls_al ha hda h1.1 h2.1).2 (h.symm.al r r' ((cls_al hb hdb h1.2 h2.2).1 e.symm))
  have hFex : ∃ F : Int → Int, ∀ c d, Q c d → F c = d := by
    refine ⟨fun c => @dite _ (∃ d, Q c d) (Classical.propDecidable _) (fun hx => Classical.choose hx) (fun _ => 0), fun c d hcd => ?_⟩
    have hx : ∃ d, Q c d := ⟨d, hcd⟩
    show @dite _ (∃ d, Q c d) (Classical.propDecidable _) (fun hx => Classical.choose hx) (fun _ => 0) = d
    rw [dif_pos hx]
    exact hfun c _ d (Classical.choose_spec hx) hcd
  obtain ⟨F, hF⟩ := hFex
  have hstep : ∀ c d, Q c d → (quoF eb b).nd (F c) = renum F ((quoF ea a).nd c) ∧ ∀ y ∈ (quoF ea a).argsOf c, ∃ d, Q y d := by
    rintro c d ⟨x, y, r, rfl, rfl⟩
    have hr := h.rng x y r
    have hl := h.lab x y r
    rw [hF _ _ ⟨x, y, r, rfl, rfl⟩, quo_nd hb hdb hr.2]
    have ea1 : (quoF ea a).argsOf (clsI ea a.nodes.length x) = (a.nd x).args.map (clsI ea a.nodes.length) := by
      show ((quoF ea a).nd _).args = _
      rw [quo_nd ha hda hr.1]
      rfl
    refine ⟨?_, fun z hz => ?_⟩
    · rw [quo_nd ha hda hr.1]
      unfold renum
      simp only
      rw [hl.1, hl.2.1, hl.2.2.1]
      congr 1
      apply list_ext0
      · simp [hl.2.2.2]
      · intro j hj
        have hj' : j < (b.nd y).args.length := by simpa using hj
        have hjx : j < (a.nd x).args.length := by rw [hl.2.2.2]; exact hj'
        have e2 : ((b.nd y).args.map (clsI eb b.nodes.length)).getD j 0 = clsI eb b.nodes.length (b.arg y j) := by simp [Gf.arg, List.getD, hj']
        have e3 : (((a.nd x).args.map (clsI ea a.nodes.length)).map F).getD j 0 = F (clsI ea a.nodes.length (a.arg x j)) := by simp [Gf.arg, List.getD, hjx]
        rw [e2, e3]
        exact (hF _ _ ⟨_, _, h.arg x y r j hjx, rfl, rfl⟩).symm
    · rw [ea1] at hz
      obtain ⟨u, hu, rfl⟩ := List.mem_map.1 hz
      obtain ⟨j, hj, rfl⟩ := list_mem_getD hu
      exact ⟨_, _, _, h.arg x y r j hj, rfl, rfl⟩
  have hmet : ∀ c ∈ metF (quoF ea a), ∃ d, Q c d := by
    refine meet_in (fun c => ∃ d, Q c d) (fun c hc y hy => ?_) _ _ _ (fun c hc => ?_) (by simp)
    · obtain ⟨d, hd⟩ := hc
      exact (hstep c d hd).2 y hy
    · obtain ⟨z, hz, rfl⟩ := List.mem_map.1 hc
      obtain ⟨i, hi, rfl⟩ := list_mem_getD hz
      exact ⟨_, _, _, h.root i hi, rfl, rfl⟩
  refine (trim_iso hA hB (F := F) (fun c hc c' hc' e => ?_) (fun c hc => ?_) ?_).symm
  · obtain ⟨d, hd⟩ := hmet c hc
    obtain ⟨d', hd'⟩ := hmet c' hc'
    rw [hF c d hd, hF c' d' hd'] at e
    subst e
    exact hinj c c' d hd hd'
  · obtain ⟨d, hd⟩ := hmet c hc
    exact (hstep c d hd).1
  · show b.roots.map _ = (a.roots.map _).map F
    apply list_ext0
    · simp [h.len]
    · intro j hj
      have hj' : j < b.roots.length := by simpa using hj
      have hja : j < a.roots.length := by rw [h.len]; exact hj'
      have e2 : (b.roots.map (clsI eb b.nodes.length)).getD j 0 = clsI eb b.nodes.length (b.roots.getD j 0) := by simp [List.getD, hj']
      have e3 : ((a.roots.map (clsI ea a.nodes.length)).map F).getD j 0 = F (clsI ea a.nodes.length (a.roots.getD j 0)) := by simp [List.getD, hja]
      rw [e2, e3]
      exact (hF _ _ ⟨_, _, h.root j hja, rfl, rfl⟩).symm
/-- The number of a node in the least graph. -/
def lstI (e : Nat → Nat → Bool) (g : Gf) (x : Int) : Int := posF (metF (quoF e g)) (clsI e g.nodes.length x)
/-- A node that is met from the roots: so is its class, and its number in the least graph is labelled as it is. -/
theorem met_cls {g : Gf} (hg : Good g) {e : Nat → Nat → Bool} (hd : ∀ x y : Nat, (e x y = true ↔ Al g (x : Int) (y : Int))) : ∀ x ∈ metF g, isN g x ∧ clsI e g.nodes.length x ∈ metF (quoF e g) := by
  have hq := quo_good hg (al_eqv hg hd)
  refine meet_in (fun x => isN g x ∧ clsI e g.nodes.length x ∈ metF (quoF e g)) (fun x hx y hy => ?_) _ _ _ (fun x hx => ?_) (by simp)
  · obtain ⟨hx, hm⟩ := hx
    refine ⟨(hg.args hx.1 hx.2).1 y hy, met_arg hq _ hm _ ?_⟩
    show _ ∈ ((quoF e g).nd _).args
    rw [quo_nd hg hd hx]
    exact List.mem_map.2 ⟨y, hy, rfl⟩
  · exact ⟨hg.root x hx, met_root hq _ (List.mem_map.2 ⟨x, hx, rfl⟩)⟩
theorem least_nd {g : Gf} (hg : Good g) {e : Nat → Nat → Bool} (hd : ∀ x y : Nat, (e x y = true ↔ Al g (x : Int) (y : Int))) {x : Int} (hx : x ∈ metF g) : (trimF (quoF e g)).nd (lstI e g x) = renum (lstI e g) (g.nd x) := by
  have hq := quo_good hg (al_eqv hg hd)
  obtain ⟨h1, h2⟩ := met_cls hg hd x hx
  have h3 : (trimF (quoF e g)).nd (lstI e g x) = renum (posF (metF (quoF e g))) ((quoF e g).nd (clsI e g.nodes.length x)) := trim_node hq _ h2
  rw [h3, quo_nd hg hd h1]
  unfold renum
  congr 1
  rw [List.map_map]
  rfl
theorem least_al {g : Gf} (hg : Good g) {e : Nat → Nat → Bool} (hd : ∀ x y : Nat, (e x y = true ↔ Al g (x : Int) (y : Int))) {x y : Int} (hx : x ∈ metF g) (hy : y ∈ metF g) : lstI e g x = lstI e g y ↔ Al g x y := by
  have hq := quo_good hg (al_eqv hg hd)
  obtain ⟨h1, h2⟩ := met_cls hg hd x hx
  obtain ⟨k1, k2⟩ := met_cls hg hd y hy
  rw [← cls_al hg hd h1 k1]
  exact ⟨fun e => pos_inj hq _ h2 _ k2 e, fun e => by unfold lstI; rw [e]⟩
theorem least_rng {g : Gf} (hg : Good g) {e : Nat → Nat → Bool} (hd : ∀ x y : Nat, (e x y = true ↔ Al g (x : Int) (y : Int))) {x : Int} (hx : x ∈ metF g) : isN (trimF (quoF e g)) (lstI e g x) := by
  have hq := quo_good hg (al_eqv hg hd)
  obtain ⟨h1, h2⟩ := met_cls hg hd x hx
  have := pos_rng hq _ h2
  exact ⟨this.1, by rw [trim_len hq]; exact this.2⟩
theorem least_root (e : Nat → Nat → Bool) (g : Gf) : (trimF (quoF e g)).roots = g.roots.map (lstI e g) := by
  show (g.roots.map _).map _ = _
  rw [List.map_map]
  rfl
theorem metF_root {g : Gf} (hg : Good g) {i : Nat} (hi : i < g.roots.length) : g.roots.getD i 0 ∈ metF g := met_root hg _ (getD_mem hi)
theorem met_argk {g : Gf} (hg : Good g) {x : Int} (hx : x ∈ metF g) {k : Nat} (hk : k < (g.nd x).args.length) : g.arg x k ∈ metF g := met_arg hg x hx _ (getD_mem hk)
theorem renum_inv {F G : Int → Int} {m n : Nd} (h : renum F m = renum G n) : m.kind = n.kind ∧ m.name = n.name ∧ m.num = n.num ∧ m.args.map F = n.args.map G := by
  unfold renum at h
  injection h with h1 h2 h3 h4
  exact ⟨h1, h2, h3, h4⟩
/-- The same least graphs: a pairing. -/
theorem least_pr {a b : Gf} (ha : Good a) (hb : Good b) {ea eb : Nat → Nat → Bool} (hda : ∀ x y : Nat, (ea x y = true ↔ Al a (x : Int) (y : Int))) (hdb : ∀ x y : Nat, (eb x y = true ↔ Al b (x : Int) (y : Int))) (h : trimF (quoF ea a) = trimF (quoF eb b)) : Pr a b (fun x y => x ∈ metF a ∧ y ∈ metF b ∧ lstI ea a x = lstI eb b y) := by
  have hlab : ∀ x y, x ∈ metF a → y ∈ metF b → lstI ea a x = lstI eb b y → renum (lstI ea a) (a.nd x) = renum (lstI eb b) (b.nd y) := fun x y hx hy e => by
    rw [← least_nd ha hda hx, ← least_nd hb hdb hy, h, e]
  have hrt : a.roots.map (lstI ea a) = b.roots.map (lstI eb b) := by rw [← least_root, ← least_root, h]
  have hlen : a.roots.length = b.roots.length := by simpa using congrArg List.length hrt
  refine ⟨fun x y ⟨hx, hy, _⟩ => ⟨(met_ok ha).rng x hx, (met_ok hb).rng y hy⟩, fun x y ⟨hx, hy, e⟩ => ?_, fun x y ⟨hx, hy, e⟩ k hk => ?_, fun x y y' ⟨hx, hy, e⟩ ⟨_, hy', e'⟩ hk => ?_, fun x x' y ⟨hx, hy, e⟩ ⟨hx', _, e'⟩ hk => ?_, hlen, fun i hi => ?_⟩
  · obtain ⟨h1, h2, h3, h4⟩ := renum_inv (hlab x y hx hy e)
    exact ⟨h1, h2, h3, by simpa using congrArg List.length h4⟩
  · obtain ⟨h1, h2, h3, h4⟩ := renum_inv (hlab x y hx hy e)
    have hl : (a.nd x).args.length = (b.nd y).args.length := by simpa using congrArg List.length h4
    have hkb : k < (b.nd y).args.length := by omega
    have h5 := congrArg (fun l => l.getD k 0) h4
    refine ⟨met_argk ha hx hk, met_argk hb hy hkb, ?_⟩
    simp [List.getD, hk, hkb] at h5
    simpa [Gf.arg, List.getD, hk, hkb] using h5
  · obtain ⟨h1, _⟩ := renum_inv (hlab x y hx hy e)
    have hal := (least_al hb hdb hy hy').1 (e.symm.trans e')
    exact (al_sim b y y' hal).2.2.1.2.2.2.2 (h1.symm.trans hk)
  · obtain ⟨h1, _⟩ := renum_inv (hlab x y hx hy e)
    have hal := (least_al ha hda hx hx').1 (e.trans e'.symm)
    exact (al_sim a x x' hal).2.2.1.2.2.2.2 (h1.trans hk)
  · have hib : i < b.roots.length := by omega
    refine ⟨metF_root ha hi, metF_root hb hib, ?_⟩
    have h5 := congrArg (fun l => l.getD i 0) hrt
    simp [List.getD, hi, hib] at h5
    simpa [List.getD, hi, hib] using h5
end Go.Proofs.Ytllafbghomohhaa

/- Quotient of package bisim, at every good graph. -/
namespace Go.Proofs.Ytllafbghomohhaa
open Go.RowKit

/-- The loop over the least nodes: the nodes so far, the roots beside them. -/
structure Tq (w3 w : World) (rv : Value) (ns : List Nd) (ao : Option Addr) (c : Nat) (avs : List Value) : Prop where
  b : Below w3.heap.size w3 w
  out : w.heap[w3.heap.size]? = some (.cells #[.slice ao ns.length c, rv] 25 (0, 0))
  on : On w (w3.heap.size + 1) (.slice ao ns.length c) avs ns
theorem Tq.step {w3 wr w4 w5 : World} {rv : Value} {NS : List Nd} {n : Nd} {F : Int → Int} {ao aa : Option Addr} {c ac j g cap : Nat} {avs : List Value} (hT : Tq w3 wr rv NS ao c avs) (hL : NS.length = j) (hb : Below wr.heap.size wr w4)
    (ha : w4.ownsRow wr.heap.size 3 1 (.slice aa n.args.length ac) n.args.length ((n.args.map F).map (Value.int .i64))) (o : Obj)
    (hg : (w4.alloc o).grownBy w5 (Value.ownBlock (.slice ao j c))) (hown : w5.ownsRow (w3.heap.size + 1) 56 4 (.slice (some ⟨g, 0, none⟩) (j + 1) cap) (j + 1) (ncells NS avs ++ [.int .i64 n.kind, .string n.name, .int .i64 n.num, .slice aa n.args.length ac]))
    (hat : Value.ownBlock (.slice ao j c) = some g ∨ g = w4.heap.size + 1) :
    Tq w3 (w5.setCell ⟨w3.heap.size, 0, none⟩ (.slice (some ⟨g, 0, none⟩) (j + 1) cap)) rv (NS ++ [renum F n]) (some ⟨g, 0, none⟩) cap (avs ++ [.slice aa n.args.length ac]) := by
  subst hL
  have hl : (renum F n).args.length = n.args.length := by simp [renum]
  have hz := lt_of_block hT.out
  have hz4 := hb.size
  have hnv : ∀ k, Value.ownBlock (.slice ao NS.length c) = some k → w3.heap.size + 1 ≤ k := fun k e => (hT.on.n.lt k e).1
  have hP : On w5 (w3.heap.size + 1) (.slice (some ⟨g, 0, none⟩) (NS.length + 1) cap) (avs ++ [.slice aa n.args.length ac]) (NS ++ [renum F n]) := by
    have hP := On.push (n := renum F n) (ao := aa) (c := ac) (g := g) (cap := cap) hT.on (hb.alloc hz4 o) (by rw [hl]; exact ha.alloc o) (by omega) hg (by rw [hl]; exact hown) (by
      rcases hat with e | e
      · exact Or.inl e
      · exact Or.inr (by simp; omega))
    rw [hl] at hP
    exact hP
  have hgb : w3.heap.size < g := by
    rcases hat with e | e
    · have := hnv g e
      omega
    · omega
  have h5 : w5.heap[w3.heap.size]? = some (.cells #[.slice ao NS.length c, rv] 25) := by
    rw [hg.block _ (by simp; omega) (fun e => by have := hnv _ e.symm; omega), Below.heap_alloc _ _ _ (by omega), hb.block _ hz]
    exact hT.out
  refine ⟨?_, ?_, ?_⟩
  · have h1 : Below w3.heap.size w3 (w4.alloc o) := (Below.next hT.b hb).alloc (by have := hT.b.size; omega) o
    exact (h1.grown hg (by simp; omega) (fun k e => by have := hnv k e; omega)).setCell (Nat.le_refl _) _
  · rw [blk2_set0 h5]
    simp
  · rw [List.length_append, List.length_singleton]
    exact hP.keep (fun k hk => Below.heap_setCell _ _ _ _ (by have := (hP.lt k hk).1; show k ≠ w3.heap.size; omega))
theorem og_far {w : World} {B q i : Nat} {nv rv v : Value} {avs : List Value} {g : Gf} (h : Og w B nv rv avs g) (hq : q < B) : Og (w.setCell ⟨q, i, none⟩ v) B nv rv avs g := by
  have hk : ∀ k, B ≤ k → (w.setCell ⟨q, i, none⟩ v).heap[k]? = w.heap[k]? := fun k hk => Below.heap_setCell _ _ _ _ (by show k ≠ q; omega)
  obtain ⟨ao, c, e, ho⟩ := h.r
  exact ⟨h.on.keep (fun k hk' => hk k (h.on.lt k hk').1), h.nsl, ⟨ao, c, e, own_block ho (fun k ek => hk k (ho.lt k ek).1)⟩, h.ap⟩
theorem og_base {w : World} {B B' : Nat} {nv rv : Value} {avs : List Value} {g : Gf} (h : Og w B nv rv avs g) (hB : B' ≤ B) : Og w B' nv rv avs g := by
  obtain ⟨ao, c, e, ho⟩ := h.r
  exact ⟨⟨own_base h.on.n hB, h.on.len, fun j hj => by
    obtain ⟨a, b, e1, e2⟩ := h.on.a j hj
    exact ⟨a, b, e1, own_base e2 hB⟩, h.on.nd⟩, h.nsl, ⟨ao, c, e, own_base ho hB⟩, h.ap⟩
theorem good_sized {g : Gf} (hg : Good g) : Sized g := fun n hn => by
  have := good_name (hg.node n hn)
  omega
theorem ansC0 (e : Nat → Nat → Bool) (N : Nat) : ansC e N 0 = ints (csF e N) := rfl
theorem ansC1 (e : Nat → Nat → Bool) (N : Nat) : ansC e N 1 = ints (lsF e N) := rfl
theorem Fm.two {w : World} {B : Nat} {t2 t3 : Value} {e : Nat → Nat → Bool} {N : Nat} (h : Fm w B [t2, t3] (ansC e N)) : Ri w t2 (ints (csF e N)) ∧ Ri w t3 (ints (lsF e N)) := by
  have h0 := h.own 0 (by simp)
  have h1 := h.own 1 (by simp)
  rw [ansC0] at h0
  rw [ansC1] at h1
  obtain ⟨a0, c0, e0⟩ := own_sl h0
  obtain ⟨a1, c1, e1⟩ := own_sl h1
  have e0' : t2 = .slice a0 (ints (csF e N)).length c0 := e0
  have e1' : t3 = .slice a1 (ints (lsF e N)).length c1 := e1
  subst e0' e1'
  exact ⟨Ri.ofOwn h0, Ri.ofOwn h1⟩
set_option maxRecDepth 100000 in
set_option maxHeartbeats 8000000 in
theorem quot_good {W : World} {nv rv : Value} {g : Gf} (hG : Gr W nv rv g) (hS : Sized g) (hb : one (chk g) = []) (ee : Nat → Nat → Bool) (he : ∀ x y : Nat, (ee x y = true ↔ Al g (x : Int) (y : Int))) :
    Calls Try.prog 24 #[.agg #[nv, rv]] W fun r w' => (∃ nv' rv' avs, r = .returned (.tuple #[.agg #[nv', rv'], .nilIface]) ∧ Og w' W.heap.size nv' rv' avs (trimF (quoF ee g))) ∧ Below W.heap.size W w' := by
  obtain ⟨i1, hi1, hy0, hy1, hy2⟩ := info_parts infoN
  have hg := chk_good hb
  have hev := al_eqv hg he
  have hq := quo_good hg hev
  have hgn := hg.nodes
  have hgr := hg.roots
  have hll := lsF_le ee g.nodes.length
  have hllt := lsF_lt ee g.nodes.length
  have hcl := csF_len ee g.nodes.length
  have hb2 : Below W.heap.size W ((W.alloc (.cells #[nv, rv] 25)).alloc (.cells #[.slice none 0 0, .slice none 0 0] 25)) := (below_alloc W _).alloc (by simp) _
  have hal := alike_good (hG.below hb2) hS hb ee (fun x y _ _ => he x y)
  obtain ⟨na, nc, rfl, hNc⟩ := hG.1
  obtain ⟨ra, rc, rfl, _⟩ := hG.2
  have hC : ∀ w1 : World, Below ((W.alloc (.cells #[.slice na g.nodes.length nc, .slice ra g.roots.length rc] 25)).alloc (.cells #[.slice none 0 0, .slice none 0 0] 25)).heap.size ((W.alloc (.cells #[.slice na g.nodes.length nc, .slice ra g.roots.length rc] 25)).alloc (.cells #[.slice none 0 0, .slice none 0 0] 25)) w1 →
      w1.heap[W.heap.size + 1]? = some (.cells #[.slice none 0 0, .slice none 0 0] 25) ∧ w1.heap[W.heap.size]? = some (.cells #[.slice na g.nodes.length nc, .slice ra g.roots.length rc] 25) ∧ W.heap.size + 1 < w1.heap.size := fun w1 hb => by
    refine ⟨?_, ?_, ?_⟩
    · rw [hb.block _ (by simp)]
      simpa using heap_alloc_new (W.alloc (.cells #[.slice na g.nodes.length nc, .slice ra g.roots.length rc] 25)) (.cells #[.slice none 0 0, .slice none 0 0] 25)
    · rw [hb.block _ (by simp <;> omega), Below.heap_alloc _ _ _ (by simp)]
      exact heap_alloc_new W _
    · have := hb.size
      simp at this
      omega
  have hcr : Hid (∀ (w1 : World) (t2 : Value), Below W.heap.size W w1 → Ri w1 t2 (ints (csF ee g.nodes.length)) → Calls Try.prog 44 #[.slice ra g.roots.length rc, t2] w1 fun e w' => (∃ ao c, e = .returned (.slice ao g.roots.length c) ∧ w'.ownsRow w1.heap.size 3 1 (.slice ao g.roots.length c) g.roots.length ((g.roots.map (clsI ee g.nodes.length)).map (Value.int .i64))) ∧ Below w1.heap.size w1 w') := fun w1 t2 h1 h2 => classesOf_any (hG.2.below h1) h2 (fun x hx => by rw [ints_len, hcl]; exact hg.root x hx) (by omega)
  have hHG := hid hG
  clear hG
  go_enter Try.func24, Try.ntmps24
  have hlL := ints_len (lsF ee g.nodes.length)
  obtain ⟨L, hLd⟩ : ∃ L, L = (lsF ee g.nodes.length).length := ⟨_, rfl⟩
  rw [← hLd] at hlL hll
  have HLd := hid hLd
  clear hLd
  go_wp2_with (first
    | (go_at_call 43; refine hal.mono ?_; rintro e w1 ⟨⟨t2, t3, rfl, hF⟩, hb1⟩; obtain ⟨k1, k0, k2⟩ := hC w1 hb1; obtain ⟨⟨c0, c1⟩, _⟩ := blk2 k0; have hbw := Below.next hb2 hb1; obtain ⟨hR2, la, lc, rfl, hR3⟩ := hF.two; rw [hlL] at hR3 ⊢; clear hal hC hF)
    | (go_at_call 44; refine (hcr.out w1 t2 hbw hR2).mono ?_; rintro e w2 ⟨⟨ro, rcc, rfl, hro⟩, hb3⟩; clear c0 c1))
  have hT0 : Hid (Tq w2 (w2.alloc (.cells #[.slice none 0 0, .slice ro g.roots.length rcc] 25)) (.slice ro g.roots.length rcc) [] none 0 []) := ⟨below_alloc _ _, heap_alloc_new w2 _, On.nil _ _⟩
  have hbW2 := Below.next hbw hb3
  have hz2 := hb3.size
  have k0' : w2.heap[W.heap.size]? = some (.cells #[.slice na g.nodes.length nc, .slice ra g.roots.length rc] 25) := by rw [hb3.block _ (by omega)]; exact k0
  have k1' : w2.heap[W.heap.size + 1]? = some (.cells #[.slice none 0 0, .slice none 0 0] 25) := by rw [hb3.block _ k2]; exact k1
  have hHR2 := hid (hR2.below hb3)
  have hHR3 : Hid (∀ j, j < L → ∃ b o, la = some ⟨b, o, none⟩ ∧ w2.cell? ⟨b, o + j, none⟩ = some (.int .i64 ((ints (lsF ee g.nodes.length)).getD j 0))) := fun j hj => by
    obtain ⟨b, o, h1, h2⟩ := hR3 j hj
    exact ⟨b, o, h1, by rw [hb3.cell (p := ⟨b, o + j, none⟩) (lt_of_cell h2)]; exact h2⟩
  have Hro := hid hro
  have hHN := hid hNc
  clear hcr hR2 hR3 hro k0 k1 hb2 hNc
  go_wp2
  go_loopw [28] (fun i wr => ∃ (k : Nat) (ao : Option Addr) (c : Nat) (avs : List Value), k ≤ L ∧ i = .int .i64 k ∧ Hid (Tq w2 wr (.slice ro g.roots.length rcc) (((lsF ee g.nodes.length).take k).map (fun n => renum (clsI ee g.nodes.length) (g.nodes.getD n nd0))) ao c avs)) (fun i _ => L - (intOf i).toNat)
  case atStart => exact ⟨0, none, 0, [], Nat.zero_le _, rfl, by simpa [Hid] using hT0⟩
  case round =>
    clear hT0
    obtain ⟨j, ao, c, avs, hj, rfl, hT⟩ := hrel
    by_cases hjl : j < L
    · have hjl' : j < (lsF ee g.nodes.length).length := by rw [← HLd.out]; exact hjl
      have hts := ntake_snoc hjl'
      have hnN := hllt _ (nget_mem hjl')
      obtain ⟨lb, lo, hla, hlc⟩ := hHR3.out j hjl
      subst hla
      rw [ints_get hjl'] at hlc
      have hlc' : wr.cell? ⟨lb, lo + j, none⟩ = some (.int .i64 (((lsF ee g.nodes.length).getD j 0 : Nat) : Int)) := by rw [hT.out.b.cell (p := ⟨lb, lo + j, none⟩) (lt_of_cell hlc)]; exact hlc
      generalize (lsF ee g.nodes.length).getD j 0 = n at hts hnN hlc'
      have hbe := Below.next hbW2 hT.out.b
      obtain ⟨nb, no, av, rfl, hnd⟩ := hHN.out n hnN
      obtain ⟨n0, n1, n2, n3, hA⟩ := hnd.below hbe
      have hga := good_args (hg.node (g.nodes.getD n nd0) (by simp [List.getD, hnN]))
      have hNS : Hid (((lsF ee g.nodes.length).take (j + 1)).map (fun n => renum (clsI ee g.nodes.length) (g.nodes.getD n nd0)) = ((lsF ee g.nodes.length).take j).map (fun n => renum (clsI ee g.nodes.length) (g.nodes.getD n nd0)) ++ [renum (clsI ee g.nodes.length) (g.nodes.getD n nd0)]) := by
        show _ = _
        rw [hts]
        simp
      have hL : (((lsF ee g.nodes.length).take j).map (fun n => renum (clsI ee g.nodes.length) (g.nodes.getD n nd0))).length = j := by simp; omega
      generalize ((lsF ee g.nodes.length).take j).map (fun n => renum (clsI ee g.nodes.length) (g.nodes.getD n nd0)) = NS at hT hNS hL
      have hcp : ∀ w : World, Below wr.heap.size wr w → Calls Try.prog 44 #[av, t2] w fun e w' => (∃ ao c, e = .returned (.slice ao (g.nodes.getD n nd0).args.length c) ∧ w'.ownsRow w.heap.size 3 1 (.slice ao (g.nodes.getD n nd0).args.length c) (g.nodes.getD n nd0).args.length (((g.nodes.getD n nd0).args.map (clsI ee g.nodes.length)).map (Value.int .i64))) ∧ Below w.heap.size w w' := fun w hb => classesOf_any (hA.below hb) (hHR2.out.below (Below.next hT.out.b hb)) (fun x hx => by rw [ints_len, hcl]; exact hga.1 x hx) (by omega)
      have e0 : wr.heap[W.heap.size]? = some (.cells #[.slice (some ⟨nb, no, none⟩) g.nodes.length nc, .slice ra g.roots.length rc] 25) := by rw [hT.out.b.block _ (by omega)]; exact k0'
      obtain ⟨⟨c0, _⟩, _⟩ := blk2 e0
      have hon := hT.out.on
      rw [hL] at hon
      have honn := hon.n
      rw [hL] at honn
      have hz4 := hT.out.b.size
      have hzo := lt_of_block hT.out.out
      have hout := hT.out.out
      rw [hL] at hout
      have hnv : ∀ k, Value.ownBlock (.slice ao j c) = some k → w2.heap.size + 1 ≤ k := fun k e => (hon.n.lt k e).1
      have hstep := hid (fun (w4 w5 : World) (aa : Option Addr) (ac gg cap : Nat) => Tq.step (w4 := w4) (w5 := w5) (aa := aa) (ac := ac) (g := gg) (cap := cap) (F := clsI ee g.nodes.length) (n := g.nodes.getD n nd0) hT.out hL)
      have hal := hga.2
      generalize g.nodes.getD n nd0 = x at n0 n1 n2 n3 hcp hNS hstep hA hal
      obtain ⟨kind, name, num, args⟩ := x
      dsimp only at n0 n1 n2 n3 hcp hstep hA hal
      obtain ⟨aa0, ac0, rfl, _⟩ := hA
      have hbd : Below wr.heap.size wr (wr.alloc (.cells #[.int .i64 kind, .string name, .int .i64 num, .slice aa0 args.length ac0] 56)) := below_alloc wr _
      have hnw := heap_alloc_new wr (.cells #[.int .i64 kind, .string name, .int .i64 num, .slice aa0 args.length ac0] 56)
      have hcall := hcp _ hbd
      have hzd := lt_of_block hnw
      have hfacts := hid (fun (w4 : World) (aa : Option Addr) (ac : Nat) (hb4 : Below (wr.alloc (.cells #[.int .i64 kind, .string name, .int .i64 num, .slice aa0 args.length ac0] 56)).heap.size (wr.alloc (.cells #[.int .i64 kind, .string name, .int .i64 num, .slice aa0 args.length ac0] 56)) w4) (hao : w4.ownsRow (wr.alloc (.cells #[.int .i64 kind, .string name, .int .i64 num, .slice aa0 args.length ac0] 56)).heap.size 3 1 (.slice aa args.length ac) args.length ((args.map (clsI ee g.nodes.length)).map (Value.int .i64))) => (show (w4.heap[wr.heap.size]? = some (.cells #[.int .i64 kind, .string name, .int .i64 num, .slice aa0 args.length ac0] 56)) ∧ Below wr.heap.size wr (w4.setCell ⟨wr.heap.size, 3, none⟩ (.slice aa args.length ac)) ∧ (w4.setCell ⟨wr.heap.size, 3, none⟩ (.slice aa args.length ac)).ownsRow wr.heap.size 3 1 (.slice aa args.length ac) args.length ((args.map (clsI ee g.nodes.length)).map (Value.int .i64)) from
        ⟨by rw [hb4.block _ hzd]; exact hnw, (Below.next hbd hb4).setCell (Nat.le_refl _) _, own_base (own_block hao (fun k e => Below.heap_setCell _ _ _ _ (by have := (hao.lt k e).1; simp at this; show k ≠ wr.heap.size; omega))) (by simp)⟩))
      clear hcp hnd hga hT hlc hts e0 k0' k1' k2
      go_wp2_with (first
        | (go_at_call 44; refine hcall.mono ?_; rintro e w4 ⟨⟨aa, ac, rfl, hao⟩, hb4⟩; obtain ⟨f0, hb4s, haos⟩ := hfacts.out w4 aa ac hb4 hao; obtain ⟨⟨f1, f2, f3, f4⟩, f5, f6, f7, f8⟩ := blk4 f0; have hon4 := World.ownsRow.alloc (own_below honn hb4s) (.cells #[.int .i64 kind, .string name, .int .i64 num, .slice aa args.length ac] 56); have d4 : (w4.setCell ⟨wr.heap.size, 3, none⟩ (.slice aa args.length ac)).heap[w2.heap.size]? = some (.cells #[.slice ao j c, .slice ro g.roots.length rcc] 25) := (by rw [hb4s.block _ hzo]; exact hout); obtain ⟨⟨g0, _⟩, g1, _⟩ := blk2 d4; obtain ⟨⟨gg0, _⟩, gg1, _⟩ := blk2 (((Below.next hbd hb4).block _ hzo).trans hout); have hsz4 : (w4.setCell ⟨wr.heap.size, 3, none⟩ (.slice aa args.length ac)).heap.size = w4.heap.size := (by simp); have hz5 := hb4s.size; rw [hsz4] at hz5; have hnews := heap_alloc_new (w4.setCell ⟨wr.heap.size, 3, none⟩ (.slice aa args.length ac)) (.cells #[.int .i64 kind, .string name, .int .i64 num, .slice aa args.length ac] 56); rw [hsz4] at hnews; clear hao hb4 hfacts hcall)
        | (at_builtin; refine wpList_append_lies _ rfl _ _ _ rfl (w2.heap.size + 1) 56 i1 (.agg #[.int .i64 0, .string ⟨#[]⟩, .int .i64 0, .slice none 0 0]) 4 56 Try.underlying22 hi1 hy0 hy1 hy2 rfl (by omega) _ j (ncells NS avs) rfl hon4 ⟨w4.heap.size, 0, none⟩ 1 1 [.int .i64 kind, .string name, .int .i64 num, .slice aa args.length ac] rfl rfl (World.news_of_block (cs := #[.int .i64 kind, .string name, .int .i64 num, .slice aa args.length ac]) (t := 56) (fr := (0, 0)) hnews) (by simp [Value.oneCell']) (by omega) (by unfold maxLen; omega) (by omega) (by simp; omega) (w4.heap.size + 1) (by simp) ?_; intro gg cap w5 hown5 hgr5 hat hlt5; have d5 : w5.heap[w2.heap.size]? = some (.cells #[.slice ao j c, .slice ro g.roots.length rcc] 25) := (by rw [hgr5.block _ (by simp; omega) (fun e => by have := hnv _ e.symm; omega), Below.heap_alloc _ _ _ (by simp; omega)]; exact d4); obtain ⟨⟨d0', _⟩, d1', _⟩ := blk2 d5))
      go_roundw
      case rel =>
        refine ⟨j + 1, some ⟨gg, 0, none⟩, cap, avs ++ [.slice aa args.length ac], by omega, congrArg (Value.int .i64) (by omega), ?_⟩
        show Tq _ _ _ _ _ _ _
        rw [hNS.out]
        exact hstep.out _ w5 aa ac gg cap hb4s haos _ hgr5 hown5 (by rw [hsz4]; exact hat)
      case measure => simp [intOf]; omega
    · have hTe : Hid (Tq w2 wr (.slice ro g.roots.length rcc) ((lsF ee g.nodes.length).map (fun n => renum (clsI ee g.nodes.length) (g.nodes.getD n nd0))) ao c avs) := by
        have := hT.out
        rw [List.take_of_length_le (by rw [← HLd.out]; omega)] at this
        exact this
      clear hT
      have hOut := hTe.out.out
      have hlm : ((lsF ee g.nodes.length).map (fun n => renum (clsI ee g.nodes.length) (g.nodes.getD n nd0))).length = L := by rw [List.length_map]; exact HLd.out.symm
      have hOn := hTe.out.on
      rw [hlm] at hOut
      obtain ⟨⟨o0, o1⟩, _⟩ := blk2 hOut
      have hGq : Gr wr (.slice ao L c) (.slice ro g.roots.length rcc) (quoF ee g) := by
        refine ⟨?_, ?_⟩
        · have := hOn.rn
          rw [hlm] at this
          exact this
        · have h1 := Ri.ofOwn (l := g.roots.map (clsI ee g.nodes.length)) (by rw [List.length_map]; exact Hro.out)
          rw [List.length_map] at h1
          exact h1.below hTe.out.b
      have htr := trim_good hGq (good_sized hq) (chk_of_good hq)
      have hbe := Below.next hbW2 hTe.out.b
      have e1 : wr.heap[W.heap.size + 1]? = some (.cells #[.slice none 0 0, .slice none 0 0] 25) := by rw [hTe.out.b.block _ (by omega)]; exact k1'
      have hze := lt_of_block e1
      have hF : Hid (∀ w5 : World, Below wr.heap.size wr w5 → w5.heap[W.heap.size + 1]? = some (.cells #[.slice none 0 0, .slice none 0 0] 25)) := fun w5 hb => by rw [hb.block _ hze]; exact e1
      clear hGq hOn hOut e1 k0' k1' hTe
      go_wp2_with (go_at_call 45; refine htr.mono ?_; rintro e w5 ⟨⟨nv5, rv5, avs5, rfl, hO5⟩, hb5⟩; obtain ⟨n5a, n5c, rfl⟩ := hO5.nsl; obtain ⟨r5a, r5c, rfl, _⟩ := hO5.r; have j1 := hF.out w5 hb5; obtain ⟨⟨r0, r1⟩, s0, s1⟩ := blk2 j1)
      refine bodyPost_ret (ret_gr Try.results24 (by rfl) (by rfl) (blk2_set j1)) rfl ⟨⟨_, _, avs5, rfl, ?_⟩, ?_⟩
      · exact og_base (og_far (og_far hO5 (by omega)) (by omega)) (by omega)
      · exact ((Below.next hbe hb5).setCell (by simp) _).setCell (by simp) _
end Go.Proofs.Ytllafbghomohhaa
