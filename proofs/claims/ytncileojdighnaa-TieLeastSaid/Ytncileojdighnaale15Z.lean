/- Good of package parse, at every term. -/
import Derived.Test.Ytncileojdighnaale13Z
import Derived.Test.Ytncileojdighnaale12Z
namespace Go.Proofs.Ytncileojdighnaa
set_option maxRecDepth 100000
open Go.RowKit
theorem beq_dec0 (n : Nat) : ((n : Int) == 0) = decide (n = 0) := by
  cases n with
  | zero => rfl
  | succ n => simp; omega
set_option maxHeartbeats 4000000 in
theorem goodAt_any (x : Ex) : GoodAtC x := by
  induction x using Ex.ind with
  | h k n m xs ih =>
    intro w v hx hz nest hn
    obtain ⟨av, rfl, hr⟩ := hx.parts
    have hb0 := below_alloc w (.cells #[.int .i64 k, .string n, .int .i64 m, av] 48)
    have hr1 := hr.next hb0
    have hzn : n.size ≤ 9223372036854775807 := Nat.le_trans hz.1 (by decide)
    obtain ⟨ao, c, rfl, _⟩ := hr
    generalize hN : xs.length = N at *
    have HN : Hid (xs.length = N) := hN
    by_cases h4 : (4096 : Int) < (nest : Int)
    · have hE : Hid (goodX nest (.mk k n m xs) = false) := show _ = _ by rw [goodX, if_pos (by omega)]
      clear ih hr1 hz hx hN
      go_enter Try.func72, Try.ntmps72
      go_wp2
      go_ret
      exact ⟨ret_bool hE.out.symm, hb0⟩
    · have h4' : ¬ 4096 < nest := by omega
      by_cases k1 : k = 1
      · subst k1
        have hv := fun w1 => isVar_big n w1 hzn
        cases hW : isW n 4 with
        | false =>
          have hE : Hid (goodX nest (.mk 1 n m xs) = false) := show _ = _ by rw [goodX, if_neg h4', if_pos rfl, hW]; rfl
          rw [hW] at hv
          clear ih hr1 hz hx hN hW h4'
          go_enter Try.func72, Try.ntmps72
          go_wp2_with (go_at_call 46; refine (hv _).mono ?_; rintro e w1 ⟨rfl, rfl⟩)
          go_ret
          exact ⟨ret_bool hE.out.symm, hb0⟩
        | true =>
          rw [hW] at hv
          by_cases hm : m = 0
          · subst hm
            have hE : Hid (goodX nest (.mk 1 n 0 xs) = ((N : Int) == 0)) := show _ = _ by rw [goodX, if_neg h4', if_pos rfl, hW, HN.out, beq_dec0]; simp
            clear ih hr1 hz hx hN hW h4'
            go_enter Try.func72, Try.ntmps72
            go_wp2_with (go_at_call 46; refine (hv _).mono ?_; rintro e w1 ⟨rfl, rfl⟩)
            go_ret
            exact ⟨ret_bool hE.out.symm, hb0⟩
          · have hE : Hid (goodX nest (.mk 1 n m xs) = false) := show _ = _ by rw [goodX, if_neg h4', if_pos rfl, decide_eq_false hm]; simp
            have hm' : (m == 0) = false := beq_eq_false_iff_ne.2 hm
            clear ih hr1 hz hx hN hW h4' hm
            go_enter Try.func72, Try.ntmps72
            go_wp2_with (go_at_call 46; refine (hv _).mono ?_; rintro e w1 ⟨rfl, rfl⟩)
            go_ret
            exact ⟨ret_bool hE.out.symm, hb0⟩
      · have k1' : (k == 1) = false := beq_eq_false_iff_ne.2 k1
        by_cases k2 : k = 2
        · subst k2
          have hv := fun w1 => good_any n w1 hzn
          cases hW : goodS n with
          | false =>
            have hE : Hid (goodX nest (.mk 2 n m xs) = false) := show _ = _ by rw [goodX, if_neg h4', if_neg k1, if_pos rfl, hW]; rfl
            rw [hW] at hv
            clear ih hr1 hz hx hN hW h4' k1 k1'
            go_enter Try.func72, Try.ntmps72
            go_wp2_with (go_at_call 93; refine (hv _).mono ?_; rintro e w1 ⟨rfl, rfl⟩)
            go_ret
            exact ⟨ret_bool hE.out.symm, hb0⟩
          | true =>
            rw [hW] at hv
            by_cases hm : m = 0
            · subst hm
              have hE : Hid (goodX nest (.mk 2 n 0 xs) = ((N : Int) == 0)) := show _ = _ by rw [goodX, if_neg h4', if_neg k1, if_pos rfl, hW, HN.out, beq_dec0]; simp
              clear ih hr1 hz hx hN hW h4' k1 k1'
              go_enter Try.func72, Try.ntmps72
              go_wp2_with (go_at_call 93; refine (hv _).mono ?_; rintro e w1 ⟨rfl, rfl⟩)
              go_ret
              exact ⟨ret_bool hE.out.symm, hb0⟩
            · have hE : Hid (goodX nest (.mk 2 n m xs) = false) := show _ = _ by rw [goodX, if_neg h4', if_neg k1, if_pos rfl, decide_eq_false hm]; simp
              have hm' : (m == 0) = false := beq_eq_false_iff_ne.2 hm
              clear ih hr1 hz hx hN hW h4' hm k1 k1'
              go_enter Try.func72, Try.ntmps72
              go_wp2_with (go_at_call 93; refine (hv _).mono ?_; rintro e w1 ⟨rfl, rfl⟩)
              go_ret
              exact ⟨ret_bool hE.out.symm, hb0⟩
        · have k2' : (k == 2) = false := beq_eq_false_iff_ne.2 k2
          by_cases k3 : k = 3
          · subst k3
            by_cases he : n.toList = []
            · by_cases h5 : (-1125899906842624 : Int) ≤ m
              · by_cases h6 : m ≤ (1125899906842624 : Int)
                · have hE : Hid (goodX nest (.mk 3 n m xs) = ((N : Int) == 0)) := show _ = _ by rw [goodX, if_neg h4', if_neg k1, if_neg k2, if_pos rfl, HN.out, beq_dec0]; simp [he, h5, h6]
                  clear ih hr1 hz hx hN h4' k1 k1' k2 k2'
                  go_enter Try.func72, Try.ntmps72
                  go_wp2
                  go_ret
                  exact ⟨ret_bool hE.out.symm, hb0⟩
                · have hE : Hid (goodX nest (.mk 3 n m xs) = false) := show _ = _ by rw [goodX, if_neg h4', if_neg k1, if_neg k2, if_pos rfl]; simp [h6]
                  clear ih hr1 hz hx hN h4' k1 k1' k2 k2'
                  go_enter Try.func72, Try.ntmps72
                  go_wp2
                  go_ret
                  exact ⟨ret_bool hE.out.symm, hb0⟩
              · have hE : Hid (goodX nest (.mk 3 n m xs) = false) := show _ = _ by rw [goodX, if_neg h4', if_neg k1, if_neg k2, if_pos rfl]; simp [h5]
                clear ih hr1 hz hx hN h4' k1 k1' k2 k2'
                go_enter Try.func72, Try.ntmps72
                go_wp2
                go_ret
                exact ⟨ret_bool hE.out.symm, hb0⟩
            · have hE : Hid (goodX nest (.mk 3 n m xs) = false) := show _ = _ by rw [goodX, if_neg h4', if_neg k1, if_neg k2, if_pos rfl, decide_eq_false he]; simp
              clear ih hr1 hz hx hN h4' k1 k1' k2 k2'
              go_enter Try.func72, Try.ntmps72
              go_wp2
              go_ret
              exact ⟨ret_bool hE.out.symm, hb0⟩
          · have k3' : (k == 3) = false := beq_eq_false_iff_ne.2 k3
            by_cases k4 : k = 4
            · subst k4
              have hv := fun w1 => good_any n w1 hzn
              cases hW : goodS n with
              | false =>
                have hE : Hid (goodX nest (.mk 4 n m xs) = false) := show _ = _ by rw [goodX, if_neg h4', if_neg k1, if_neg k2, if_neg k3, if_pos rfl, hW]; rfl
                rw [hW] at hv
                clear ih hr1 hz hx hN hW h4' k1 k1' k2 k2' k3 k3'
                go_enter Try.func72, Try.ntmps72
                go_wp2_with (go_at_call 93; refine (hv _).mono ?_; rintro e w1 ⟨rfl, rfl⟩)
                go_ret
                exact ⟨ret_bool hE.out.symm, hb0⟩
              | true =>
                rw [hW] at hv
                by_cases hm : m = 0
                · subst hm
                  · have hga := xgoodArgs_any (fun x hx => ih x hx) hz.2 hr1 (nest + 1) (by omega)
                    have hE : Hid (goodX nest (.mk 4 n 0 xs) = (decide (1 ≤ xs.length) && (decide (xs.length ≤ 8) && goodXs (nest + 1) xs))) := show _ = _ by rw [goodX, if_neg h4', if_neg k1, if_neg k2, if_neg k3, if_pos rfl, hW]; simp
                    generalize (decide (1 ≤ xs.length) && (decide (xs.length ≤ 8) && goodXs (nest + 1) xs)) = R at hga hE
                    rw [show ((nest + 1 : Nat) : Int) = (nest : Int) + 1 by omega] at hga
                    clear ih hr1 hz hx hN hW h4' k1 k1' k2 k2' k3 k3'
                    go_enter Try.func72, Try.ntmps72
                    go_wp2_with (first | (go_at_call 93; refine (hv _).mono ?_; rintro e w1 ⟨rfl, rfl⟩) | (go_at_call 94; refine hga.mono ?_; rintro e w2 ⟨rfl, hb2⟩))
                    go_ret
                    exact ⟨ret_bool hE.out.symm, Below.next hb0 hb2⟩
                · have hE : Hid (goodX nest (.mk 4 n m xs) = false) := show _ = _ by rw [goodX, if_neg h4', if_neg k1, if_neg k2, if_neg k3, if_pos rfl, decide_eq_false hm]; simp
                  have hm' : (m == 0) = false := beq_eq_false_iff_ne.2 hm
                  clear ih hr1 hz hx hN hW h4' hm k1 k1' k2 k2' k3 k3'
                  go_enter Try.func72, Try.ntmps72
                  go_wp2_with (go_at_call 93; refine (hv _).mono ?_; rintro e w1 ⟨rfl, rfl⟩)
                  go_ret
                  exact ⟨ret_bool hE.out.symm, hb0⟩
            · have k4' : (k == 4) = false := beq_eq_false_iff_ne.2 k4
              have hE : Hid (goodX nest (.mk k n m xs) = false) := show _ = _ by rw [goodX, if_neg h4', if_neg k1, if_neg k2, if_neg k3, if_neg k4]
              clear ih hr1 hz hx hN h4' k1 k2 k3 k4
              go_enter Try.func72, Try.ntmps72
              go_wp2
              go_ret
              exact ⟨ret_bool hE.out.symm, hb0⟩
set_option maxHeartbeats 1000000 in
theorem goodE_any (x : Ex) {w : World} {v : Value} (hx : Xv w x v) (hz : szX x) :
    Calls Try.prog 45 #[v] w fun e w' => e = .returned (.bool (goodX 0 x)) ∧ Below w.heap.size w w' := by
  obtain ⟨k, n, m, xs⟩ := x
  obtain ⟨av, rfl, hr⟩ := hx.parts
  have hb0 := below_alloc w (.cells #[.int .i64 k, .string n, .int .i64 m, av] 48)
  have h1 := goodAt_any (.mk k n m xs) _ _ ((Xv.of hr).next hb0) hz 0 (by omega)
  rw [show ((0 : Nat) : Int) = 0 from rfl] at h1
  clear hx hr hz
  go_enter Try.func45, Try.ntmps45
  go_wp2_with (go_at_call 72; refine h1.mono ?_; rintro e w1 ⟨rfl, hb1⟩)
  go_ret
  exact ⟨rfl, Below.next hb0 hb1⟩
end Go.Proofs.Ytncileojdighnaa

namespace Go.Proofs.Ytncileojdighnaa
set_option maxRecDepth 100000
open Go.RowKit
theorem len_le_of_subset : ∀ (S l : List Int), l.Nodup → (∀ x ∈ l, x ∈ S) → l.length ≤ S.length
  | [], l, _, h => by
    cases l with
    | nil => simp
    | cons a r => exact absurd (h a (by simp)) (by simp)
  | a :: S, l, hn, h => by
    by_cases hm : a ∈ l
    · have h1 := len_le_of_subset S (l.erase a) (hn.erase _) (fun x hx => by
        have h2 := (hn.mem_erase_iff).1 hx
        rcases List.mem_cons.1 (h x h2.2) with e | e
        · exact absurd e h2.1
        · exact e)
      rw [List.length_erase_of_mem hm] at h1
      simp only [List.length_cons]
      omega
    · have := len_le_of_subset S l hn (fun x hx => by
        rcases List.mem_cons.1 (h x hx) with e | e
        · exact absurd (by rw [← e]; exact hx) hm
        · exact e)
      simp only [List.length_cons]
      omega
structure In (S m : List Int) : Prop where
  nodup : m.Nodup
  sub : ∀ x ∈ m, x ∈ S
theorem In.snoc {S m : List Int} {n : Int} (h : In S m) (hn : n ∉ m) (hS : n ∈ S) : In S (m ++ [n]) := by
  refine ⟨List.nodup_append.2 ⟨h.nodup, by simp, ?_⟩, fun x hx => ?_⟩
  · intro a ha b hb e
    simp at hb
    subst e hb
    exact hn ha
  · rcases List.mem_append.1 hx with hx | hx
    · exact h.sub x hx
    · simp at hx
      subst hx
      exact hS
theorem In.full {S m : List Int} (h : In S m) (hl : S.length ≤ m.length) {x : Int} (hx : x ∈ S) : x ∈ m := by
  by_cases hm : x ∈ m
  · exact hm
  · have h1 := h.snoc hm hx
    have := len_le_of_subset S (m ++ [x]) h1.nodup h1.sub
    simp at this
    omega
theorem meet_still {g : Gf} (f : Nat) (l m : List Int) (h : ∀ x ∈ l, x ∈ m) : meetF g f l m = m := by
  cases f with
  | zero => rfl
  | succ f =>
    rw [meetF_succ]
    induction l with
    | nil => rfl
    | cons n r ih =>
      rw [List.foldl_cons]
      have : stepF g f m n = m := if_pos (h n (by simp))
      rw [this]
      exact ih (fun x hx => h x (by simp [hx]))
theorem meet_inS {g : Gf} {S : List Int} (hc : ∀ x ∈ S, ∀ y ∈ g.argsOf x, y ∈ S) : ∀ (f : Nat) (l m : List Int), (∀ x ∈ l, x ∈ S) → In S m → In S (meetF g f l m) ∧ m.length ≤ (meetF g f l m).length
  | 0, _, m, _, h => ⟨h, Nat.le_refl _⟩
  | f + 1, l, m, hl, h => by
    rw [meetF_succ]
    induction l generalizing m with
    | nil => exact ⟨h, Nat.le_refl _⟩
    | cons n r ih =>
      rw [List.foldl_cons]
      have hn := hl n (by simp)
      have hs : In S (stepF g f m n) ∧ m.length ≤ (stepF g f m n).length := by
        unfold stepF
        split
        · exact ⟨h, Nat.le_refl _⟩
        · rename_i hm
          have h1 := meet_inS hc f (g.argsOf n) (m ++ [n]) (hc n hn) (h.snoc hm hn)
          refine ⟨h1.1, ?_⟩
          have := h1.2
          simp at this
          omega
      have h2 := ih (stepF g f m n) (fun x hx => hl x (by simp [hx])) hs.1
      exact ⟨h2.1, Nat.le_trans hs.2 h2.2⟩
theorem meet_fuel {g : Gf} {S : List Int} (hc : ∀ x ∈ S, ∀ y ∈ g.argsOf x, y ∈ S) : ∀ (f f' : Nat) (l m : List Int), (∀ x ∈ l, x ∈ S) → In S m → S.length ≤ m.length + f → S.length ≤ m.length + f' → meetF g f l m = meetF g f' l m
  | 0, f', l, m, hl, h, hf, _ => by
    rw [meet_still f' l m (fun x hx => h.full (by omega) (hl x hx))]
    rfl
  | f + 1, 0, l, m, hl, h, _, hf' => by
    rw [meet_still (f + 1) l m (fun x hx => h.full (by omega) (hl x hx))]
    rfl
  | f + 1, f' + 1, l, m, hl, h, hf, hf' => by
    rw [meetF_succ, meetF_succ]
    induction l generalizing m with
    | nil => rfl
    | cons n r ih =>
      rw [List.foldl_cons, List.foldl_cons]
      have hn := hl n (by simp)
      have hs : stepF g f m n = stepF g f' m n := by
        unfold stepF
        split
        · rfl
        · rename_i hm
          exact meet_fuel hc f f' (g.argsOf n) (m ++ [n]) (hc n hn) (h.snoc hm hn) (by simp; omega) (by simp; omega)
      rw [← hs]
      have hk : In S (stepF g f m n) ∧ m.length ≤ (stepF g f m n).length := by
        have := meet_inS hc (f + 1) [n] m (by simpa using hn) h
        exact this
      exact ih (stepF g f m n) (fun x hx => hl x (by simp [hx])) hk.1 (by omega) (by omega)
theorem meet_map {g t : Gf} {S : List Int} {F : Int → Int} (hc : ∀ x ∈ S, ∀ y ∈ g.argsOf x, y ∈ S) (hF : ∀ x ∈ S, ∀ y ∈ S, F x = F y → x = y) (ht : ∀ x ∈ S, t.argsOf (F x) = (g.argsOf x).map F) :
    ∀ (f : Nat) (l m : List Int), (∀ x ∈ l, x ∈ S) → In S m → meetF t f (l.map F) (m.map F) = (meetF g f l m).map F
  | 0, _, _, _, _ => rfl
  | f + 1, l, m, hl, h => by
    rw [meetF_succ, meetF_succ]
    induction l generalizing m with
    | nil => rfl
    | cons n r ih =>
      rw [List.map_cons, List.foldl_cons, List.foldl_cons]
      have hn := hl n (by simp)
      have hs : stepF t f (m.map F) (F n) = (stepF g f m n).map F := by
        unfold stepF
        by_cases hm : n ∈ m
        · rw [if_pos hm, if_pos (List.mem_map.2 ⟨n, hm, rfl⟩)]
        · have hm' : F n ∉ m.map F := fun hx => by
            obtain ⟨y, hy, e⟩ := List.mem_map.1 hx
            exact hm (by rw [← hF y (h.sub y hy) n hn e]; exact hy)
          rw [if_neg hm, if_neg hm', ht n hn]
          have := meet_map hc hF ht f (g.argsOf n) (m ++ [n]) (hc n hn) (h.snoc hm hn)
          rw [List.map_append] at this
          exact this
      rw [hs]
      have hk := (meet_inS hc (f + 1) [n] m (by simpa using hn) h).1
      exact ih (stepF g f m n) (fun x hx => hl x (by simp [hx])) hk
theorem pos_of_getD : ∀ {m : List Int} {i : Nat}, m.Nodup → i < m.length → pos m (m.getD i 0) = i
  | [], i, _, h => absurd h (Nat.not_lt_zero _)
  | y :: r, 0, _, _ => by simp [pos]
  | y :: r, i + 1, hn, h => by
    have hr := List.nodup_cons.1 hn
    have hi : i < r.length := by simpa using h
    have h1 := pos_of_getD hr.2 hi
    have hne : ¬ y = r.getD i 0 := fun e => hr.1 (by rw [e]; exact getD_mem hi)
    simp only [List.getD_cons_succ, pos, if_neg hne, h1]
theorem list_ext0 {l m : List Int} (h : l.length = m.length) (he : ∀ j, j < l.length → l.getD j 0 = m.getD j 0) : l = m := by
  apply List.ext_getElem h
  intro i h1 h2
  have := he i h1
  simpa [List.getD, h1, h2] using this
theorem pos_inj {g : Gf} (_ : Good g) : ∀ x ∈ metF g, ∀ y ∈ metF g, posF (metF g) x = posF (metF g) y → x = y := fun x hx y hy e => by
  unfold posF at e
  rw [if_pos hx, if_pos hy] at e
  have e' : pos (metF g) x = pos (metF g) y := by omega
  rw [← pos_at hx, ← pos_at hy, e']
theorem pos_rng {g : Gf} (_ : Good g) : ∀ x ∈ metF g, 0 ≤ posF (metF g) x ∧ posF (metF g) x < ((metF g).length : Int) := fun x hx => by
  have := pos_lt hx
  unfold posF
  rw [if_pos hx]
  omega
theorem trim_len {g : Gf} (_ : Good g) : (trimF g).nodes.length = (metF g).length := by simp [trimF]
theorem trim_node {g : Gf} (_ : Good g) : ∀ x ∈ metF g, (trimF g).nodes.getD (posF (metF g) x).toNat nd0 = renum (posF (metF g)) (g.nodes.getD x.toNat nd0) := fun x hx => by
  have h1 := pos_lt hx
  have h2 : (posF (metF g) x).toNat = pos (metF g) x := by
    unfold posF
    rw [if_pos hx]
    omega
  rw [h2]
  have h3 := pos_at hx
  simp only [List.getD] at h3
  simp only [trimF, List.getD, List.getElem?_map, h1, List.getElem?_eq_getElem, Option.map_some, Option.getD_some]
  rw [List.getElem?_eq_getElem h1, Option.getD_some] at h3
  rw [h3]
theorem trim_args {g : Gf} (hg : Good g) : ∀ x ∈ metF g, (trimF g).argsOf (posF (metF g) x) = (g.argsOf x).map (posF (metF g)) := fun x hx => by
  unfold Gf.argsOf
  rw [trim_node hg x hx]
  rfl
theorem trim_good0 {g : Gf} (hg : Good g) : Good (trimF g) := by
  have hml := (met_ok hg).le
  have h1 := hg.nodes
  have h2 := hg.roots
  refine ⟨by rw [trim_len hg]; omega, by simp [trimF]; omega, fun n hn => ?_, fun x hx => ?_⟩
  · obtain ⟨x, hx, rfl⟩ := List.mem_map.1 hn
    have hr := (met_ok hg).rng x hx
    have hgd := hg.node (g.nodes.getD x.toNat nd0) (by
      have : x.toNat < g.nodes.length := by omega
      simp [List.getD, this])
    have hst : ((g.nodes.getD x.toNat nd0).args.map (posF (metF g))).any (strange (trimF g).nodes.length) = false := by
      rw [List.any_eq_false]
      intro y hy
      obtain ⟨z, hz, rfl⟩ := List.mem_map.1 hy
      have := pos_rng hg z (met_arg hg x hx z hz)
      rw [trim_len hg]
      simp [strange]
      omega
    unfold goodNd at hgd ⊢
    simp only [renum, List.length_map, hst]
    split
    · rename_i hk
      rw [if_pos hk] at hgd
      exact hgd
    · rename_i hk
      rw [if_neg hk] at hgd
      split
      · rename_i hk2
        rw [if_pos hk2] at hgd
        exact hgd
      · rename_i hk2
        rw [if_neg hk2] at hgd
        split
        · rename_i hk3
          rw [if_pos hk3] at hgd
          exact hgd
        · rename_i hk3
          rw [if_neg hk3] at hgd
          split
          · rename_i hk4
            rw [if_pos hk4] at hgd
            simp only [Bool.and_eq_true] at hgd ⊢
            exact ⟨hgd.1, rfl⟩
          · rename_i hk4
            rw [if_neg hk4] at hgd
            exact hgd
  · obtain ⟨z, hz, rfl⟩ := List.mem_map.1 hx
    rw [trim_len hg]
    exact pos_rng hg z (met_root hg z hz)
end Go.Proofs.Ytncileojdighnaa

namespace Go.Proofs.Ytncileojdighnaa
set_option maxRecDepth 100000
open Go.ChangeShapes Go.WideShapes Go.ChangeAt Go.RowKit Go.Deep
theorem exprs_of_cells {H : Type} {enc : TypeId × Value → H} {W : World} {fuel : Nat} {u : Value} {x : DataW H × List MemPlace} (h : DataW.trod enc Try.prog W 0 (fun _ => true) true fuel 22 [u] = some x) (hw : Wt 22 x.1) : ∃ xs : List Ex, Rxs W u xs ∧ szXs xs ∧ xs.length ≤ 281474976710656 :=
  exprs_step (fun n _ cs x => expr_of_cells n cs x) h hw
theorem eq_of_cells {H : Type} {enc : TypeId × Value → H} {W : World} {fuel : Nat} {cs : List Value} {x : DataW H × List MemPlace} (h : DataW.trod enc Try.prog W 0 (fun _ => true) true fuel 51 cs = some x) (hw : Wt 51 x.1) :
    ∃ (q : ByteArray × Ex) (k : Int) (s : ByteArray) (m : Int) (a : Option Addr) (n c : Nat), cs = [.string q.1, .int .i64 k, .string s, .int .i64 m, .slice a n c] ∧ Xv W q.2 (.agg #[.int .i64 k, .string s, .int .i64 m, .slice a n c]) ∧ q.1.size ≤ 281474976710656 ∧ szX q.2 := by
  obtain ⟨xs, n, hn, hx, hl, hlen, hf⟩ := DataW.trod_struct Try.underlying51 h
  rw [c8Q] at hl
  match cs, hl with
  | [c0, c1, c2, c3, c4], _ =>
    match xs, hlen with
    | [y0, y1], _ =>
      rw [hx] at hw
      have h0 := hf 0 _ rfl
      have h1 := hf 1 _ rfl
      simp [c8S] at h0
      simp [c8X] at h1
      obtain ⟨a0, e0, d0, w0⟩ := DataW.trod_string Try.underlying9 h0
      have hw0 : Wt 9 y0.1 := hw.part Try.underlying51 (j := 0) rfl rfl
      have hw1 : Wt 48 y1.1 := hw.part Try.underlying51 (j := 1) rfl rfl
      rw [d0] at hw0
      have hs0 := hw0.str
      obtain ⟨X, k, s, m, a, n', c, e1, hX, hz⟩ := expr_of_cells n _ _ h1 hw1
      simp at e0 e1
      obtain ⟨rfl, rfl, rfl, rfl⟩ := e1
      subst e0
      exact ⟨(a0, X), k, s, m, a, n', c, rfl, hX, hs0, hz⟩
theorem eqs_of_cells {H : Type} {enc : TypeId × Value → H} {W : World} {fuel : Nat} {u : Value} {x : DataW H × List MemPlace} (h : DataW.trod enc Try.prog W 0 (fun _ => true) true fuel 23 [u] = some x) (hw : Wt 23 x.1) :
    ∃ qs : List (ByteArray × Ex), Rqs W u qs ∧ (∀ q ∈ qs, q.1.size ≤ 281474976710656 ∧ szX q.2) ∧ qs.length ≤ 281474976710656 := by
  rcases DataW.trod_slice Try.underlying23 h with ⟨hcs, _⟩ | ⟨ad, len, cap, els, rest, n, hn, hcs, hx, _, hl, hm, hlen, hel, _, _⟩
  · simp at hcs
    subst hcs
    exact ⟨[], Rqs.nil _, by simp, by simp⟩
  · simp at hcs
    subst hcs
    rw [hx] at hw
    rw [c8Q] at hel
    have hwl := hw.len Try.underlying23
    rw [b8Q, List.length_map, hlen] at hwl
    have each : ∀ i, ∃ q : ByteArray × Ex, i < len → (q.1.size ≤ 281474976710656 ∧ szX q.2) ∧ ∃ (k : Int) (s : ByteArray) (m : Int) (a : Option Addr) (n c : Nat), Xv W q.2 (.agg #[.int .i64 k, .string s, .int .i64 m, .slice a n c]) ∧ W.cells? 0 (ad.add (i * 5)) 5 = some [.string q.1, .int .i64 k, .string s, .int .i64 m, .slice a n c] := fun i => by
      by_cases hi : i < len
      · have hei := hel i hi
        rw [List.getElem?_eq_getElem (by omega)] at hei
        obtain ⟨cs', hc, ht⟩ := Option.bind_eq_some_iff.1 hei
        obtain ⟨q, k, s, m, a, n', c, rfl, hX, hs⟩ := eq_of_cells ht (hw.elem Try.underlying23 (List.mem_map.2 ⟨_, List.getElem_mem (by omega), rfl⟩))
        exact ⟨q, fun _ => ⟨hs, k, s, m, a, n', c, hX, hc⟩⟩
      · exact ⟨q0, fun h => absurd h hi⟩
    obtain ⟨f, hf⟩ : ∃ f : Nat → ByteArray × Ex, ∀ i, i < len → ((f i).1.size ≤ 281474976710656 ∧ szX (f i).2) ∧ ∃ (k : Int) (s : ByteArray) (m : Int) (a : Option Addr) (n c : Nat), Xv W (f i).2 (.agg #[.int .i64 k, .string s, .int .i64 m, .slice a n c]) ∧ W.cells? 0 (ad.add (i * 5)) 5 = some [.string (f i).1, .int .i64 k, .string s, .int .i64 m, .slice a n c] :=
      ⟨fun i => Classical.choose (each i), fun i => Classical.choose_spec (each i)⟩
    refine ⟨(List.range len).map f, ⟨some ad, cap, by simp, fun j hj => ?_⟩, fun x hx => ?_, by simp; omega⟩
    · have hj' : j < len := by simpa using hj
      have hg : ((List.range len).map f).getD j q0 = f j := by simp [List.getD, hj']
      obtain ⟨b, off, spot⟩ := ad
      obtain ⟨_, k, s, m, a, n', c, hX, hc⟩ := hf j hj'
      have hcj := (World.cells?_some hc).2.2
      have hspot : spot = none := by
        obtain ⟨_, k0, s0, m0, a0, n0, c0, _, hc0⟩ := hf 0 (by omega)
        have := (World.cells?_some hc0).2.2 0 (by omega)
        simp at this
        simpa [Addr.add] using World.cell?_spot this
      subst hspot
      have e : ∀ i, ((⟨b, off, none⟩ : Addr).add (j * 5)).add i = ⟨b, off + j * 5 + i, none⟩ := fun i => by rw [add_plain, add_plain]
      rw [hg]
      refine ⟨b, off, k, s, m, a, n', c, rfl, ?_, ?_, ?_, ?_, ?_, hX⟩
      · have := hcj 0 (by omega); rw [e] at this; simpa using this
      · have := hcj 1 (by omega); rw [e] at this; simpa using this
      · have := hcj 2 (by omega); rw [e] at this; simpa using this
      · have := hcj 3 (by omega); rw [e] at this; simpa using this
      · have := hcj 4 (by omega); rw [e] at this; simpa using this
    · obtain ⟨i, hi, rfl⟩ := List.mem_map.1 hx
      exact (hf i (List.mem_range.1 hi)).1
theorem wt_arg {H : Type} {ts : List TypeId} {ds : List (DataW H)} (hsz : (DataW.weightsEach Try.prog ts ds).all (· ≤ reachBytes) = true) {j : Nat} {t : TypeId} {d : DataW H} (ht : ts[j]? = some t) (hd : ds[j]? = some d) : Wt t d := fun n hn => by
  have := List.all_eq_true.1 hsz _ (DataW.weights_mem_each ht hd n hn)
  have r := reachBytes_lt
  simp at this
  omega
theorem exprs_of {H : Type} {enc : TypeId × Value → H} {W : World} {base : Nat} {u : Value} {d : DataW H} {p : List MemPlace} (hv : Value.okWide Try.prog W .any base 22 u) (h : DataW.Trod enc Try.prog W 0 (fun _ => true) true 22 u d p) (hw : Wt 22 d) :
    ∃ xs : List Ex, Rxs W u xs ∧ szXs xs ∧ xs.length ≤ 281474976710656 := by
  obtain ⟨a, len, cap, rfl⟩ := okWide_slice Try.underlying22 hv
  obtain ⟨fuel, hf⟩ := h
  have hf' : DataW.trod enc Try.prog W 0 (fun _ => true) true fuel 22 [.slice a len cap] = some (d, p) := by simpa [Value.cells] using hf
  exact exprs_of_cells hf' hw
theorem eqs_of {H : Type} {enc : TypeId × Value → H} {W : World} {base : Nat} {u : Value} {d : DataW H} {p : List MemPlace} (hv : Value.okWide Try.prog W .any base 23 u) (h : DataW.Trod enc Try.prog W 0 (fun _ => true) true 23 u d p) (hw : Wt 23 d) :
    ∃ qs : List (ByteArray × Ex), Rqs W u qs ∧ (∀ q ∈ qs, q.1.size ≤ 281474976710656 ∧ szX q.2) ∧ qs.length ≤ 281474976710656 := by
  obtain ⟨a, len, cap, rfl⟩ := okWide_slice Try.underlying23 hv
  obtain ⟨fuel, hf⟩ := h
  have hf' : DataW.trod enc Try.prog W 0 (fun _ => true) true fuel 23 [.slice a len cap] = some (d, p) := by simpa [Value.cells] using hf
  exact eqs_of_cells hf' hw
end Go.Proofs.Ytncileojdighnaa
