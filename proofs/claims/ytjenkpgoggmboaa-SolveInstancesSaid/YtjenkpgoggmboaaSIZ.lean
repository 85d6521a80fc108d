/- put of package tendrilref10. -/
import Derived.Test.YtjenkpgoggmboaaSAZ
import Derived.Test.YtjenkpgoggmboaaSBZ
import Derived.BigQuiet
import Derived.StillTailTactics
import Derived.Deep.LoopGhost
import Derived.Test.YtjenkpgoggmboaaSEZ
import Derived.Test.YtjenkpgoggmboaaBAZ
import Derived.Test.YtjenkpgoggmboaaSCZ
namespace Go.Proofs.Ytjenkpgoggmboaa
open Go.RowKit

/-- Two classes made one, by the list of classes. -/
def putV (x y z : Nat) : Nat := if z = y then x else z
def putJ (L : List Nat) (x y j : Nat) : List Nat := (L.take j).map (putV x y) ++ L.drop j
theorem putJ_len (L : List Nat) (x y j : Nat) : (putJ L x y j).length = L.length := by
  unfold putJ
  rw [List.length_append, List.length_map, List.length_take, List.length_drop]
  omega
theorem putJ_at {L : List Nat} {x y j : Nat} (hj : j < L.length) : (putJ L x y j).getD j 0 = L.getD j 0 := by
  unfold putJ
  rw [List.getD, List.getElem?_append_right (by simp; omega)]
  simp [List.getD, List.length_take, Nat.min_eq_left (Nat.le_of_lt hj)]
theorem putJ_step {L : List Nat} {x y j : Nat} (hj : j < L.length) : (putJ L x y j).set j (putV x y (L.getD j 0)) = putJ L x y (j + 1) := by
  apply List.ext_getElem?
  intro i
  by_cases hi : i < L.length
  · by_cases e : i = j
    · subst e
      rw [List.getElem?_set_self (by rw [putJ_len]; exact hi)]
      unfold putJ
      rw [List.getElem?_append_left (by simp; omega)]
      simp [List.getD, hi]
    · rw [List.getElem?_set_ne (fun h => e h.symm)]
      unfold putJ
      by_cases h1 : i < j
      · rw [List.getElem?_append_left (by simp; omega), List.getElem?_append_left (by simp; omega)]
        simp [h1, show i < j + 1 by omega]
      · rw [List.getElem?_append_right (by simp; omega), List.getElem?_append_right (by simp; omega)]
        simp only [List.length_map, List.length_take, List.getElem?_drop]
        rw [Nat.min_eq_left (by omega), Nat.min_eq_left (by omega), show j + (i - j) = j + 1 + (i - (j + 1)) by omega]
  · rw [List.getElem?_eq_none (by rw [List.length_set, putJ_len]; omega), List.getElem?_eq_none (by rw [putJ_len]; omega)]
def putL (L : List Nat) (a b : Nat) : List Nat := if L.getD a 0 = L.getD b 0 then L else putJ L (L.getD a 0) (L.getD b 0) L.length
theorem putL_len (L : List Nat) (a b : Nat) : (putL L a b).length = L.length := by
  unfold putL
  split
  · rfl
  · exact putJ_len _ _ _ _
theorem putL_get {L : List Nat} {a b i : Nat} (hi : i < L.length) : (putL L a b).getD i 0 = putV (L.getD a 0) (L.getD b 0) (L.getD i 0) := by
  unfold putL
  split
  · rename_i e
    unfold putV
    split
    · rename_i e2; rw [e2, e]
    · rfl
  · unfold putJ
    simp [List.getD, hi]
set_option maxRecDepth 100000 in
set_option maxHeartbeats 4000000 in
theorem rput_any {w : World} {B g c a b : Nat} {L : List Nat} (ho : w.ownsRow B 3 1 (.slice (some ⟨g, 0, none⟩) L.length c) L.length ((ints L).map (Value.int .i64))) (ha : a < L.length) (hb : b < L.length) (hN : L.length ≤ 20000) :
    Calls Try.prog 70 #[.slice (some ⟨g, 0, none⟩) L.length c, .int .i64 (a : Int), .int .i64 (b : Int)] w fun e w' => e = .returned (.bool (decide (L.getD a 0 ≠ L.getD b 0))) ∧ w'.ownsRow B 3 1 (.slice (some ⟨g, 0, none⟩) L.length c) L.length ((ints (putL L a b)).map (Value.int .i64)) ∧ Mo (· = g) w w' := by
  have hai : (a : Int) < (L.length : Int) := by omega
  have hbi : (b : Int) < (L.length : Int) := by omega
  have ca : w.cell? ⟨g, a, none⟩ = some (.int .i64 ((L.getD a 0 : Nat) : Int)) := by rw [ho.cellAt a (by omega)]; exact ints_at ha
  have cb : w.cell? ⟨g, b, none⟩ = some (.int .i64 ((L.getD b 0 : Nat) : Int)) := by rw [ho.cellAt b (by omega)]; exact ints_at hb
  have hzg := lt_of_cell ca
  have HO := hid ho
  clear ho
  have hpl : Hid (putL L a b = if L.getD a 0 = L.getD b 0 then L else putJ L (L.getD a 0) (L.getD b 0) L.length) := show _ = _ from rfl
  generalize putL L a b = PL at hpl ⊢
  generalize L.getD a 0 = x at *
  generalize L.getD b 0 = y at *
  by_cases hxy : x = y
  · subst hxy
    have hpl' : PL = L := by have := hpl.out; rw [if_pos rfl] at this; exact this
    subst hpl'
    go_enter Try.func70, Try.ntmps70
    go_wp2
    go_ret
    exact ⟨by simp, HO.out, Mo.refl _ _⟩
  · have hpl' : PL = putJ L x y L.length := by have := hpl.out; rw [if_neg hxy] at this; exact this
    have hxy' : ¬ ((x : Int) = (y : Int)) := by omega
    have hD : decide (x ≠ y) = true := by simpa using hxy
    rw [hD]
    have h0 : Hid (w.ownsRow B 3 1 (.slice (some ⟨g, 0, none⟩) L.length c) L.length ((ints (putJ L x y 0)).map (Value.int .i64))) := by
      have e : putJ L x y 0 = L := by simp [putJ]
      rw [e]
      exact HO.out
    have hm0 := hid (Mo.refl (· = g) w)
    clear hpl hD
    go_enter Try.func70, Try.ntmps70
    go_wp2
    go_loopw [9] (fun i wr => ∃ j : Nat, j ≤ L.length ∧ i = .int .i64 (j : Int) ∧ Hid (wr.ownsRow B 3 1 (.slice (some ⟨g, 0, none⟩) L.length c) L.length ((ints (putJ L x y j)).map (Value.int .i64))) ∧ Hid (Mo (· = g) w wr)) (fun i _ => L.length - (intOf i).toNat)
    case atStart => exact ⟨0, Nat.zero_le _, rfl, h0, hm0⟩
    case round =>
      clear h0 hm0
      obtain ⟨j, hj, rfl, hr, hm⟩ := hrel
      by_cases hlt : j < L.length
      · have hji : (j : Int) < (L.length : Int) := by omega
        have cj : wr.cell? ⟨g, j, none⟩ = some (.int .i64 ((L.getD j 0 : Nat) : Int)) := by
          rw [hr.out.cellAt j (by omega), ints_at (by rw [putJ_len]; exact hlt), putJ_at hlt]
        have fj := hr.out.frozenAt j
        have hzr := lt_of_cell cj
        have hst := hid (putJ_step (x := x) (y := y) hlt)
        by_cases hz : L.getD j 0 = y
        · have hz' : ((L.getD j 0 : Nat) : Int) = (y : Int) := by omega
          rw [hz] at cj
          have hr2 : Hid ((wr.setCell ⟨g, j, none⟩ (.int .i64 (x : Int))).ownsRow B 3 1 (.slice (some ⟨g, 0, none⟩) L.length c) L.length ((ints (putJ L x y (j + 1))).map (Value.int .i64))) := by
            have h2 := (World.ownsRow.stored hr.out j (.int .i64 (x : Int))).1
            rw [ints_set] at h2
            have h3 := hst.out
            unfold putV at h3
            rw [if_pos hz] at h3
            rw [h3] at h2
            exact h2
          have hm2 := hid (hm.out.setCell (p := ⟨g, j, none⟩) (Or.inl rfl) (.int .i64 (x : Int)))
          clear hr hm hst hz hz'
          go_wp2
          go_roundw
          case rel => exact ⟨j + 1, by omega, by go_num, hr2, hm2⟩
          case measure => simp [intOf]; omega
        · have hz' : ¬ (((L.getD j 0 : Nat) : Int) = (y : Int)) := by omega
          have hr2 : Hid (wr.ownsRow B 3 1 (.slice (some ⟨g, 0, none⟩) L.length c) L.length ((ints (putJ L x y (j + 1))).map (Value.int .i64))) := by
            have h3 := hst.out
            unfold putV at h3
            rw [if_neg hz] at h3
            have e : (putJ L x y j).set j (L.getD j 0) = putJ L x y j := by
              have := putJ_at (x := x) (y := y) hlt
              apply List.ext_getElem?
              intro i
              by_cases ei : i = j
              · subst ei
                rw [List.getElem?_set_self (by rw [putJ_len]; exact hlt), ← this]
                simp [List.getD, putJ_len, hlt]
              · rw [List.getElem?_set_ne (fun h => ei h.symm)]
            rw [e] at h3
            have := hr.out
            rw [h3] at this
            exact this
          have hm2 := hid hm.out
          clear hr hm hst hz
          generalize L.getD j 0 = z at *
          go_wp2
          go_roundw
          case rel => exact ⟨j + 1, by omega, by go_num, hr2, hm2⟩
          case measure => simp [intOf]; omega
      · obtain rfl : j = L.length := by omega
        have hr2 := hid hr.out
        have hm2 := hid hm.out
        clear hr hm
        subst hpl'
        go_wp2
        go_ret
        exact ⟨rfl, hr2.out, hm2.out⟩
end Go.Proofs.Ytjenkpgoggmboaa

/- The reference's classes: plain data. -/
namespace Go.Proofs.Ytjenkpgoggmboaa
open Go.RowKit

/-- Classes that no unifier keeps apart. -/
structure Clo (ns : List Nd) (P : List (Nat × Nat)) (L : List Nat) : Prop where
  len : L.length = ns.length
  rng : ∀ i, i < L.length → L.getD i 0 < L.length
  min : ∀ R, Cg ns R → (∀ p ∈ P, R p.1 p.2) → ∀ x y, x < L.length → y < L.length → L.getD x 0 = L.getD y 0 → R x y
theorem Clo.put {ns : List Nd} {P : List (Nat × Nat)} {L : List Nat} (h : Clo ns P L) {a b : Nat} (ha : a < L.length) (hb : b < L.length) (hR : ∀ R, Cg ns R → (∀ p ∈ P, R p.1 p.2) → R a b) : Clo ns P (putL L a b) := by
  refine ⟨by rw [putL_len]; exact h.len, fun i hi => ?_, fun R hc hp x y hx hy he => ?_⟩
  · rw [putL_len] at hi ⊢
    rw [putL_get hi]
    unfold putV
    split
    · exact h.rng a ha
    · exact h.rng i hi
  · rw [putL_len] at hx hy
    rw [putL_get hx, putL_get hy] at he
    have m := h.min R hc hp
    have rab := hR R hc hp
    unfold putV at he
    split at he
    · rename_i e1
      split at he
      · rename_i e2
        exact m x y hx hy (e1.trans e2.symm)
      · exact hc.trans _ _ _ (m x b hx hb e1) (hc.trans _ _ _ (hc.symm _ _ rab) (m a y ha hy he))
    · split at he
      · rename_i e2
        exact hc.trans _ _ _ (m x a hx ha he) (hc.trans _ _ _ rab (m b y hb hy e2.symm))
      · exact m x y hx hy he
theorem putL_keep {L : List Nat} {a b i j : Nat} (hi : i < L.length) (hj : j < L.length) (h : L.getD i 0 = L.getD j 0) : (putL L a b).getD i 0 = (putL L a b).getD j 0 := by
  rw [putL_get hi, putL_get hj, h]
theorem putL_same {L : List Nat} {a b : Nat} (ha : a < L.length) (hb : b < L.length) : (putL L a b).getD a 0 = (putL L a b).getD b 0 := by
  rw [putL_get ha, putL_get hb]
  unfold putV
  simp
/-- Classes that keep labels and arguments make a unifier. -/
theorem clo_cg {ns : List Nd} {P : List (Nat × Nat)} {L : List Nat} (hA : GoodA ns) (hP : ∀ p ∈ P, p.1 < ns.length ∧ p.2 < ns.length ∧ L.getD p.1 0 = L.getD p.2 0) (hs : ∀ i j, i < j → j < ns.length → L.getD i 0 = L.getD j 0 → (ndN ns i).kind ≠ 1 → (ndN ns j).kind ≠ 1 → labS (ndN ns i) (ndN ns j) ∧ ∀ k, k < (ndN ns i).args.length → L.getD (argN ns i k) 0 = L.getD (argN ns j k) 0) :
    ¬ NoSol ns P := fun hn => by
  refine hn (fun x y => x = y ∨ (x < ns.length ∧ y < ns.length ∧ L.getD x 0 = L.getD y 0)) ⟨⟨fun _ => Or.inl rfl, fun x y hxy => ?_, fun x y z hxy hyz => ?_⟩, fun x y hx hy hxy hkx hky => ?_⟩ (fun p hp => Or.inr (hP p hp))
  · rcases hxy with rfl | ⟨h1, h2, h3⟩
    · exact Or.inl rfl
    · exact Or.inr ⟨h2, h1, h3.symm⟩
  · rcases hxy with rfl | ⟨h1, h2, h3⟩
    · exact hyz
    · rcases hyz with rfl | ⟨_, k2, k3⟩
      · exact Or.inr ⟨h1, h2, h3⟩
      · exact Or.inr ⟨h1, k2, h3.trans k3⟩
  · rcases hxy with rfl | ⟨_, _, h3⟩
    · exact ⟨labS.refl _, fun _ _ => Or.inl rfl⟩
    · rcases Nat.lt_trichotomy x y with hlt | rfl | hlt
      · obtain ⟨l, ar⟩ := hs x y hlt hy h3 hkx hky
        refine ⟨l, fun k hk => Or.inr ⟨(hA.arg x hx k hk).2, (hA.arg y hy k (by rw [← l.2.2.2]; exact hk)).2, ar k hk⟩⟩
      · exact ⟨labS.refl _, fun _ _ => Or.inl rfl⟩
      · obtain ⟨l, ar⟩ := hs y x hlt hx h3.symm hky hkx
        have l' := l.symm
        refine ⟨l', fun k hk => ?_⟩
        have hk' : k < (ndN ns y).args.length := by rw [← l'.2.2.2]; exact hk
        exact Or.inr ⟨(hA.arg x hx k hk).2, (hA.arg y hy k hk').2, (ar k hk').symm⟩
/-- Two of one class that are labelled otherwise: there is no unifier. -/
theorem Clo.fail {ns : List Nd} {P : List (Nat × Nat)} {L : List Nat} (h : Clo ns P L) {i j : Nat} (hi : i < ns.length) (hj : j < ns.length) (he : L.getD i 0 = L.getD j 0) (hki : (ndN ns i).kind ≠ 1) (hkj : (ndN ns j).kind ≠ 1) (hl : ¬ labS (ndN ns i) (ndN ns j)) : NoSol ns P := fun R hc hp =>
  hl (hc.lab i j hi hj (h.min R hc hp i j (by rw [h.len]; exact hi) (by rw [h.len]; exact hj) he) hki hkj).1
/-- The arguments of two of one class may be put together. -/
theorem Clo.arg {ns : List Nd} {P : List (Nat × Nat)} {L : List Nat} (h : Clo ns P L) {i j : Nat} (hi : i < ns.length) (hj : j < ns.length) (he : L.getD i 0 = L.getD j 0) (hki : (ndN ns i).kind ≠ 1) (hkj : (ndN ns j).kind ≠ 1) {k : Nat} (hk : k < (ndN ns i).args.length) : ∀ R, Cg ns R → (∀ p ∈ P, R p.1 p.2) → R (argN ns i k) (argN ns j k) := fun R hc hp =>
  (hc.lab i j hi hj (h.min R hc hp i j (by rw [h.len]; exact hi) (by rw [h.len]; exact hj) he) hki hkj).2 k hk
/-- How many classes there are. -/
def clN (L : List Nat) : Nat → Nat
  | 0 => 0
  | n + 1 => clN L n + if n ∈ L then 1 else 0
theorem clN_le {L M : List Nat} (h : ∀ z, z ∈ M → z ∈ L) : ∀ n, clN M n ≤ clN L n
  | 0 => Nat.le_refl _
  | n + 1 => by
    have := clN_le h n
    unfold clN
    by_cases hm : n ∈ M
    · rw [if_pos hm, if_pos (h n hm)]; omega
    · rw [if_neg hm]; omega
theorem clN_lt {L M : List Nat} (h : ∀ z, z ∈ M → z ∈ L) {y : Nat} (hy : y ∈ L) (hn : y ∉ M) : ∀ n, y < n → clN M n < clN L n
  | 0, h0 => absurd h0 (Nat.not_lt_zero _)
  | n + 1, h0 => by
    unfold clN
    by_cases e : y = n
    · subst e
      have := clN_le h y
      rw [if_neg hn, if_pos hy]; omega
    · have := clN_lt h hy hn n (by omega)
      by_cases hm : n ∈ M
      · rw [if_pos hm, if_pos (h n hm)]; omega
      · rw [if_neg hm]; omega
theorem getD_memN {L : List Nat} {i : Nat} (h : i < L.length) : L.getD i 0 ∈ L := by simp [List.getD, h]
theorem putL_clN {L : List Nat} {a b : Nat} (ha : a < L.length) (hb : b < L.length) (hr : ∀ i, i < L.length → L.getD i 0 < L.length) (hne : L.getD a 0 ≠ L.getD b 0) : clN (putL L a b) L.length < clN L L.length := by
  have hg : ∀ z, z ∈ putL L a b → ∃ i, i < L.length ∧ z = putV (L.getD a 0) (L.getD b 0) (L.getD i 0) := fun z hz => by
    obtain ⟨i, hi, rfl⟩ := List.getElem_of_mem hz
    have hi' : i < L.length := by rw [← putL_len L a b]; exact hi
    refine ⟨i, hi', ?_⟩
    rw [← putL_get hi']
    simp [List.getD, hi]
  refine clN_lt (fun z hz => ?_) (getD_memN hb) (fun hz => ?_) _ (hr b hb)
  · obtain ⟨i, hi, rfl⟩ := hg z hz
    unfold putV
    split
    · exact getD_memN ha
    · exact getD_memN hi
  · obtain ⟨i, hi, e⟩ := hg _ hz
    unfold putV at e
    split at e
    · exact hne e.symm
    · rename_i h1
      exact h1 e.symm
end Go.Proofs.Ytjenkpgoggmboaa

/- Closed of the reference: plain data and memory. -/
namespace Go.Proofs.Ytjenkpgoggmboaa
open Go.RowKit

/-- Two nodes of one class are labelled alike, and their arguments are of one class. -/
def stab (ns : List Nd) (L : List Nat) (i j : Nat) : Prop := L.getD i 0 = L.getD j 0 → (ndN ns i).kind ≠ 1 → (ndN ns j).kind ≠ 1 → labS (ndN ns i) (ndN ns j) ∧ ∀ k, k < (ndN ns i).args.length → L.getD (argN ns i k) 0 = L.getD (argN ns j k) 0
/-- A round through all pairs of nodes: what was done. -/
structure Pass (ns : List Nd) (P : List (Nat × Nat)) (L0 L : List Nat) (mo : Bool) (D : Nat → Nat → Prop) : Prop where
  clo : Clo ns P L
  prs : ∀ p ∈ P, L.getD p.1 0 = L.getD p.2 0
  chg : mo = true → clN L ns.length < clN L0 ns.length
  same : mo = false → L = L0
  done : mo = false → ∀ i j, D i j → i < j → j < ns.length → stab ns L i j
theorem Pass.le {ns : List Nd} {P : List (Nat × Nat)} {L0 L : List Nat} {mo : Bool} {D : Nat → Nat → Prop} (h : Pass ns P L0 L mo D) : clN L ns.length ≤ clN L0 ns.length := by
  cases mo with
  | true => have := h.chg rfl; omega
  | false => rw [h.same rfl]; exact Nat.le_refl _
theorem putL_eq {L : List Nat} {a b : Nat} (h : L.getD a 0 = L.getD b 0) : putL L a b = L := by unfold putL; rw [if_pos h]
theorem Pass.put {ns : List Nd} {P : List (Nat × Nat)} {L0 L : List Nat} {mo : Bool} {D : Nat → Nat → Prop} (h : Pass ns P L0 L mo D) (hP : ∀ p ∈ P, p.1 < ns.length ∧ p.2 < ns.length) {a b : Nat} (ha : a < ns.length) (hb : b < ns.length) (hR : ∀ R, Cg ns R → (∀ p ∈ P, R p.1 p.2) → R a b) : Pass ns P L0 (putL L a b) (mo || decide (L.getD a 0 ≠ L.getD b 0)) D := by
  have hl := h.clo.len
  by_cases he : L.getD a 0 = L.getD b 0
  · rw [putL_eq he, decide_eq_false (by simpa using he), Bool.or_false]
    exact h
  · rw [decide_eq_true he, Bool.or_true]
    refine ⟨h.clo.put (by omega) (by omega) hR, fun p hp => ?_, fun _ => ?_, fun e => (by cases e), fun e => (by cases e)⟩
    · obtain ⟨h1, h2⟩ := hP p hp
      exact putL_keep (by omega) (by omega) (h.prs p hp)
    · have h1 := putL_clN (L := L) (a := a) (b := b) (by omega) (by omega) h.clo.rng he
      rw [hl] at h1
      have := h.le
      omega
theorem Pass.more {ns : List Nd} {P : List (Nat × Nat)} {L0 L : List Nat} {mo : Bool} {D D' : Nat → Nat → Prop} (h : Pass ns P L0 L mo D) (hD : mo = false → ∀ i j, D' i j → i < j → j < ns.length → stab ns L i j) : Pass ns P L0 L mo D' := ⟨h.clo, h.prs, h.chg, h.same, hD⟩
/-- What Closed has found. -/
structure CloD (ns : List Nd) (P : List (Nat × Nat)) (L : List Nat) : Prop where
  clo : Clo ns P L
  prs : ∀ p ∈ P, L.getD p.1 0 = L.getD p.2 0
  stb : ∀ i j, i < j → j < ns.length → stab ns L i j
theorem clo_init (ns : List Nd) : Clo ns [] (List.range ns.length) := by
  refine ⟨by simp, fun i hi => ?_, fun R hc _ x y hx hy he => ?_⟩
  · have hi' : i < ns.length := by simpa using hi
    simp [List.getD, hi']
  · have hx' : x < ns.length := by simpa using hx
    have hy' : y < ns.length := by simpa using hy
    simp [List.getD, hx', hy'] at he
    subst he
    exact hc.refl _
theorem clo_pair {ns : List Nd} {P : List (Nat × Nat)} {L : List Nat} (h : Clo ns P L) (hp : ∀ p ∈ P, L.getD p.1 0 = L.getD p.2 0) (hP : ∀ p ∈ P, p.1 < ns.length ∧ p.2 < ns.length) {a b : Nat} (ha : a < ns.length) (hb : b < ns.length) : Clo ns (P ++ [(a, b)]) (putL L a b) ∧ ∀ p ∈ P ++ [(a, b)], (putL L a b).getD p.1 0 = (putL L a b).getD p.2 0 := by
  have hl := h.len
  have h2 : Clo ns (P ++ [(a, b)]) L := ⟨h.len, h.rng, fun R hc hq => h.min R hc (fun p hm => hq p (by simp [hm]))⟩
  refine ⟨h2.put (by omega) (by omega) (fun R _ hq => hq (a, b) (by simp)), fun p hm => ?_⟩
  rcases List.mem_append.1 hm with hm | hm
  · obtain ⟨h3, h4⟩ := hP p hm
    exact putL_keep (by omega) (by omega) (hp p hm)
  · have e : p = (a, b) := by simpa using hm
    subst e
    exact putL_same (by omega) (by omega)
/-- The boxes and the row of classes. -/
structure Kc (W : World) (nv rv : Value) (N : Nat) (L : List Nat) (w : World) : Prop where
  b : Below W.heap.size W w
  g : w.heap[W.heap.size]? = some (.cells #[nv, rv] 25)
  p : w.ownsRow (W.heap.size + 1) 3 1 (.slice (some ⟨W.heap.size + 1, 0, none⟩) N N) N ((ints L).map (Value.int .i64))
  l : L.length = N
section
variable {W w w' : World} {nv rv : Value} {N : Nat} {L : List Nat}
theorem Kc.next (h : Kc W nv rv N L w) (hb : Below w.heap.size w w') : Kc W nv rv N L w' := ⟨h.b.trans (hb.mono h.b.size), (hb.block _ (lt_of_block h.g)).trans h.g, row_keep h.p (fun k hk => hb.block k (h.p.lt k hk).2), h.l⟩
theorem Kc.cell (h : Kc W nv rv N L w) {i : Nat} (hi : i < N) : w.cell? ⟨W.heap.size + 1, i, none⟩ = some (.int .i64 ((L.getD i 0 : Nat) : Int)) ∧ w.frozen? ⟨W.heap.size + 1, i, none⟩ = false :=
  ⟨by rw [h.p.cellAt i (by omega)]; exact ints_at (by rw [h.l]; exact hi), h.p.frozenAt i⟩
theorem Kc.put {M : List Nat} (h : Kc W nv rv N L w) (hl : M.length = N) (ho : w'.ownsRow (W.heap.size + 1) 3 1 (.slice (some ⟨W.heap.size + 1, 0, none⟩) N N) N ((ints M).map (Value.int .i64))) (hm : Mo (fun k => k = W.heap.size + 1) w w') : Kc W nv rv N M w' :=
  ⟨h.b.trans (hm.below (fun k hk => by omega) h.b.size), (hm.block _ (lt_of_block h.g) (by omega)).trans h.g, ho, hl⟩
theorem Kc.set (h : Kc W nv rv N L w) (n v : Nat) : Kc W nv rv N (L.set n v) (w.setCell ⟨W.heap.size + 1, n, none⟩ (.int .i64 (v : Int))) := by
  refine ⟨h.b.setCell (p := ⟨W.heap.size + 1, n, none⟩) (by show W.heap.size ≤ W.heap.size + 1; omega) _, (Below.heap_setCell _ _ _ _ (by show W.heap.size ≠ W.heap.size + 1; omega)).trans h.g, ?_, by simp [h.l]⟩
  have h3 := (World.ownsRow.stored h.p n (.int .i64 (v : Int))).1
  rw [ints_set] at h3
  exact h3
theorem Kc.box (h : Kc W nv rv N L w) : (w.cell? ⟨W.heap.size, 0, none⟩ = some nv ∧ w.cell? ⟨W.heap.size, 1, none⟩ = some rv) ∧ W.heap.size < w.heap.size := by
  obtain ⟨a, _⟩ := blk2y h.g
  exact ⟨a, lt_of_block h.g⟩
theorem kc_start {w1 : World} (hown : w1.ownsRow (W.heap.size + 1) 3 1 (.slice (some ⟨(W.alloc (.cells #[nv, rv] 25)).heap.size, 0, none⟩) N N) N (madeCells (Value.int .i64 0).cells (N * 1)).toList) (hgrow : (W.alloc (.cells #[nv, rv] 25)).grownBy w1 none) : Kc W nv rv N (ldJ N 0) w1 := by
  have hsz : (W.alloc (.cells #[nv, rv] 25)).heap.size = W.heap.size + 1 := by simp
  rw [hsz] at hown
  have hb : Below (W.alloc (.cells #[nv, rv] 25)).heap.size (W.alloc (.cells #[nv, rv] 25)) w1 := (Below.refl _ _).grown hgrow (Nat.le_refl _) (fun _ e => by cases e)
  refine ⟨(below_alloc W _).trans (hb.mono (by simp)), (hb.block _ (by simp)).trans (heap_alloc_new W _), ?_, ldJ_len _ _⟩
  rw [ldJ_zero]
  rw [show (madeCells (Value.int .i64 0).cells (N * 1)).toList = List.replicate N (.int .i64 0) by rw [Nat.mul_one]; simp [Value.cells, toList_madeCells_one]] at hown
  exact hown
end
theorem ldJ_full (N : Nat) : ldJ N N = List.range N := by
  apply List.ext_getElem
  · simp [ldJ]
  · intro i h1 h2
    have : i < N := by simpa using h2
    simp [ldJ, this]
theorem nd_at {W w : World} {na : Option Addr} {nc : Nat} {rv : Value} {g : Gf} (hG : Gr W (.slice na g.nodes.length nc) rv g) (hb : Below W.heap.size W w) {x : Nat} (hx : x < g.nodes.length) : ∃ b o aa ac, na = some ⟨b, o, none⟩ ∧ (w.cell? ⟨b, o + x * 4, none⟩ = some (.int .i64 (ndN g.nodes x).kind) ∧ w.cell? ⟨b, o + x * 4 + 1, none⟩ = some (.string (ndN g.nodes x).name) ∧ w.cell? ⟨b, o + x * 4 + 2, none⟩ = some (.int .i64 (ndN g.nodes x).num) ∧ w.cell? ⟨b, o + x * 4 + 3, none⟩ = some (.slice aa (ndN g.nodes x).args.length ac)) ∧ Ri W (.slice aa (ndN g.nodes x).args.length ac) (ndN g.nodes x).args := by
  obtain ⟨na', nc', e, hc⟩ := hG.1
  injection e with e1 _ _
  subst e1
  obtain ⟨b, o, av, rfl, h0⟩ := hc x hx
  obtain ⟨p0, p1, p2, p3, _⟩ := h0.below hb
  obtain ⟨aa, ac, rfl, ha⟩ := h0.2.2.2.2
  exact ⟨b, o, aa, ac, rfl, ⟨p0, p1, p2, p3⟩, aa, ac, rfl, ha⟩
end Go.Proofs.Ytjenkpgoggmboaa

/- Closed of the reference, walked. -/
namespace Go.Proofs.Ytjenkpgoggmboaa
open Go.RowKit

set_option maxRecDepth 100000 in
set_option maxHeartbeats 16000000 in
theorem closed_any {W : World} {nv rv pv : Value} {g : Gf} {ps : List (Int × Int)} (hG : Gr W nv rv g) (hP : Rp W pv ps) (hA : GoodA g.nodes) (hp : PsG g ps) (hN : g.nodes.length ≤ 10000) (hl : ps.length ≤ 5000) :
    Calls Try.prog 39 #[.agg #[nv, rv], pv] W fun e w' => ((∃ L, e = .returned (.tuple #[.slice (some ⟨W.heap.size + 1, 0, none⟩) g.nodes.length g.nodes.length, .bool true]) ∧ w'.ownsRow (W.heap.size + 1) 3 1 (.slice (some ⟨W.heap.size + 1, 0, none⟩) g.nodes.length g.nodes.length) g.nodes.length ((ints L).map (Value.int .i64)) ∧ CloD g.nodes (ps.map natP) L) ∨ (e = .returned (.tuple #[.slice none 0 0, .bool false]) ∧ NoSol g.nodes (ps.map natP))) ∧ Below W.heap.size W w' := by
  obtain ⟨i0, hi, hz0, hz1, hz2⟩ := info_parts infoI
  have HG := hid hG
  have HP := hid hP
  have HA := hid hA
  have Hp := hid hp
  obtain ⟨na, nc, rfl, _⟩ := hG.1
  obtain ⟨ra, rc, rfl, _⟩ := hG.2
  obtain ⟨pa, pc, rfl, _⟩ := hP
  have HPn : Hid (∀ (j : Nat), ∀ p ∈ (ps.take j).map natP, p.1 < g.nodes.length ∧ p.2 < g.nodes.length) := fun j p hm => by
    obtain ⟨q, hq, rfl⟩ := List.mem_map.1 hm
    obtain ⟨h1, h2⟩ := Hp.out q (List.mem_of_mem_take hq)
    simp only [natP]
    omega
  clear hG hA hp
  go_enter Try.func39, Try.ntmps39
  go_wp2_with (at_make; go_must (refine wpList_make_full _ rfl _ _ 23 rfl (W.heap.size + 1) 3 i0 (.int .i64 0) 1 Try.underlying23 hi hz0 hz1 .i64 .i64 _ _ g.nodes.length rfl rfl rfl rfl (by rw [hz2]; omega) (by unfold maxLen; omega) (by simp) ?_; intro w1 hown1 hgrow1; have hC0 := hid (kc_start hown1 hgrow1); clear hown1 hgrow1))
  go_loopw [8] (fun i wr => ∃ j : Nat, j ≤ g.nodes.length ∧ i = .int .i64 (j : Int) ∧ Hid (Kc W (.slice na g.nodes.length nc) (.slice ra g.roots.length rc) g.nodes.length (ldJ g.nodes.length j) wr)) (fun i _ => g.nodes.length - (intOf i).toNat)
  case atStart => exact ⟨0, Nat.zero_le _, rfl, hC0⟩
  case round =>
    clear hC0
    obtain ⟨j, hj, rfl, hC⟩ := hrel
    by_cases hlt : j < g.nodes.length
    · have hji : (j : Int) < (g.nodes.length : Int) := by omega
      obtain ⟨d0, d1⟩ := hC.out.cell hlt
      have zd := lt_of_cell d0
      have hC2 := hid (hC.out.set j j)
      rw [ldJ_step hlt] at hC2
      clear hC
      go_wp2
      go_roundw
      case rel => exact ⟨j + 1, by omega, by go_num, hC2⟩
      case measure => simp [intOf]; omega
    · obtain rfl : j = g.nodes.length := by omega
      rw [ldJ_full] at hC
      have hcl0 : Hid (Clo g.nodes ((ps.take 0).map natP) (List.range g.nodes.length) ∧ ∀ p ∈ (ps.take 0).map natP, (List.range g.nodes.length).getD p.1 0 = (List.range g.nodes.length).getD p.2 0) := ⟨clo_init g.nodes, fun p hm => (by cases hm)⟩
      go_wp2
      clear hlt hj
      go_loopw [9] (fun i wr => ∃ (j : Nat) (L : List Nat), j ≤ ps.length ∧ i = .int .i64 (j : Int) ∧ Hid (Kc W (.slice na g.nodes.length nc) (.slice ra g.roots.length rc) g.nodes.length L wr) ∧ Hid (Clo g.nodes ((ps.take j).map natP) L ∧ ∀ p ∈ (ps.take j).map natP, L.getD p.1 0 = L.getD p.2 0)) (fun i _ => ps.length - (intOf i).toNat)
      case atStart => exact ⟨0, _, Nat.zero_le _, rfl, hC, hcl0⟩
      case round =>
        clear hC hcl0
        obtain ⟨j, L, hj, rfl, hC, hcl⟩ := hrel
        by_cases hlt : j < ps.length
        · have hji : (j : Int) < (ps.length : Int) := by omega
          obtain ⟨pa', pc', e, hpc⟩ := HP.out.below hC.out.b
          injection e with e1 _ e3
          subst e1 e3
          obtain ⟨b, o, hao, p0, p1⟩ := hpc j hlt
          subst hao
          have zb := lt_of_cell p0
          have hq := Hp.out (ps.getD j (0, 0)) (by simp [List.getD, hlt])
          have htk : Hid ((ps.take (j + 1)).map natP = (ps.take j).map natP ++ [natP (ps.getD j (0, 0))]) := show _ = _ by
            rw [List.take_add_one, List.map_append]
            simp [List.getD, hlt]
          generalize ps.getD j (0, 0) = pr at *
          obtain ⟨x, y⟩ := pr
          dsimp only at p0 p1 hq
          obtain ⟨xn, rfl⟩ : ∃ xn : Nat, x = (xn : Int) := ⟨x.toNat, by omega⟩
          obtain ⟨yn, rfl⟩ : ∃ yn : Nat, y = (yn : Int) := ⟨y.toNat, by omega⟩
          have hL := hC.out.l
          have hcp : Hid (∀ w', Below wr.heap.size wr w' → Calls Try.prog 70 #[.slice (some ⟨W.heap.size + 1, 0, none⟩) g.nodes.length g.nodes.length, .int .i64 (xn : Int), .int .i64 (yn : Int)] w' fun e w'' => ∃ bb, e = .returned (.bool bb) ∧ Hid (Kc W (.slice na g.nodes.length nc) (.slice ra g.roots.length rc) g.nodes.length (putL L xn yn) w'')) := fun w' hb => by
            have hK := hC.out.next hb
            have h := rput_any (L := L) (a := xn) (b := yn) (by rw [hL]; exact hK.p) (by omega) (by omega) (by omega)
            rw [hL] at h
            refine h.mono ?_
            rintro e w'' ⟨rfl, h2, h3⟩
            exact ⟨_, rfl, hK.put (by rw [putL_len]; exact hL) h2 h3⟩
          have hcl2 : Hid (Clo g.nodes ((ps.take (j + 1)).map natP) (putL L xn yn) ∧ ∀ p ∈ (ps.take (j + 1)).map natP, (putL L xn yn).getD p.1 0 = (putL L xn yn).getD p.2 0) := by
            rw [htk.out]
            exact clo_pair hcl.out.1 hcl.out.2 (HPn.out j) (a := xn) (b := yn) (by omega) (by omega)
          clear hpc hq hcl htk hL
          go_wp2
          go_still_tail 11, (by kernel_rfl)
          change wpList _ _ _ _ _ wr.drew
          go_wp2_with (go_at_call 70; go_must (refine (hcp.out _ ((Below.refl _ _).drew)).mono ?_; rintro e w2 ⟨bb, rfl, hC2⟩))
          go_roundw
          case rel => exact ⟨j + 1, _, by omega, by go_num, hC2, hcl2⟩
          case measure => simp [intOf]; omega
        · obtain rfl : j = ps.length := by omega
          rw [List.take_length] at hcl
          have HPa := hid (HPn.out ps.length)
          rw [List.take_length] at HPa
          have hst0 : Hid ((true : Bool) = false → ∀ i j, i < j → j < g.nodes.length → stab g.nodes L i j) := fun e => (by cases e)
          have hgk0 : Hid (clN L g.nodes.length + 1 ≤ clN L g.nodes.length + 1) := Nat.le_refl _
          clear hlt hj HPn
          go_wp2
          go_loopg [10] (clN L g.nodes.length + 1) (fun gk s wr => ∃ (mo : Bool) (M : List Nat), s = .bool mo ∧ Hid (clN M g.nodes.length + (if mo = true then 1 else 0) ≤ gk) ∧ Hid (Kc W (.slice na g.nodes.length nc) (.slice ra g.roots.length rc) g.nodes.length M wr) ∧ Hid (Clo g.nodes (ps.map natP) M ∧ ∀ p ∈ ps.map natP, M.getD p.1 0 = M.getD p.2 0) ∧ Hid (mo = false → ∀ i j, i < j → j < g.nodes.length → stab g.nodes M i j))
          case atStart => exact ⟨true, L, rfl, hgk0, hC, hcl, hst0⟩
          case round =>
            clear hst0 hgk0 hC hcl
            obtain ⟨mo, M, rfl, hgk, hC, hcl, hst⟩ := hrel
            cases mo with
            | false =>
              go_wp2
              go_ret2
              exact ⟨Or.inl ⟨rfl, M, hC.out.p, hcl.out.1, hcl.out.2, hst.out trivial⟩, hC.out.b⟩
            | true =>
              have hPa0 : Hid (Pass g.nodes (ps.map natP) M M false (fun a b => a < 0)) := ⟨hcl.out.1, hcl.out.2, fun e => (by cases e), fun _ => rfl, fun _ _ _ h => absurd h (Nat.not_lt_zero _)⟩
              clear hst hcl
              go_wp2
              obtain ⟨w3, rfl⟩ : ∃ w3 : World, w3 = wr := ⟨_, rfl⟩
              go_loopw [10, 11] (fun s i wr => ∃ (mo : Bool) (n : Nat) (L : List Nat), n ≤ g.nodes.length ∧ i = .int .i64 (n : Int) ∧ s = .bool mo ∧ Hid (Kc W (.slice na g.nodes.length nc) (.slice ra g.roots.length rc) g.nodes.length L wr) ∧ Hid (Pass g.nodes (ps.map natP) M L mo (fun a b => a < n))) (fun _ i _ => g.nodes.length - (intOf i).toNat)
              case atStart => exact ⟨false, 0, M, Nat.zero_le _, rfl, rfl, hC, hPa0⟩
              case round =>
                clear hC hPa0
                obtain ⟨mo, n, L, hn, rfl, rfl, hC, hPa⟩ := hrel
                by_cases hnl : n < g.nodes.length
                · have hni : (n : Int) < (g.nodes.length : Int) := by omega
                  have hPb : Hid (Pass g.nodes (ps.map natP) M L mo (fun a b => a < n ∨ (a = n ∧ b < n + 1))) := hPa.out.more (fun e a b h h1 h2 => by
                    rcases h with h | ⟨h, h3⟩
                    · exact hPa.out.done e a b h h1 h2
                    · omega)
                  clear hPa
                  go_wp2
                  obtain ⟨w4, rfl⟩ : ∃ w4 : World, w4 = wr := ⟨_, rfl⟩
                  go_loopw [10, 12] (fun s i wr => ∃ (mo : Bool) (m : Nat) (L : List Nat), n < m ∧ m ≤ g.nodes.length ∧ i = .int .i64 (m : Int) ∧ s = .bool mo ∧ Hid (Kc W (.slice na g.nodes.length nc) (.slice ra g.roots.length rc) g.nodes.length L wr) ∧ Hid (Pass g.nodes (ps.map natP) M L mo (fun a b => a < n ∨ (a = n ∧ b < m)))) (fun _ i _ => g.nodes.length - (intOf i).toNat)
                  case atStart => exact ⟨mo, n + 1, L, by omega, by omega, by go_num, rfl, hC, hPb⟩
                  case round =>
                    clear hC hPb
                    obtain ⟨mo, m, L, hnm, hm, rfl, rfl, hC, hPa⟩ := hrel
                    by_cases hml : m < g.nodes.length
                    · have hmi : (m : Int) < (g.nodes.length : Int) := by omega
                      obtain ⟨⟨b0, b1⟩, b2⟩ := hC.out.box
                      obtain ⟨nb, no, aa, ac, hna, ⟨x0, x1, x2, x3⟩, hra⟩ := nd_at HG.out hC.out.b hnl
                      obtain ⟨nb', no', ba, bc, hna', ⟨y0, y1, y2, y3⟩, hrb⟩ := nd_at HG.out hC.out.b hml
                      rw [hna] at hna'
                      injection hna' with hna'
                      injection hna' with e1 e2
                      subst e1 e2 hna
                      have zx := lt_of_cell x0
                      obtain ⟨d0, d1⟩ := hC.out.cell hnl
                      obtain ⟨f0, f1⟩ := hC.out.cell hml
                      have zd := lt_of_cell d0
                      have hskip : Hid ((¬ L.getD n 0 = L.getD m 0 ∨ (ndN g.nodes n).kind = 1 ∨ (ndN g.nodes m).kind = 1) → Pass g.nodes (ps.map natP) M L mo (fun a b => a < n ∨ (a = n ∧ b < m + 1))) := fun hs => hPa.out.more (fun e a b h h1 h2 => by
                        rcases h with h | ⟨h, h3⟩
                        · exact hPa.out.done e a b (Or.inl h) h1 h2
                        · by_cases h4 : b < m
                          · exact hPa.out.done e a b (Or.inr ⟨h, h4⟩) h1 h2
                          · obtain rfl : b = m := by omega
                            subst h
                            intro g1 g2 g3
                            rcases hs with hs | hs | hs
                            · exact absurd g1 hs
                            · exact absurd hs g2
                            · exact absurd hs g3)
                      have hbx : Hid (∀ o1 o2 : Obj, Below wr.heap.size wr ((wr.alloc o1).alloc o2)) := fun o1 o2 => (below_alloc wr o1).alloc (by simp) o2
                      by_cases hcl : L.getD n 0 = L.getD m 0
                      · have hcl' : (((L.getD n 0 : Nat) : Int) != ((L.getD m 0 : Nat) : Int)) = false := by rw [hcl]; simp
                        rw [← hcl] at f0
                        by_cases hkn : (ndN g.nodes n).kind = 1
                        · have hPb := hid (hskip.out (Or.inr (Or.inl hkn)))
                          rw [hkn] at x0
                          clear hskip hPa hra hrb hcl hkn hcl'
                          generalize ndN g.nodes n = A at *
                          generalize ndN g.nodes m = B at *
                          generalize L.getD n 0 = ln at *
                          clear d1 f1
                          go_wp2
                          go_quiet (fail)
                          go_wp2
                          go_roundw
                          case rel => exact ⟨mo, m + 1, L, by omega, by omega, by go_num, rfl, hid ((hC.out.next (hbx.out _ _)).next (below_drewN (Below.refl _ _) _)), hPb⟩
                          case measure => simp [intOf]; omega
                        · have hkn' : ((ndN g.nodes n).kind == 1) = false := beq_eq_false_iff_ne.2 hkn
                          by_cases hkm : (ndN g.nodes m).kind = 1
                          · have hPb := hid (hskip.out (Or.inr (Or.inr hkm)))
                            rw [hkm] at y0
                            clear hskip hPa hra hrb hcl hkm hcl' hkn
                            generalize ndN g.nodes n = A at *
                            generalize ndN g.nodes m = B at *
                            generalize L.getD n 0 = ln at *
                            clear d1 f1
                            go_wp2
                            go_quiet (fail)
                            go_wp2
                            go_roundw
                            case rel => exact ⟨mo, m + 1, L, by omega, by omega, by go_num, rfl, hid ((hC.out.next (hbx.out _ _)).next (below_drewN (Below.refl _ _) _)), hPb⟩
                            case measure => simp [intOf]; omega
                          · have hkm' : ((ndN g.nodes m).kind == 1) = false := beq_eq_false_iff_ne.2 hkm
                            by_cases hlb : labS (ndN g.nodes n) (ndN g.nodes m)
                            · have hbd := hid ((below_alloc wr (.cells #[.int .i64 (ndN g.nodes n).kind, .string (ndN g.nodes n).name, .int .i64 (ndN g.nodes n).num, .slice aa (ndN g.nodes n).args.length ac] 65)).alloc (by simp) (.cells #[.int .i64 (ndN g.nodes m).kind, .string (ndN g.nodes m).name, .int .i64 (ndN g.nodes m).num, .slice ba (ndN g.nodes m).args.length bc] 65))
                              have hargs := hid (fun k (hk : k < (ndN g.nodes n).args.length) => HA.out.arg n hnl k hk)
                              have hargs2 := hid (fun k (hk : k < (ndN g.nodes m).args.length) => HA.out.arg m hml k hk)
                              have hfew := HA.out.few n
                              have Hra := hid hra
                              have Hrb := hid hrb
                              obtain ⟨l1, l2, l3, l4⟩ := hlb
                              have hlb2 := hid (And.intro l1 (And.intro l2 (And.intro l3 l4)))
                              have hfin : Hid (∀ (mo' : Bool) (L' : List Nat), Pass g.nodes (ps.map natP) M L' mo' (fun a b => a < n ∨ (a = n ∧ b < m)) → (mo' = false → ∀ k, k < (ndN g.nodes n).args.length → L'.getD (argN g.nodes n k) 0 = L'.getD (argN g.nodes m k) 0) → Pass g.nodes (ps.map natP) M L' mo' (fun a b => a < n ∨ (a = n ∧ b < m + 1))) := fun mo' L' hp hk => hp.more (fun e a b h h1 h2 => by
                                rcases h with h | ⟨h, h3⟩
                                · exact hp.done e a b (Or.inl h) h1 h2
                                · by_cases h4 : b < m
                                  · exact hp.done e a b (Or.inr ⟨h, h4⟩) h1 h2
                                  · obtain rfl : b = m := by omega
                                    subst h
                                    exact fun _ _ _ => ⟨hlb2.out, hk e⟩)
                              have hpt : Hid (∀ (mo' : Bool) (L' : List Nat) (k : Nat), Pass g.nodes (ps.map natP) M L' mo' (fun a b => a < n ∨ (a = n ∧ b < m)) → L'.getD n 0 = L'.getD m 0 → k < (ndN g.nodes n).args.length → (mo' = false → ∀ i, i < k → L'.getD (argN g.nodes n i) 0 = L'.getD (argN g.nodes m i) 0) → Pass g.nodes (ps.map natP) M (putL L' (argN g.nodes n k) (argN g.nodes m k)) (mo' || decide (L'.getD (argN g.nodes n k) 0 ≠ L'.getD (argN g.nodes m k) 0)) (fun a b => a < n ∨ (a = n ∧ b < m)) ∧ (putL L' (argN g.nodes n k) (argN g.nodes m k)).getD n 0 = (putL L' (argN g.nodes n k) (argN g.nodes m k)).getD m 0 ∧ ((mo' || decide (L'.getD (argN g.nodes n k) 0 ≠ L'.getD (argN g.nodes m k) 0)) = false → ∀ i, i < k + 1 → (putL L' (argN g.nodes n k) (argN g.nodes m k)).getD (argN g.nodes n i) 0 = (putL L' (argN g.nodes n k) (argN g.nodes m k)).getD (argN g.nodes m i) 0)) := fun mo' L' k hp he hk hb => by
                                have hl := hp.clo.len
                                refine ⟨hp.put HPa.out (hargs.out k hk).2 (hargs2.out k (by rw [← l4]; exact hk)).2 (hp.clo.arg hnl hml he hkn hkm hk), putL_keep (by omega) (by omega) he, fun e i hi => ?_⟩
                                rw [Bool.or_eq_false_iff, decide_eq_false_iff_not, Decidable.not_not] at e
                                rw [putL_eq e.2]
                                by_cases h : i = k
                                · subst h; exact e.2
                                · exact hb e.1 i (by omega)
                              have hPc := hid hPa.out
                              have hcl5 := hid hcl
                              rw [← l1] at y0 hkm'
                              rw [← l2] at y1
                              rw [← l3] at y2
                              rw [← l4] at y3 Hrb
                              have hargs3 : Hid (∀ k, k < (ndN g.nodes n).args.length → (ndN g.nodes n).args.getD k 0 = ((argN g.nodes n k : Nat) : Int) ∧ (ndN g.nodes m).args.getD k 0 = ((argN g.nodes m k : Nat) : Int) ∧ argN g.nodes n k < g.nodes.length ∧ argN g.nodes m k < g.nodes.length) := fun k hk => by
                                have h1 := hargs.out k hk
                                have h2 := hargs2.out k (by rw [← l4]; exact hk)
                                refine ⟨?_, ?_, h1.2, h2.2⟩
                                · unfold argN; omega
                                · unfold argN; omega
                              have Hl4 := hid l4
                              clear hskip hPa hra hrb hcl hcl' hkn hkm l1 l2 l3 l4 hbd hargs hargs2 hlb2 d1 f1
                              generalize (ndN g.nodes n).kind = ka at *
                              generalize (ndN g.nodes n).name = sa at *
                              generalize (ndN g.nodes n).num = ua at *
                              have hC5 : Hid (∀ nq, Kc W (.slice (some ⟨nb, no, none⟩) g.nodes.length nc) (.slice ra g.roots.length rc) g.nodes.length L (((wr.alloc (.cells #[.int .i64 ka, .string sa, .int .i64 ua, .slice aa (ndN g.nodes n).args.length ac] 65)).alloc (.cells #[.int .i64 ka, .string sa, .int .i64 ua, .slice ba (ndN g.nodes n).args.length bc] 65)).drewN nq) ∧ (((wr.alloc (.cells #[.int .i64 ka, .string sa, .int .i64 ua, .slice aa (ndN g.nodes n).args.length ac] 65)).alloc (.cells #[.int .i64 ka, .string sa, .int .i64 ua, .slice ba (ndN g.nodes n).args.length bc] 65)).drewN nq).heap[wr.heap.size]? = some (.cells #[.int .i64 ka, .string sa, .int .i64 ua, .slice aa (ndN g.nodes n).args.length ac] 65) ∧ (((wr.alloc (.cells #[.int .i64 ka, .string sa, .int .i64 ua, .slice aa (ndN g.nodes n).args.length ac] 65)).alloc (.cells #[.int .i64 ka, .string sa, .int .i64 ua, .slice ba (ndN g.nodes n).args.length bc] 65)).drewN nq).heap[wr.heap.size + 1]? = some (.cells #[.int .i64 ka, .string sa, .int .i64 ua, .slice ba (ndN g.nodes n).args.length bc] 65)) := fun nq => ⟨(hC.out.next (hbx.out (.cells #[.int .i64 ka, .string sa, .int .i64 ua, .slice aa (ndN g.nodes n).args.length ac] 65) (.cells #[.int .i64 ka, .string sa, .int .i64 ua, .slice ba (ndN g.nodes n).args.length bc] 65))).next (below_drewN (Below.refl _ _) _), (Below.heap_alloc _ _ _ (by simp)).trans (heap_alloc_new wr _), by
                                have h9 := heap_alloc_new (wr.alloc (.cells #[.int .i64 ka, .string sa, .int .i64 ua, .slice aa (ndN g.nodes n).args.length ac] 65)) (.cells #[.int .i64 ka, .string sa, .int .i64 ua, .slice ba (ndN g.nodes n).args.length bc] 65)
                                rw [show (wr.alloc (.cells #[.int .i64 ka, .string sa, .int .i64 ua, .slice aa (ndN g.nodes n).args.length ac] 65)).heap.size = wr.heap.size + 1 by simp] at h9
                                exact h9⟩
                              have hlow : Hid (W.heap.size + 1 < wr.heap.size) := show _ < _ from (hC.out.p.lt (W.heap.size + 1) rfl).2
                              generalize L.getD n 0 = ln at d0 f0
                              clear hC
                              go_wp2
                              go_quiet (fail)
                              go_wp2
                              obtain ⟨w5, rfl⟩ : ∃ w5 : World, w5 = wr := ⟨_, rfl⟩
                              clear d0 f0 zd x0 x1 x2 x3 y0 y1 y2 y3 zx b0 b1 b2 hkn' hkm'
                              go_loopw [10, 15] (fun s i wr => ∃ (mo : Bool) (k : Nat) (L : List Nat), k ≤ (ndN g.nodes n).args.length ∧ i = .int .i64 (k : Int) ∧ s = .bool mo ∧ Hid (Kc W (.slice (some ⟨nb, no, none⟩) g.nodes.length nc) (.slice ra g.roots.length rc) g.nodes.length L wr ∧ wr.heap[w5.heap.size]? = some (.cells #[.int .i64 ka, .string sa, .int .i64 ua, .slice aa (ndN g.nodes n).args.length ac] 65) ∧ wr.heap[w5.heap.size + 1]? = some (.cells #[.int .i64 ka, .string sa, .int .i64 ua, .slice ba (ndN g.nodes n).args.length bc] 65)) ∧ Hid (Pass g.nodes (ps.map natP) M L mo (fun a b => a < n ∨ (a = n ∧ b < m))) ∧ Hid (L.getD n 0 = L.getD m 0) ∧ Hid (mo = false → ∀ i, i < k → L.getD (argN g.nodes n i) 0 = L.getD (argN g.nodes m i) 0)) (fun _ i _ => (ndN g.nodes n).args.length - (intOf i).toNat)
                              case atStart => exact ⟨mo, 0, L, Nat.zero_le _, rfl, rfl, hid (hC5.out _), hPc, hcl5, hid (fun _ i hi => absurd hi (Nat.not_lt_zero _))⟩
                              case round =>
                                clear hC5 hPc hcl5
                                obtain ⟨mo, k, L, hk, rfl, rfl, hC, hPc, hcl5, hki⟩ := hrel
                                obtain ⟨⟨x0, x1, x2, x3⟩, _⟩ := nblk hC.out.2.1
                                obtain ⟨⟨y0, y1, y2, y3⟩, _⟩ := nblk hC.out.2.2
                                have zx := lt_of_block hC.out.2.1
                                have zy := lt_of_block hC.out.2.2
                                by_cases hkl : k < (ndN g.nodes n).args.length
                                · have hkI : (k : Int) < ((ndN g.nodes n).args.length : Int) := by omega
                                  obtain ⟨ab, af, haa, a0⟩ := (Hra.out.below hC.out.1.b).at hkl
                                  obtain ⟨bb, bf, hba, b0⟩ := (Hrb.out.below hC.out.1.b).at (j := k) (by rw [← Hl4.out]; exact hkl)
                                  subst haa hba
                                  obtain ⟨e1, e2, r1, r2⟩ := hargs3.out k hkl
                                  rw [e1] at a0
                                  rw [e2] at b0
                                  have za := lt_of_cell a0
                                  have zb := lt_of_cell b0
                                  obtain ⟨q1, q2, q3⟩ := hpt.out mo L k hPc.out hcl5.out hkl hki.out
                                  have hL := hC.out.1.l
                                  have hcp : Hid (∀ w', Below wr.heap.size wr w' → Calls Try.prog 70 #[.slice (some ⟨W.heap.size + 1, 0, none⟩) g.nodes.length g.nodes.length, .int .i64 ((argN g.nodes n k : Nat) : Int), .int .i64 ((argN g.nodes m k : Nat) : Int)] w' fun e w'' => e = .returned (.bool (decide (L.getD (argN g.nodes n k) 0 ≠ L.getD (argN g.nodes m k) 0))) ∧ Hid (Kc W (.slice (some ⟨nb, no, none⟩) g.nodes.length nc) (.slice ra g.roots.length rc) g.nodes.length (putL L (argN g.nodes n k) (argN g.nodes m k)) w'' ∧ w''.heap[w5.heap.size]? = some (.cells #[.int .i64 ka, .string sa, .int .i64 ua, .slice (some ⟨ab, af, none⟩) (ndN g.nodes n).args.length ac] 65) ∧ w''.heap[w5.heap.size + 1]? = some (.cells #[.int .i64 ka, .string sa, .int .i64 ua, .slice (some ⟨bb, bf, none⟩) (ndN g.nodes n).args.length bc] 65))) := fun w' hb => by
                                    have hK := hC.out.1.next hb
                                    have h := rput_any (L := L) (a := argN g.nodes n k) (b := argN g.nodes m k) (by rw [hL]; exact hK.p) (by omega) (by omega) (by omega)
                                    rw [hL] at h
                                    refine h.mono ?_
                                    rintro e w'' ⟨rfl, h2, h3⟩
                                    have hlw := hlow.out
                                    exact ⟨rfl, hK.put (by rw [putL_len]; exact hL) h2 h3, (h3.block _ (Nat.lt_of_lt_of_le zx hb.size) (by omega)).trans ((hb.block _ zx).trans hC.out.2.1), (h3.block _ (Nat.lt_of_lt_of_le zy hb.size) (by omega)).trans ((hb.block _ zy).trans hC.out.2.2)⟩
                                  have hq3 := hid q3
                                  have hq1 := hid q1
                                  have hq2 := hid q2
                                  clear q1 q2 q3 e1 e2 r1 r2 hL hPc hcl5 hki
                                  generalize decide (L.getD (argN g.nodes n k) 0 ≠ L.getD (argN g.nodes m k) 0) = dd at *
                                  generalize argN g.nodes n k = xn at a0 hcp hq1 hq2 hq3
                                  generalize argN g.nodes m k = yn at b0 hcp hq1 hq2 hq3
                                  cases dd with
                                  | true =>
                                    rw [Bool.or_true] at hq1 hq3
                                    go_wp2
                                    go_still_tail 11, (by kernel_rfl)
                                    change wpList _ _ _ _ _ wr.drew
                                    go_wp2_with (go_at_call 70; go_must (refine (hcp.out _ ((Below.refl _ _).drew)).mono ?_; rintro e w7 ⟨rfl, hC7⟩))
                                    go_roundw
                                    case rel => exact ⟨true, k + 1, _, by omega, by go_num, rfl, hC7, hq1, hq2, hq3⟩
                                    case measure => simp [intOf]; omega
                                  | false =>
                                    rw [Bool.or_false] at hq1 hq3
                                    go_wp2
                                    go_still_tail 11, (by kernel_rfl)
                                    change wpList _ _ _ _ _ wr.drew
                                    go_wp2_with (go_at_call 70; go_must (refine (hcp.out _ ((Below.refl _ _).drew)).mono ?_; rintro e w7 ⟨rfl, hC7⟩))
                                    go_roundw
                                    case rel => exact ⟨mo, k + 1, _, by omega, by go_num, rfl, hC7, hq1, hq2, hq3⟩
                                    case measure => simp [intOf]; omega
                                · obtain rfl : k = (ndN g.nodes n).args.length := by omega
                                  have hPd := hid (hfin.out mo L hPc.out hki.out)
                                  go_wp2
                                  exact ⟨⟨mo, m + 1, L, by omega, by omega, by go_num, rfl, hC.out.1, hPd⟩, by simp [intOf]; omega⟩
                            · have hno := hid (hPa.out.clo.fail hnl hml hcl hkn hkm hlb)
                              have hlb' : (ndN g.nodes n).kind ≠ (ndN g.nodes m).kind ∨ ((ndN g.nodes n).kind = (ndN g.nodes m).kind ∧ (ndN g.nodes n).name ≠ (ndN g.nodes m).name) ∨ ((ndN g.nodes n).kind = (ndN g.nodes m).kind ∧ (ndN g.nodes n).name = (ndN g.nodes m).name ∧ (ndN g.nodes n).num ≠ (ndN g.nodes m).num) ∨ ((ndN g.nodes n).kind = (ndN g.nodes m).kind ∧ (ndN g.nodes n).name = (ndN g.nodes m).name ∧ (ndN g.nodes n).num = (ndN g.nodes m).num ∧ (ndN g.nodes n).args.length ≠ (ndN g.nodes m).args.length) := by
                                unfold labS at hlb
                                by_cases h1 : (ndN g.nodes n).kind = (ndN g.nodes m).kind
                                · by_cases h2 : (ndN g.nodes n).name = (ndN g.nodes m).name
                                  · by_cases h3 : (ndN g.nodes n).num = (ndN g.nodes m).num
                                    · exact Or.inr (Or.inr (Or.inr ⟨h1, h2, h3, fun h4 => hlb ⟨h1, h2, h3, h4⟩⟩))
                                    · exact Or.inr (Or.inr (Or.inl ⟨h1, h2, h3⟩))
                                  · exact Or.inr (Or.inl ⟨h1, h2⟩)
                                · exact Or.inl h1
                              clear hskip hPa hra hrb hcl hcl' hlb
                              generalize ndN g.nodes n = A at *
                              generalize ndN g.nodes m = B at *
                              generalize L.getD n 0 = ln at *
                              clear d1 f1 hkn hkm
                              obtain ⟨ka, sa, ua, la⟩ := A
                              obtain ⟨kb, sb, ub, lb⟩ := B
                              dsimp only at x0 x1 x2 x3 y0 y1 y2 y3 hkn' hkm' hlb'
                              rcases hlb' with h1 | ⟨h1, h2⟩ | ⟨h1, h2, h3⟩ | ⟨h1, h2, h3, h4⟩
                              · have h1' : (ka != kb) = true := bne_iff_ne.2 h1
                                go_wp2
                                go_quiet (fail)
                                go_wp2
                                go_ret2
                                exact ⟨Or.inr ⟨rfl, hno.out⟩, ((hC.out.next (hbx.out _ _)).next (below_drewN (Below.refl _ _) _)).b⟩
                              · subst h1
                                have h2' : ¬ sa.toList = sb.toList := fun h => h2 (str_eq h)
                                go_wp2
                                go_quiet (fail)
                                go_wp2
                                go_ret2
                                exact ⟨Or.inr ⟨rfl, hno.out⟩, ((hC.out.next (hbx.out _ _)).next (below_drewN (Below.refl _ _) _)).b⟩
                              · subst h1 h2
                                have h3' : (ua != ub) = true := bne_iff_ne.2 h3
                                go_wp2
                                go_quiet (fail)
                                go_wp2
                                go_ret2
                                exact ⟨Or.inr ⟨rfl, hno.out⟩, ((hC.out.next (hbx.out _ _)).next (below_drewN (Below.refl _ _) _)).b⟩
                              · subst h1 h2 h3
                                have h4' : ((la.length : Int) != (lb.length : Int)) = true := bne_iff_ne.2 (by omega)
                                go_wp2
                                go_quiet (fail)
                                go_wp2
                                go_ret2
                                exact ⟨Or.inr ⟨rfl, hno.out⟩, ((hC.out.next (hbx.out _ _)).next (below_drewN (Below.refl _ _) _)).b⟩
                      · have hcl' : (((L.getD n 0 : Nat) : Int) != ((L.getD m 0 : Nat) : Int)) = true := bne_iff_ne.2 (by omega)
                        have hPb := hid (hskip.out (Or.inl hcl))
                        clear hskip hPa hra hrb
                        generalize ndN g.nodes n = A at *
                        generalize ndN g.nodes m = B at *
                        generalize L.getD n 0 = ln at *
                        generalize L.getD m 0 = lm at *
                        clear d1 f1
                        go_wp2
                        go_quiet (fail)
                        go_wp2
                        go_roundw
                        case rel => exact ⟨mo, m + 1, L, by omega, by omega, by go_num, rfl, hid ((hC.out.next (hbx.out _ _)).next (below_drewN (Below.refl _ _) _)), hPb⟩
                        case measure => simp [intOf]; omega
                    · obtain rfl : m = g.nodes.length := by omega
                      have hPd : Hid (Pass g.nodes (ps.map natP) M L mo (fun a b => a < n + 1)) := hPa.out.more (fun e a b h h1 h2 => hPa.out.done e a b (by omega) h1 h2)
                      go_wp2
                      exact ⟨⟨mo, n + 1, L, by omega, by go_num, rfl, hC, hPd⟩, by simp [intOf]; omega⟩
                · obtain rfl : n = g.nodes.length := by omega
                  go_wp2
                  go_roundg (clN L g.nodes.length + if mo = true then 1 else 0)
                  case measure =>
                    have h1 := hgk.out
                    have h2 := hPa.out.le
                    cases mo with
                    | true => have h3 := hPa.out.chg rfl; simp at h1 ⊢; omega
                    | false => simp at h1 ⊢; omega
                  case rel => exact ⟨mo, L, rfl, Nat.le_refl _, hC, ⟨hPa.out.clo, hPa.out.prs⟩, fun e i j h1 h2 => hPa.out.done e i j (by omega) h1 h2⟩
end Go.Proofs.Ytjenkpgoggmboaa

/- SolveOrder: pairs in another order, and steps: plain data and rows. -/
namespace Go.Proofs.Ytjenkpgoggmboaa
open Go.RowKit

/-- Solved by the first so many pairs. -/
def AllS (g : Gf) (ps : List (Int × Int)) (j : Nat) (A : Gf) : Prop := ∃ (E r : Nat → Nat), Un g.nodes ((ps.take j).map natP) E [] ∧ Hm g.nodes E A r ∧ Rts g.nodes.length g.roots A r ∧ Good A
/-- All nodes as roots, and the roots behind them. -/
def allG (g : Gf) : Gf := ⟨g.nodes, (List.range g.nodes.length).map (fun n : Nat => (n : Int)) ++ g.roots⟩
theorem alls_start {g : Gf} (hg : Good g) (ps : List (Int × Int)) (hN : g.nodes.length ≤ 120) (hR : g.roots.length ≤ 120) : AllS g ps 0 (allG g) := by
  obtain ⟨h1, h2⟩ := Hm.start hg
  refine ⟨id, id, Un.init _, h1, h2, hg.nodes, ?_, hg.node, fun z hz => ?_⟩
  · show (List.length (_ ++ _)) ≤ 4096
    simp
    omega
  · rcases List.mem_append.1 hz with h | h
    · obtain ⟨n, hn, rfl⟩ := List.mem_map.1 h
      have : n < g.nodes.length := by simpa using hn
      show 0 ≤ (n : Int) ∧ (n : Int) < (g.nodes.length : Int)
      omega
    · exact hg.root z h
theorem alls_len {g : Gf} {ps : List (Int × Int)} {j : Nat} {A : Gf} (h : AllS g ps j A) : A.roots.length = g.nodes.length + g.roots.length ∧ Good A := by
  obtain ⟨E, r, _, _, h3, h4⟩ := h
  exact ⟨h3.len, h4⟩
/-- The two roots of a pair. -/
def rtQ (A : Gf) (p : Int × Int) : Int × Int := (A.roots.getD p.1.toNat 0, A.roots.getD p.2.toNat 0)
theorem take_pair {ps : List (Int × Int)} {j : Nat} (hj : j < ps.length) : (ps.take (j + 1)).map natP = (ps.take j).map natP ++ [natP (ps.getD j (0, 0))] := by
  rw [List.take_add_one, List.map_append]
  simp [List.getD, hj]
theorem psg_nat {g : Gf} {ps : List (Int × Int)} (h : PsG g ps) : ∀ p ∈ ps.map natP, p.1 < g.nodes.length ∧ p.2 < g.nodes.length := fun p hm => by
  obtain ⟨q, hq, rfl⟩ := List.mem_map.1 hm
  obtain ⟨h1, h2⟩ := h q hq
  simp only [natP]
  omega
theorem chkS_one {A : Gf} (hA : Good A) {q : Int × Int} (h1 : 0 ≤ q.1 ∧ q.1 < (A.nodes.length : Int)) (h2 : 0 ≤ q.2 ∧ q.2 < (A.nodes.length : Int)) : chkS A [q] = [] := by
  have h : ixOf (badP A.nodes.length) [q] = -1 := ixOf_none _ _ (by
    simp [badP, strange]
    omega)
  unfold chkS
  rw [chk_of_good hA, h]
  simp
theorem alls_step {g : Gf} (hg : Good g) {ps : List (Int × Int)} (hpg : PsG g ps) {j : Nat} (hj : j < ps.length) {A : Gf} (h : AllS g ps j A) :
    chkS A [rtQ A (ps.getD j (0, 0))] = [] ∧ (NoSol A.nodes ([rtQ A (ps.getD j (0, 0))].map natP) → NoSol g.nodes (ps.map natP)) ∧ ∀ t, LeastS A [rtQ A (ps.getD j (0, 0))] t → AllS g ps (j + 1) t := by
  obtain ⟨E, r, hU, hH, hR, hA⟩ := h
  obtain ⟨p1, p2⟩ := hpg _ (pairD_mem hj)
  have hPn : ∀ p ∈ (ps.take j).map natP, p.1 < g.nodes.length ∧ p.2 < g.nodes.length := fun p hm => psg_nat hpg p (by
    obtain ⟨q, hq, rfl⟩ := List.mem_map.1 hm
    exact List.mem_map.2 ⟨q, List.mem_of_mem_take hq, rfl⟩)
  have htk := take_pair hj
  generalize hp : ps.getD j (0, 0) = p at *
  obtain ⟨x, y⟩ := p
  dsimp only at p1 p2
  have hx : x.toNat < g.nodes.length := by omega
  have hy : y.toNat < g.nodes.length := by omega
  have e1 : rtQ A (x, y) = (((r x.toNat : Nat) : Int), ((r y.toNat : Nat) : Int)) := by
    unfold rtQ
    rw [hR.nd _ hx, hR.nd _ hy]
  have e2 : [rtQ A (x, y)].map natP = [(r x.toNat, r y.toNat)] := by
    rw [e1]
    simp [natP]
  have r1 := hH.rng _ hx
  have r2 := hH.rng _ hy
  have hns := hH.nosol (goodA_of hg) hU hPn hx hy
  refine ⟨?_, fun hn => ?_, fun t ht => ?_⟩
  · rw [e1]
    exact chkS_one hA ⟨by omega, by show ((r x.toNat : Nat) : Int) < _; omega⟩ ⟨by omega, by show ((r y.toNat : Nat) : Int) < _; omega⟩
  · rw [e2] at hn
    have h1 := hns.1 hn
    refine h1.more (fun p hm => ?_)
    rw [show (ps.take j).map natP ++ [(x.toNat, y.toNat)] = (ps.take (j + 1)).map natP from htk.symm] at hm
    obtain ⟨q, hq, rfl⟩ := List.mem_map.1 hm
    exact List.mem_map.2 ⟨q, List.mem_of_mem_take hq, rfl⟩
  · obtain ⟨F, ee, hF, hd, rfl⟩ := ht
    rw [e2] at hF
    have hE : ∃ E', Un g.nodes ((ps.take j).map natP ++ [(x.toNat, y.toNat)]) E' [] := by
      rcases un_more (goodA_of hg) hU hx hy with h1 | h1
      · exact h1
      · exact absurd (hns.2 h1 _ hF.done.1 hF.done.2.1) (fun h => h)
    obtain ⟨E', hU'⟩ := hE
    obtain ⟨r', h3, h4⟩ := Hm.step hg hU hA hH hPn hg.root hR hx hy hU' hF hd
    have hB := gE_good hA hF.rng
    exact ⟨E', r', by rw [htk]; exact hU', h3, h4, trim_good0 (quo_good hB (al_eqv hB hd))⟩
theorem alls_fin {g : Gf} (hg : Good g) {ps : List (Int × Int)} {A : Gf} (h : AllS g ps ps.length A) : ¬ NoSol g.nodes (ps.map natP) ∧ Good ⟨A.nodes, A.roots.drop g.nodes.length⟩ ∧ ∀ t, LeastS g ps t → ∀ e2 : Nat → Nat → Bool, (∀ x y : Nat, (e2 x y = true ↔ Al ⟨A.nodes, A.roots.drop g.nodes.length⟩ (x : Int) (y : Int))) → trimF (quoF e2 ⟨A.nodes, A.roots.drop g.nodes.length⟩) = t := by
  obtain ⟨E, r, hU, hH, hR, hA⟩ := h
  rw [List.take_length] at hU
  exact ⟨fun hn => hn _ hU.done.1 hU.done.2.1, ⟨hA.nodes, by have := hA.roots; simp; omega, hA.node, fun z hz => hA.root z (List.mem_of_mem_drop hz)⟩, fun t ht e2 hd2 => Hm.fin hg hU hA hH hR ht hd2⟩
/-- Backwards, each pair turned and as it is. -/
def othJ (ps : List (Int × Int)) : Nat → List (Int × Int)
  | 0 => []
  | k + 1 => othJ ps k ++ [((ps.getD (ps.length - 1 - k) (0, 0)).2, (ps.getD (ps.length - 1 - k) (0, 0)).1), ps.getD (ps.length - 1 - k) (0, 0)]
theorem othJ_len (ps : List (Int × Int)) : ∀ k, (othJ ps k).length = k + k
  | 0 => rfl
  | k + 1 => by
    unfold othJ
    rw [List.length_append, othJ_len ps k]
    simp
    omega
theorem othJ_mem {ps : List (Int × Int)} : ∀ {k : Nat} {q : Int × Int}, q ∈ othJ ps k ↔ ∃ i, i < k ∧ (q = ps.getD (ps.length - 1 - i) (0, 0) ∨ q = ((ps.getD (ps.length - 1 - i) (0, 0)).2, (ps.getD (ps.length - 1 - i) (0, 0)).1))
  | 0, q => ⟨fun h => (by cases h), fun ⟨i, hi, _⟩ => absurd hi (Nat.not_lt_zero _)⟩
  | k + 1, q => by
    unfold othJ
    rw [List.mem_append, othJ_mem (k := k)]
    constructor
    · rintro (⟨i, hi, h⟩ | h)
      · exact ⟨i, by omega, h⟩
      · refine ⟨k, by omega, ?_⟩
        rcases List.mem_cons.1 h with h | h
        · exact Or.inr h
        · exact Or.inl (by simpa using h)
    · rintro ⟨i, hi, h⟩
      by_cases e : i = k
      · subst e
        rcases h with h | h
        · exact Or.inr (by rw [← h]; simp)
        · exact Or.inr (by rw [← h]; simp)
      · exact Or.inl ⟨i, by omega, h⟩
theorem oth_psg {g : Gf} {ps : List (Int × Int)} (h : PsG g ps) : PsG g (othJ ps ps.length) := fun q hq => by
  obtain ⟨i, hi, e⟩ := othJ_mem.1 hq
  have := h _ (pairD_mem (ps := ps) (i := ps.length - 1 - i) (by omega))
  rcases e with rfl | rfl
  · exact this
  · exact ⟨this.2, this.1⟩
theorem oth_iff {ns : List Nd} {ps : List (Int × Int)} (R : Nat → Nat → Prop) (hR : Cg ns R) : (∀ p ∈ ps.map natP, R p.1 p.2) ↔ ∀ p ∈ (othJ ps ps.length).map natP, R p.1 p.2 := by
  constructor
  · intro h p hm
    obtain ⟨q, hq, rfl⟩ := List.mem_map.1 hm
    obtain ⟨i, hi, e⟩ := othJ_mem.1 hq
    have := h (natP (ps.getD (ps.length - 1 - i) (0, 0))) (List.mem_map.2 ⟨_, pairD_mem (by omega), rfl⟩)
    rcases e with rfl | rfl
    · exact this
    · exact hR.symm _ _ this
  · intro h p hm
    obtain ⟨q, hq, rfl⟩ := List.mem_map.1 hm
    obtain ⟨i, hi, rfl⟩ := List.getElem_of_mem hq
    refine h _ (List.mem_map.2 ⟨_, othJ_mem.2 ⟨ps.length - 1 - i, by omega, Or.inl ?_⟩, rfl⟩)
    rw [show ps.length - 1 - (ps.length - 1 - i) = i by omega]
    simp [List.getD, hi]
theorem oth_nosol {ns : List Nd} {ps : List (Int × Int)} : NoSol ns ((othJ ps ps.length).map natP) ↔ NoSol ns (ps.map natP) :=
  ⟨fun h R hR hp => h R hR ((oth_iff R hR).1 hp), fun h R hR hp => h R hR ((oth_iff R hR).2 hp)⟩
/-- The cells of pairs. -/
def pcI (l : List (Int × Int)) : List Value := l.flatMap fun p => [.int .i64 p.1, .int .i64 p.2]
theorem pcI_app (l m : List (Int × Int)) : pcI (l ++ m) = pcI l ++ pcI m := by simp [pcI]
theorem pcI_len : ∀ l : List (Int × Int), (pcI l).length = l.length * 2
  | [] => rfl
  | p :: r => by
    show (_ :: _ :: pcI r).length = _
    rw [List.length_cons, List.length_cons, pcI_len r, List.length_cons]
    omega
theorem pcI_at : ∀ (l : List (Int × Int)) (j : Nat), j < l.length → (pcI l)[j * 2]? = some (.int .i64 (l.getD j (0, 0)).1) ∧ (pcI l)[j * 2 + 1]? = some (.int .i64 (l.getD j (0, 0)).2)
  | [], j, h => absurd h (Nat.not_lt_zero _)
  | p :: r, 0, _ => ⟨rfl, rfl⟩
  | p :: r, j + 1, h => by
    have := pcI_at r j (by simpa using h)
    rw [show (j + 1) * 2 = j * 2 + 1 + 1 by omega]
    have e : pcI (p :: r) = .int .i64 p.1 :: .int .i64 p.2 :: pcI r := rfl
    rw [e]
    simpa [List.getD] using this
theorem rp_own {w : World} {B : Nat} {ao : Option Addr} {n c : Nat} {l : List (Int × Int)} (hn : l.length = n) (h : w.ownsRow B 52 2 (.slice ao n c) n (pcI l)) : Rp w (.slice ao n c) l := by
  subst hn
  refine ⟨ao, c, rfl, fun j hj => ?_⟩
  rcases h.2 with ⟨_, h0⟩ | ⟨g, cap, cur, e, _⟩
  · omega
  · have e2 : ao = some ⟨g, 0, none⟩ := by injection e
    subst e2
    obtain ⟨c0, c1⟩ := pcI_at l j hj
    refine ⟨g, 0, rfl, ?_, ?_⟩
    · rw [Nat.zero_add, h.cellAt (j * 2) (by omega)]; exact c0
    · rw [Nat.zero_add, h.cellAt (j * 2 + 1) (by omega)]; exact c1
theorem rp_lit1 {w : World} {b : Nat} {x y : Int} (h : w.heap[b]? = some (.cells #[.int .i64 x, .int .i64 y] 52)) : Rp w (.slice (some ⟨b, 0, none⟩) 1 1) [(x, y)] := by
  refine ⟨some ⟨b, 0, none⟩, 1, rfl, fun j hj => ?_⟩
  have e : j = 0 := by simpa using hj
  subst e
  exact ⟨b, 0, rfl, by simp [World.cell?, h], by simp [World.cell?, h]⟩
end Go.Proofs.Ytjenkpgoggmboaa

/- Instance of the reference: plain data and memory. -/
namespace Go.Proofs.Ytjenkpgoggmboaa
open Go.RowKit

/-- What stands for itself has another kind with the reference. -/
def swp (n : Nd) : Nd := if n.kind = 0 then ⟨-1, n.name, n.num, n.args⟩ else n
theorem swp_args (n : Nd) : (swp n).args = n.args := by unfold swp; split <;> rfl
theorem swp_kind1 (n : Nd) : (swp n).kind = 1 ↔ n.kind = 1 := by
  unfold swp
  split
  · rename_i h
    simp [h]
  · exact Iff.rfl
theorem swp_lab {m n : Nd} (hm : m.kind ≠ -1) (hn : n.kind ≠ -1) : labS (swp m) (swp n) ↔ labS m n := by
  unfold swp labS
  split
  · rename_i h1
    split
    · rename_i h2
      simp [h1, h2]
    · rename_i h2
      constructor
      · rintro ⟨h, _⟩
        exact absurd h.symm hn
      · rintro ⟨h, _⟩
        exact absurd (h ▸ h1) h2
  · rename_i h1
    split
    · rename_i h2
      constructor
      · rintro ⟨h, _⟩
        exact absurd h hm
      · rintro ⟨h, _⟩
        exact absurd (h.trans h2) h1
    · exact Iff.rfl
theorem swp_nd {ns : List Nd} (x : Nat) (hx : x < ns.length) : ndN (ns.map swp) x = swp (ndN ns x) := by simp [ndN, List.getD, hx]
theorem swp_cg {ns : List Nd} (hk : ∀ x, x < ns.length → (ndN ns x).kind ≠ -1) {R : Nat → Nat → Prop} : Cg (ns.map swp) R ↔ Cg ns R := by
  have hl : (ns.map swp).length = ns.length := by simp
  have ha : ∀ x k, x < ns.length → argN (ns.map swp) x k = argN ns x k := fun x k hx => by
    unfold argN
    rw [swp_nd x hx, swp_args]
  constructor
  · intro h
    refine ⟨h.toEq3, fun x y hx hy hr h1 h2 => ?_⟩
    have := h.lab x y (by omega) (by omega) hr (by rw [swp_nd x hx, Ne, swp_kind1]; exact h1) (by rw [swp_nd y hy, Ne, swp_kind1]; exact h2)
    rw [swp_nd x hx, swp_nd y hy, swp_lab (hk x hx) (hk y hy), swp_args] at this
    exact ⟨this.1, fun k hkk => by have := this.2 k hkk; rw [ha x k hx, ha y k hy] at this; exact this⟩
  · intro h
    refine ⟨h.toEq3, fun x y hx hy hr h1 h2 => ?_⟩
    have hx' : x < ns.length := by omega
    have hy' : y < ns.length := by omega
    rw [swp_nd x hx', Ne, swp_kind1] at h1
    rw [swp_nd y hy', Ne, swp_kind1] at h2
    have := h.lab x y hx' hy' hr h1 h2
    rw [swp_nd x hx', swp_nd y hy', swp_lab (hk x hx') (hk y hy'), swp_args]
    exact ⟨this.1, fun k hkk => by rw [ha x k hx', ha y k hy']; exact this.2 k hkk⟩
theorem swp_nosol {ns : List Nd} (hk : ∀ x, x < ns.length → (ndN ns x).kind ≠ -1) {P : List (Nat × Nat)} : NoSol (ns.map swp) P ↔ NoSol ns P :=
  ⟨fun h R hR => h R ((swp_cg hk).2 hR), fun h R hR => h R ((swp_cg hk).1 hR)⟩
theorem good_kind {N : Nat} {n : Nd} (h : goodNd N n = true) : n.kind ≠ -1 ∧ n.kind ≠ 0 := by
  unfold goodNd at h
  split at h
  · rename_i h1; rw [h1]; decide
  · split at h
    · rename_i h1; rw [h1]; decide
    · split at h
      · rename_i h1; rw [h1]; decide
      · split at h
        · rename_i h1; rw [h1]; decide
        · simp at h
theorem both_kind {p t : Gf} (hp : Good p) (ht : Good t) : ∀ x, x < (bothN p t).length → (ndN (bothN p t) x).kind ≠ -1 := fun x hx => by
  rw [bothN_len] at hx
  by_cases h : x < p.nodes.length
  · rw [bothN_left p t h]
    exact (good_kind (good_ndI hp ⟨by omega, by omega⟩)).1
  · obtain ⟨y, rfl⟩ : ∃ y, x = p.nodes.length + y := ⟨x - p.nodes.length, by omega⟩
    rw [bothN_right p t (by omega)]
    unfold fixN1
    split
    · show (0 : Int) ≠ -1
      decide
    · exact (good_kind (good_ndI ht (x := (y : Int)) ⟨by omega, by omega⟩)).1
theorem swp_goodA {ns : List Nd} (h : GoodA ns) : GoodA (ns.map swp) := by
  have hl : (ns.map swp).length = ns.length := by simp
  have hnd : ∀ x, x < ns.length → ndN (ns.map swp) x = swp (ndN ns x) := fun x hx => swp_nd x hx
  have hout : ∀ x, ¬ x < ns.length → ndN (ns.map swp) x = nd0 := fun x hx => by
    unfold ndN
    rw [List.getD, List.getElem?_eq_none (by omega)]
    rfl
  refine ⟨fun x hx k hk => ?_, fun x hk => ?_, fun x => ?_⟩
  · have hx' : x < ns.length := by omega
    rw [hnd x hx', swp_args] at hk ⊢
    have := h.arg x hx' k hk
    unfold argN at this ⊢
    rw [hnd x hx', swp_args, hl]
    exact this
  · by_cases hx : x < ns.length
    · rw [hnd x hx, swp_kind1] at hk
      rw [hnd x hx, swp_args]
      exact h.var x hk
    · rw [hout x hx]
  · by_cases hx : x < ns.length
    · rw [hnd x hx, swp_args]
      exact h.few x
    · rw [hout x hx]; exact Nat.zero_le _
/-- The pairs of roots. -/
def rtI (p t : Gf) : List (Int × Int) := (List.range p.roots.length).map (fun i => (p.roots.getD i 0, t.roots.getD i 0 + (p.nodes.length : Int)))
theorem rtI_take {p t : Gf} {j : Nat} (hj : j < p.roots.length) : (rtI p t).take (j + 1) = (rtI p t).take j ++ [(p.roots.getD j 0, t.roots.getD j 0 + (p.nodes.length : Int))] := by
  rw [List.take_add_one]
  congr 1
  simp [rtI, hj]
theorem rtI_len (p t : Gf) : (rtI p t).length = p.roots.length := by simp [rtI]
theorem rtI_nat {p t : Gf} (ht : Good t) (hl : p.roots.length = t.roots.length) : (rtI p t).map natP = rtP p t := by
  unfold rtI rtP
  rw [List.map_map]
  apply List.map_congr_left
  intro i hi
  have hi' : i < p.roots.length := by simpa using hi
  have := ht.root _ (getD_mem (k := i) (by omega))
  simp only [Function.comp, natP]
  congr 1
  omega
theorem rtI_psg {p t : Gf} (hp : Good p) (ht : Good t) (hl : p.roots.length = t.roots.length) {rs : List Int} : PsG ⟨(bothN p t).map swp, rs⟩ (rtI p t) := fun q hq => by
  obtain ⟨i, hi, rfl⟩ := List.mem_map.1 hq
  have hi' : i < p.roots.length := by simpa using hi
  have h1 := hp.root _ (getD_mem (k := i) hi')
  have h2 := ht.root _ (getD_mem (k := i) (by omega))
  have hlen : ((bothN p t).map swp).length = p.nodes.length + t.nodes.length := by rw [List.length_map, bothN_len]
  dsimp only
  rw [hlen]
  omega
/-- Arguments lie where they were, or in a row of their own. -/
def Ra (w0 w : World) (S : Nat) (v : Value) (l : List Int) : Prop := Ri w0 v l ∨ w.ownsRow S 3 1 v l.length (l.map (Value.int .i64))
/-- Nodes that are put behind one another in a box. -/
structure Bnd (w0 w : World) (ob : Nat) (gv : Value) (avs : List Value) (nds : List Nd) : Prop where
  b : Below w0.heap.size w0 w
  lo : w0.heap.size ≤ ob
  x : w.heap[ob]? = some (.cells #[gv, .slice none 0 0] 25)
  n : w.ownsRow w0.heap.size 65 4 gv nds.length (ncells nds avs)
  len : avs.length = nds.length
  a : ∀ j, j < nds.length → Ra w0 w w0.heap.size (avs.getD j undef) (nds.getD j nd0).args
section
variable {w0 w w' : World} {ob : Nat} {gv : Value} {avs : List Value} {nds : List Nd}
theorem Bnd.keep (h : Bnd w0 w ob gv avs nds) (hb : Below w0.heap.size w0 w') (hm : ∀ k, w0.heap.size ≤ k → k < w.heap.size → w'.heap[k]? = w.heap[k]?) : Bnd w0 w' ob gv avs nds := by
  have kr : ∀ {e : TypeId} {z : Nat} {v : Value} {n : Nat} {xs : List Value}, w.ownsRow w0.heap.size e z v n xs → w'.ownsRow w0.heap.size e z v n xs := fun ho => row_keep ho (fun k hk => hm k (ho.lt k hk).1 (ho.lt k hk).2)
  refine ⟨hb, h.lo, (hm ob h.lo (lt_of_block h.x)).trans h.x, kr h.n, h.len, fun j hj => ?_⟩
  rcases h.a j hj with h1 | h1
  · exact Or.inl h1
  · exact Or.inr (kr h1)
theorem Bnd.next (h : Bnd w0 w ob gv avs nds) (k : Below w.heap.size w w') : Bnd w0 w' ob gv avs nds := h.keep (h.b.trans (k.mono h.b.size)) (fun i _ h2 => k.block i h2)
theorem Bnd.rn (h : Bnd w0 w ob gv avs nds) : Rn w gv nds := by
  obtain ⟨na, nc, rfl⟩ := own_sl h.n
  refine ⟨na, nc, rfl, fun j hj => ?_⟩
  rcases h.n.2 with ⟨_, h0⟩ | ⟨g, cap, cur, e1, _⟩
  · omega
  · have e2 : na = some ⟨g, 0, none⟩ := by injection e1
    subst e2
    obtain ⟨c0, c1, c2, c3⟩ := ncells_at nds avs j h.len hj
    have k0 := h.n.cellAt (j * 4) (by omega)
    have k1 := h.n.cellAt (j * 4 + 1) (by omega)
    have k2 := h.n.cellAt (j * 4 + 2) (by omega)
    have k3 := h.n.cellAt (j * 4 + 3) (by omega)
    rw [c0] at k0
    rw [c1] at k1
    rw [c2] at k2
    rw [c3] at k3
    refine ⟨g, 0, _, rfl, by rw [Nat.zero_add]; exact k0, by rw [Nat.zero_add]; exact k1, by rw [Nat.zero_add]; exact k2, by rw [Nat.zero_add]; exact k3, ?_⟩
    rcases h.a j hj with h1 | h1
    · exact h1.below h.b
    · obtain ⟨a, c, e⟩ := own_sl h1
      rw [e] at h1 ⊢
      exact Ri.ofOwn h1
theorem Bnd.push {w9 wm : World} {ao : Option Addr} {j c : Nat} {nd : Nd} {av : Value} {g cap : Nat} (h : Bnd w0 w ob (.slice ao j c) avs nds) (hj : nds.length = j) (ha : Ra w0 w w0.heap.size av nd.args) (hwm : ∃ o, wm = w.alloc o ∨ wm = (w.alloc o).drew)
    (hown : w9.ownsRow w0.heap.size 65 4 (.slice (some ⟨g, 0, none⟩) (j + 1) cap) (j + 1) (ncells nds avs ++ [.int .i64 nd.kind, .string nd.name, .int .i64 nd.num, av])) (hg : wm.grownBy w9 (Value.slice ao j c).ownBlock) :
    (w9.cell? ⟨ob, 0, none⟩ = some (.slice ao j c) ∧ w9.frozen? ⟨ob, 0, none⟩ = false ∧ ob < w9.heap.size) ∧ ∃ avs', Bnd w0 (w9.setCell ⟨ob, 0, none⟩ (.slice (some ⟨g, 0, none⟩) (j + 1) cap)) ob (.slice (some ⟨g, 0, none⟩) (j + 1) cap) avs' (nds ++ [nd]) := by
  subst hj
  have hzb := lt_of_block h.x
  have hlo := h.lo
  obtain ⟨o, hwm⟩ := hwm
  have hm1 : wm.heap.size = w.heap.size + 1 ∧ (∀ k, k < w.heap.size → wm.heap[k]? = w.heap[k]?) ∧ Below w0.heap.size w wm := by
    rcases hwm with rfl | rfl
    · exact ⟨by simp, fun k hk => Below.heap_alloc _ _ _ hk, (Below.refl _ _).alloc h.b.size o⟩
    · exact ⟨by simp, fun k hk => Below.heap_alloc _ _ _ hk, ((Below.refl _ _).alloc h.b.size o).drew⟩
  obtain ⟨hs, hk1, hbm⟩ := hm1
  have hnb : ∀ k, (Value.slice ao nds.length c).ownBlock = some k → w0.heap.size ≤ k ∧ k ≠ ob := fun k hk => by
    obtain ⟨cur, hc⟩ := row_obj h.n hk
    exact ⟨(h.n.lt k hk).1, obj_ne hc h.x (by decide)⟩
  have b6 : w9.heap[ob]? = some (.cells #[.slice ao nds.length c, .slice none 0 0] 25) := by
    rw [hg.block ob (by omega) (fun e => (hnb ob e.symm).2 rfl), hk1 _ hzb]
    exact h.x
  have hgb : g ≠ ob := by
    obtain ⟨cur, hc⟩ := row_obj hown (k := g) rfl
    exact obj_ne hc b6 (by decide)
  have ki : ∀ {v : Value} {n : Nat} {xs : List Value}, w.ownsRow w0.heap.size 3 1 v n xs → (w9.setCell ⟨ob, 0, none⟩ (.slice (some ⟨g, 0, none⟩) (nds.length + 1) cap)).ownsRow w0.heap.size 3 1 v n xs := fun ho => row_keep ho (fun k hk => by
    obtain ⟨cur, hc⟩ := row_obj ho hk
    have hlt := (ho.lt k hk).2
    rw [Below.heap_setCell _ _ _ _ (obj_ne hc h.x (by decide)), hg.block k (by omega) (fun e => by
      obtain ⟨cur2, hc2⟩ := row_obj h.n e.symm
      exact absurd rfl (obj_ne hc hc2 (by decide))), hk1 k hlt])
  have kra : ∀ {v : Value} {l : List Int}, Ra w0 w w0.heap.size v l → Ra w0 (w9.setCell ⟨ob, 0, none⟩ (.slice (some ⟨g, 0, none⟩) (nds.length + 1) cap)) w0.heap.size v l := fun hr => by
    rcases hr with h1 | h1
    · exact Or.inl h1
    · exact Or.inr (ki h1)
  refine ⟨⟨by simp [World.cell?, b6], by simp [World.frozen?, b6], lt_of_block b6⟩, avs ++ [av], ?_, hlo, blk2_set0 b6, ?_, by simp [h.len], fun j hj => ?_⟩
  · exact (h.b.trans (hbm.grown hg (Nat.le_trans h.b.size (by omega)) (fun k hk => (hnb k hk).1))).setCell (p := ⟨ob, 0, none⟩) hlo _
  · rw [ncells_snoc nds avs nd _ h.len, List.length_append]
    refine row_keep (w := w9) hown (fun k hk => ?_)
    have e : g = k := by simpa [Value.ownBlock] using hk
    subst e
    exact Below.heap_setCell _ _ _ _ hgb
  · by_cases hj' : j < nds.length
    · have e1 : (nds ++ [nd]).getD j nd0 = nds.getD j nd0 := by simp [List.getD, List.getElem?_append_left hj']
      have e2 : (avs ++ [av]).getD j undef = avs.getD j undef := by simp [List.getD, List.getElem?_append_left (show j < avs.length by rw [h.len]; exact hj')]
      rw [e1, e2]
      exact kra (h.a j hj')
    · have ej : j = nds.length := by simp at hj; omega
      subst ej
      have e1 : (nds ++ [nd]).getD nds.length nd0 = nd := by simp [List.getD]
      have e2 : (avs ++ [av]).getD nds.length undef = av := by rw [← h.len]; simp [List.getD]
      rw [e1, e2]
      exact kra ha
end
end Go.Proofs.Ytjenkpgoggmboaa

/- Instance of the reference, walked. -/
namespace Go.Proofs.Ytjenkpgoggmboaa
open Go.RowKit

theorem closed_no {W : World} {nv rv pv : Value} {g : Gf} {ps : List (Int × Int)} (hG : Gr W nv rv g) (hP : Rp W pv ps) (hA : GoodA g.nodes) (hp : PsG g ps) (hN : g.nodes.length ≤ 10000) (hl : ps.length ≤ 5000) (hn : NoSol g.nodes (ps.map natP)) :
    Calls Try.prog 39 #[.agg #[nv, rv], pv] W fun e w' => e = .returned (.tuple #[.slice none 0 0, .bool false]) ∧ Below W.heap.size W w' :=
  (closed_any hG hP hA hp hN hl).mono (fun e w' ⟨h, hb⟩ => by
    rcases h with ⟨L, _, _, hd⟩ | ⟨h, _⟩
    · exact absurd hn (clo_cg hA (fun q hq => by
        obtain ⟨r, hr, rfl⟩ := List.mem_map.1 hq
        obtain ⟨h1, h2⟩ := hp r hr
        exact ⟨by simp only [natP]; omega, by simp only [natP]; omega, hd.prs _ hq⟩) hd.stb)
    · exact ⟨h, hb⟩)
theorem closed_yes {W : World} {nv rv pv : Value} {g : Gf} {ps : List (Int × Int)} (hG : Gr W nv rv g) (hP : Rp W pv ps) (hA : GoodA g.nodes) (hp : PsG g ps) (hN : g.nodes.length ≤ 10000) (hl : ps.length ≤ 5000) (hn : ¬ NoSol g.nodes (ps.map natP)) :
    Calls Try.prog 39 #[.agg #[nv, rv], pv] W fun e w' => (∃ L, e = .returned (.tuple #[.slice (some ⟨W.heap.size + 1, 0, none⟩) g.nodes.length g.nodes.length, .bool true]) ∧ w'.ownsRow (W.heap.size + 1) 3 1 (.slice (some ⟨W.heap.size + 1, 0, none⟩) g.nodes.length g.nodes.length) g.nodes.length ((ints L).map (Value.int .i64)) ∧ CloD g.nodes (ps.map natP) L) ∧ Below W.heap.size W w' :=
  (closed_any hG hP hA hp hN hl).mono (fun e w' ⟨h, hb⟩ => by
    rcases h with h | ⟨_, h⟩
    · exact ⟨h, hb⟩
    · exact absurd h hn)
theorem nfrz {w : World} {q : Nat} {u0 u1 u2 u3 : Value} {T : TypeId} (h : w.heap[q]? = some (.cells #[u0, u1, u2, u3] T)) : w.frozen? ⟨q, 1, none⟩ = false ∧ w.frozen? ⟨q, 2, none⟩ = false := by
  constructor <;> simp [World.frozen?, h]
theorem set5 {w : World} {q : Nat} {u0 u1 u2 u3 : Value} {T : TypeId} (h : w.heap[q]? = some (.cells #[u0, u1, u2, u3] T)) (v y0 y1 y2 y3 : Value) : (((((w.setCell ⟨q, 3, none⟩ v).setCell ⟨q, 0, none⟩ y0).setCell ⟨q, 1, none⟩ y1).setCell ⟨q, 2, none⟩ y2).setCell ⟨q, 3, none⟩ y3).heap[q]? = some (.cells #[y0, y1, y2, y3] T) ∧ (∀ k, k ≠ q → (((((w.setCell ⟨q, 3, none⟩ v).setCell ⟨q, 0, none⟩ y0).setCell ⟨q, 1, none⟩ y1).setCell ⟨q, 2, none⟩ y2).setCell ⟨q, 3, none⟩ y3).heap[k]? = w.heap[k]?) ∧ True := by
  refine ⟨?_, fun k hk => ?_, trivial⟩
  · have h1 := heap_setCell_same w q 3 _ _ v h
    have h2 := heap_setCell_same _ q 0 _ _ y0 h1
    have h3 := heap_setCell_same _ q 1 _ _ y1 h2
    have h4 := heap_setCell_same _ q 2 _ _ y2 h3
    exact heap_setCell_same _ q 3 _ _ y3 h4
  · rw [Below.heap_setCell _ _ _ _ hk, Below.heap_setCell _ _ _ _ hk, Below.heap_setCell _ _ _ _ hk, Below.heap_setCell _ _ _ _ hk, Below.heap_setCell _ _ _ _ hk]
theorem take_map2 {l : List Int} {f : Int → Int} {k : Nat} (h : k < l.length) : (l.map f).take (k + 1) = (l.map f).take k ++ [f (l.getD k 0)] := by
  rw [List.take_add_one]
  simp [List.getD, h]
theorem bn_take {ns : List Nd} {j : Nat} (hj : j < ns.length) : ns.take (j + 1) = ns.take j ++ [ndN ns j] := by
  rw [List.take_add_one]
  simp [ndN, List.getD, hj]
theorem bn_left {p t : Gf} (hp : Good p) {j : Nat} (hj : j < p.nodes.length) : ndN ((bothN p t).map swp) j = ndN p.nodes j := by
  rw [swp_nd j (by rw [bothN_len]; omega), bothN_left p t hj, nd_int]
  unfold swp
  rw [if_neg (good_kind (good_nd hp hj)).2]
theorem bn_right {p t : Gf} (ht : Good t) {j : Nat} (hj : j < t.nodes.length) : ndN ((bothN p t).map swp) (p.nodes.length + j) = if (ndN t.nodes j).kind = 1 then ⟨-1, ⟨#[]⟩, (j : Int), []⟩ else ⟨(ndN t.nodes j).kind, (ndN t.nodes j).name, (ndN t.nodes j).num, (ndN t.nodes j).args.map (fun a => (p.nodes.length : Int) + a)⟩ := by
  rw [swp_nd _ (by rw [bothN_len]; omega), bothN_right p t hj, nd_int]
  unfold fixN1
  split
  · rfl
  · unfold swp
    rw [if_neg (good_kind (good_nd ht hj)).2]
set_option maxRecDepth 100000 in
set_option maxHeartbeats 4000000 in
theorem rinst_len {W : World} {a0 a1 a2 a3 : Option Addr} {c0 c1 c2 c3 : Nat} {p t : Gf} (hl : ¬ p.roots.length = t.roots.length) :
    Calls Try.prog 21 #[.agg #[.slice a0 p.nodes.length c0, .slice a1 p.roots.length c1], .agg #[.slice a2 t.nodes.length c2, .slice a3 t.roots.length c3]] W fun e w' => e = .returned (.bool false) ∧ Below W.heap.size W w' := by
  have hl' : ((p.roots.length : Int) != (t.roots.length : Int)) = true := bne_iff_ne.2 (by omega)
  go_enter Try.func21, Try.ntmps21
  go_wp2
  go_ret
  exact ⟨rfl, (below_alloc W _).alloc (by simp) _⟩
set_option maxRecDepth 100000 in
set_option maxHeartbeats 32000000 in
theorem rinst_main {W : World} {a0 a1 a2 a3 : Option Addr} {c0 c1 c2 c3 : Nat} {p t : Gf} (hP : Gr W (.slice a0 p.nodes.length c0) (.slice a1 p.roots.length c1) p) (hT : Gr W (.slice a2 t.nodes.length c2) (.slice a3 t.roots.length c3) t) (hgp : Good p) (hgt : Good t) (hl : p.roots.length = t.roots.length) (ans : Bool) (hans : ans = true ↔ ¬ NoSol (bothN p t) (rtP p t)) :
    Calls Try.prog 21 #[.agg #[.slice a0 p.nodes.length c0, .slice a1 p.roots.length c1], .agg #[.slice a2 t.nodes.length c2, .slice a3 t.roots.length c3]] W fun e w' => e = .returned (.bool ans) ∧ Below W.heap.size W w' := by
  obtain ⟨i0, hi, hz0, hz1, hz2⟩ := info_parts infoI
  obtain ⟨i1, hi1, hy0, hy1, hy2⟩ := info_parts infoN
  obtain ⟨i2, hi2, hp0, hp1, hp2⟩ := info_parts infoPr
  have HP := hid hP
  have HT := hid hT
  have Hgp := hid hgp
  have Hgt := hid hgt
  have hNp : p.nodes.length ≤ 4096 := hgp.nodes
  have hNt : t.nodes.length ≤ 4096 := hgt.nodes
  have hRp : p.roots.length ≤ 4096 := hgp.roots
  have hll : Hid (∀ w' nv pv, Rn w' nv ((bothN p t).map swp) → Rp w' pv (rtI p t) → Calls Try.prog 39 #[.agg #[nv, .slice none 0 0], pv] w' fun e w'' => (∃ v, e = .returned (.tuple #[v, .bool ans])) ∧ Below w'.heap.size w' w'') := fun w' nv pv h1 h2 => by
    have hG' : Gr w' nv (.slice none 0 0) ⟨(bothN p t).map swp, []⟩ := ⟨h1, Ri.nil w'⟩
    have hAA := swp_goodA (bothN_good hgp hgt)
    have hln : ((bothN p t).map swp).length ≤ 10000 := by rw [List.length_map, bothN_len]; omega
    have hps := rtI_psg hgp hgt hl (rs := [])
    have hns : NoSol ((bothN p t).map swp) ((rtI p t).map natP) ↔ NoSol (bothN p t) (rtP p t) := by rw [swp_nosol (both_kind hgp hgt), rtI_nat hgt hl]
    have hlr : (rtI p t).length ≤ 5000 := by rw [rtI_len]; omega
    by_cases hn : NoSol (bothN p t) (rtP p t)
    · have ha : ans = false := by
        cases ans with
        | false => rfl
        | true => exact absurd hn (hans.1 rfl)
      rw [ha]
      exact (closed_no hG' h2 hAA hps hln hlr (hns.2 hn)).mono (fun e w'' ⟨h3, h4⟩ => ⟨⟨_, h3⟩, h4⟩)
    · rw [hans.2 hn]
      exact (closed_yes hG' h2 hAA hps hln hlr (fun h => hn (hns.1 h))).mono (fun e w'' ⟨⟨L, h3, _⟩, h4⟩ => ⟨⟨_, h3⟩, h4⟩)
  have hl' : ((p.roots.length : Int) != (t.roots.length : Int)) = false := by rw [hl]; simp
  have HL := hid hl
  have hB0 : Below W.heap.size W ((W.alloc (.cells #[.slice a0 p.nodes.length c0, .slice a1 p.roots.length c1] 25)).alloc (.cells #[.slice a2 t.nodes.length c2, .slice a3 t.roots.length c3] 25)) := (below_alloc W _).alloc (by simp) _
  have hx0 : ((W.alloc (.cells #[.slice a0 p.nodes.length c0, .slice a1 p.roots.length c1] 25)).alloc (.cells #[.slice a2 t.nodes.length c2, .slice a3 t.roots.length c3] 25)).heap[W.heap.size]? = some (.cells #[.slice a0 p.nodes.length c0, .slice a1 p.roots.length c1] 25) := (Below.heap_alloc _ _ _ (by simp)).trans (heap_alloc_new W _)
  have hx1 : ((W.alloc (.cells #[.slice a0 p.nodes.length c0, .slice a1 p.roots.length c1] 25)).alloc (.cells #[.slice a2 t.nodes.length c2, .slice a3 t.roots.length c3] 25)).heap[W.heap.size + 1]? = some (.cells #[.slice a2 t.nodes.length c2, .slice a3 t.roots.length c3] 25) := by
    have h9 := heap_alloc_new (W.alloc (.cells #[.slice a0 p.nodes.length c0, .slice a1 p.roots.length c1] 25)) (.cells #[.slice a2 t.nodes.length c2, .slice a3 t.roots.length c3] 25)
    rw [show (W.alloc (.cells #[.slice a0 p.nodes.length c0, .slice a1 p.roots.length c1] 25)).heap.size = W.heap.size + 1 by simp] at h9
    exact h9
  clear hP hT hgp hgt hans hl
  generalize hW0 : (W.alloc (.cells #[.slice a0 p.nodes.length c0, .slice a1 p.roots.length c1] 25)).alloc (.cells #[.slice a2 t.nodes.length c2, .slice a3 t.roots.length c3] 25) = w0 at *
  obtain ⟨⟨q0, q1⟩, _⟩ := blk2y hx0
  obtain ⟨⟨s0, s1⟩, _⟩ := blk2y hx1
  have zq := lt_of_block hx0
  have zs := lt_of_block hx1
  have Hx0 := hid hx0
  have Hx1 := hid hx1
  have HB0 := hid hB0
  clear hx0 hx1 hB0
  have hbt0 : Hid (Bnd w0 (w0.alloc grZ) w0.heap.size (.slice none 0 0) [] (((bothN p t).map swp).take 0)) := ⟨below_alloc w0 _, Nat.le_refl _, heap_alloc_new w0 _, World.ownsRow_nil _ _ _ _, rfl, fun _ h => absurd h (Nat.not_lt_zero _)⟩
  go_enter Try.func21, Try.ntmps21
  go_wp2
  clear hW0 hl'
  go_loopw [6] (fun i wr => ∃ (j : Nat) (ao : Option Addr) (c : Nat) (avs : List Value), j ≤ p.nodes.length ∧ i = .int .i64 (j : Int) ∧ Hid (Bnd w0 wr w0.heap.size (.slice ao j c) avs (((bothN p t).map swp).take j))) (fun i _ => p.nodes.length - (intOf i).toNat)
  case atStart => exact ⟨0, none, 0, [], Nat.zero_le _, rfl, hbt0⟩
  case round =>
    clear hbt0 q0 q1 s0 s1 zq zs
    obtain ⟨j, ao, c, avs, hj, rfl, hB⟩ := hrel
    have hx0 := (hB.out.b.block _ (lt_of_block Hx0.out)).trans Hx0.out
    obtain ⟨⟨q0, q1⟩, _⟩ := blk2y hx0
    have zq := lt_of_block hx0
    have hbx := hB.out.x
    obtain ⟨⟨o0, o1⟩, o2, _⟩ := blk2y hbx
    have zo := lt_of_block hbx
    by_cases hlt : j < p.nodes.length
    · have hji : (j : Int) < (p.nodes.length : Int) := by omega
      have hbW := HB0.out.trans (hB.out.b.mono HB0.out.size)
      obtain ⟨nb, no, aa, ac, hna, ⟨x0, x1, x2, x3⟩, hra⟩ := nd_at HP.out hbW hlt
      subst hna
      have zx := lt_of_cell x0
      have hnds : (((bothN p t).map swp).take j).length = j := by rw [List.length_take, List.length_map, bothN_len]; omega
      have htj : Hid (((bothN p t).map swp).take (j + 1) = ((bothN p t).map swp).take j ++ [ndN p.nodes j]) := show _ = _ by
        rw [bn_take (by rw [List.length_map, bothN_len]; omega), bn_left Hgp.out hlt]
      have hO1 := World.ownsRow.alloc hB.out.n (.cells #[.int .i64 (ndN p.nodes j).kind, .string (ndN p.nodes j).name, .int .i64 (ndN p.nodes j).num, .slice aa (ndN p.nodes j).args.length ac] 65)
      rw [hnds] at hO1
      have hpush := hid (fun (w9 : World) (g cap : Nat) => Bnd.push (w9 := w9) (g := g) (cap := cap) (nd := ndN p.nodes j) (av := .slice aa (ndN p.nodes j).args.length ac) hB.out hnds (Or.inl (hra.below HB0.out)) ⟨(.cells #[.int .i64 (ndN p.nodes j).kind, .string (ndN p.nodes j).name, .int .i64 (ndN p.nodes j).num, .slice aa (ndN p.nodes j).args.length ac] 65), Or.inr rfl⟩)
      have hz0' := hB.out.b.size
      clear hbx hx0 hra hbW hB
      generalize ndN p.nodes j = nd at *
      obtain ⟨kd, nm, nu, args⟩ := nd
      dsimp only at x0 x1 x2 x3 hO1
      generalize ncells (((bothN p t).map swp).take j) avs = NC at *
      go_wp2
      go_region_law
        (first
          | (refine step_append_lies _ (by rfl) _ _ _ (by rfl) w0.heap.size 65 i1 (.agg #[.int .i64 0, .string ⟨#[]⟩, .int .i64 0, .slice none 0 0]) 4 56 Try.underlying22 hi1 hy0 hy1 hy2 rfl (by omega) _ j NC (by rfl) (hO1.drew) ⟨wr.heap.size, 0, none⟩ 1 1 [.int .i64 kd, .string nm, .int .i64 nu, .slice aa args.length ac] (by rfl) (by rfl) (World.news_of_block (cs := #[.int .i64 kd, .string nm, .int .i64 nu, .slice aa args.length ac]) (t := 65) (fr := (0, 0)) (heap_alloc_new wr _)) (by simp [Value.oneCell']) (by omega) (by unfold maxLen; omega) (by omega) (by simp; omega) (wr.heap.size + 1) (by simp) ?_; intro gg cap w5 hown5 hgr5 hat hlt5; obtain ⟨⟨r0, r1, r2⟩, avs3, hB3⟩ := hpush.out w5 gg cap hown5 hgr5))
      all_goals go_wp2
      all_goals
        go_roundw
        case rel => exact ⟨j + 1, some ⟨gg, 0, none⟩, cap, avs3, by omega, congrArg (Value.int .i64) (by omega), (show Bnd _ _ _ _ _ _ by rw [htj.out]; exact hB3)⟩
        case measure => simp [intOf]; omega
    · obtain rfl : j = p.nodes.length := by omega
      go_wp2
      clear q0 q1 zq o0 o1 o2 zo
      have hB1 : Hid (Bnd w0 wr w0.heap.size (.slice ao (p.nodes.length + 0) c) avs (((bothN p t).map swp).take (p.nodes.length + 0))) := hB.out
      clear hB hbx hx0 hlt hj
      go_loopw [8] (fun i wr => ∃ (j : Nat) (ao : Option Addr) (c : Nat) (avs : List Value), j ≤ t.nodes.length ∧ i = .int .i64 (j : Int) ∧ Hid (Bnd w0 wr w0.heap.size (.slice ao (p.nodes.length + j) c) avs (((bothN p t).map swp).take (p.nodes.length + j)))) (fun i _ => t.nodes.length - (intOf i).toNat)
      case atStart => exact ⟨0, ao, c, avs, Nat.zero_le _, rfl, hB1⟩
      case round =>
        clear hB1
        obtain ⟨j, ao, c, avs, hj, rfl, hB⟩ := hrel
        have hx1 := (hB.out.b.block _ (lt_of_block Hx1.out)).trans Hx1.out
        obtain ⟨⟨s0, s1⟩, _⟩ := blk2y hx1
        have zs := lt_of_block hx1
        by_cases hlt : j < t.nodes.length
        · have hji : (j : Int) < (t.nodes.length : Int) := by omega
          have hbW := HB0.out.trans (hB.out.b.mono HB0.out.size)
          obtain ⟨nb, no, aa, ac, hna, ⟨x0, x1, x2, x3⟩, hra⟩ := nd_at HT.out hbW hlt
          subst hna
          have zx := lt_of_cell x0
          have Hra := hid hra
          have hAt := hid (fun k hk => (goodA_of Hgt.out).arg j hlt k hk)
          have hA8 := (goodA_of Hgt.out).few j
          have hAv := hid ((goodA_of Hgt.out).var j)
          have hnds : (((bothN p t).map swp).take (p.nodes.length + j)).length = p.nodes.length + j := by rw [List.length_take, List.length_map, bothN_len]; omega
          have htj : Hid (((bothN p t).map swp).take (p.nodes.length + (j + 1)) = ((bothN p t).map swp).take (p.nodes.length + j) ++ [if (ndN t.nodes j).kind = 1 then ⟨-1, ⟨#[]⟩, (j : Int), []⟩ else ⟨(ndN t.nodes j).kind, (ndN t.nodes j).name, (ndN t.nodes j).num, (ndN t.nodes j).args.map (fun a => (p.nodes.length : Int) + a)⟩]) := show _ = _ by
            rw [← Nat.add_assoc, bn_take (by rw [List.length_map, bothN_len]; omega), bn_right Hgt.out hlt]
          unfold argN at hAt
          generalize ndN t.nodes j = nd at *
          obtain ⟨kd, nm, nu, args⟩ := nd
          dsimp only at x0 x1 x2 x3 hA8 hAv htj hAt Hra
          have hbn := hid (below_alloc wr (.cells #[.int .i64 kd, .string nm, .int .i64 nu, .slice aa args.length ac] 65))
          have hxn := hid (heap_alloc_new wr (.cells #[.int .i64 kd, .string nm, .int .i64 nu, .slice aa args.length ac] 65))
          have hsz : (wr.alloc (.cells #[.int .i64 kd, .string nm, .int .i64 nu, .slice aa args.length ac] 65)).heap.size = wr.heap.size + 1 := by simp
          have hin0 : Hid (Below (wr.heap.size + 1) (wr.alloc (.cells #[.int .i64 kd, .string nm, .int .i64 nu, .slice aa args.length ac] 65)) (wr.alloc (.cells #[.int .i64 kd, .string nm, .int .i64 nu, .slice aa args.length ac] 65))) := Below.refl _ _
          have hrow0 : Hid ((wr.alloc (.cells #[.int .i64 kd, .string nm, .int .i64 nu, .slice aa args.length ac] 65)).ownsRow (wr.heap.size + 1) 3 1 (.slice none 0 0) 0 (((args.map (fun a => (p.nodes.length : Int) + a)).take 0).map (Value.int .i64))) := World.ownsRow_nil _ _ _ _
          clear hra hx1
          go_wp2
          obtain ⟨w3, rfl⟩ : ∃ w3 : World, w3 = wr := ⟨_, rfl⟩
          clear s0 s1 zs x0 x1 x2 x3 zx
          go_loopw [10, 11] (fun s i wr => ∃ (k : Nat) (ao4 : Option Addr) (c4 : Nat), k ≤ args.length ∧ i = .int .i64 (k : Int) ∧ s = .slice ao4 k c4 ∧ Hid (Below (w3.heap.size + 1) (w3.alloc (.cells #[.int .i64 kd, .string nm, .int .i64 nu, .slice aa args.length ac] 65)) wr) ∧ Hid (wr.ownsRow (w3.heap.size + 1) 3 1 (.slice ao4 k c4) k (((args.map (fun a => (p.nodes.length : Int) + a)).take k).map (Value.int .i64)))) (fun _ i _ => args.length - (intOf i).toNat)
          case atStart => exact ⟨0, none, 0, Nat.zero_le _, rfl, rfl, hin0, hrow0⟩
          case round =>
            clear hin0 hrow0
            obtain ⟨k, ao4, c4, hk, rfl, rfl, hbk, hok⟩ := hrel
            have hzk := hbk.out.size
            rw [hsz] at hzk
            have hxk := (hbk.out.block _ (by omega)).trans hxn.out
            obtain ⟨⟨x0, x1, x2, x3⟩, f0, f3⟩ := nblk hxk
            have zx := lt_of_block hxk
            have hbk3 : Below w3.heap.size w3 wr := hbn.out.trans (hbk.out.mono (by omega))
            by_cases hkl : k < args.length
            · have hki : (k : Int) < (args.length : Int) := by omega
              have hbWk := HB0.out.trans ((hB.out.b.mono HB0.out.size).trans (hbk3.mono (Nat.le_trans HB0.out.size hB.out.b.size)))
              obtain ⟨ab, af, haa, a0⟩ := (Hra.out.below hbWk).at hkl
              subst haa
              have za := lt_of_cell a0
              have hy := hAt.out k hkl
              have htk := hid (take_map2 (f := fun a => (p.nodes.length : Int) + a) hkl)
              generalize args.getD k 0 = y at *
              have hwr : IntKind.i64.wrap (y + (p.nodes.length : Int)) = (p.nodes.length : Int) + y := by rw [IntKind.wrap_i64]; omega
              obtain ⟨v, hv⟩ : ∃ v, v = (p.nodes.length : Int) + y := ⟨_, rfl⟩
              rw [← hv] at htk hwr
              have hO1 := World.ownsRow.alloc hok.out (.cells #[.int .i64 v] 3)
              have hlo : Hid (∀ q, (Value.slice ao4 k c4).ownBlock = some q → w3.heap.size + 1 ≤ q) := fun q hq => (hok.out.lt q hq).1
              clear hy hok hxk hbWk hbk3 hsz hv
              go_wp2_with (at_builtin; go_must (refine wpList_append_lies _ rfl _ _ 23 rfl (w3.heap.size + 1) 3 i0 (.int .i64 0) 1 8 Try.underlying23 hi hz0 hz1 hz2 rfl (by decide) _ k _ rfl hO1 ⟨wr.heap.size, 0, none⟩ 1 1 [.int .i64 v] rfl rfl (World.news_of_block (cs := #[.int .i64 v]) (t := 3) (fr := (0, 0)) (heap_alloc_new wr _)) (by simp [Value.oneCell']) (by decide) (by unfold maxLen; omega) (by omega) (by simp; omega) _ rfl ?_; intro g6 cap w6 hown6 hg6 hat6 hlt6))
              have hb6 : Hid (Below (w3.heap.size + 1) (w3.alloc (.cells #[.int .i64 kd, .string nm, .int .i64 nu, .slice (some ⟨ab, af, none⟩) args.length ac] 65)) w6) := hbk.out.trans (((Below.refl _ _).alloc hzk _).grown hg6 (by simp; omega) (fun q hq => hlo.out q hq))
              go_roundw
              case rel => exact ⟨k + 1, some ⟨g6, 0, none⟩, cap, by omega, by go_num, rfl, hb6, (show World.ownsRow _ _ _ _ _ _ _ by rw [htk.out, List.map_append]; exact hown6)⟩
              case measure => simp [intOf]; omega
            · obtain rfl : k = args.length := by omega
              have hok' := hok.out
              rw [List.take_of_length_le (by simp)] at hok'
              have hbx := (hbk3.block _ (lt_of_block hB.out.x)).trans hB.out.x
              obtain ⟨⟨o0, o1⟩, o2, _⟩ := blk2y hbx
              have zo := lt_of_block hbx
              have zo3 := lt_of_block hB.out.x
              have hlo3 := hB.out.b.size
              have hkeep : Hid (∀ w' : World, (∀ q, q ≠ w3.heap.size → w'.heap[q]? = wr.heap[q]?) → Below w0.heap.size w0 w' → Bnd w0 w' w0.heap.size (.slice ao (p.nodes.length + j) c) avs (((bothN p t).map swp).take (p.nodes.length + j))) := fun w' h1 h2 => hB.out.keep h2 (fun q _ hq => by rw [h1 q (by omega), hbk3.block q hq])
              have hb0k := hid (hB.out.b.trans (hbk3.mono hlo3))
              have hne : w0.heap.size ≠ w3.heap.size := by omega
              by_cases hkd : kd = 1
              · obtain ⟨f1, f2⟩ := nfrz hxk
                rw [if_pos hkd] at htj
                obtain ⟨hq5, hq6, hq7⟩ := set5 hxk (.slice ao4 args.length c4) (.int .i64 (-1)) (.string ⟨#[]⟩) (.int .i64 (j : Int)) (.slice none 0 0)
                have hbq : Below w0.heap.size w0 (((((wr.setCell ⟨w3.heap.size, 3, none⟩ (.slice ao4 args.length c4)).setCell ⟨w3.heap.size, 0, none⟩ (.int .i64 (-1))).setCell ⟨w3.heap.size, 1, none⟩ (.string ⟨#[]⟩)).setCell ⟨w3.heap.size, 2, none⟩ (.int .i64 (j : Int))).setCell ⟨w3.heap.size, 3, none⟩ (.slice none 0 0)) := ((((hb0k.out.setCell (p := ⟨w3.heap.size, 3, none⟩) hlo3 _).setCell (p := ⟨w3.heap.size, 0, none⟩) hlo3 _).setCell (p := ⟨w3.heap.size, 1, none⟩) hlo3 _).setCell (p := ⟨w3.heap.size, 2, none⟩) hlo3 _).setCell (p := ⟨w3.heap.size, 3, none⟩) hlo3 _
                have hB8 := hkeep.out (((((wr.setCell ⟨w3.heap.size, 3, none⟩ (.slice ao4 args.length c4)).setCell ⟨w3.heap.size, 0, none⟩ (.int .i64 (-1))).setCell ⟨w3.heap.size, 1, none⟩ (.string ⟨#[]⟩)).setCell ⟨w3.heap.size, 2, none⟩ (.int .i64 (j : Int))).setCell ⟨w3.heap.size, 3, none⟩ (.slice none 0 0)) hq6 hbq
                have hbx8 := hB8.x
                subst hkd
                clear hok hok' hbx hbk3 hsz hxk hAv hAt hA8 Hra hkeep hb0k
                go_upto_region 21 with fail
                generalize (((((wr.setCell ⟨w3.heap.size, 3, none⟩ (.slice ao4 args.length c4)).setCell ⟨w3.heap.size, 0, none⟩ (.int .i64 (-1))).setCell ⟨w3.heap.size, 1, none⟩ (.string ⟨#[]⟩)).setCell ⟨w3.heap.size, 2, none⟩ (.int .i64 (j : Int))).setCell ⟨w3.heap.size, 3, none⟩ (.slice none 0 0)) = wq at *
                obtain ⟨⟨t0, t1, t2, t3⟩, _⟩ := nblk hq5
                have zt := lt_of_block hq5
                obtain ⟨⟨v0, v1⟩, v2, _⟩ := blk2y hbx8
                have zv := lt_of_block hbx8
                have hon := World.ownsRow.alloc hB8.n (.cells #[.int .i64 (-1), .string ⟨#[]⟩, .int .i64 (j : Int), .slice none 0 0] 65)
                rw [hnds] at hon
                have hpush := hid (fun (w9 : World) (g cap : Nat) => Bnd.push (w9 := w9) (g := g) (cap := cap) (nd := ⟨-1, ⟨#[]⟩, (j : Int), []⟩) (av := .slice none 0 0) hB8 hnds (Or.inl (Ri.nil w0)) ⟨(.cells #[.int .i64 (-1), .string ⟨#[]⟩, .int .i64 (j : Int), .slice none 0 0] 65), Or.inl rfl⟩)
                have hzq := hbq.size
                clear hB8 hbx8 hbq hq5 hq6 hq7 x0 x1 x2 x3 f0 f1 f2 f3 zx o0 o1 o2 zo
                generalize ncells (((bothN p t).map swp).take (p.nodes.length + j)) avs = NC at *
                obtain ⟨M, hM⟩ : ∃ M, M = p.nodes.length + j := ⟨_, rfl⟩
                rw [← hM] at hon hpush v0
                have HM := hid hM
                have hM4 : M ≤ 9000 := by omega
                clear hM
                go_wp2_with (at_builtin; go_must (refine wpList_append_lies _ rfl _ _ 22 rfl w0.heap.size 65 i1 (.agg #[.int .i64 0, .string ⟨#[]⟩, .int .i64 0, .slice none 0 0]) 4 56 Try.underlying22 hi1 hy0 hy1 hy2 rfl (by decide) _ M _ rfl hon ⟨wq.heap.size, 0, none⟩ 1 1 [.int .i64 (-1), .string ⟨#[]⟩, .int .i64 (j : Int), .slice none 0 0] rfl rfl (World.news_of_block (cs := #[.int .i64 (-1), .string ⟨#[]⟩, .int .i64 (j : Int), .slice none 0 0]) (t := 65) (fr := (0, 0)) (heap_alloc_new wq _)) (by simp [Value.oneCell']) (by decide) (by unfold maxLen; omega) (by omega) (by simp; omega) _ rfl ?_; intro g7 cap w7 hown7 hg7 hat7 hlt7; obtain ⟨⟨r0, r1, r2⟩, avs3, hB9⟩ := hpush.out w7 g7 cap hown7 hg7))
                exact ⟨⟨j + 1, some ⟨g7, 0, none⟩, cap, avs3, by omega, by go_num, (show Bnd _ _ _ _ _ _ by rw [htj.out, ← Nat.add_assoc, ← HM.out]; exact hB9)⟩, by simp [intOf]; omega⟩
              · have hkd' : (kd == 1) = false := beq_eq_false_iff_ne.2 hkd
                have hB8 := hkeep.out (wr.setCell ⟨w3.heap.size, 3, none⟩ (.slice ao4 args.length c4)) (fun q hq => Below.heap_setCell _ _ _ _ hq) (hb0k.out.setCell (p := ⟨w3.heap.size, 3, none⟩) hlo3 _)
                have hrow8 : (wr.setCell ⟨w3.heap.size, 3, none⟩ (.slice ao4 args.length c4)).ownsRow w0.heap.size 3 1 (.slice ao4 args.length c4) args.length ((args.map (fun a => (p.nodes.length : Int) + a)).map (Value.int .i64)) := row_keep (own_base hok' (by omega)) (fun q hq => Below.heap_setCell _ _ _ _ (by have := (hok'.lt q hq).1; show q ≠ w3.heap.size; omega))
                have hon := World.ownsRow.alloc hB8.n (.cells #[.int .i64 kd, .string nm, .int .i64 nu, .slice ao4 args.length c4] 65)
                rw [hnds] at hon
                rw [if_neg hkd] at htj
                have hpush := hid (fun (w9 : World) (g cap : Nat) => Bnd.push (w9 := w9) (g := g) (cap := cap) (nd := ⟨kd, nm, nu, args.map (fun a => (p.nodes.length : Int) + a)⟩) (av := .slice ao4 args.length c4) hB8 hnds (Or.inr (by simpa using hrow8)) ⟨(.cells #[.int .i64 kd, .string nm, .int .i64 nu, .slice ao4 args.length c4] 65), Or.inl rfl⟩)
                clear hok hok' hbx hbk3 hsz hxk hB8 hrow8
                generalize ncells (((bothN p t).map swp).take (p.nodes.length + j)) avs = NC at *
                obtain ⟨M, hM⟩ : ∃ M, M = p.nodes.length + j := ⟨_, rfl⟩
                rw [← hM] at hon hpush
                rw [← hM] at o0
                have HM := hid hM
                have hM4 : M ≤ 9000 := by omega
                clear hM
                go_wp2_with (at_builtin; go_must (refine wpList_append_lies _ rfl _ _ 22 rfl w0.heap.size 65 i1 (.agg #[.int .i64 0, .string ⟨#[]⟩, .int .i64 0, .slice none 0 0]) 4 56 Try.underlying22 hi1 hy0 hy1 hy2 rfl (by decide) _ M _ rfl hon ⟨wr.heap.size, 0, none⟩ 1 1 [.int .i64 kd, .string nm, .int .i64 nu, .slice ao4 args.length c4] rfl rfl (World.news_of_block (cs := #[.int .i64 kd, .string nm, .int .i64 nu, .slice ao4 args.length c4]) (t := 65) (fr := (0, 0)) (by have h9 := heap_alloc_new (wr.setCell ⟨w3.heap.size, 3, none⟩ (.slice ao4 args.length c4)) (.cells #[.int .i64 kd, .string nm, .int .i64 nu, .slice ao4 args.length c4] 65); simpa using h9)) (by simp [Value.oneCell']) (by decide) (by unfold maxLen; omega) (by omega) (by simp; omega) _ rfl ?_; intro g7 cap w7 hown7 hg7 hat7 hlt7; obtain ⟨⟨r0, r1, r2⟩, avs3, hB9⟩ := hpush.out w7 g7 cap hown7 hg7))
                exact ⟨⟨j + 1, some ⟨g7, 0, none⟩, cap, avs3, by omega, by go_num, (show Bnd _ _ _ _ _ _ by rw [htj.out, ← Nat.add_assoc, ← HM.out]; exact hB9)⟩, by simp [intOf]; omega⟩
        · obtain rfl : j = t.nodes.length := by omega
          have hB4 := hB.out
          rw [List.take_of_length_le (by rw [List.length_map, bothN_len]; omega)] at hB4
          have HB4 := hid hB4
          have hin0 : Hid (Below wr.heap.size wr wr) := Below.refl _ _
          have hrow0 : Hid (wr.ownsRow wr.heap.size 52 2 (.slice none 0 0) 0 (pcI ((rtI p t).take 0))) := World.ownsRow_nil _ _ _ _
          clear hB hB4 hx1
          go_wp2
          obtain ⟨w4, rfl⟩ : ∃ w4 : World, w4 = wr := ⟨_, rfl⟩
          clear s0 s1 zs hlt hj
          go_loopw [12, 13] (fun s i wr => ∃ (k : Nat) (ao5 : Option Addr) (c5 : Nat), k ≤ p.roots.length ∧ i = .int .i64 (k : Int) ∧ s = .slice ao5 k c5 ∧ Hid (Below w4.heap.size w4 wr) ∧ Hid (wr.ownsRow w4.heap.size 52 2 (.slice ao5 k c5) k (pcI ((rtI p t).take k)))) (fun _ i _ => p.roots.length - (intOf i).toNat)
          case atStart => exact ⟨0, none, 0, Nat.zero_le _, rfl, rfl, hin0, hrow0⟩
          case round =>
            clear hin0 hrow0
            obtain ⟨k, ao5, c5, hk, rfl, rfl, hbk, hok⟩ := hrel
            have hB5 := HB4.out.next hbk.out
            have hx0 := (hB5.b.block _ (lt_of_block Hx0.out)).trans Hx0.out
            obtain ⟨⟨q0, q1⟩, _⟩ := blk2y hx0
            have zq := lt_of_block hx0
            have hx1 := (hB5.b.block _ (lt_of_block Hx1.out)).trans Hx1.out
            obtain ⟨⟨s0, s1⟩, _⟩ := blk2y hx1
            have zs := lt_of_block hx1
            by_cases hkl : k < p.roots.length
            · have hki : (k : Int) < (p.roots.length : Int) := by omega
              have hlt2 := HL.out
              have hki2 : (k : Int) < (t.roots.length : Int) := by omega
              have hbW := HB0.out.trans (hB5.b.mono HB0.out.size)
              obtain ⟨rb, ro, hra, r0⟩ := (HP.out.2.below hbW).at hkl
              obtain ⟨tb, tf, hta, t0⟩ := (HT.out.2.below hbW).at (j := k) (by omega)
              subst hra hta
              have zr := lt_of_cell r0
              have zt := lt_of_cell t0
              have hst : Hid (pcI ((rtI p t).take (k + 1)) = pcI ((rtI p t).take k) ++ [.int .i64 (p.roots.getD k 0), .int .i64 (t.roots.getD k 0 + (p.nodes.length : Int))]) := show _ = _ by
                rw [rtI_take hkl, pcI_app]
                rfl
              have hrt := Hgt.out.root _ (getD_mem (k := k) (by omega))
              generalize p.roots.getD k 0 = x at *
              generalize t.roots.getD k 0 = y at *
              have hwr : IntKind.i64.wrap (y + (p.nodes.length : Int)) = y + (p.nodes.length : Int) := by rw [IntKind.wrap_i64]; omega
              have hO1 := World.ownsRow.alloc hok.out (.cells #[.int .i64 x, .int .i64 (y + (p.nodes.length : Int))] 52)
              have hlo : Hid (∀ q, (Value.slice ao5 k c5).ownBlock = some q → w4.heap.size ≤ q) := fun q hq => (hok.out.lt q hq).1
              have hzk := hbk.out.size
              clear hok hrt hB5 hx0 hx1 hbW hlt2
              generalize pcI ((rtI p t).take k) = PC at *
              go_wp2
              go_region_law
                (first
                  | (refine step_append_lies _ (by rfl) _ _ _ (by rfl) w4.heap.size 52 i2 (.agg #[.int .i64 0, .int .i64 0]) 2 16 Try.underlying26 hi2 hp0 hp1 hp2 rfl (by omega) _ k PC (by rfl) (hO1.drew) ⟨wr.heap.size, 0, none⟩ 1 1 [.int .i64 x, .int .i64 (y + (p.nodes.length : Int))] (by rfl) (by rfl) (World.news_of_block (cs := #[.int .i64 x, .int .i64 (y + (p.nodes.length : Int))]) (t := 52) (fr := (0, 0)) (heap_alloc_new wr _)) (by simp [Value.oneCell']) (by omega) (by unfold maxLen; omega) (by omega) (by simp; omega) (wr.heap.size + 1) (by simp) ?_; intro g6 cap w6 hown6 hgr6 hat hlt6; have hb6 : Hid (Below w4.heap.size w4 w6) := hbk.out.trans ((((Below.refl _ _).alloc hzk _).drew).grown hgr6 (by simp; omega) (fun m hm => hlo.out m hm))))
              all_goals go_wp2
              all_goals
                go_roundw
                case rel => exact ⟨k + 1, some ⟨g6, 0, none⟩, cap, by omega, congrArg (Value.int .i64) (by omega), rfl, hb6, (show World.ownsRow _ _ _ _ _ _ _ by rw [hst.out]; exact hown6)⟩
                case measure => simp [intOf]; omega
            · obtain rfl : k = p.roots.length := by omega
              have hok' := hok.out
              rw [List.take_of_length_le (by rw [rtI_len]; omega)] at hok'
              have hrp := hid (rp_own (rtI_len p t) hok')
              have hcl := hid (hll.out wr _ _ hB5.rn hrp.out)
              have hbW := hid (HB0.out.trans (hB5.b.mono HB0.out.size))
              have hbx := hB5.x
              obtain ⟨⟨o0, o1⟩, _⟩ := blk2y hbx
              have zo := lt_of_block hbx
              clear hok hok' hB5 hx0 hx1 hbx
              go_wp2_with (go_at_call 39; go_must (refine hcl.out.mono ?_; rintro e w9 ⟨⟨v, rfl⟩, hb9⟩))
              go_ret
              exact ⟨rfl, hbW.out.trans (hb9.mono hbW.out.size)⟩
end Go.Proofs.Ytjenkpgoggmboaa
