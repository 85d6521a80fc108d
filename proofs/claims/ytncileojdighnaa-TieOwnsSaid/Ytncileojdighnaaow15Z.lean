/- Rows of things of one kind, of their own. -/
import Derived.Laws.OwnMore
import Derived.Test.Ytncileojdighnaaow11Z
namespace Go.Proofs.Ytncileojdighnaa
set_option maxRecDepth 100000
open Go.RowKit
structure Elt (α : Type) where
  T : TypeId
  z : Nat
  C : (Nat → Prop) → World → α → List Value → Prop
  keep : ∀ {P P' : Nat → Prop} {w w' : World} {x : α} {cs : List Value}, (∀ b, P b → b < w.heap.size → P' b ∧ w'.heap[b]? = w.heap[b]?) → C P w x cs → C P' w' x cs
def Rwo {α : Type} (E : Elt α) (B : Nat) (w : World) (v : Value) (xs : List α) : Prop := ∃ f : Nat → List Value, (∀ j, (f j).length = E.z) ∧ (∀ j x, xs[j]? = some x → E.C (Out B v) w x (f j)) ∧ w.ownsRow B E.T E.z v xs.length (flatV f xs.length)
section
variable {α : Type} {E : Elt α}
theorem ro_app {B D g c6 : Nat} {w5 w6 : World} {v : Value} {xs : List α} {x : α} {cs : List Value} {o : Obj} {f : Nat → List Value} (hf : ∀ j, (f j).length = E.z) (hx : ∀ j y, xs[j]? = some y → E.C (Out B v) w5 y (f j)) (hD : ∀ b, v.ownBlock = some b → b < D) (hBD : B ≤ D) (hcs : cs.length = E.z)
    (hv : E.C (D ≤ ·) w5 x cs) (hown : w6.ownsRow B E.T E.z (.slice (some ⟨g, 0, none⟩) (xs.length + 1) c6) (xs.length + 1) (flatV f xs.length ++ cs))
    (hg : (w5.alloc o).grownBy w6 v.ownBlock) (hat : v.ownBlock = some g ∨ g = w5.heap.size + 1) : Rwo E B w6 (.slice (some ⟨g, 0, none⟩) (xs.length + 1) c6) (xs ++ [x]) := by
  have key : ∀ b, b < w5.heap.size → v.ownBlock ≠ some b → (Value.slice (some ⟨g, 0, none⟩) (xs.length + 1) c6).ownBlock ≠ some b ∧ w6.heap[b]? = w5.heap[b]? := fun b hl hne => by
    refine ⟨fun e => ?_, ?_⟩
    · have e1 : g = b := by simpa [Value.ownBlock] using e
      rcases hat with h | h
      · exact hne (by rw [h, e1])
      · omega
    · rw [hg.block b (by simp; omega) (fun e => hne e.symm)]
      exact Below.heap_alloc _ _ _ hl
  have hnew : E.C (Out B (.slice (some ⟨g, 0, none⟩) (xs.length + 1) c6)) w6 x cs := E.keep (fun b hb hl => by
    have hb' : D ≤ b := hb
    obtain ⟨h1, h2⟩ := key b hl (fun e => by have := hD b e; omega)
    exact ⟨⟨by omega, h1⟩, h2⟩) hv
  refine ⟨fun j => if j < xs.length then f j else cs, fun j => ?_, fun j y hj => ?_, ?_⟩
  · show List.length (if _ then _ else _) = E.z
    split
    · exact hf j
    · exact hcs
  · by_cases e : j < xs.length
    · rw [List.getElem?_append_left e] at hj
      show E.C _ w6 _ (if _ then _ else _)
      rw [if_pos e]
      exact E.keep (fun b hb hl => by
        obtain ⟨h1, h2⟩ := key b hl hb.2
        exact ⟨⟨hb.1, h1⟩, h2⟩) (hx j y hj)
    · have hjl : j < (xs ++ [x]).length := (List.getElem?_eq_some_iff.1 hj).1
      have e2 : j = xs.length := by simp at hjl; omega
      subst e2
      have e1 : y = x := by simpa using hj.symm
      subst e1
      show E.C _ w6 _ (if _ then _ else _)
      rw [if_neg e]
      exact hnew
  · rw [List.length_append, List.length_singleton, flatV_succ]
    have e1 : flatV (fun j => if j < xs.length then f j else cs) xs.length = flatV f xs.length := flatV_congr _ (fun i hi => by simp [hi])
    rw [e1]
    simp only [Nat.lt_irrefl, if_false]
    exact hown
end
end Go.Proofs.Ytncileojdighnaa

namespace Go.Proofs.Ytncileojdighnaa
set_option maxRecDepth 100000
open Go.RowKit
theorem beq_dec0 (n : Nat) : ((n : Int) == 0) = decide (n = 0) := by
  cases n with
  | zero => rfl
  | succ n => simp; omega
set_option maxHeartbeats 4000000 in
theorem goodAt_any (x : Ex) : GoodAtC x := by
  induction x using Ex.ind with
  | h k n m xs ih =>
    intro w v hx hz nest hn
    obtain ⟨av, rfl, hr⟩ := hx.parts
    have hb0 := below_alloc w (.cells #[.int .i64 k, .string n, .int .i64 m, av] 48)
    have hr1 := hr.next hb0
    have hzn : n.size ≤ 9223372036854775807 := Nat.le_trans hz.1 (by decide)
    obtain ⟨ao, c, rfl, _⟩ := hr
    generalize hN : xs.length = N at *
    have HN : Hid (xs.length = N) := hN
    by_cases h4 : (4096 : Int) < (nest : Int)
    · have hE : Hid (goodX nest (.mk k n m xs) = false) := show _ = _ by rw [goodX, if_pos (by omega)]
      clear ih hr1 hz hx hN
      go_enter Try.func72, Try.ntmps72
      go_wp2
      go_ret
      exact ⟨ret_bool hE.out.symm, hb0⟩
    · have h4' : ¬ 4096 < nest := by omega
      by_cases k1 : k = 1
      · subst k1
        have hv := fun w1 => isVar_big n w1 hzn
        cases hW : isW n 4 with
        | false =>
          have hE : Hid (goodX nest (.mk 1 n m xs) = false) := show _ = _ by rw [goodX, if_neg h4', if_pos rfl, hW]; rfl
          rw [hW] at hv
          clear ih hr1 hz hx hN hW h4'
          go_enter Try.func72, Try.ntmps72
          go_wp2_with (go_at_call 46; refine (hv _).mono ?_; rintro e w1 ⟨rfl, rfl⟩)
          go_ret
          exact ⟨ret_bool hE.out.symm, hb0⟩
        | true =>
          rw [hW] at hv
          by_cases hm : m = 0
          · subst hm
            have hE : Hid (goodX nest (.mk 1 n 0 xs) = ((N : Int) == 0)) := show _ = _ by rw [goodX, if_neg h4', if_pos rfl, hW, HN.out, beq_dec0]; simp
            clear ih hr1 hz hx hN hW h4'
            go_enter Try.func72, Try.ntmps72
            go_wp2_with (go_at_call 46; refine (hv _).mono ?_; rintro e w1 ⟨rfl, rfl⟩)
            go_ret
            exact ⟨ret_bool hE.out.symm, hb0⟩
          · have hE : Hid (goodX nest (.mk 1 n m xs) = false) := show _ = _ by rw [goodX, if_neg h4', if_pos rfl, decide_eq_false hm]; simp
            have hm' : (m == 0) = false := beq_eq_false_iff_ne.2 hm
            clear ih hr1 hz hx hN hW h4' hm
            go_enter Try.func72, Try.ntmps72
            go_wp2_with (go_at_call 46; refine (hv _).mono ?_; rintro e w1 ⟨rfl, rfl⟩)
            go_ret
            exact ⟨ret_bool hE.out.symm, hb0⟩
      · have k1' : (k == 1) = false := beq_eq_false_iff_ne.2 k1
        by_cases k2 : k = 2
        · subst k2
          have hv := fun w1 => good_any n w1 hzn
          cases hW : goodS n with
          | false =>
            have hE : Hid (goodX nest (.mk 2 n m xs) = false) := show _ = _ by rw [goodX, if_neg h4', if_neg k1, if_pos rfl, hW]; rfl
            rw [hW] at hv
            clear ih hr1 hz hx hN hW h4' k1 k1'
            go_enter Try.func72, Try.ntmps72
            go_wp2_with (go_at_call 93; refine (hv _).mono ?_; rintro e w1 ⟨rfl, rfl⟩)
            go_ret
            exact ⟨ret_bool hE.out.symm, hb0⟩
          | true =>
            rw [hW] at hv
            by_cases hm : m = 0
            · subst hm
              have hE : Hid (goodX nest (.mk 2 n 0 xs) = ((N : Int) == 0)) := show _ = _ by rw [goodX, if_neg h4', if_neg k1, if_pos rfl, hW, HN.out, beq_dec0]; simp
              clear ih hr1 hz hx hN hW h4' k1 k1'
              go_enter Try.func72, Try.ntmps72
              go_wp2_with (go_at_call 93; refine (hv _).mono ?_; rintro e w1 ⟨rfl, rfl⟩)
              go_ret
              exact ⟨ret_bool hE.out.symm, hb0⟩
            · have hE : Hid (goodX nest (.mk 2 n m xs) = false) := show _ = _ by rw [goodX, if_neg h4', if_neg k1, if_pos rfl, decide_eq_false hm]; simp
              have hm' : (m == 0) = false := beq_eq_false_iff_ne.2 hm
              clear ih hr1 hz hx hN hW h4' hm k1 k1'
              go_enter Try.func72, Try.ntmps72
              go_wp2_with (go_at_call 93; refine (hv _).mono ?_; rintro e w1 ⟨rfl, rfl⟩)
              go_ret
              exact ⟨ret_bool hE.out.symm, hb0⟩
        · have k2' : (k == 2) = false := beq_eq_false_iff_ne.2 k2
          by_cases k3 : k = 3
          · subst k3
            by_cases he : n.toList = []
            · by_cases h5 : (-1125899906842624 : Int) ≤ m
              · by_cases h6 : m ≤ (1125899906842624 : Int)
                · have hE : Hid (goodX nest (.mk 3 n m xs) = ((N : Int) == 0)) := show _ = _ by rw [goodX, if_neg h4', if_neg k1, if_neg k2, if_pos rfl, HN.out, beq_dec0]; simp [he, h5, h6]
                  clear ih hr1 hz hx hN h4' k1 k1' k2 k2'
                  go_enter Try.func72, Try.ntmps72
                  go_wp2
                  go_ret
                  exact ⟨ret_bool hE.out.symm, hb0⟩
                · have hE : Hid (goodX nest (.mk 3 n m xs) = false) := show _ = _ by rw [goodX, if_neg h4', if_neg k1, if_neg k2, if_pos rfl]; simp [h6]
                  clear ih hr1 hz hx hN h4' k1 k1' k2 k2'
                  go_enter Try.func72, Try.ntmps72
                  go_wp2
                  go_ret
                  exact ⟨ret_bool hE.out.symm, hb0⟩
              · have hE : Hid (goodX nest (.mk 3 n m xs) = false) := show _ = _ by rw [goodX, if_neg h4', if_neg k1, if_neg k2, if_pos rfl]; simp [h5]
                clear ih hr1 hz hx hN h4' k1 k1' k2 k2'
                go_enter Try.func72, Try.ntmps72
                go_wp2
                go_ret
                exact ⟨ret_bool hE.out.symm, hb0⟩
            · have hE : Hid (goodX nest (.mk 3 n m xs) = false) := show _ = _ by rw [goodX, if_neg h4', if_neg k1, if_neg k2, if_pos rfl, decide_eq_false he]; simp
              clear ih hr1 hz hx hN h4' k1 k1' k2 k2'
              go_enter Try.func72, Try.ntmps72
              go_wp2
              go_ret
              exact ⟨ret_bool hE.out.symm, hb0⟩
          · have k3' : (k == 3) = false := beq_eq_false_iff_ne.2 k3
            by_cases k4 : k = 4
            · subst k4
              have hv := fun w1 => good_any n w1 hzn
              cases hW : goodS n with
              | false =>
                have hE : Hid (goodX nest (.mk 4 n m xs) = false) := show _ = _ by rw [goodX, if_neg h4', if_neg k1, if_neg k2, if_neg k3, if_pos rfl, hW]; rfl
                rw [hW] at hv
                clear ih hr1 hz hx hN hW h4' k1 k1' k2 k2' k3 k3'
                go_enter Try.func72, Try.ntmps72
                go_wp2_with (go_at_call 93; refine (hv _).mono ?_; rintro e w1 ⟨rfl, rfl⟩)
                go_ret
                exact ⟨ret_bool hE.out.symm, hb0⟩
              | true =>
                rw [hW] at hv
                by_cases hm : m = 0
                · subst hm
                  · have hga := xgoodArgs_any (fun x hx => ih x hx) hz.2 hr1 (nest + 1) (by omega)
                    have hE : Hid (goodX nest (.mk 4 n 0 xs) = (decide (1 ≤ xs.length) && (decide (xs.length ≤ 8) && goodXs (nest + 1) xs))) := show _ = _ by rw [goodX, if_neg h4', if_neg k1, if_neg k2, if_neg k3, if_pos rfl, hW]; simp
                    generalize (decide (1 ≤ xs.length) && (decide (xs.length ≤ 8) && goodXs (nest + 1) xs)) = R at hga hE
                    rw [show ((nest + 1 : Nat) : Int) = (nest : Int) + 1 by omega] at hga
                    clear ih hr1 hz hx hN hW h4' k1 k1' k2 k2' k3 k3'
                    go_enter Try.func72, Try.ntmps72
                    go_wp2_with (first | (go_at_call 93; refine (hv _).mono ?_; rintro e w1 ⟨rfl, rfl⟩) | (go_at_call 94; refine hga.mono ?_; rintro e w2 ⟨rfl, hb2⟩))
                    go_ret
                    exact ⟨ret_bool hE.out.symm, Below.next hb0 hb2⟩
                · have hE : Hid (goodX nest (.mk 4 n m xs) = false) := show _ = _ by rw [goodX, if_neg h4', if_neg k1, if_neg k2, if_neg k3, if_pos rfl, decide_eq_false hm]; simp
                  have hm' : (m == 0) = false := beq_eq_false_iff_ne.2 hm
                  clear ih hr1 hz hx hN hW h4' hm k1 k1' k2 k2' k3 k3'
                  go_enter Try.func72, Try.ntmps72
                  go_wp2_with (go_at_call 93; refine (hv _).mono ?_; rintro e w1 ⟨rfl, rfl⟩)
                  go_ret
                  exact ⟨ret_bool hE.out.symm, hb0⟩
            · have k4' : (k == 4) = false := beq_eq_false_iff_ne.2 k4
              have hE : Hid (goodX nest (.mk k n m xs) = false) := show _ = _ by rw [goodX, if_neg h4', if_neg k1, if_neg k2, if_neg k3, if_neg k4]
              clear ih hr1 hz hx hN h4' k1 k2 k3 k4
              go_enter Try.func72, Try.ntmps72
              go_wp2
              go_ret
              exact ⟨ret_bool hE.out.symm, hb0⟩
set_option maxHeartbeats 1000000 in
theorem goodE_any (x : Ex) {w : World} {v : Value} (hx : Xv w x v) (hz : szX x) :
    Calls Try.prog 45 #[v] w fun e w' => e = .returned (.bool (goodX 0 x)) ∧ Below w.heap.size w w' := by
  obtain ⟨k, n, m, xs⟩ := x
  obtain ⟨av, rfl, hr⟩ := hx.parts
  have hb0 := below_alloc w (.cells #[.int .i64 k, .string n, .int .i64 m, av] 48)
  have h1 := goodAt_any (.mk k n m xs) _ _ ((Xv.of hr).next hb0) hz 0 (by omega)
  rw [show ((0 : Nat) : Int) = 0 from rfl] at h1
  clear hx hr hz
  go_enter Try.func45, Try.ntmps45
  go_wp2_with (go_at_call 72; refine h1.mono ?_; rintro e w1 ⟨rfl, hb1⟩)
  go_ret
  exact ⟨rfl, Below.next hb0 hb1⟩
end Go.Proofs.Ytncileojdighnaa
