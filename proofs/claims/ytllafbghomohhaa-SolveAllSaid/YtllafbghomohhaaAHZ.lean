/- The reference's faults, held in a variable. -/
import Derived.Test.YtllafbghomohhaaGrRef3
import Derived.Test.YtllafbghomohhaaAGZ
import Derived.Test.YtllafbghomohhaaGrIs
import Derived.Test.YtllafbghomohhaaAEZ
namespace Go.Proofs.Ytllafbghomohhaa
open Go.RowKit

set_option maxHeartbeats 400000 in
theorem fbad_no (a : Int) (w : World) : Calls Try.prog 27 #[.agg #[.int .i64 0, .int .i64 a, .string ⟨#[]⟩, .slice none 0 0]] w fun e w' => e = .returned (.bool false) ∧ Below w.heap.size w w' := by
  go_enter Try.func27, Try.ntmps27
  go_wp2
  go_ret
  exact ⟨rfl, below_alloc _ _⟩
set_option maxHeartbeats 400000 in
theorem fbad_yes {c : Int} (hc : c ≠ 0) (a : Int) (w : World) : Calls Try.prog 27 #[.agg #[.int .i64 c, .int .i64 a, .string ⟨#[]⟩, .slice none 0 0]] w fun e w' => e = .returned (.bool true) ∧ Below w.heap.size w w' := by
  have h : (c != 0) = true := by simp [hc]
  go_enter Try.func27, Try.ntmps27
  go_wp2
  go_ret
  exact ⟨rfl, below_alloc _ _⟩
theorem one_nil {x : Int × Int} : one x = [] ↔ x.1 = 0 := by
  unfold one
  split <;> simp_all
theorem set4_far {w : World} {q b o : Nat} {v0 v1 v2 v3 v : Value} (hne : b ≠ q) (h : w.cell? ⟨b, o, none⟩ = some v) : ((((w.setCell ⟨q, 0, none⟩ v0).setCell ⟨q, 1, none⟩ v1).setCell ⟨q, 2, none⟩ v2).setCell ⟨q, 3, none⟩ v3).cell? ⟨b, o, none⟩ = some v := by
  have e : ((((w.setCell ⟨q, 0, none⟩ v0).setCell ⟨q, 1, none⟩ v1).setCell ⟨q, 2, none⟩ v2).setCell ⟨q, 3, none⟩ v3).heap[b]? = w.heap[b]? := by
    rw [Below.heap_setCell _ ⟨q, 3, none⟩ _ _ hne, Below.heap_setCell _ ⟨q, 2, none⟩ _ _ hne, Below.heap_setCell _ ⟨q, 1, none⟩ _ _ hne, Below.heap_setCell _ ⟨q, 0, none⟩ _ _ hne]
  unfold World.cell? at h ⊢
  rw [e]
  exact h
theorem flt_four {w : World} {q : Nat} {c a : Int} (h : w.heap[q]? = some (.cells #[.int .i64 c, .int .i64 a, .string ⟨#[]⟩, .slice none 0 0] 35)) : w.cell? ⟨q, 0, none⟩ = some (.int .i64 c) ∧ w.cell? ⟨q, 1, none⟩ = some (.int .i64 a) ∧ w.cell? ⟨q, 2, none⟩ = some (.string ⟨#[]⟩) ∧ w.cell? ⟨q, 3, none⟩ = some (.slice none 0 0) := by
  refine ⟨?_, ?_, ?_, ?_⟩ <;> simp [World.cell?, h]
end Go.Proofs.Ytllafbghomohhaa

/- SolveInstances, walked. -/
namespace Go.Proofs.Ytllafbghomohhaa
open Go.RowKit

set_option maxRecDepth 100000 in
set_option maxHeartbeats 4000000 in
theorem slarge_nil {W : World} {nv rv : Value} {g : Gf} (hG : Gr W nv rv g) :
    Calls Try.prog 6 #[.agg #[nv, rv], .slice none 0 0] W fun e w' => e = .returned (.bool (!smallK 40 g)) ∧ Below W.heap.size W w' := by
  have hs := hid (fun w (hb : Below W.heap.size W w) => smallK_any (K := 40) (by omega) (hG.below hb))
  obtain ⟨na, nc, rfl, _⟩ := hG.1
  obtain ⟨ra, rc, rfl, _⟩ := hG.2
  have hb0 := hid (below_alloc W (.cells #[.slice na g.nodes.length nc, .slice ra g.roots.length rc] 25))
  clear hG
  cases hk : smallK 40 g with
  | true =>
    rw [hk] at hs
    go_enter Try.func6, Try.ntmps6
    go_wp2_with (go_at_call 20; refine (hs.out _ hb0.out).mono ?_; rintro e w1 ⟨rfl, hb1⟩; have hb2 := hid (Below.next hb0.out hb1); clear hb1)
    go_ret
    exact ⟨rfl, hb2.out⟩
  | false =>
    rw [hk] at hs
    go_enter Try.func6, Try.ntmps6
    go_wp2_with (go_at_call 20; refine (hs.out _ hb0.out).mono ?_; rintro e w1 ⟨rfl, hb1⟩; have hb2 := hid (Below.next hb0.out hb1); clear hb1)
    go_ret
    exact ⟨rfl, hb2.out⟩
/-- Two boxes, kept. -/
structure Tw2 (W : World) (n1 r1 n2 r2 : Value) (w : World) : Prop where
  b : Below W.heap.size W w
  x : w.heap[W.heap.size]? = some (.cells #[n1, r1] 25)
  y : w.heap[W.heap.size + 1]? = some (.cells #[n2, r2] 25)
theorem Tw2.start (W : World) (n1 r1 n2 r2 : Value) : Tw2 W n1 r1 n2 r2 ((W.alloc (.cells #[n1, r1] 25)).alloc (.cells #[n2, r2] 25)) := by
  refine ⟨(below_alloc W _).alloc (by simp) _, (Below.heap_alloc _ _ _ (by simp)).trans (heap_alloc_new W _), ?_⟩
  have := heap_alloc_new (W.alloc (.cells #[n1, r1] 25)) (.cells #[n2, r2] 25)
  rw [show (W.alloc (.cells #[n1, r1] 25)).heap.size = W.heap.size + 1 by simp] at this
  exact this
theorem Tw2.next {W w w' : World} {n1 r1 n2 r2 : Value} (h : Tw2 W n1 r1 n2 r2 w) (hb : Below w.heap.size w w') : Tw2 W n1 r1 n2 r2 w' :=
  ⟨h.b.trans (hb.mono h.b.size), (hb.block _ (lt_of_block h.x)).trans h.x, (hb.block _ (lt_of_block h.y)).trans h.y⟩
theorem Tw2.cells {W w : World} {n1 r1 n2 r2 : Value} (h : Tw2 W n1 r1 n2 r2 w) : ((w.cell? ⟨W.heap.size, 0, none⟩ = some n1 ∧ w.cell? ⟨W.heap.size, 1, none⟩ = some r1) ∧ w.cell? ⟨W.heap.size + 1, 0, none⟩ = some n2 ∧ w.cell? ⟨W.heap.size + 1, 1, none⟩ = some r2) ∧ W.heap.size < w.heap.size ∧ W.heap.size + 1 < w.heap.size := by
  obtain ⟨a, _⟩ := blk2y h.x
  obtain ⟨b, _⟩ := blk2y h.y
  exact ⟨⟨a, b⟩, lt_of_block h.x, lt_of_block h.y⟩
/-- The fault's box. -/
abbrev fbx (c a : Int) : Obj := .cells #[.int .i64 c, .int .i64 a, .string ⟨#[]⟩, .slice none 0 0] 35
structure Q5 (W : World) (n1 r1 n2 r2 : Value) (fb : Nat) (c a : Int) (ev : Value) (fs : Fs) (w : World) : Prop where
  h : Tw2 W n1 r1 n2 r2 w
  f : w.heap[fb]? = some (fbx c a)
  e : Er w ev fs
  l : W.heap.size + 1 < fb
theorem Q5.next {W w w' : World} {n1 r1 n2 r2 : Value} {fb : Nat} {c a : Int} {ev : Value} {fs : Fs} (q : Q5 W n1 r1 n2 r2 fb c a ev fs w) (hb : Below w.heap.size w w') : Q5 W n1 r1 n2 r2 fb c a ev fs w' := ⟨q.h.next hb, (hb.block _ (lt_of_block q.f)).trans q.f, q.e.below hb, q.l⟩
theorem Q5.new {W w : World} {n1 r1 n2 r2 : Value} {c a : Int} {ev : Value} {fs : Fs} (h : Tw2 W n1 r1 n2 r2 w) (e : Er w ev fs) : Q5 W n1 r1 n2 r2 w.heap.size c a ev fs (w.alloc (fbx c a)) := ⟨h.next (below_alloc w _), heap_alloc_new w _, e.below (below_alloc w _), lt_of_block h.y⟩
theorem Q5.cells {W w : World} {n1 r1 n2 r2 : Value} {fb : Nat} {c a : Int} {ev : Value} {fs : Fs} (q : Q5 W n1 r1 n2 r2 fb c a ev fs w) : ((w.cell? ⟨fb, 0, none⟩ = some (.int .i64 c) ∧ w.cell? ⟨fb, 1, none⟩ = some (.int .i64 a) ∧ w.cell? ⟨fb, 2, none⟩ = some (.string ⟨#[]⟩) ∧ w.cell? ⟨fb, 3, none⟩ = some (.slice none 0 0)) ∧ (w.frozen? ⟨fb, 0, none⟩ = false ∧ w.frozen? ⟨fb, 1, none⟩ = false ∧ w.frozen? ⟨fb, 2, none⟩ = false ∧ w.frozen? ⟨fb, 3, none⟩ = false)) ∧ fb < w.heap.size := by
  have h := q.f
  refine ⟨⟨⟨?_, ?_, ?_, ?_⟩, ?_, ?_, ?_, ?_⟩, lt_of_block h⟩ <;> simp [World.cell?, World.frozen?, h, fbx]
theorem er_set {w : World} {q : Nat} {T : TypeId} {cs : Array Value} (hT : T ≠ 74) (hq : ∃ cs, w.heap[q]? = some (.cells cs T)) {i : Nat} {v : Value} : ∀ {fs : Fs} {ev : Value}, Er w ev fs → Er (w.setCell ⟨q, i, none⟩ v) ev fs
  | [], _, h => h
  | _ :: _, _, ⟨h0, b, ev, he, hb, hr⟩ => ⟨h0, b, ev, he, by
      obtain ⟨cs, hq⟩ := hq
      have hne : b ≠ q := fun e => by
        subst e
        rw [hq] at hb
        injection hb with hb
        injection hb with _ hb
        exact hT hb
      rw [Below.heap_setCell _ _ _ _ hne]
      exact hb, er_set (cs := cs) hT hq hr⟩
theorem Q5.set {W w : World} {n1 r1 n2 r2 : Value} {fb : Nat} {c a c' a' : Int} {ev : Value} {fs : Fs} (q : Q5 W n1 r1 n2 r2 fb c a ev fs w) : Q5 W n1 r1 n2 r2 fb c' a' ev fs ((((w.setCell ⟨fb, 0, none⟩ (.int .i64 c')).setCell ⟨fb, 1, none⟩ (.int .i64 a')).setCell ⟨fb, 2, none⟩ (.string ⟨#[]⟩)).setCell ⟨fb, 3, none⟩ (.slice none 0 0)) := by
  have hl := q.l
  have h1 := heap_setCell_same w fb 0 _ _ (.int .i64 c') q.f
  have h2 := heap_setCell_same _ fb 1 _ _ (.int .i64 a') h1
  have h3 := heap_setCell_same _ fb 2 _ _ (.string ⟨#[]⟩) h2
  have h4 := heap_setCell_same _ fb 3 _ _ (.slice none 0 0) h3
  have hk : ∀ k, k ≠ fb → ((((w.setCell ⟨fb, 0, none⟩ (.int .i64 c')).setCell ⟨fb, 1, none⟩ (.int .i64 a')).setCell ⟨fb, 2, none⟩ (.string ⟨#[]⟩)).setCell ⟨fb, 3, none⟩ (.slice none 0 0)).heap[k]? = w.heap[k]? := fun k hk => by
    rw [Below.heap_setCell _ _ _ _ hk, Below.heap_setCell _ _ _ _ hk, Below.heap_setCell _ _ _ _ hk, Below.heap_setCell _ _ _ _ hk]
  refine ⟨⟨(((q.h.b.setCell (p := ⟨fb, 0, none⟩) (by show W.heap.size ≤ fb; omega) _).setCell (p := ⟨fb, 1, none⟩) (by show W.heap.size ≤ fb; omega) _).setCell (p := ⟨fb, 2, none⟩) (by show W.heap.size ≤ fb; omega) _).setCell (p := ⟨fb, 3, none⟩) (by show W.heap.size ≤ fb; omega) _, (hk _ (by omega)).trans q.h.x, (hk _ (by omega)).trans q.h.y⟩, h4, ?_, hl⟩
  exact er_set (cs := #[]) (T := 35) (by decide) ⟨_, h3⟩ (er_set (cs := #[]) (T := 35) (by decide) ⟨_, h2⟩ (er_set (cs := #[]) (T := 35) (by decide) ⟨_, h1⟩ (er_set (cs := #[]) (T := 35) (by decide) ⟨_, q.f⟩ q.e)))
theorem fl_c {w : World} {c a : Int} (hc : c ≠ 0) (_ : True) : Fl w c a (.slice none 0 0) [(c, a)] := ⟨rfl, rfl, hc, rfl⟩
end Go.Proofs.Ytllafbghomohhaa

/- put of package tendrilref10. -/
namespace Go.Proofs.Ytllafbghomohhaa
open Go.RowKit

/-- Two classes made one, by the list of classes. -/
def putV (x y z : Nat) : Nat := if z = y then x else z
def putJ (L : List Nat) (x y j : Nat) : List Nat := (L.take j).map (putV x y) ++ L.drop j
theorem putJ_len (L : List Nat) (x y j : Nat) : (putJ L x y j).length = L.length := by
  unfold putJ
  rw [List.length_append, List.length_map, List.length_take, List.length_drop]
  omega
theorem putJ_at {L : List Nat} {x y j : Nat} (hj : j < L.length) : (putJ L x y j).getD j 0 = L.getD j 0 := by
  unfold putJ
  rw [List.getD, List.getElem?_append_right (by simp; omega)]
  simp [List.getD, List.length_take, Nat.min_eq_left (Nat.le_of_lt hj)]
theorem putJ_step {L : List Nat} {x y j : Nat} (hj : j < L.length) : (putJ L x y j).set j (putV x y (L.getD j 0)) = putJ L x y (j + 1) := by
  apply List.ext_getElem?
  intro i
  by_cases hi : i < L.length
  · by_cases e : i = j
    · subst e
      rw [List.getElem?_set_self (by rw [putJ_len]; exact hi)]
      unfold putJ
      rw [List.getElem?_append_left (by simp; omega)]
      simp [List.getD, hi]
    · rw [List.getElem?_set_ne (fun h => e h.symm)]
      unfold putJ
      by_cases h1 : i < j
      · rw [List.getElem?_append_left (by simp; omega), List.getElem?_append_left (by simp; omega)]
        simp [h1, show i < j + 1 by omega]
      · rw [List.getElem?_append_right (by simp; omega), List.getElem?_append_right (by simp; omega)]
        simp only [List.length_map, List.length_take, List.getElem?_drop]
        rw [Nat.min_eq_left (by omega), Nat.min_eq_left (by omega), show j + (i - j) = j + 1 + (i - (j + 1)) by omega]
  · rw [List.getElem?_eq_none (by rw [List.length_set, putJ_len]; omega), List.getElem?_eq_none (by rw [putJ_len]; omega)]
def putL (L : List Nat) (a b : Nat) : List Nat := if L.getD a 0 = L.getD b 0 then L else putJ L (L.getD a 0) (L.getD b 0) L.length
theorem putL_len (L : List Nat) (a b : Nat) : (putL L a b).length = L.length := by
  unfold putL
  split
  · rfl
  · exact putJ_len _ _ _ _
theorem putL_get {L : List Nat} {a b i : Nat} (hi : i < L.length) : (putL L a b).getD i 0 = putV (L.getD a 0) (L.getD b 0) (L.getD i 0) := by
  unfold putL
  split
  · rename_i e
    unfold putV
    split
    · rename_i e2; rw [e2, e]
    · rfl
  · unfold putJ
    simp [List.getD, hi]
set_option maxRecDepth 100000 in
set_option maxHeartbeats 4000000 in
theorem rput_any {w : World} {B g c a b : Nat} {L : List Nat} (ho : w.ownsRow B 3 1 (.slice (some ⟨g, 0, none⟩) L.length c) L.length ((ints L).map (Value.int .i64))) (ha : a < L.length) (hb : b < L.length) (hN : L.length ≤ 20000) :
    Calls Try.prog 50 #[.slice (some ⟨g, 0, none⟩) L.length c, .int .i64 (a : Int), .int .i64 (b : Int)] w fun e w' => e = .returned (.bool (decide (L.getD a 0 ≠ L.getD b 0))) ∧ w'.ownsRow B 3 1 (.slice (some ⟨g, 0, none⟩) L.length c) L.length ((ints (putL L a b)).map (Value.int .i64)) ∧ Mo (· = g) w w' := by
  have hai : (a : Int) < (L.length : Int) := by omega
  have hbi : (b : Int) < (L.length : Int) := by omega
  have ca : w.cell? ⟨g, a, none⟩ = some (.int .i64 ((L.getD a 0 : Nat) : Int)) := by rw [ho.cellAt a (by omega)]; exact ints_at ha
  have cb : w.cell? ⟨g, b, none⟩ = some (.int .i64 ((L.getD b 0 : Nat) : Int)) := by rw [ho.cellAt b (by omega)]; exact ints_at hb
  have hzg := lt_of_cell ca
  have HO := hid ho
  clear ho
  have hpl : Hid (putL L a b = if L.getD a 0 = L.getD b 0 then L else putJ L (L.getD a 0) (L.getD b 0) L.length) := show _ = _ from rfl
  generalize putL L a b = PL at hpl ⊢
  generalize L.getD a 0 = x at *
  generalize L.getD b 0 = y at *
  by_cases hxy : x = y
  · subst hxy
    have hpl' : PL = L := by have := hpl.out; rw [if_pos rfl] at this; exact this
    subst hpl'
    go_enter Try.func50, Try.ntmps50
    go_wp2
    go_ret
    exact ⟨by simp, HO.out, Mo.refl _ _⟩
  · have hpl' : PL = putJ L x y L.length := by have := hpl.out; rw [if_neg hxy] at this; exact this
    have hxy' : ¬ ((x : Int) = (y : Int)) := by omega
    have hD : decide (x ≠ y) = true := by simpa using hxy
    rw [hD]
    have h0 : Hid (w.ownsRow B 3 1 (.slice (some ⟨g, 0, none⟩) L.length c) L.length ((ints (putJ L x y 0)).map (Value.int .i64))) := by
      have e : putJ L x y 0 = L := by simp [putJ]
      rw [e]
      exact HO.out
    have hm0 := hid (Mo.refl (· = g) w)
    clear hpl hD
    go_enter Try.func50, Try.ntmps50
    go_wp2
    go_loopw [9] (fun i wr => ∃ j : Nat, j ≤ L.length ∧ i = .int .i64 (j : Int) ∧ Hid (wr.ownsRow B 3 1 (.slice (some ⟨g, 0, none⟩) L.length c) L.length ((ints (putJ L x y j)).map (Value.int .i64))) ∧ Hid (Mo (· = g) w wr)) (fun i _ => L.length - (intOf i).toNat)
    case atStart => exact ⟨0, Nat.zero_le _, rfl, h0, hm0⟩
    case round =>
      clear h0 hm0
      obtain ⟨j, hj, rfl, hr, hm⟩ := hrel
      by_cases hlt : j < L.length
      · have hji : (j : Int) < (L.length : Int) := by omega
        have cj : wr.cell? ⟨g, j, none⟩ = some (.int .i64 ((L.getD j 0 : Nat) : Int)) := by
          rw [hr.out.cellAt j (by omega), ints_at (by rw [putJ_len]; exact hlt), putJ_at hlt]
        have fj := hr.out.frozenAt j
        have hzr := lt_of_cell cj
        have hst := hid (putJ_step (x := x) (y := y) hlt)
        by_cases hz : L.getD j 0 = y
        · have hz' : ((L.getD j 0 : Nat) : Int) = (y : Int) := by omega
          rw [hz] at cj
          have hr2 : Hid ((wr.setCell ⟨g, j, none⟩ (.int .i64 (x : Int))).ownsRow B 3 1 (.slice (some ⟨g, 0, none⟩) L.length c) L.length ((ints (putJ L x y (j + 1))).map (Value.int .i64))) := by
            have h2 := (World.ownsRow.stored hr.out j (.int .i64 (x : Int))).1
            rw [ints_set] at h2
            have h3 := hst.out
            unfold putV at h3
            rw [if_pos hz] at h3
            rw [h3] at h2
            exact h2
          have hm2 := hid (hm.out.setCell (p := ⟨g, j, none⟩) (Or.inl rfl) (.int .i64 (x : Int)))
          clear hr hm hst hz hz'
          go_wp2
          go_roundw
          case rel => exact ⟨j + 1, by omega, by go_num, hr2, hm2⟩
          case measure => simp [intOf]; omega
        · have hz' : ¬ (((L.getD j 0 : Nat) : Int) = (y : Int)) := by omega
          have hr2 : Hid (wr.ownsRow B 3 1 (.slice (some ⟨g, 0, none⟩) L.length c) L.length ((ints (putJ L x y (j + 1))).map (Value.int .i64))) := by
            have h3 := hst.out
            unfold putV at h3
            rw [if_neg hz] at h3
            have e : (putJ L x y j).set j (L.getD j 0) = putJ L x y j := by
              have := putJ_at (x := x) (y := y) hlt
              apply List.ext_getElem?
              intro i
              by_cases ei : i = j
              · subst ei
                rw [List.getElem?_set_self (by rw [putJ_len]; exact hlt), ← this]
                simp [List.getD, putJ_len, hlt]
              · rw [List.getElem?_set_ne (fun h => ei h.symm)]
            rw [e] at h3
            have := hr.out
            rw [h3] at this
            exact this
          have hm2 := hid hm.out
          clear hr hm hst hz
          generalize L.getD j 0 = z at *
          go_wp2
          go_roundw
          case rel => exact ⟨j + 1, by omega, by go_num, hr2, hm2⟩
          case measure => simp [intOf]; omega
      · obtain rfl : j = L.length := by omega
        have hr2 := hid hr.out
        have hm2 := hid hm.out
        clear hr hm
        subst hpl'
        go_wp2
        go_ret
        exact ⟨rfl, hr2.out, hm2.out⟩
end Go.Proofs.Ytllafbghomohhaa

/- The reference's classes: plain data. -/
namespace Go.Proofs.Ytllafbghomohhaa
open Go.RowKit

/-- Classes that no unifier keeps apart. -/
structure Clo (ns : List Nd) (P : List (Nat × Nat)) (L : List Nat) : Prop where
  len : L.length = ns.length
  rng : ∀ i, i < L.length → L.getD i 0 < L.length
  min : ∀ R, Cg ns R → (∀ p ∈ P, R p.1 p.2) → ∀ x y, x < L.length → y < L.length → L.getD x 0 = L.getD y 0 → R x y
theorem Clo.put {ns : List Nd} {P : List (Nat × Nat)} {L : List Nat} (h : Clo ns P L) {a b : Nat} (ha : a < L.length) (hb : b < L.length) (hR : ∀ R, Cg ns R → (∀ p ∈ P, R p.1 p.2) → R a b) : Clo ns P (putL L a b) := by
  refine ⟨by rw [putL_len]; exact h.len, fun i hi => ?_, fun R hc hp x y hx hy he => ?_⟩
  · rw [putL_len] at hi ⊢
    rw [putL_get hi]
    unfold putV
    split
    · exact h.rng a ha
    · exact h.rng i hi
  · rw [putL_len] at hx hy
    rw [putL_get hx, putL_get hy] at he
    have m := h.min R hc hp
    have rab := hR R hc hp
    unfold putV at he
    split at he
    · rename_i e1
      split at he
      · rename_i e2
        exact m x y hx hy (e1.trans e2.symm)
      · exact hc.trans _ _ _ (m x b hx hb e1) (hc.trans _ _ _ (hc.symm _ _ rab) (m a y ha hy he))
    · split at he
      · rename_i e2
        exact hc.trans _ _ _ (m x a hx ha he) (hc.trans _ _ _ rab (m b y hb hy e2.symm))
      · exact m x y hx hy he
theorem putL_keep {L : List Nat} {a b i j : Nat} (hi : i < L.length) (hj : j < L.length) (h : L.getD i 0 = L.getD j 0) : (putL L a b).getD i 0 = (putL L a b).getD j 0 := by
  rw [putL_get hi, putL_get hj, h]
theorem putL_same {L : List Nat} {a b : Nat} (ha : a < L.length) (hb : b < L.length) : (putL L a b).getD a 0 = (putL L a b).getD b 0 := by
  rw [putL_get ha, putL_get hb]
  unfold putV
  simp
/-- Classes that keep labels and arguments make a unifier. -/
theorem clo_cg {ns : List Nd} {P : List (Nat × Nat)} {L : List Nat} (hA : GoodA ns) (hP : ∀ p ∈ P, p.1 < ns.length ∧ p.2 < ns.length ∧ L.getD p.1 0 = L.getD p.2 0) (hs : ∀ i j, i < j → j < ns.length → L.getD i 0 = L.getD j 0 → (ndN ns i).kind ≠ 1 → (ndN ns j).kind ≠ 1 → labS (ndN ns i) (ndN ns j) ∧ ∀ k, k < (ndN ns i).args.length → L.getD (argN ns i k) 0 = L.getD (argN ns j k) 0) :
    ¬ NoSol ns P := fun hn => by
  refine hn (fun x y => x = y ∨ (x < ns.length ∧ y < ns.length ∧ L.getD x 0 = L.getD y 0)) ⟨⟨fun _ => Or.inl rfl, fun x y hxy => ?_, fun x y z hxy hyz => ?_⟩, fun x y hx hy hxy hkx hky => ?_⟩ (fun p hp => Or.inr (hP p hp))
  · rcases hxy with rfl | ⟨h1, h2, h3⟩
    · exact Or.inl rfl
    · exact Or.inr ⟨h2, h1, h3.symm⟩
  · rcases hxy with rfl | ⟨h1, h2, h3⟩
    · exact hyz
    · rcases hyz with rfl | ⟨_, k2, k3⟩
      · exact Or.inr ⟨h1, h2, h3⟩
      · exact Or.inr ⟨h1, k2, h3.trans k3⟩
  · rcases hxy with rfl | ⟨_, _, h3⟩
    · exact ⟨labS.refl _, fun _ _ => Or.inl rfl⟩
    · rcases Nat.lt_trichotomy x y with hlt | rfl | hlt
      · obtain ⟨l, ar⟩ := hs x y hlt hy h3 hkx hky
        refine ⟨l, fun k hk => Or.inr ⟨(hA.arg x hx k hk).2, (hA.arg y hy k (by rw [← l.2.2.2]; exact hk)).2, ar k hk⟩⟩
      · exact ⟨labS.refl _, fun _ _ => Or.inl rfl⟩
      · obtain ⟨l, ar⟩ := hs y x hlt hx h3.symm hky hkx
        have l' := l.symm
        refine ⟨l', fun k hk => ?_⟩
        have hk' : k < (ndN ns y).args.length := by rw [← l'.2.2.2]; exact hk
        exact Or.inr ⟨(hA.arg x hx k hk).2, (hA.arg y hy k hk').2, (ar k hk').symm⟩
/-- Two of one class that are labelled otherwise: there is no unifier. -/
theorem Clo.fail {ns : List Nd} {P : List (Nat × Nat)} {L : List Nat} (h : Clo ns P L) {i j : Nat} (hi : i < ns.length) (hj : j < ns.length) (he : L.getD i 0 = L.getD j 0) (hki : (ndN ns i).kind ≠ 1) (hkj : (ndN ns j).kind ≠ 1) (hl : ¬ labS (ndN ns i) (ndN ns j)) : NoSol ns P := fun R hc hp =>
  hl (hc.lab i j hi hj (h.min R hc hp i j (by rw [h.len]; exact hi) (by rw [h.len]; exact hj) he) hki hkj).1
/-- The arguments of two of one class may be put together. -/
theorem Clo.arg {ns : List Nd} {P : List (Nat × Nat)} {L : List Nat} (h : Clo ns P L) {i j : Nat} (hi : i < ns.length) (hj : j < ns.length) (he : L.getD i 0 = L.getD j 0) (hki : (ndN ns i).kind ≠ 1) (hkj : (ndN ns j).kind ≠ 1) {k : Nat} (hk : k < (ndN ns i).args.length) : ∀ R, Cg ns R → (∀ p ∈ P, R p.1 p.2) → R (argN ns i k) (argN ns j k) := fun R hc hp =>
  (hc.lab i j hi hj (h.min R hc hp i j (by rw [h.len]; exact hi) (by rw [h.len]; exact hj) he) hki hkj).2 k hk
/-- How many classes there are. -/
def clN (L : List Nat) : Nat → Nat
  | 0 => 0
  | n + 1 => clN L n + if n ∈ L then 1 else 0
theorem clN_le {L M : List Nat} (h : ∀ z, z ∈ M → z ∈ L) : ∀ n, clN M n ≤ clN L n
  | 0 => Nat.le_refl _
  | n + 1 => by
    have := clN_le h n
    unfold clN
    by_cases hm : n ∈ M
    · rw [if_pos hm, if_pos (h n hm)]; omega
    · rw [if_neg hm]; omega
theorem clN_lt {L M : List Nat} (h : ∀ z, z ∈ M → z ∈ L) {y : Nat} (hy : y ∈ L) (hn : y ∉ M) : ∀ n, y < n → clN M n < clN L n
  | 0, h0 => absurd h0 (Nat.not_lt_zero _)
  | n + 1, h0 => by
    unfold clN
    by_cases e : y = n
    · subst e
      have := clN_le h y
      rw [if_neg hn, if_pos hy]; omega
    · have := clN_lt h hy hn n (by omega)
      by_cases hm : n ∈ M
      · rw [if_pos hm, if_pos (h n hm)]; omega
      · rw [if_neg hm]; omega
theorem getD_memN {L : List Nat} {i : Nat} (h : i < L.length) : L.getD i 0 ∈ L := by simp [List.getD, h]
theorem putL_clN {L : List Nat} {a b : Nat} (ha : a < L.length) (hb : b < L.length) (hr : ∀ i, i < L.length → L.getD i 0 < L.length) (hne : L.getD a 0 ≠ L.getD b 0) : clN (putL L a b) L.length < clN L L.length := by
  have hg : ∀ z, z ∈ putL L a b → ∃ i, i < L.length ∧ z = putV (L.getD a 0) (L.getD b 0) (L.getD i 0) := fun z hz => by
    obtain ⟨i, hi, rfl⟩ := List.getElem_of_mem hz
    have hi' : i < L.length := by rw [← putL_len L a b]; exact hi
    refine ⟨i, hi', ?_⟩
    rw [← putL_get hi']
    simp [List.getD, hi]
  refine clN_lt (fun z hz => ?_) (getD_memN hb) (fun hz => ?_) _ (hr b hb)
  · obtain ⟨i, hi, rfl⟩ := hg z hz
    unfold putV
    split
    · exact getD_memN ha
    · exact getD_memN hi
  · obtain ⟨i, hi, e⟩ := hg _ hz
    unfold putV at e
    split at e
    · exact hne e.symm
    · rename_i h1
      exact h1 e.symm
end Go.Proofs.Ytllafbghomohhaa
