/- The fixed fact of layer 10: its walk. -/
import Derived.Test.YtllafbghomohhaaOOZ
import Derived.Test.YtllafbghomohhaaONZ
import Derived.Test.YtllafbghomohhaaOLZ
import Derived.Test.YtllafbghomohhaaGrIs
import Derived.Test.YtllafbghomohhaaOGZ
import Derived.Test.YtllafbghomohhaaOEZ
import Derived.Test.YtllafbghomohhaaGrCopy
import Derived.Test.YtllafbghomohhaaOJZ
namespace Go.Proofs.Ytllafbghomohhaa
open Go.RowKit

abbrev oA : Obj := .cells #[.int .i64 0] 3
abbrev oB (q : Nat) : Obj := .cells #[.int .i64 1, .string ⟨#[]⟩, .int .i64 0, .slice none 0 0, .int .i64 4, .string fS, .int .i64 0, .slice (some ⟨q, 0, none⟩) 1 1, .int .i64 2, .string aS, .int .i64 0, .slice none 0 0] 56
theorem gr_lit {w : World} {a b c : Nat} (ha : w.heap[a]? = some oA) (hb : w.heap[b]? = some (oB a)) (hc : w.heap[c]? = some oA) : Gr w (.slice (some ⟨b, 0, none⟩) 3 3) (.slice (some ⟨c, 0, none⟩) 1 1) g0S := by
  have hri : ∀ q, w.heap[q]? = some oA → Ri w (.slice (some ⟨q, 0, none⟩) 1 1) [0] := fun q hq => ⟨some ⟨q, 0, none⟩, 1, rfl, fun j hj => by
    have e : j = 0 := by simpa using hj
    subst e
    exact ⟨q, 0, rfl, by simp [World.cell?, hq]⟩⟩
  refine ⟨⟨some ⟨b, 0, none⟩, 3, rfl, fun j hj => ?_⟩, hri c hc⟩
  have hj3 : j = 0 ∨ j = 1 ∨ j = 2 := by
    have : j < 3 := hj
    omega
  rcases hj3 with rfl | rfl | rfl
  · exact ⟨b, 0, .slice none 0 0, rfl, by simp [World.cell?, hb, g0S], by simp [World.cell?, hb, g0S], by simp [World.cell?, hb, g0S], by simp [World.cell?, hb], Ri.nil _⟩
  · exact ⟨b, 0, .slice (some ⟨a, 0, none⟩) 1 1, rfl, by simp [World.cell?, hb, g0S], by simp [World.cell?, hb, g0S], by simp [World.cell?, hb, g0S], by simp [World.cell?, hb], hri a ha⟩
  · exact ⟨b, 0, .slice none 0 0, rfl, by simp [World.cell?, hb, g0S], by simp [World.cell?, hb, g0S], by simp [World.cell?, hb, g0S], by simp [World.cell?, hb], Ri.nil _⟩
theorem rp_lit {w : World} {q : Nat} {x y : Int} (h : w.heap[q]? = some (.cells #[.int .i64 x, .int .i64 y] 48)) : Rp w (.slice (some ⟨q, 0, none⟩) 1 1) [(x, y)] := ⟨some ⟨q, 0, none⟩, 1, rfl, fun j hj => by
  have e : j = 0 := by simpa using hj
  subst e
  exact ⟨q, 0, rfl, by simp [World.cell?, h], by simp [World.cell?, h]⟩⟩
abbrev oD (b c : Nat) : Obj := .cells #[.slice (some ⟨b, 0, none⟩) 3 3, .slice (some ⟨c, 0, none⟩) 1 1] 25
/-- The world behind the literal. -/
abbrev litW (w : World) : World := (((w.alloc oA).alloc (oB w.heap.size)).alloc oA).alloc (oD (w.heap.size + 1) (w.heap.size + 1 + 1))
structure Lt (w w' : World) : Prop where
  a : w'.heap[w.heap.size]? = some oA
  b : w'.heap[w.heap.size + 1]? = some (oB w.heap.size)
  c : w'.heap[w.heap.size + 1 + 1]? = some oA
  d : w'.heap[w.heap.size + 1 + 1 + 1]? = some (oD (w.heap.size + 1) (w.heap.size + 1 + 1))
  bel : Below w.heap.size w w'
theorem Lt.new (w : World) : Lt w (litW w) := by
  have s1 : (w.alloc oA).heap.size = w.heap.size + 1 := by simp
  have s2 : ((w.alloc oA).alloc (oB w.heap.size)).heap.size = w.heap.size + 1 + 1 := by simp
  have s3 : (((w.alloc oA).alloc (oB w.heap.size)).alloc oA).heap.size = w.heap.size + 1 + 1 + 1 := by simp
  have h1 := heap_alloc_new w oA
  have h2 := heap_alloc_new (w.alloc oA) (oB w.heap.size)
  have h3 := heap_alloc_new ((w.alloc oA).alloc (oB w.heap.size)) oA
  have h4 := heap_alloc_new (((w.alloc oA).alloc (oB w.heap.size)).alloc oA) (oD (w.heap.size + 1) (w.heap.size + 1 + 1))
  rw [s1] at h2
  rw [s2] at h3
  rw [s3] at h4
  refine ⟨?_, ?_, ?_, h4, ?_⟩
  · exact (Below.heap_alloc _ _ _ (by rw [s3]; omega)).trans ((Below.heap_alloc _ _ _ (by rw [s2]; omega)).trans ((Below.heap_alloc _ _ _ (by rw [s1]; omega)).trans h1))
  · exact (Below.heap_alloc _ _ _ (by rw [s3]; omega)).trans ((Below.heap_alloc _ _ _ (by rw [s2]; omega)).trans h2)
  · exact (Below.heap_alloc _ _ _ (by rw [s3]; omega)).trans h3
  · exact (((below_alloc w oA).alloc (by rw [s1]; omega) _).alloc (by rw [s2]; omega) _).alloc (by rw [s3]; omega) _
theorem Lt.next {w w' w'' : World} (h : Lt w w') (hb : Below w'.heap.size w' w'') : Lt w w'' :=
  ⟨(hb.block _ (lt_of_block h.a)).trans h.a, (hb.block _ (lt_of_block h.b)).trans h.b, (hb.block _ (lt_of_block h.c)).trans h.c, (hb.block _ (lt_of_block h.d)).trans h.d, Below.next h.bel hb⟩
set_option maxRecDepth 100000 in
set_option maxHeartbeats 4000000 in
theorem slives_any (w : World) : Calls Try.prog 5 #[] w fun e w' => e = .returned (.bool true) ∧ Below w.heap.size w w' := by
  have hL0 := hid (Lt.new w)
  have hs1 : Hid (∀ (w1 : World) (n : Nat), n = w1.heap.size → Lt w w1 → Calls Try.prog 7 #[.agg #[.slice (some ⟨w.heap.size + 1, 0, none⟩) 3 3, .slice (some ⟨w.heap.size + 1 + 1, 0, none⟩) 1 1], .slice (some ⟨n, 0, none⟩) 1 1] (w1.alloc (.cells #[.int .i64 0, .int .i64 1] 48)) fun e w' => Lt w w' ∧ ∃ nb no nc ra rc aa ac, e = .returned (.tuple #[.agg #[.slice (some ⟨nb, no, none⟩) 1 nc, .slice ra 1 rc], .bool true, .nilIface]) ∧ w'.cell? ⟨nb, no + 3, none⟩ = some (.slice aa 1 ac)) := fun w1 n en h1 => by
    subst en
    have hb := below_alloc w1 (.cells #[.int .i64 0, .int .i64 1] 48)
    have h2 := h1.next hb
    refine (solve_yes (ps := [(0, 1)]) (gr_lit h2.a h2.b h2.c) (good_sized g0_good) (rp_lit (heap_alloc_new w1 _)) (by simp) chk0 yes0).mono ?_
    rintro e w' ⟨⟨t, na, nc, ra, rc, avs, rfl, hLS, hO⟩, hb'⟩
    have ht := least0 hLS
    subst ht
    obtain ⟨ao, c, e1, hn⟩ := hO.gr.1
    injection e1 with e2 _ _
    subst e2
    obtain ⟨nb, no, av, rfl, _, _, _, h3, hri⟩ := hn 0 (by simp)
    obtain ⟨aa, ac, rfl, _⟩ := hri
    simp only [Nat.zero_mul, Nat.add_zero] at h3
    exact ⟨h2.next hb', nb, no, nc, ra, rc, aa, ac, rfl, h3⟩
  have hs2 : Hid (∀ (w1 : World) (n : Nat), n = w1.heap.size → Lt w w1 → Calls Try.prog 7 #[.agg #[.slice (some ⟨w.heap.size + 1, 0, none⟩) 3 3, .slice (some ⟨w.heap.size + 1 + 1, 0, none⟩) 1 1], .slice (some ⟨n, 0, none⟩) 1 1] (w1.alloc (.cells #[.int .i64 1, .int .i64 2] 48)) fun e w' => e = .returned (.tuple #[.agg #[.slice none 0 0, .slice none 0 0], .bool false, .nilIface]) ∧ Below w.heap.size w w') := fun w1 n en h1 => by
    subst en
    have hb := below_alloc w1 (.cells #[.int .i64 1, .int .i64 2] 48)
    have h2 := h1.next hb
    refine (solve_no (ps := [(1, 2)]) (gr_lit h2.a h2.b h2.c) (good_sized g0_good) (rp_lit (heap_alloc_new w1 _)) (by simp) chk1 no1).mono ?_
    rintro e w' ⟨rfl, hb'⟩
    exact ⟨rfl, (h2.next ⟨hb'.os, hb'.tape, hb'.output, hb'.size, hb'.block⟩).bel⟩
  have m1 : True := trivial
  go_enter Try.func5, Try.ntmps5
  go_wp2_with (first
    | (have _m := m1; go_at_call 7; go_must (refine (hs1.out (litW w) (w.heap.size + 1 + 1 + 1 + 1) (by simp) hL0.out).mono ?_; clear m1 _m hs1; rintro e w1 ⟨hL1, nb, no, nc, ra, rc, aa, ac, rfl, h3⟩; have z3 := lt_of_cell h3; have HL1 := hid (hL1.next (below_alloc w1 (.cells #[.slice (some ⟨nb, no, none⟩) 1 nc, .slice ra 1 rc] 25))); have hd1 := HL1.out.d; have zd := lt_of_block hd1; obtain ⟨⟨d0, d1⟩, _⟩ := blk2y hd1; have zw := lt_of_block hL1.d; clear hL1 hd1))
    | (go_at_call 7; go_must (refine (hs2.out (w1.alloc (.cells #[.slice (some ⟨nb, no, none⟩) 1 nc, .slice ra 1 rc] 25)) (w1.heap.size + 1) (by simp) HL1.out).mono ?_; rintro e w2 ⟨rfl, hb2⟩)))
  go_ret
  exact ⟨rfl, hb2⟩
end Go.Proofs.Ytllafbghomohhaa

/- SolveInstances, walked. -/
namespace Go.Proofs.Ytllafbghomohhaa
open Go.RowKit

set_option maxRecDepth 100000 in
set_option maxHeartbeats 4000000 in
theorem slarge_nil {W : World} {nv rv : Value} {g : Gf} (hG : Gr W nv rv g) :
    Calls Try.prog 6 #[.agg #[nv, rv], .slice none 0 0] W fun e w' => e = .returned (.bool (!smallK 40 g)) ∧ Below W.heap.size W w' := by
  have hs := hid (fun w (hb : Below W.heap.size W w) => smallK_any (K := 40) (by omega) (hG.below hb))
  obtain ⟨na, nc, rfl, _⟩ := hG.1
  obtain ⟨ra, rc, rfl, _⟩ := hG.2
  have hb0 := hid (below_alloc W (.cells #[.slice na g.nodes.length nc, .slice ra g.roots.length rc] 25))
  clear hG
  cases hk : smallK 40 g with
  | true =>
    rw [hk] at hs
    go_enter Try.func6, Try.ntmps6
    go_wp2_with (go_at_call 20; refine (hs.out _ hb0.out).mono ?_; rintro e w1 ⟨rfl, hb1⟩; have hb2 := hid (Below.next hb0.out hb1); clear hb1)
    go_ret
    exact ⟨rfl, hb2.out⟩
  | false =>
    rw [hk] at hs
    go_enter Try.func6, Try.ntmps6
    go_wp2_with (go_at_call 20; refine (hs.out _ hb0.out).mono ?_; rintro e w1 ⟨rfl, hb1⟩; have hb2 := hid (Below.next hb0.out hb1); clear hb1)
    go_ret
    exact ⟨rfl, hb2.out⟩
/-- Two boxes, kept. -/
structure Tw2 (W : World) (n1 r1 n2 r2 : Value) (w : World) : Prop where
  b : Below W.heap.size W w
  x : w.heap[W.heap.size]? = some (.cells #[n1, r1] 25)
  y : w.heap[W.heap.size + 1]? = some (.cells #[n2, r2] 25)
theorem Tw2.start (W : World) (n1 r1 n2 r2 : Value) : Tw2 W n1 r1 n2 r2 ((W.alloc (.cells #[n1, r1] 25)).alloc (.cells #[n2, r2] 25)) := by
  refine ⟨(below_alloc W _).alloc (by simp) _, (Below.heap_alloc _ _ _ (by simp)).trans (heap_alloc_new W _), ?_⟩
  have := heap_alloc_new (W.alloc (.cells #[n1, r1] 25)) (.cells #[n2, r2] 25)
  rw [show (W.alloc (.cells #[n1, r1] 25)).heap.size = W.heap.size + 1 by simp] at this
  exact this
theorem Tw2.next {W w w' : World} {n1 r1 n2 r2 : Value} (h : Tw2 W n1 r1 n2 r2 w) (hb : Below w.heap.size w w') : Tw2 W n1 r1 n2 r2 w' :=
  ⟨h.b.trans (hb.mono h.b.size), (hb.block _ (lt_of_block h.x)).trans h.x, (hb.block _ (lt_of_block h.y)).trans h.y⟩
theorem Tw2.cells {W w : World} {n1 r1 n2 r2 : Value} (h : Tw2 W n1 r1 n2 r2 w) : ((w.cell? ⟨W.heap.size, 0, none⟩ = some n1 ∧ w.cell? ⟨W.heap.size, 1, none⟩ = some r1) ∧ w.cell? ⟨W.heap.size + 1, 0, none⟩ = some n2 ∧ w.cell? ⟨W.heap.size + 1, 1, none⟩ = some r2) ∧ W.heap.size < w.heap.size ∧ W.heap.size + 1 < w.heap.size := by
  obtain ⟨a, _⟩ := blk2y h.x
  obtain ⟨b, _⟩ := blk2y h.y
  exact ⟨⟨a, b⟩, lt_of_block h.x, lt_of_block h.y⟩
/-- The fault's box. -/
abbrev fbx (c a : Int) : Obj := .cells #[.int .i64 c, .int .i64 a, .string ⟨#[]⟩, .slice none 0 0] 35
structure Q5 (W : World) (n1 r1 n2 r2 : Value) (fb : Nat) (c a : Int) (ev : Value) (fs : Fs) (w : World) : Prop where
  h : Tw2 W n1 r1 n2 r2 w
  f : w.heap[fb]? = some (fbx c a)
  e : Er w ev fs
  l : W.heap.size + 1 < fb
theorem Q5.next {W w w' : World} {n1 r1 n2 r2 : Value} {fb : Nat} {c a : Int} {ev : Value} {fs : Fs} (q : Q5 W n1 r1 n2 r2 fb c a ev fs w) (hb : Below w.heap.size w w') : Q5 W n1 r1 n2 r2 fb c a ev fs w' := ⟨q.h.next hb, (hb.block _ (lt_of_block q.f)).trans q.f, q.e.below hb, q.l⟩
theorem Q5.new {W w : World} {n1 r1 n2 r2 : Value} {c a : Int} {ev : Value} {fs : Fs} (h : Tw2 W n1 r1 n2 r2 w) (e : Er w ev fs) : Q5 W n1 r1 n2 r2 w.heap.size c a ev fs (w.alloc (fbx c a)) := ⟨h.next (below_alloc w _), heap_alloc_new w _, e.below (below_alloc w _), lt_of_block h.y⟩
theorem Q5.cells {W w : World} {n1 r1 n2 r2 : Value} {fb : Nat} {c a : Int} {ev : Value} {fs : Fs} (q : Q5 W n1 r1 n2 r2 fb c a ev fs w) : ((w.cell? ⟨fb, 0, none⟩ = some (.int .i64 c) ∧ w.cell? ⟨fb, 1, none⟩ = some (.int .i64 a) ∧ w.cell? ⟨fb, 2, none⟩ = some (.string ⟨#[]⟩) ∧ w.cell? ⟨fb, 3, none⟩ = some (.slice none 0 0)) ∧ (w.frozen? ⟨fb, 0, none⟩ = false ∧ w.frozen? ⟨fb, 1, none⟩ = false ∧ w.frozen? ⟨fb, 2, none⟩ = false ∧ w.frozen? ⟨fb, 3, none⟩ = false)) ∧ fb < w.heap.size := by
  have h := q.f
  refine ⟨⟨⟨?_, ?_, ?_, ?_⟩, ?_, ?_, ?_, ?_⟩, lt_of_block h⟩ <;> simp [World.cell?, World.frozen?, h, fbx]
theorem er_set {w : World} {q : Nat} {T : TypeId} {cs : Array Value} (hT : T ≠ 74) (hq : ∃ cs, w.heap[q]? = some (.cells cs T)) {i : Nat} {v : Value} : ∀ {fs : Fs} {ev : Value}, Er w ev fs → Er (w.setCell ⟨q, i, none⟩ v) ev fs
  | [], _, h => h
  | _ :: _, _, ⟨h0, b, ev, he, hb, hr⟩ => ⟨h0, b, ev, he, by
      obtain ⟨cs, hq⟩ := hq
      have hne : b ≠ q := fun e => by
        subst e
        rw [hq] at hb
        injection hb with hb
        injection hb with _ hb
        exact hT hb
      rw [Below.heap_setCell _ _ _ _ hne]
      exact hb, er_set (cs := cs) hT hq hr⟩
theorem Q5.set {W w : World} {n1 r1 n2 r2 : Value} {fb : Nat} {c a c' a' : Int} {ev : Value} {fs : Fs} (q : Q5 W n1 r1 n2 r2 fb c a ev fs w) : Q5 W n1 r1 n2 r2 fb c' a' ev fs ((((w.setCell ⟨fb, 0, none⟩ (.int .i64 c')).setCell ⟨fb, 1, none⟩ (.int .i64 a')).setCell ⟨fb, 2, none⟩ (.string ⟨#[]⟩)).setCell ⟨fb, 3, none⟩ (.slice none 0 0)) := by
  have hl := q.l
  have h1 := heap_setCell_same w fb 0 _ _ (.int .i64 c') q.f
  have h2 := heap_setCell_same _ fb 1 _ _ (.int .i64 a') h1
  have h3 := heap_setCell_same _ fb 2 _ _ (.string ⟨#[]⟩) h2
  have h4 := heap_setCell_same _ fb 3 _ _ (.slice none 0 0) h3
  have hk : ∀ k, k ≠ fb → ((((w.setCell ⟨fb, 0, none⟩ (.int .i64 c')).setCell ⟨fb, 1, none⟩ (.int .i64 a')).setCell ⟨fb, 2, none⟩ (.string ⟨#[]⟩)).setCell ⟨fb, 3, none⟩ (.slice none 0 0)).heap[k]? = w.heap[k]? := fun k hk => by
    rw [Below.heap_setCell _ _ _ _ hk, Below.heap_setCell _ _ _ _ hk, Below.heap_setCell _ _ _ _ hk, Below.heap_setCell _ _ _ _ hk]
  refine ⟨⟨(((q.h.b.setCell (p := ⟨fb, 0, none⟩) (by show W.heap.size ≤ fb; omega) _).setCell (p := ⟨fb, 1, none⟩) (by show W.heap.size ≤ fb; omega) _).setCell (p := ⟨fb, 2, none⟩) (by show W.heap.size ≤ fb; omega) _).setCell (p := ⟨fb, 3, none⟩) (by show W.heap.size ≤ fb; omega) _, (hk _ (by omega)).trans q.h.x, (hk _ (by omega)).trans q.h.y⟩, h4, ?_, hl⟩
  exact er_set (cs := #[]) (T := 35) (by decide) ⟨_, h3⟩ (er_set (cs := #[]) (T := 35) (by decide) ⟨_, h2⟩ (er_set (cs := #[]) (T := 35) (by decide) ⟨_, h1⟩ (er_set (cs := #[]) (T := 35) (by decide) ⟨_, q.f⟩ q.e)))
theorem fl_c {w : World} {c a : Int} (hc : c ≠ 0) (_ : True) : Fl w c a (.slice none 0 0) [(c, a)] := ⟨rfl, rfl, hc, rfl⟩
end Go.Proofs.Ytllafbghomohhaa

/- SolveAll: short contracts, and what lies in memory. -/
namespace Go.Proofs.Ytllafbghomohhaa
open Go.RowKit

set_option maxRecDepth 100000 in
set_option maxHeartbeats 4000000 in
theorem slarge_any {W : World} {nv rv pv : Value} {g : Gf} {ps : List (Int × Int)} (hG : Gr W nv rv g) (hP : Rp W pv ps) {b : Bool} (hB : b = (!smallK 40 g || decide (40 < ps.length))) (hl : ps.length ≤ 9223372036854775807) :
    Calls Try.prog 6 #[.agg #[nv, rv], pv] W fun e w' => e = .returned (.bool b) ∧ Below W.heap.size W w' := by
  have hs := hid (fun w (hb : Below W.heap.size W w) => smallK_any (K := 40) (by omega) (hG.below hb))
  obtain ⟨na, nc, rfl, _⟩ := hG.1
  obtain ⟨ra, rc, rfl, _⟩ := hG.2
  obtain ⟨pa, pc, rfl, _⟩ := hP
  have hb0 := hid (below_alloc W (.cells #[.slice na g.nodes.length nc, .slice ra g.roots.length rc] 25))
  clear hG
  cases hk : smallK 40 g with
  | true =>
    rw [hk] at hs hB
    have hB2 : Hid (b = decide ((40 : Int) < (ps.length : Int))) := by
      rw [hB, Bool.not_true, Bool.false_or]
      exact decide_eq_decide.2 (by omega)
    clear hB
    by_cases h40 : 40 < ps.length
    · have d0 : decide ((40 : Int) < (ps.length : Int)) = true := decide_eq_true (by omega)
      go_enter Try.func6, Try.ntmps6
      go_wp2_with (go_at_call 20; refine (hs.out _ hb0.out).mono ?_; rintro e w1 ⟨rfl, hb1⟩; have hb2 := hid (Below.next hb0.out hb1); clear hb1)
      go_ret
      exact ⟨ret_bool (by rw [hB2.out]; exact d0.symm), hb2.out⟩
    · have d0 : decide ((40 : Int) < (ps.length : Int)) = false := decide_eq_false (by omega)
      go_enter Try.func6, Try.ntmps6
      go_wp2_with (go_at_call 20; refine (hs.out _ hb0.out).mono ?_; rintro e w1 ⟨rfl, hb1⟩; have hb2 := hid (Below.next hb0.out hb1); clear hb1)
      go_ret
      exact ⟨ret_bool (by rw [hB2.out]; exact d0.symm), hb2.out⟩
  | false =>
    rw [hk] at hs hB
    have hB2 : Hid (b = true) := by rw [hB]; rfl
    clear hB
    go_enter Try.func6, Try.ntmps6
    go_wp2_with (go_at_call 20; refine (hs.out _ hb0.out).mono ?_; rintro e w1 ⟨rfl, hb1⟩; have hb2 := hid (Below.next hb0.out hb1); clear hb1)
    go_ret
    exact ⟨ret_bool hB2.out.symm, hb2.out⟩
abbrev vbo (k : Int) (v : Value) : Obj := .cells #[.int .i64 k, v] 41
set_option maxRecDepth 100000 in
set_option maxHeartbeats 4000000 in
theorem rvsame_any {W : World} {k : Int} {ao bo : Option Addr} {n m c d : Nat} {l : List Int} (hu : Ri W (.slice ao n c) l) (hv : Ri W (.slice bo m d) l) (hl : l.length ≤ 5000) :
    Calls Try.prog 13 #[.agg #[.int .i64 k, .slice ao n c], .agg #[.int .i64 k, .slice bo m d]] W fun e w' => e = .returned (.bool true) ∧ Below W.heap.size W w' := by
  have hb0 := (below_alloc W (vbo k (.slice ao n c))).alloc (by simp) (vbo k (.slice bo m d))
  have hi := hid (rints_any (hu.below hb0) (hv.below hb0) hl)
  rw [show decide (l = l) = true by simp] at hi
  have Hb := hid hb0
  clear hu hv hb0
  go_enter Try.func13, Try.ntmps13
  go_wp2_with (go_at_call 32; refine hi.out.mono ?_; rintro e w1 ⟨rfl, hb1⟩; have hb2 := hid (Below.next Hb.out hb1); clear hb1)
  go_ret
  exact ⟨rfl, hb2.out⟩
/-- What the law holds behind the two Solves. -/
structure Sa3 (W : World) (nv rv : Value) (q1 q2 : Nat) (a1 a2 b1 b2 : Value) (h t : Gf) (ev : Value) (fs : Fs) (c a : Int) (w : World) : Prop where
  b : Below W.heap.size W w
  g : w.heap[W.heap.size]? = some (.cells #[nv, rv] 25)
  x : w.heap[q1]? = some (.cells #[a1, a2] 25)
  hx : Gr w a1 a2 h
  y : w.heap[q2]? = some (.cells #[b1, b2] 25)
  hy : Gr w b1 b2 t
  f : w.heap[q2 + 1]? = some (fbx c a)
  e : Er w ev fs
  l : W.heap.size < q2
theorem Sa3.next {W w w' : World} {nv rv : Value} {q1 q2 : Nat} {a1 a2 b1 b2 : Value} {h t : Gf} {ev : Value} {fs : Fs} {c a : Int} (s : Sa3 W nv rv q1 q2 a1 a2 b1 b2 h t ev fs c a w) (hb : Below w.heap.size w w') : Sa3 W nv rv q1 q2 a1 a2 b1 b2 h t ev fs c a w' :=
  ⟨Below.next s.b hb, (hb.block _ (lt_of_block s.g)).trans s.g, (hb.block _ (lt_of_block s.x)).trans s.x, s.hx.below hb, (hb.block _ (lt_of_block s.y)).trans s.y, s.hy.below hb, (hb.block _ (lt_of_block s.f)).trans s.f, s.e.below hb, s.l⟩
theorem Sa3.mk2 {W w w4 : World} {nv rv : Value} {q1 : Nat} {a1 a2 b1 b2 : Value} {h t : Gf} {ev : Value} {fs : Fs} {c a : Int} (b : Below W.heap.size W w) (g : w.heap[W.heap.size]? = some (.cells #[nv, rv] 25)) (x : w.heap[q1]? = some (.cells #[a1, a2] 25)) (hx : Gr w a1 a2 h) (e : Er w ev fs) (hb : Below w.heap.size w w4) (hy : Gr w4 b1 b2 t) : Sa3 W nv rv q1 w4.heap.size a1 a2 b1 b2 h t ev fs c a ((w4.alloc (.cells #[b1, b2] 25)).alloc (fbx c a)) := by
  have hb5 : Below w4.heap.size w4 ((w4.alloc (.cells #[b1, b2] 25)).alloc (fbx c a)) := (below_alloc w4 _).alloc (by simp) _
  have hb6 := Below.next hb hb5
  have h2 := heap_alloc_new (w4.alloc (.cells #[b1, b2] 25)) (fbx c a)
  rw [show (w4.alloc (.cells #[b1, b2] 25)).heap.size = w4.heap.size + 1 by simp] at h2
  exact ⟨Below.next b hb6, (hb6.block _ (lt_of_block g)).trans g, (hb6.block _ (lt_of_block x)).trans x, hx.below hb6, (Below.heap_alloc _ _ _ (by simp)).trans (heap_alloc_new w4 _), hy.below hb5, h2, e.below hb6, by have h1 := lt_of_block g; have h3 := hb.size; omega⟩
theorem Sa3.cells {W w : World} {nv rv : Value} {q1 q2 : Nat} {a1 a2 b1 b2 : Value} {h t : Gf} {ev : Value} {fs : Fs} {c a : Int} (s : Sa3 W nv rv q1 q2 a1 a2 b1 b2 h t ev fs c a w) : (((w.cell? ⟨W.heap.size, 0, none⟩ = some nv ∧ w.cell? ⟨W.heap.size, 1, none⟩ = some rv) ∧ W.heap.size < w.heap.size) ∧ ((w.cell? ⟨q1, 0, none⟩ = some a1 ∧ w.cell? ⟨q1, 1, none⟩ = some a2) ∧ q1 < w.heap.size) ∧ ((w.cell? ⟨q2, 0, none⟩ = some b1 ∧ w.cell? ⟨q2, 1, none⟩ = some b2) ∧ q2 < w.heap.size)) ∧ (w.cell? ⟨q2 + 1, 0, none⟩ = some (.int .i64 c) ∧ w.cell? ⟨q2 + 1, 1, none⟩ = some (.int .i64 a) ∧ w.cell? ⟨q2 + 1, 2, none⟩ = some (.string ⟨#[]⟩) ∧ w.cell? ⟨q2 + 1, 3, none⟩ = some (.slice none 0 0)) ∧ q2 + 1 < w.heap.size := by
  obtain ⟨g0, _⟩ := blk2y s.g
  obtain ⟨x0, _⟩ := blk2y s.x
  obtain ⟨y0, _⟩ := blk2y s.y
  exact ⟨⟨⟨g0, lt_of_block s.g⟩, ⟨x0, lt_of_block s.x⟩, ⟨y0, lt_of_block s.y⟩⟩, flt_four s.f, lt_of_block s.f⟩
/-- What the law holds behind the first Verdict. -/
structure Sa4 (W : World) (nv rv : Value) (q p1 : Nat) (k : Int) (ao : Option Addr) (vc : Nat) (ev : Value) (H : List Nat) (fs : Fs) (c a : Int) (w : World) : Prop where
  b : Below W.heap.size W w
  g : w.heap[W.heap.size]? = some (.cells #[nv, rv] 25)
  f : w.heap[q]? = some (fbx c a)
  x : w.heap[p1]? = some (vbo k (.slice ao H.length vc))
  o : w.ownsRow (q + 1) 3 1 (.slice ao H.length vc) H.length ((ints H).map (Value.int .i64))
  e : Er w ev fs
  lq : W.heap.size < q
  lp : q < p1
theorem Sa4.mk2 {W w w7 : World} {nv rv : Value} {q1 q2 : Nat} {a1 a2 b1 b2 : Value} {h t : Gf} {ev ev2 : Value} {fs fs2 : Fs} {c a k : Int} {ao : Option Addr} {vc : Nat} {H : List Nat} (s : Sa3 W nv rv q1 q2 a1 a2 b1 b2 h t ev fs c a w) (hb : Below w.heap.size w w7) (ho : w7.ownsRow w.heap.size 3 1 (.slice ao H.length vc) H.length ((ints H).map (Value.int .i64))) (he : Er w7 ev2 fs2) : Sa4 W nv rv (q2 + 1) w7.heap.size k ao vc ev2 H fs2 c a (w7.alloc (vbo k (.slice ao H.length vc))) := by
  have hb8 := Below.next hb (below_alloc w7 (vbo k (.slice ao H.length vc)))
  have hf := lt_of_block s.f
  have hs := hb.size
  exact ⟨Below.next s.b hb8, (hb8.block _ (lt_of_block s.g)).trans s.g, (hb8.block _ hf).trans s.f, heap_alloc_new w7 _, World.ownsRow.alloc (own_base ho (by omega)) _, he.below (below_alloc w7 _), by have := s.l; omega, by omega⟩
theorem Sa4.cells {W w : World} {nv rv : Value} {q p1 : Nat} {k : Int} {ao : Option Addr} {vc : Nat} {ev : Value} {H : List Nat} {fs : Fs} {c a : Int} (s : Sa4 W nv rv q p1 k ao vc ev H fs c a w) : ((w.cell? ⟨W.heap.size, 0, none⟩ = some nv ∧ w.cell? ⟨W.heap.size, 1, none⟩ = some rv) ∧ W.heap.size < w.heap.size) ∧ (w.cell? ⟨q, 0, none⟩ = some (.int .i64 c) ∧ w.cell? ⟨q, 1, none⟩ = some (.int .i64 a) ∧ w.cell? ⟨q, 2, none⟩ = some (.string ⟨#[]⟩) ∧ w.cell? ⟨q, 3, none⟩ = some (.slice none 0 0)) ∧ (w.frozen? ⟨q, 0, none⟩ = false ∧ w.frozen? ⟨q, 1, none⟩ = false ∧ w.frozen? ⟨q, 2, none⟩ = false ∧ w.frozen? ⟨q, 3, none⟩ = false) ∧ q < w.heap.size := by
  obtain ⟨g0, _⟩ := blk2y s.g
  have hf := s.f
  refine ⟨⟨g0, lt_of_block s.g⟩, flt_four s.f, ⟨?_, ?_, ?_, ?_⟩, lt_of_block s.f⟩ <;> simp [World.frozen?, hf, fbx]
theorem Sa4.next {W w w' : World} {nv rv : Value} {q p1 : Nat} {k : Int} {ao : Option Addr} {vc : Nat} {ev : Value} {H : List Nat} {fs : Fs} {c a : Int} (s : Sa4 W nv rv q p1 k ao vc ev H fs c a w) (hb : Below w.heap.size w w') : Sa4 W nv rv q p1 k ao vc ev H fs c a w' :=
  ⟨Below.next s.b hb, (hb.block _ (lt_of_block s.g)).trans s.g, (hb.block _ (lt_of_block s.f)).trans s.f, (hb.block _ (lt_of_block s.x)).trans s.x, row_keep s.o (fun k hk => hb.block k (s.o.lt k hk).2), s.e.below hb, s.lq, s.lp⟩
/-- What the law holds behind the two Verdicts. -/
structure Sa5 (W : World) (q p1 p2 : Nat) (k : Int) (u v ev : Value) (l : List Int) (fs : Fs) (c a : Int) (w : World) : Prop where
  b : Below W.heap.size W w
  f : w.heap[q]? = some (fbx c a)
  x : w.heap[p1]? = some (vbo k u)
  hx : Ri w u l
  y : w.heap[p2]? = some (vbo k v)
  hy : Ri w v l
  e : Er w ev fs
theorem Sa5.next {W w w' : World} {q p1 p2 : Nat} {k : Int} {u v ev : Value} {l : List Int} {fs : Fs} {c a : Int} (s : Sa5 W q p1 p2 k u v ev l fs c a w) (hb : Below w.heap.size w w') : Sa5 W q p1 p2 k u v ev l fs c a w' :=
  ⟨Below.next s.b hb, (hb.block _ (lt_of_block s.f)).trans s.f, (hb.block _ (lt_of_block s.x)).trans s.x, s.hx.below hb, (hb.block _ (lt_of_block s.y)).trans s.y, s.hy.below hb, s.e.below hb⟩
theorem Sa5.cells {W w : World} {q p1 p2 : Nat} {k : Int} {u v ev : Value} {l : List Int} {fs : Fs} {c a : Int} (s : Sa5 W q p1 p2 k u v ev l fs c a w) : (((w.cell? ⟨p1, 0, none⟩ = some (.int .i64 k) ∧ w.cell? ⟨p1, 1, none⟩ = some u) ∧ p1 < w.heap.size) ∧ ((w.cell? ⟨p2, 0, none⟩ = some (.int .i64 k) ∧ w.cell? ⟨p2, 1, none⟩ = some v) ∧ p2 < w.heap.size)) ∧ (w.cell? ⟨q, 0, none⟩ = some (.int .i64 c) ∧ w.cell? ⟨q, 1, none⟩ = some (.int .i64 a) ∧ w.cell? ⟨q, 2, none⟩ = some (.string ⟨#[]⟩) ∧ w.cell? ⟨q, 3, none⟩ = some (.slice none 0 0)) ∧ q < w.heap.size := by
  obtain ⟨x0, _⟩ := blk2y s.x
  obtain ⟨y0, _⟩ := blk2y s.y
  exact ⟨⟨⟨x0, lt_of_block s.x⟩, ⟨y0, lt_of_block s.y⟩⟩, flt_four s.f, lt_of_block s.f⟩
theorem ri_ints {w : World} {B : Nat} {ao : Option Addr} {c : Nat} {H : List Nat} (h : w.ownsRow B 3 1 (.slice ao H.length c) H.length ((ints H).map (Value.int .i64))) : Ri w (.slice ao H.length c) (ints H) := by
  have hil : (ints H).length = H.length := by simp [ints]
  have h2 := Ri.ofOwn (l := ints H) (by rw [hil]; exact h)
  rw [hil] at h2
  exact h2
theorem Sa5.mk2 {W w : World} {nv rv : Value} {q p1 : Nat} {k : Int} {ao bo : Option Addr} {vc vd : Nat} {ev : Value} {H : List Nat} {fs : Fs} {c a : Int} (s : Sa4 W nv rv q p1 k ao vc ev H fs c a w) {B : Nat} (hB : q < B) (ho : w.ownsRow B 3 1 (.slice bo H.length vd) H.length ((ints H).map (Value.int .i64))) : Sa5 W q p1 w.heap.size k (.slice ao H.length vc) (.slice bo H.length vd) ev (ints H) fs c a ((setF w q c a).alloc (vbo k (.slice bo H.length vd))) := by
  have hlp := s.lp
  have hlq := s.lq
  have hsz : (setF w q c a).heap.size = w.heap.size := by simp
  have hb1 : Below (setF w q c a).heap.size (setF w q c a) ((setF w q c a).alloc (vbo k (.slice bo H.length vd))) := below_alloc _ _
  have hf : (setF w q c a).heap[q]? = some (fbx c a) := box_set0 s.f
  have hx : (setF w q c a).heap[p1]? = some (vbo k (.slice ao H.length vc)) := (setF_far _ _ _ (by omega)).trans s.x
  have h1 := heap_setCell_same w q 0 _ _ (.int .i64 c) s.f
  have h2 := heap_setCell_same _ q 1 _ _ (.int .i64 a) h1
  have h3 := heap_setCell_same _ q 2 _ _ (.string ⟨#[]⟩) h2
  have hy := heap_alloc_new (setF w q c a) (vbo k (.slice bo H.length vd))
  rw [hsz] at hy
  refine ⟨Below.next (setF_below s.b (by omega) c a) hb1, (hb1.block _ (lt_of_block hf)).trans hf, (hb1.block _ (lt_of_block hx)).trans hx, (ri_ints (row_keep s.o (fun j hj => setF_far _ _ _ (by have := (s.o.lt j hj).1; omega)))).below hb1, hy, (ri_ints (row_keep ho (fun j hj => setF_far _ _ _ (by have := (ho.lt j hj).1; omega)))).below hb1, Er.below hb1 ?_⟩
  exact er_set (cs := #[]) (T := 35) (by decide) ⟨_, h3⟩ (er_set (cs := #[]) (T := 35) (by decide) ⟨_, h2⟩ (er_set (cs := #[]) (T := 35) (by decide) ⟨_, h1⟩ (er_set (cs := #[]) (T := 35) (by decide) ⟨_, s.f⟩ s.e)))
end Go.Proofs.Ytllafbghomohhaa

/- Rows of pairs. -/
namespace Go.Proofs.Ytllafbghomohhaa
open Go.RowKit

/-- The cells of pairs. -/
def pcI (l : List (Int × Int)) : List Value := l.flatMap fun p => [.int .i64 p.1, .int .i64 p.2]
theorem pcI_app (l m : List (Int × Int)) : pcI (l ++ m) = pcI l ++ pcI m := by simp [pcI]
theorem pcI_len : ∀ l : List (Int × Int), (pcI l).length = l.length * 2
  | [] => rfl
  | p :: r => by
    show (_ :: _ :: pcI r).length = _
    rw [List.length_cons, List.length_cons, pcI_len r, List.length_cons]
    omega
theorem pcI_at : ∀ (l : List (Int × Int)) (j : Nat), j < l.length → (pcI l)[j * 2]? = some (.int .i64 (l.getD j (0, 0)).1) ∧ (pcI l)[j * 2 + 1]? = some (.int .i64 (l.getD j (0, 0)).2)
  | [], j, h => absurd h (Nat.not_lt_zero _)
  | p :: r, 0, _ => ⟨rfl, rfl⟩
  | p :: r, j + 1, h => by
    have := pcI_at r j (by simpa using h)
    rw [show (j + 1) * 2 = j * 2 + 1 + 1 by omega]
    have e : pcI (p :: r) = .int .i64 p.1 :: .int .i64 p.2 :: pcI r := rfl
    rw [e]
    simpa [List.getD] using this
theorem rp_own {w : World} {B : Nat} {ao : Option Addr} {n c : Nat} {l : List (Int × Int)} (hn : l.length = n) (h : w.ownsRow B 48 2 (.slice ao n c) n (pcI l)) : Rp w (.slice ao n c) l := by
  subst hn
  refine ⟨ao, c, rfl, fun j hj => ?_⟩
  rcases h.2 with ⟨_, h0⟩ | ⟨g, cap, cur, e, _⟩
  · omega
  · have e2 : ao = some ⟨g, 0, none⟩ := by injection e
    subst e2
    obtain ⟨c0, c1⟩ := pcI_at l j hj
    refine ⟨g, 0, rfl, ?_, ?_⟩
    · rw [Nat.zero_add, h.cellAt (j * 2) (by omega)]; exact c0
    · rw [Nat.zero_add, h.cellAt (j * 2 + 1) (by omega)]; exact c1
end Go.Proofs.Ytllafbghomohhaa

/- slices.Concat over two slices of nodes. -/
namespace Go.Proofs.Ytllafbghomohhaa
open Go.RowKit

theorem ncells_app : ∀ (l m : List Nd) (a b : List Value), a.length = l.length → ncells (l ++ m) (a ++ b) = ncells l a ++ ncells m b
  | [], _, [], _, _ => rfl
  | n :: r, m, v :: vs, b, h => by
    have := ncells_app r m vs b (by simpa using h)
    simp only [List.cons_append, ncells, this]
theorem ncells_one : ∀ (l : List Nd) (a : List Value), (∀ v ∈ a, v.oneCell' = true) → ∀ u ∈ ncells l a, u.oneCell' = true
  | [], _, _, u, hu => by simp [ncells] at hu
  | n :: r, [], _, u, hu => by simp [ncells] at hu
  | n :: r, v :: vs, h, u, hu => by
    simp only [ncells, List.mem_cons] at hu
    rcases hu with rfl | rfl | rfl | rfl | hu
    · rfl
    · rfl
    · rfl
    · exact h _ (by simp)
    · exact ncells_one r vs (fun v hv => h v (by simp [hv])) u hu
/-- A slice's cells are these nodes', with these slices of arguments. -/
structure Nc (w : World) (v : Value) (l : List Nd) (avs : List Value) : Prop where
  len : avs.length = l.length
  one : ∀ u ∈ avs, u.oneCell' = true
  ri : ∀ j, j < l.length → Ri w (avs.getD j undef) (l.getD j nd0).args
  sl : ∃ ao c, v = .slice ao l.length c
  at_ : 0 < l.length → ∃ b o c, v = .slice (some ⟨b, o, none⟩) l.length c ∧ ∀ j u, (ncells l avs)[j]? = some u → w.cell? ⟨b, o + j, none⟩ = some u
theorem rn_nc {w : World} {v : Value} {l : List Nd} (h : Rn w v l) : ∃ avs, Nc w v l avs := by
  obtain ⟨ao, c, rfl, hn⟩ := h
  have hf : ∀ j, ∃ av, j < l.length → ∃ b o, ao = some ⟨b, o, none⟩ ∧ NdAt w b (o + j * 4) av (l.getD j nd0) := fun j => by
    by_cases hj : j < l.length
    · obtain ⟨b, o, av, h1, h2⟩ := hn j hj
      exact ⟨av, fun _ => ⟨b, o, h1, h2⟩⟩
    · exact ⟨undef, fun h => absurd h hj⟩
  obtain ⟨f, hf⟩ := Classical.axiomOfChoice hf
  have hg : ∀ j, j < l.length → ((List.range l.length).map f).getD j undef = f j := fun j hj => by simp [List.getD, hj]
  have hlen : ((List.range l.length).map f).length = l.length := by simp
  refine ⟨(List.range l.length).map f, hlen, fun u hu => ?_, fun j hj => ?_, ⟨ao, c, rfl⟩, fun h0 => ?_⟩
  · obtain ⟨j, hj, rfl⟩ := List.mem_map.1 hu
    obtain ⟨b, o, _, h2⟩ := hf j (List.mem_range.1 hj)
    obtain ⟨a1, c1, e, _⟩ := h2.2.2.2.2
    rw [e]
    rfl
  · rw [hg j hj]
    obtain ⟨b, o, _, h2⟩ := hf j hj
    exact h2.2.2.2.2
  · obtain ⟨b, o, rfl, _⟩ := hf 0 h0
    refine ⟨b, o, c, rfl, fun j u hu => ?_⟩
    have hjl : j < l.length * 4 := by
      rw [← ncells_len l _ hlen]
      exact (List.getElem?_eq_some_iff.1 hu).1
    obtain ⟨b', o', e, h0, h1, h2, h3, _⟩ := hf (j / 4) (by omega)
    injection e with e
    injection e with e1 e2
    subst e1 e2
    obtain ⟨k0, k1, k2, k3⟩ := ncells_at l _ (j / 4) hlen (by omega)
    rw [hg _ (by omega)] at k3
    have hr : j % 4 = 0 ∨ j % 4 = 1 ∨ j % 4 = 2 ∨ j % 4 = 3 := by omega
    rcases hr with hr | hr | hr | hr
    · rw [show j = j / 4 * 4 by omega] at hu ⊢
      rw [k0] at hu
      rw [← hu]; exact h0
    · rw [show j = j / 4 * 4 + 1 by omega] at hu ⊢
      rw [k1] at hu
      rw [← hu]; exact h1
    · rw [show j = j / 4 * 4 + 2 by omega] at hu ⊢
      rw [k2] at hu
      rw [← hu]; exact h2
    · rw [show j = j / 4 * 4 + 3 by omega] at hu ⊢
      rw [k3] at hu
      rw [← hu]; exact h3
theorem Nc.below {w w' : World} {v : Value} {l : List Nd} {avs : List Value} (h : Nc w v l avs) (hb : Below w.heap.size w w') : Nc w' v l avs := by
  refine ⟨h.len, h.one, fun j hj => (h.ri j hj).below hb, h.sl, fun h0 => ?_⟩
  obtain ⟨b, o, c, e, hc⟩ := h.at_ h0
  refine ⟨b, o, c, e, fun j u hu => ?_⟩
  have := hc j u hu
  rw [hb.cell (p := ⟨b, o + j, none⟩) (lt_of_cell this)]
  exact this
theorem rn_row {w : World} {B : Nat} {ao : Option Addr} {c n : Nat} {l : List Nd} {avs : List Value} (ho : w.ownsRow B 56 4 (.slice ao n c) n (ncells l avs)) (hn : n = l.length) (hl : avs.length = l.length) (hr : ∀ j, j < l.length → Ri w (avs.getD j undef) (l.getD j nd0).args) : Rn w (.slice ao n c) l := by
  subst hn
  refine ⟨ao, c, rfl, fun j hj => ?_⟩
  rcases ho.2 with ⟨_, h0⟩ | ⟨g, cap, cur, e1, _⟩
  · omega
  · have e2 : ao = some ⟨g, 0, none⟩ := by injection e1
    subst e2
    obtain ⟨c0, c1, c2, c3⟩ := ncells_at l avs j hl hj
    have k0 := ho.cellAt (j * 4) (by omega)
    have k1 := ho.cellAt (j * 4 + 1) (by omega)
    have k2 := ho.cellAt (j * 4 + 2) (by omega)
    have k3 := ho.cellAt (j * 4 + 3) (by omega)
    rw [c0] at k0
    rw [c1] at k1
    rw [c2] at k2
    rw [c3] at k3
    exact ⟨g, 0, _, rfl, by rw [Nat.zero_add]; exact k0, by rw [Nat.zero_add]; exact k1, by rw [Nat.zero_add]; exact k2, by rw [Nat.zero_add]; exact k3, hr j hj⟩
/-- Nodes, or none, are appended. -/
theorem napp {w : World} {B : Nat} {ao : Option Addr} {n c : Nat} {xs : List Value} (hown : w.ownsRow B 56 4 (.slice ao n c) n xs) (hB : B ≤ w.heap.size) {v : Value} {l : List Nd} {avs : List Value} (h : Nc w v l avs) (hn : n ≤ 10000) (hl : l.length ≤ 10000) :
    ∃ ao' c' w', (∀ ty, (Builtin.append_ #[22, 22] ty #[.slice ao n c, v]).run Try.prog w = .ok (.slice ao' (n + l.length) c') w') ∧ w'.ownsRow B 56 4 (.slice ao' (n + l.length) c') (n + l.length) (xs ++ ncells l avs) ∧ w.grownBy w' (Value.slice ao n c).ownBlock := by
  obtain ⟨i1, hi1, hy0, hy1, hy2⟩ := info_parts infoN
  by_cases h0 : 0 < l.length
  · obtain ⟨b, o, cc, rfl, hc⟩ := h.at_ h0
    obtain ⟨g, cap, w', hr, ho, hg, _⟩ := run_append_lies (P := Try.prog) w 22 0 B 56 i1 (.agg #[.int .i64 0, .string ⟨#[]⟩, .int .i64 0, .slice none 0 0]) 4 56 Try.underlying22 hi1 hy0 hy1 hy2 rfl (by decide) _ n xs hown ⟨b, o, none⟩ l.length cc (ncells l avs) (ncells_len l avs h.len) (fun j u hu => by rw [Addr.add_lit]; exact hc j u hu) (ncells_one l avs h.one) h0 (by unfold maxLen; omega) (by omega) hB _ rfl
    exact ⟨_, _, w', fun ty => hr, ho, hg⟩
  · have el : l = [] := List.eq_nil_of_length_eq_zero (by omega)
    subst el
    obtain ⟨a2, c2, rfl⟩ := h.sl
    have hr := run_app_empty (P := Try.prog) B 22 0 56 i1 4 Try.underlying22 hi1 _ n xs hown a2 c2
    refine ⟨ao, c, w, fun ty => hr, ?_, ⟨rfl, rfl, rfl, Nat.le_refl _, fun _ _ _ => rfl⟩⟩
    simpa [ncells] using hown
set_option maxRecDepth 100000 in
set_option maxHeartbeats 8000000 in
theorem concat_any {W : World} {q : Nat} {v1 v2 : Value} {l1 l2 : List Nd} (hq : W.heap[q]? = some (.cells #[v1, v2] 22)) (h1 : Rn W v1 l1) (h2 : Rn W v2 l2) (hl1 : l1.length ≤ 5000) (hl2 : l2.length ≤ 5000) :
    Calls Try.prog 36 #[.slice (some ⟨q, 0, none⟩) 2 2] W fun e w' => ∃ v, e = .returned v ∧ Rn w' v (l1 ++ l2) ∧ Below W.heap.size W w' := by
  obtain ⟨as1, hN1⟩ := rn_nc h1
  obtain ⟨as2, hN2⟩ := rn_nc h2
  obtain ⟨a1, c1, rfl⟩ := hN1.sl
  obtain ⟨a2, c2, rfl⟩ := hN2.sl
  have HN1 := hid hN1
  have HN2 := hid hN2
  obtain ⟨⟨q0, q1⟩, _⟩ := blk2y hq
  have hzq := lt_of_block hq
  have hgr := hid (ngrow_any W (l1.length + l2.length) (by omega))
  have HQ := hid hq
  clear h1 h2 hN1 hN2 hq
  go_enter Try.func36, Try.ntmps36
  go_wp2
  go_loopw [3, 11] (fun x i wr => wr = W ∧ ((i = .int .i64 0 ∧ x = .int .i64 0) ∨ (i = .int .i64 1 ∧ x = .int .i64 (l1.length : Int)) ∨ (i = .int .i64 2 ∧ x = .int .i64 ((l1.length : Int) + (l2.length : Int))))) (fun _ i _ => 2 - (intOf i).toNat)
  case atStart => exact ⟨rfl, Or.inl ⟨rfl, rfl⟩⟩
  case round =>
    obtain ⟨rfl, hrel⟩ := hrel
    rcases hrel with ⟨rfl, rfl⟩ | ⟨rfl, rfl⟩ | ⟨rfl, rfl⟩
    · have hnn : ¬ ((l1.length : Int) < 0) := by omega
      go_wp2
      go_roundw
      case rel => exact ⟨trivial, Or.inr (Or.inl ⟨by go_num, by go_num⟩)⟩
      case measure => simp [intOf]
    · have hnn : ¬ ((l1.length : Int) + (l2.length : Int) < 0) := by omega
      go_wp2
      go_roundw
      case rel => exact ⟨trivial, Or.inr (Or.inr ⟨by go_num, by go_num⟩)⟩
      case measure => simp [intOf]
    · have hcall := hgr.out
      rw [Int.natCast_add] at hcall
      clear hgr
      obtain ⟨w0, hw0⟩ : ∃ w0, w0 = wr := ⟨_, rfl⟩
      subst hw0
      go_wp2_with (go_at_call 62; refine hcall.mono ?_; rintro e w1 ⟨g0, gc, rfl, ho1, hb1⟩; have ho1' := hid ho1; have hb1' := hid hb1; clear ho1 hb1)
      go_loopw [6, 27] (fun x i wr => Hid (Below w0.heap.size w0 wr) ∧ ((i = .int .i64 0 ∧ ∃ ao c, x = .slice ao 0 c ∧ Hid (wr.ownsRow w0.heap.size 56 4 (.slice ao 0 c) 0 [])) ∨ (i = .int .i64 1 ∧ ∃ ao c, x = .slice ao l1.length c ∧ Hid (wr.ownsRow w0.heap.size 56 4 (.slice ao l1.length c) l1.length (ncells l1 as1))) ∨ (i = .int .i64 2 ∧ ∃ ao c, x = .slice ao (l1.length + l2.length) c ∧ Hid (wr.ownsRow w0.heap.size 56 4 (.slice ao (l1.length + l2.length) c) (l1.length + l2.length) (ncells l1 as1 ++ ncells l2 as2))))) (fun _ i _ => 2 - (intOf i).toNat)
      case atStart => exact ⟨hb1', Or.inl ⟨rfl, g0, gc, rfl, ho1'⟩⟩
      case round =>
        clear ho1' hb1' hcall q0 q1
        obtain ⟨hb, hrel⟩ := hrel
        have hq' := (hb.out.block q hzq).trans HQ.out
        obtain ⟨⟨q0, q1⟩, _⟩ := blk2y hq'
        have hzq' := lt_of_block hq'
        clear hq'
        have hsz := hb.out.size
        rcases hrel with ⟨rfl, ao, c, rfl, ho⟩ | ⟨rfl, ao, c, rfl, ho⟩ | ⟨rfl, ao, c, rfl, ho⟩
        · obtain ⟨ao', c', w', hr, ho', hg⟩ := napp ho.out hsz (HN1.out.below hb.out) (by omega) (by omega)
          have hb' := hid (hb.out.grown hg hsz (fun k hk => (ho.out.lt k hk).1))
          rw [Nat.zero_add, List.nil_append] at ho'
          rw [Nat.zero_add] at hr
          have ho'' := hid ho'
          clear ho ho' hg hb
          go_wp2_with (at_builtin; refine Lib.wpList_append_run _ rfl _ _ _ _ rfl _ _ rfl rfl _ _ (hr _) ?_)
          go_roundw
          case rel => exact ⟨hb', Or.inr (Or.inl ⟨by go_num, _, _, rfl, ho''⟩)⟩
          case measure => simp [intOf]
        · obtain ⟨ao', c', w', hr, ho', hg⟩ := napp ho.out hsz (HN2.out.below hb.out) (by omega) (by omega)
          have hb' := hid (hb.out.grown hg hsz (fun k hk => (ho.out.lt k hk).1))
          have ho'' := hid ho'
          clear ho ho' hg hb
          go_wp2_with (at_builtin; refine Lib.wpList_append_run _ rfl _ _ _ _ rfl _ _ rfl rfl _ _ (hr _) ?_)
          go_roundw
          case rel => exact ⟨hb', Or.inr (Or.inr ⟨by go_num, _, _, rfl, ho''⟩)⟩
          case measure => simp [intOf]
        · have hfin : Hid (Rn wr (.slice ao (l1.length + l2.length) c) (l1 ++ l2)) := by
            have k1 := (HN1.out.below hb.out)
            have k2 := (HN2.out.below hb.out)
            have := ho.out
            rw [← ncells_app l1 l2 as1 as2 k1.len] at this
            refine rn_row this (by simp) (by simp [k1.len, k2.len]) (fun j hj => ?_)
            by_cases hj1 : j < l1.length
            · have e1 : (l1 ++ l2).getD j nd0 = l1.getD j nd0 := by simp [List.getD, List.getElem?_append_left hj1]
              have e2 : (as1 ++ as2).getD j undef = as1.getD j undef := by simp [List.getD, List.getElem?_append_left (show j < as1.length by rw [k1.len]; exact hj1)]
              rw [e1, e2]
              exact k1.ri j hj1
            · have e1 : (l1 ++ l2).getD j nd0 = l2.getD (j - l1.length) nd0 := by simp [List.getD, List.getElem?_append_right (show l1.length ≤ j by omega)]
              have e2 : (as1 ++ as2).getD j undef = as2.getD (j - l1.length) undef := by rw [List.getD, List.getElem?_append_right (by rw [k1.len]; omega), k1.len]; rfl
              rw [e1, e2]
              rw [List.length_append] at hj
              exact k2.ri _ (by omega)
          have hb' := hid hb.out
          clear ho hb
          go_wp2
          go_ret
          exact ⟨_, rfl, hfin.out, hb'.out⟩
end Go.Proofs.Ytllafbghomohhaa
