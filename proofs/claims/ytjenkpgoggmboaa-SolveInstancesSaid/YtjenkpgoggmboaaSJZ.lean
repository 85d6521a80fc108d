/- The reference's faults, held in a variable. -/
import Derived.Test.YtjenkpgoggmboaaGrRef3
import Derived.Test.YtjenkpgoggmboaaSDZ
import Derived.Test.YtjenkpgoggmboaaGrIs
import Derived.Test.YtjenkpgoggmboaaSCZ
import Derived.Test.YtjenkpgoggmboaaSIZ
namespace Go.Proofs.Ytjenkpgoggmboaa
open Go.RowKit

set_option maxHeartbeats 400000 in
theorem fbad_no (a : Int) (w : World) : Calls Try.prog 20 #[.agg #[.int .i64 0, .int .i64 a, .string ⟨#[]⟩, .slice none 0 0]] w fun e w' => e = .returned (.bool false) ∧ Below w.heap.size w w' := by
  go_enter Try.func20, Try.ntmps20
  go_wp2
  go_ret
  exact ⟨rfl, below_alloc _ _⟩
set_option maxHeartbeats 400000 in
theorem fbad_yes {c : Int} (hc : c ≠ 0) (a : Int) (w : World) : Calls Try.prog 20 #[.agg #[.int .i64 c, .int .i64 a, .string ⟨#[]⟩, .slice none 0 0]] w fun e w' => e = .returned (.bool true) ∧ Below w.heap.size w w' := by
  have h : (c != 0) = true := by simp [hc]
  go_enter Try.func20, Try.ntmps20
  go_wp2
  go_ret
  exact ⟨rfl, below_alloc _ _⟩
theorem one_nil {x : Int × Int} : one x = [] ↔ x.1 = 0 := by
  unfold one
  split <;> simp_all
theorem set4_far {w : World} {q b o : Nat} {v0 v1 v2 v3 v : Value} (hne : b ≠ q) (h : w.cell? ⟨b, o, none⟩ = some v) : ((((w.setCell ⟨q, 0, none⟩ v0).setCell ⟨q, 1, none⟩ v1).setCell ⟨q, 2, none⟩ v2).setCell ⟨q, 3, none⟩ v3).cell? ⟨b, o, none⟩ = some v := by
  have e : ((((w.setCell ⟨q, 0, none⟩ v0).setCell ⟨q, 1, none⟩ v1).setCell ⟨q, 2, none⟩ v2).setCell ⟨q, 3, none⟩ v3).heap[b]? = w.heap[b]? := by
    rw [Below.heap_setCell _ ⟨q, 3, none⟩ _ _ hne, Below.heap_setCell _ ⟨q, 2, none⟩ _ _ hne, Below.heap_setCell _ ⟨q, 1, none⟩ _ _ hne, Below.heap_setCell _ ⟨q, 0, none⟩ _ _ hne]
  unfold World.cell? at h ⊢
  rw [e]
  exact h
theorem flt_four {w : World} {q : Nat} {c a : Int} (h : w.heap[q]? = some (.cells #[.int .i64 c, .int .i64 a, .string ⟨#[]⟩, .slice none 0 0] 35)) : w.cell? ⟨q, 0, none⟩ = some (.int .i64 c) ∧ w.cell? ⟨q, 1, none⟩ = some (.int .i64 a) ∧ w.cell? ⟨q, 2, none⟩ = some (.string ⟨#[]⟩) ∧ w.cell? ⟨q, 3, none⟩ = some (.slice none 0 0) := by
  refine ⟨?_, ?_, ?_, ?_⟩ <;> simp [World.cell?, h]
end Go.Proofs.Ytjenkpgoggmboaa

/- SolveInstances, walked. -/
namespace Go.Proofs.Ytjenkpgoggmboaa
open Go.RowKit

set_option maxRecDepth 100000 in
set_option maxHeartbeats 4000000 in
theorem slarge_nil {W : World} {nv rv : Value} {g : Gf} (hG : Gr W nv rv g) :
    Calls Try.prog 10 #[.agg #[nv, rv], .slice none 0 0] W fun e w' => e = .returned (.bool (!smallK 40 g)) ∧ Below W.heap.size W w' := by
  have hs := hid (fun w (hb : Below W.heap.size W w) => smallK_any (K := 40) (by omega) (hG.below hb))
  obtain ⟨na, nc, rfl, _⟩ := hG.1
  obtain ⟨ra, rc, rfl, _⟩ := hG.2
  have hb0 := hid (below_alloc W (.cells #[.slice na g.nodes.length nc, .slice ra g.roots.length rc] 25))
  clear hG
  cases hk : smallK 40 g with
  | true =>
    rw [hk] at hs
    go_enter Try.func10, Try.ntmps10
    go_wp2_with (go_at_call 22; refine (hs.out _ hb0.out).mono ?_; rintro e w1 ⟨rfl, hb1⟩; have hb2 := hid (Below.next hb0.out hb1); clear hb1)
    go_ret
    exact ⟨rfl, hb2.out⟩
  | false =>
    rw [hk] at hs
    go_enter Try.func10, Try.ntmps10
    go_wp2_with (go_at_call 22; refine (hs.out _ hb0.out).mono ?_; rintro e w1 ⟨rfl, hb1⟩; have hb2 := hid (Below.next hb0.out hb1); clear hb1)
    go_ret
    exact ⟨rfl, hb2.out⟩
/-- Two boxes, kept. -/
structure Tw2 (W : World) (n1 r1 n2 r2 : Value) (w : World) : Prop where
  b : Below W.heap.size W w
  x : w.heap[W.heap.size]? = some (.cells #[n1, r1] 25)
  y : w.heap[W.heap.size + 1]? = some (.cells #[n2, r2] 25)
theorem Tw2.start (W : World) (n1 r1 n2 r2 : Value) : Tw2 W n1 r1 n2 r2 ((W.alloc (.cells #[n1, r1] 25)).alloc (.cells #[n2, r2] 25)) := by
  refine ⟨(below_alloc W _).alloc (by simp) _, (Below.heap_alloc _ _ _ (by simp)).trans (heap_alloc_new W _), ?_⟩
  have := heap_alloc_new (W.alloc (.cells #[n1, r1] 25)) (.cells #[n2, r2] 25)
  rw [show (W.alloc (.cells #[n1, r1] 25)).heap.size = W.heap.size + 1 by simp] at this
  exact this
theorem Tw2.next {W w w' : World} {n1 r1 n2 r2 : Value} (h : Tw2 W n1 r1 n2 r2 w) (hb : Below w.heap.size w w') : Tw2 W n1 r1 n2 r2 w' :=
  ⟨h.b.trans (hb.mono h.b.size), (hb.block _ (lt_of_block h.x)).trans h.x, (hb.block _ (lt_of_block h.y)).trans h.y⟩
theorem Tw2.cells {W w : World} {n1 r1 n2 r2 : Value} (h : Tw2 W n1 r1 n2 r2 w) : ((w.cell? ⟨W.heap.size, 0, none⟩ = some n1 ∧ w.cell? ⟨W.heap.size, 1, none⟩ = some r1) ∧ w.cell? ⟨W.heap.size + 1, 0, none⟩ = some n2 ∧ w.cell? ⟨W.heap.size + 1, 1, none⟩ = some r2) ∧ W.heap.size < w.heap.size ∧ W.heap.size + 1 < w.heap.size := by
  obtain ⟨a, _⟩ := blk2y h.x
  obtain ⟨b, _⟩ := blk2y h.y
  exact ⟨⟨a, b⟩, lt_of_block h.x, lt_of_block h.y⟩
/-- The fault's box. -/
abbrev fbx (c a : Int) : Obj := .cells #[.int .i64 c, .int .i64 a, .string ⟨#[]⟩, .slice none 0 0] 35
structure Q5 (W : World) (n1 r1 n2 r2 : Value) (fb : Nat) (c a : Int) (ev : Value) (fs : Fs) (w : World) : Prop where
  h : Tw2 W n1 r1 n2 r2 w
  f : w.heap[fb]? = some (fbx c a)
  e : Er w ev fs
  l : W.heap.size + 1 < fb
theorem Q5.next {W w w' : World} {n1 r1 n2 r2 : Value} {fb : Nat} {c a : Int} {ev : Value} {fs : Fs} (q : Q5 W n1 r1 n2 r2 fb c a ev fs w) (hb : Below w.heap.size w w') : Q5 W n1 r1 n2 r2 fb c a ev fs w' := ⟨q.h.next hb, (hb.block _ (lt_of_block q.f)).trans q.f, q.e.below hb, q.l⟩
theorem Q5.new {W w : World} {n1 r1 n2 r2 : Value} {c a : Int} {ev : Value} {fs : Fs} (h : Tw2 W n1 r1 n2 r2 w) (e : Er w ev fs) : Q5 W n1 r1 n2 r2 w.heap.size c a ev fs (w.alloc (fbx c a)) := ⟨h.next (below_alloc w _), heap_alloc_new w _, e.below (below_alloc w _), lt_of_block h.y⟩
theorem Q5.cells {W w : World} {n1 r1 n2 r2 : Value} {fb : Nat} {c a : Int} {ev : Value} {fs : Fs} (q : Q5 W n1 r1 n2 r2 fb c a ev fs w) : ((w.cell? ⟨fb, 0, none⟩ = some (.int .i64 c) ∧ w.cell? ⟨fb, 1, none⟩ = some (.int .i64 a) ∧ w.cell? ⟨fb, 2, none⟩ = some (.string ⟨#[]⟩) ∧ w.cell? ⟨fb, 3, none⟩ = some (.slice none 0 0)) ∧ (w.frozen? ⟨fb, 0, none⟩ = false ∧ w.frozen? ⟨fb, 1, none⟩ = false ∧ w.frozen? ⟨fb, 2, none⟩ = false ∧ w.frozen? ⟨fb, 3, none⟩ = false)) ∧ fb < w.heap.size := by
  have h := q.f
  refine ⟨⟨⟨?_, ?_, ?_, ?_⟩, ?_, ?_, ?_, ?_⟩, lt_of_block h⟩ <;> simp [World.cell?, World.frozen?, h, fbx]
theorem er_set {w : World} {q : Nat} {T : TypeId} {cs : Array Value} (hT : T ≠ 79) (hq : ∃ cs, w.heap[q]? = some (.cells cs T)) {i : Nat} {v : Value} : ∀ {fs : Fs} {ev : Value}, Er w ev fs → Er (w.setCell ⟨q, i, none⟩ v) ev fs
  | [], _, h => h
  | _ :: _, _, ⟨h0, b, ev, he, hb, hr⟩ => ⟨h0, b, ev, he, by
      obtain ⟨cs, hq⟩ := hq
      have hne : b ≠ q := fun e => by
        subst e
        rw [hq] at hb
        injection hb with hb
        injection hb with _ hb
        exact hT hb
      rw [Below.heap_setCell _ _ _ _ hne]
      exact hb, er_set (cs := cs) hT hq hr⟩
theorem Q5.set {W w : World} {n1 r1 n2 r2 : Value} {fb : Nat} {c a c' a' : Int} {ev : Value} {fs : Fs} (q : Q5 W n1 r1 n2 r2 fb c a ev fs w) : Q5 W n1 r1 n2 r2 fb c' a' ev fs ((((w.setCell ⟨fb, 0, none⟩ (.int .i64 c')).setCell ⟨fb, 1, none⟩ (.int .i64 a')).setCell ⟨fb, 2, none⟩ (.string ⟨#[]⟩)).setCell ⟨fb, 3, none⟩ (.slice none 0 0)) := by
  have hl := q.l
  have h1 := heap_setCell_same w fb 0 _ _ (.int .i64 c') q.f
  have h2 := heap_setCell_same _ fb 1 _ _ (.int .i64 a') h1
  have h3 := heap_setCell_same _ fb 2 _ _ (.string ⟨#[]⟩) h2
  have h4 := heap_setCell_same _ fb 3 _ _ (.slice none 0 0) h3
  have hk : ∀ k, k ≠ fb → ((((w.setCell ⟨fb, 0, none⟩ (.int .i64 c')).setCell ⟨fb, 1, none⟩ (.int .i64 a')).setCell ⟨fb, 2, none⟩ (.string ⟨#[]⟩)).setCell ⟨fb, 3, none⟩ (.slice none 0 0)).heap[k]? = w.heap[k]? := fun k hk => by
    rw [Below.heap_setCell _ _ _ _ hk, Below.heap_setCell _ _ _ _ hk, Below.heap_setCell _ _ _ _ hk, Below.heap_setCell _ _ _ _ hk]
  refine ⟨⟨(((q.h.b.setCell (p := ⟨fb, 0, none⟩) (by show W.heap.size ≤ fb; omega) _).setCell (p := ⟨fb, 1, none⟩) (by show W.heap.size ≤ fb; omega) _).setCell (p := ⟨fb, 2, none⟩) (by show W.heap.size ≤ fb; omega) _).setCell (p := ⟨fb, 3, none⟩) (by show W.heap.size ≤ fb; omega) _, (hk _ (by omega)).trans q.h.x, (hk _ (by omega)).trans q.h.y⟩, h4, ?_, hl⟩
  exact er_set (cs := #[]) (T := 35) (by decide) ⟨_, h3⟩ (er_set (cs := #[]) (T := 35) (by decide) ⟨_, h2⟩ (er_set (cs := #[]) (T := 35) (by decide) ⟨_, h1⟩ (er_set (cs := #[]) (T := 35) (by decide) ⟨_, q.f⟩ q.e)))
theorem fl_c {w : World} {c a : Int} (hc : c ≠ 0) (_ : True) : Fl w c a (.slice none 0 0) [(c, a)] := ⟨rfl, rfl, hc, rfl⟩
end Go.Proofs.Ytjenkpgoggmboaa

/- SolveInstances, walked: one way. -/
namespace Go.Proofs.Ytjenkpgoggmboaa
open Go.RowKit

set_option maxRecDepth 100000 in
set_option maxHeartbeats 8000000 in
theorem sins_short0 {W : World} {a0 a1 a2 a3 : Option Addr} {m0 m1 m2 m3 c0 c1 c2 c3 : Nat} (hla : ∀ w, Below W.heap.size W w → ∀ u b, ((u = .agg #[.slice a0 m0 c0, .slice a1 m1 c1] ∧ b = true) ∨ (u = .agg #[.slice a0 m0 c0, .slice a1 m1 c1] ∧ b = true)) → Calls Try.prog 10 #[u, .slice none 0 0] w fun e w' => e = .returned (.bool b) ∧ Below w.heap.size w w') :
    Calls Try.prog 4 #[.agg #[.slice a0 m0 c0, .slice a1 m1 c1], .agg #[.slice a2 m2 c2, .slice a3 m3 c3]] W fun e w' => e = .returned (.bool true) ∧ Below W.heap.size W w' := by
  have HB := hid (Tw2.start W (.slice a0 m0 c0) (.slice a1 m1 c1) (.slice a2 m2 c2) (.slice a3 m3 c3))
  have Hla := hid hla
  clear hla
  go_enter Try.func4, Try.ntmps4
  go_wp2_with (first
    | (go_at_call 9; refine (slives_any _).mono ?_; rintro e w1 ⟨rfl, hb1⟩; replace HB := hid (HB.out.next hb1); clear hb1; obtain ⟨⟨⟨x0, x1⟩, x2, x3⟩, x4, x5⟩ := HB.out.cells)
    | (go_at_call 10; refine (Hla.out _ HB.out.b _ _ (by first | exact Or.inl ⟨rfl, rfl⟩ | exact Or.inr ⟨rfl, rfl⟩)).mono ?_; rintro e w1 ⟨rfl, hb1⟩; replace HB := hid (HB.out.next hb1); clear hb1; obtain ⟨⟨⟨x0, x1⟩, x2, x3⟩, x4, x5⟩ := HB.out.cells))
  go_ret
  exact ⟨rfl, HB.out.b⟩
end Go.Proofs.Ytjenkpgoggmboaa

/- SolveInstances, walked: one way. -/
namespace Go.Proofs.Ytjenkpgoggmboaa
open Go.RowKit

set_option maxRecDepth 100000 in
set_option maxHeartbeats 8000000 in
theorem sins_short1 {W : World} {a0 a1 a2 a3 : Option Addr} {m0 m1 m2 m3 c0 c1 c2 c3 : Nat} (hla : ∀ w, Below W.heap.size W w → ∀ u b, ((u = .agg #[.slice a0 m0 c0, .slice a1 m1 c1] ∧ b = false) ∨ (u = .agg #[.slice a2 m2 c2, .slice a3 m3 c3] ∧ b = true)) → Calls Try.prog 10 #[u, .slice none 0 0] w fun e w' => e = .returned (.bool b) ∧ Below w.heap.size w w') :
    Calls Try.prog 4 #[.agg #[.slice a0 m0 c0, .slice a1 m1 c1], .agg #[.slice a2 m2 c2, .slice a3 m3 c3]] W fun e w' => e = .returned (.bool true) ∧ Below W.heap.size W w' := by
  have HB := hid (Tw2.start W (.slice a0 m0 c0) (.slice a1 m1 c1) (.slice a2 m2 c2) (.slice a3 m3 c3))
  have Hla := hid hla
  clear hla
  go_enter Try.func4, Try.ntmps4
  go_wp2_with (first
    | (go_at_call 9; refine (slives_any _).mono ?_; rintro e w1 ⟨rfl, hb1⟩; replace HB := hid (HB.out.next hb1); clear hb1; obtain ⟨⟨⟨x0, x1⟩, x2, x3⟩, x4, x5⟩ := HB.out.cells)
    | (go_at_call 10; refine (Hla.out _ HB.out.b _ _ (by first | exact Or.inl ⟨rfl, rfl⟩ | exact Or.inr ⟨rfl, rfl⟩)).mono ?_; rintro e w1 ⟨rfl, hb1⟩; replace HB := hid (HB.out.next hb1); clear hb1; obtain ⟨⟨⟨x0, x1⟩, x2, x3⟩, x4, x5⟩ := HB.out.cells))
  go_ret
  exact ⟨rfl, HB.out.b⟩
end Go.Proofs.Ytjenkpgoggmboaa

/- SolveInstances, walked: one way. -/
namespace Go.Proofs.Ytjenkpgoggmboaa
open Go.RowKit

set_option maxRecDepth 100000 in
set_option maxHeartbeats 8000000 in
theorem sins_bad1 {W : World} {a0 a1 a2 a3 : Option Addr} {m0 m1 m2 m3 c0 c1 c2 c3 : Nat} {c a : Int} (hc : c ≠ 0) (hla : ∀ w, Below W.heap.size W w → ∀ u b, ((u = .agg #[.slice a0 m0 c0, .slice a1 m1 c1] ∧ b = false) ∨ (u = .agg #[.slice a2 m2 c2, .slice a3 m3 c3] ∧ b = false)) → Calls Try.prog 10 #[u, .slice none 0 0] w fun e w' => e = .returned (.bool b) ∧ Below w.heap.size w w') (hin : ∀ w, Below W.heap.size W w → Calls Try.prog 18 #[.agg #[.slice a0 m0 c0, .slice a1 m1 c1], .agg #[.slice a2 m2 c2, .slice a3 m3 c3]] w fun e w' => (∃ b, e = .returned (.tuple #[.bool false, .iface 75 (.pointer (some ⟨b, 0, none⟩))]) ∧ Er w' (.iface 75 (.pointer (some ⟨b, 0, none⟩))) [(c, a)]) ∧ Below w.heap.size w w') (hcp : ∀ w, Below W.heap.size W w → Calls Try.prog 19 #[.agg #[.slice a0 m0 c0, .slice a1 m1 c1]] w fun e w' => e = .returned (.agg #[.int .i64 c, .int .i64 a, .string ⟨#[]⟩, .slice none 0 0]) ∧ Below w.heap.size w w') :
    Calls Try.prog 4 #[.agg #[.slice a0 m0 c0, .slice a1 m1 c1], .agg #[.slice a2 m2 c2, .slice a3 m3 c3]] W fun e w' => e = .returned (.bool true) ∧ Below W.heap.size W w' := by
  have HB := hid (Tw2.start W (.slice a0 m0 c0) (.slice a1 m1 c1) (.slice a2 m2 c2) (.slice a3 m3 c3))
  have Hla := hid hla
  have Hin := hid hin
  have Hcp := hid hcp
  clear hla hin hcp
  go_enter Try.func4, Try.ntmps4
  go_wp2_with (first
    | (go_at_call 9; refine (slives_any _).mono ?_; rintro e w1 ⟨rfl, hb1⟩; replace HB := hid (HB.out.next hb1); clear hb1; obtain ⟨⟨⟨x0, x1⟩, x2, x3⟩, x4, x5⟩ := HB.out.cells)
    | (go_at_call 10; refine (Hla.out _ HB.out.b _ _ (by first | exact Or.inl ⟨rfl, rfl⟩ | exact Or.inr ⟨rfl, rfl⟩)).mono ?_; rintro e w1 ⟨rfl, hb1⟩; replace HB := hid (HB.out.next hb1); clear hb1; obtain ⟨⟨⟨x0, x1⟩, x2, x3⟩, x4, x5⟩ := HB.out.cells)
    | (go_at_call 18; refine (Hin.out _ HB.out.b).mono ?_; rintro e w1 ⟨⟨eb, rfl, he1⟩, hb1⟩; replace HB := hid (HB.out.next hb1); have HE := hid he1; clear hb1 he1; obtain ⟨⟨⟨x0, x1⟩, x2, x3⟩, x4, x5⟩ := HB.out.cells)
    | (go_at_call 19; refine (Hcp.out _ HB.out.b).mono ?_; rintro e w2 ⟨rfl, hb2⟩; have HQ := hid (Q5.new (c := c) (a := a) (HB.out.next hb2) (HE.out.below hb2)); clear hb2 HB HE Hcp x0 x1 x2 x3 x4 x5)
    | (go_at_call 20; refine (fbad_yes hc _ _).mono ?_; rintro e w3 ⟨rfl, hb3⟩; replace HQ := hid (HQ.out.next hb3); clear hb3; obtain ⟨⟨⟨z0, z1, z2, z3⟩, z4, z5, z6, z7⟩, z8⟩ := HQ.out.cells)
    | (go_at_call 14; refine (is_any HQ.out.e (fl_c hc trivial)).mono ?_; rintro e w4 ⟨rfl, hb4⟩; replace HQ := hid (HQ.out.next hb4); clear hb4))
  go_ret
  exact ⟨rfl, HQ.out.h.b⟩
end Go.Proofs.Ytjenkpgoggmboaa

/- SolveInstances, walked: one way. -/
namespace Go.Proofs.Ytjenkpgoggmboaa
open Go.RowKit

set_option maxRecDepth 100000 in
set_option maxHeartbeats 8000000 in
theorem sins_bad2 {W : World} {a0 a1 a2 a3 : Option Addr} {m0 m1 m2 m3 c0 c1 c2 c3 : Nat} {c a : Int} (hc : c ≠ 0) (hla : ∀ w, Below W.heap.size W w → ∀ u b, ((u = .agg #[.slice a0 m0 c0, .slice a1 m1 c1] ∧ b = false) ∨ (u = .agg #[.slice a2 m2 c2, .slice a3 m3 c3] ∧ b = false)) → Calls Try.prog 10 #[u, .slice none 0 0] w fun e w' => e = .returned (.bool b) ∧ Below w.heap.size w w') (hin : ∀ w, Below W.heap.size W w → Calls Try.prog 18 #[.agg #[.slice a0 m0 c0, .slice a1 m1 c1], .agg #[.slice a2 m2 c2, .slice a3 m3 c3]] w fun e w' => (∃ b, e = .returned (.tuple #[.bool false, .iface 75 (.pointer (some ⟨b, 0, none⟩))]) ∧ Er w' (.iface 75 (.pointer (some ⟨b, 0, none⟩))) [(c, a)]) ∧ Below w.heap.size w w') (hcp : ∀ w, Below W.heap.size W w → Calls Try.prog 19 #[.agg #[.slice a0 m0 c0, .slice a1 m1 c1]] w fun e w' => e = .returned (.agg #[.int .i64 0, .int .i64 0, .string ⟨#[]⟩, .slice none 0 0]) ∧ Below w.heap.size w w') (hct : ∀ w, Below W.heap.size W w → Calls Try.prog 19 #[.agg #[.slice a2 m2 c2, .slice a3 m3 c3]] w fun e w' => e = .returned (.agg #[.int .i64 c, .int .i64 a, .string ⟨#[]⟩, .slice none 0 0]) ∧ Below w.heap.size w w') :
    Calls Try.prog 4 #[.agg #[.slice a0 m0 c0, .slice a1 m1 c1], .agg #[.slice a2 m2 c2, .slice a3 m3 c3]] W fun e w' => e = .returned (.bool true) ∧ Below W.heap.size W w' := by
  have HB := hid (Tw2.start W (.slice a0 m0 c0) (.slice a1 m1 c1) (.slice a2 m2 c2) (.slice a3 m3 c3))
  have Hla := hid hla
  have Hin := hid hin
  have Hcp := hid hcp
  have Hct := hid hct
  clear hla hin hcp hct
  go_enter Try.func4, Try.ntmps4
  go_wp2_with (first
    | (go_at_call 9; refine (slives_any _).mono ?_; rintro e w1 ⟨rfl, hb1⟩; replace HB := hid (HB.out.next hb1); clear hb1; obtain ⟨⟨⟨x0, x1⟩, x2, x3⟩, x4, x5⟩ := HB.out.cells)
    | (go_at_call 10; refine (Hla.out _ HB.out.b _ _ (by first | exact Or.inl ⟨rfl, rfl⟩ | exact Or.inr ⟨rfl, rfl⟩)).mono ?_; rintro e w1 ⟨rfl, hb1⟩; replace HB := hid (HB.out.next hb1); clear hb1; obtain ⟨⟨⟨x0, x1⟩, x2, x3⟩, x4, x5⟩ := HB.out.cells)
    | (go_at_call 18; refine (Hin.out _ HB.out.b).mono ?_; rintro e w1 ⟨⟨eb, rfl, he1⟩, hb1⟩; replace HB := hid (HB.out.next hb1); have HE := hid he1; clear hb1 he1; obtain ⟨⟨⟨x0, x1⟩, x2, x3⟩, x4, x5⟩ := HB.out.cells)
    | (go_at_call 19; refine (Hcp.out _ HB.out.b).mono ?_; rintro e w2 ⟨rfl, hb2⟩; have HQ := hid (Q5.new (c := 0) (a := 0) (HB.out.next hb2) (HE.out.below hb2)); clear hb2 HB HE Hcp x0 x1 x2 x3 x4 x5)
    | (go_at_call 19; refine (Hct.out _ HQ.out.h.b).mono ?_; rintro e w5 ⟨rfl, hb5⟩; have HQ0 := hid (HQ.out.next hb5); clear HQ; have HQ := hid (Q5.set (c' := c) (a' := a) HQ0.out); clear hb5 Hct; obtain ⟨⟨⟨z0, z1, z2, z3⟩, z4, z5, z6, z7⟩, z8⟩ := HQ0.out.cells; clear HQ0)
    | (go_at_call 20; with_reducible refine (fbad_no _ _).mono ?_; rintro e w3 ⟨rfl, hb3⟩; replace HQ := hid (HQ.out.next hb3); clear hb3; obtain ⟨⟨⟨z0, z1, z2, z3⟩, z4, z5, z6, z7⟩, z8⟩ := HQ.out.cells; obtain ⟨⟨⟨x0, x1⟩, x2, x3⟩, x4, x5⟩ := HQ.out.h.cells)
    | (go_at_call 20; refine (fbad_yes hc _ _).mono ?_; rintro e w3 ⟨rfl, hb3⟩; replace HQ := hid (HQ.out.next hb3); clear hb3; obtain ⟨⟨⟨z0, z1, z2, z3⟩, z4, z5, z6, z7⟩, z8⟩ := HQ.out.cells)
    | (go_at_call 14; refine (is_any HQ.out.e (fl_c hc trivial)).mono ?_; rintro e w4 ⟨rfl, hb4⟩; replace HQ := hid (HQ.out.next hb4); clear hb4))
  go_ret
  exact ⟨rfl, HQ.out.h.b⟩
end Go.Proofs.Ytjenkpgoggmboaa

/- SolveInstances, walked: one way. -/
namespace Go.Proofs.Ytjenkpgoggmboaa
open Go.RowKit

set_option maxRecDepth 100000 in
set_option maxHeartbeats 8000000 in
theorem sins_good_true {W : World} {a0 a1 a2 a3 : Option Addr} {m0 m1 m2 m3 c0 c1 c2 c3 : Nat} (hla : ∀ w, Below W.heap.size W w → ∀ u b, ((u = .agg #[.slice a0 m0 c0, .slice a1 m1 c1] ∧ b = false) ∨ (u = .agg #[.slice a2 m2 c2, .slice a3 m3 c3] ∧ b = false)) → Calls Try.prog 10 #[u, .slice none 0 0] w fun e w' => e = .returned (.bool b) ∧ Below w.heap.size w w') (hin : ∀ w, Below W.heap.size W w → Calls Try.prog 18 #[.agg #[.slice a0 m0 c0, .slice a1 m1 c1], .agg #[.slice a2 m2 c2, .slice a3 m3 c3]] w fun e w' => e = .returned (.tuple #[.bool true, .nilIface]) ∧ Below w.heap.size w w') (hcp : ∀ w, Below W.heap.size W w → Calls Try.prog 19 #[.agg #[.slice a0 m0 c0, .slice a1 m1 c1]] w fun e w' => e = .returned (.agg #[.int .i64 0, .int .i64 0, .string ⟨#[]⟩, .slice none 0 0]) ∧ Below w.heap.size w w') (hct : ∀ w, Below W.heap.size W w → Calls Try.prog 19 #[.agg #[.slice a2 m2 c2, .slice a3 m3 c3]] w fun e w' => e = .returned (.agg #[.int .i64 0, .int .i64 0, .string ⟨#[]⟩, .slice none 0 0]) ∧ Below w.heap.size w w') (hri : ∀ w, Below W.heap.size W w → Calls Try.prog 21 #[.agg #[.slice a0 m0 c0, .slice a1 m1 c1], .agg #[.slice a2 m2 c2, .slice a3 m3 c3]] w fun e w' => e = .returned (.bool true) ∧ Below w.heap.size w w') :
    Calls Try.prog 4 #[.agg #[.slice a0 m0 c0, .slice a1 m1 c1], .agg #[.slice a2 m2 c2, .slice a3 m3 c3]] W fun e w' => e = .returned (.bool true) ∧ Below W.heap.size W w' := by
  have HB := hid (Tw2.start W (.slice a0 m0 c0) (.slice a1 m1 c1) (.slice a2 m2 c2) (.slice a3 m3 c3))
  have Hla := hid hla
  have Hin := hid hin
  have Hcp := hid hcp
  have Hct := hid hct
  have Hri := hid hri
  clear hla hin hcp hct hri
  go_enter Try.func4, Try.ntmps4
  go_wp2_with (first
    | (go_at_call 9; refine (slives_any _).mono ?_; rintro e w1 ⟨rfl, hb1⟩; replace HB := hid (HB.out.next hb1); clear hb1; obtain ⟨⟨⟨x0, x1⟩, x2, x3⟩, x4, x5⟩ := HB.out.cells)
    | (go_at_call 10; refine (Hla.out _ HB.out.b _ _ (by first | exact Or.inl ⟨rfl, rfl⟩ | exact Or.inr ⟨rfl, rfl⟩)).mono ?_; rintro e w1 ⟨rfl, hb1⟩; replace HB := hid (HB.out.next hb1); clear hb1; obtain ⟨⟨⟨x0, x1⟩, x2, x3⟩, x4, x5⟩ := HB.out.cells)
    | (go_at_call 18; refine (Hin.out _ HB.out.b).mono ?_; rintro e w1 ⟨rfl, hb1⟩; replace HB := hid (HB.out.next hb1); have HE : Hid (Er w1 .nilIface []) := rfl; clear hb1; obtain ⟨⟨⟨x0, x1⟩, x2, x3⟩, x4, x5⟩ := HB.out.cells)
    | (go_at_call 19; refine (Hcp.out _ HB.out.b).mono ?_; rintro e w2 ⟨rfl, hb2⟩; have HQ := hid (Q5.new (c := 0) (a := 0) (HB.out.next hb2) (HE.out.below hb2)); clear hb2 HB HE Hcp x0 x1 x2 x3 x4 x5)
    | (go_at_call 19; refine (Hct.out _ HQ.out.h.b).mono ?_; rintro e w5 ⟨rfl, hb5⟩; have HQ0 := hid (HQ.out.next hb5); clear HQ; have HQ := hid (Q5.set (c' := 0) (a' := 0) HQ0.out); clear hb5 Hct; obtain ⟨⟨⟨z0, z1, z2, z3⟩, z4, z5, z6, z7⟩, z8⟩ := HQ0.out.cells; clear HQ0)
    | (go_at_call 20; with_reducible refine (fbad_no _ _).mono ?_; rintro e w3 ⟨rfl, hb3⟩; replace HQ := hid (HQ.out.next hb3); clear hb3; obtain ⟨⟨⟨z0, z1, z2, z3⟩, z4, z5, z6, z7⟩, z8⟩ := HQ.out.cells; obtain ⟨⟨⟨x0, x1⟩, x2, x3⟩, x4, x5⟩ := HQ.out.h.cells)
    | (go_at_call 21; refine (Hri.out _ HQ.out.h.b).mono ?_; rintro e w6 ⟨rfl, hb6⟩; replace HQ := hid (HQ.out.next hb6); clear hb6))
  go_ret
  exact ⟨rfl, HQ.out.h.b⟩
end Go.Proofs.Ytjenkpgoggmboaa

/- SolveInstances, walked: one way. -/
namespace Go.Proofs.Ytjenkpgoggmboaa
open Go.RowKit

set_option maxRecDepth 100000 in
set_option maxHeartbeats 8000000 in
theorem sins_good_false {W : World} {a0 a1 a2 a3 : Option Addr} {m0 m1 m2 m3 c0 c1 c2 c3 : Nat} (hla : ∀ w, Below W.heap.size W w → ∀ u b, ((u = .agg #[.slice a0 m0 c0, .slice a1 m1 c1] ∧ b = false) ∨ (u = .agg #[.slice a2 m2 c2, .slice a3 m3 c3] ∧ b = false)) → Calls Try.prog 10 #[u, .slice none 0 0] w fun e w' => e = .returned (.bool b) ∧ Below w.heap.size w w') (hin : ∀ w, Below W.heap.size W w → Calls Try.prog 18 #[.agg #[.slice a0 m0 c0, .slice a1 m1 c1], .agg #[.slice a2 m2 c2, .slice a3 m3 c3]] w fun e w' => e = .returned (.tuple #[.bool false, .nilIface]) ∧ Below w.heap.size w w') (hcp : ∀ w, Below W.heap.size W w → Calls Try.prog 19 #[.agg #[.slice a0 m0 c0, .slice a1 m1 c1]] w fun e w' => e = .returned (.agg #[.int .i64 0, .int .i64 0, .string ⟨#[]⟩, .slice none 0 0]) ∧ Below w.heap.size w w') (hct : ∀ w, Below W.heap.size W w → Calls Try.prog 19 #[.agg #[.slice a2 m2 c2, .slice a3 m3 c3]] w fun e w' => e = .returned (.agg #[.int .i64 0, .int .i64 0, .string ⟨#[]⟩, .slice none 0 0]) ∧ Below w.heap.size w w') (hri : ∀ w, Below W.heap.size W w → Calls Try.prog 21 #[.agg #[.slice a0 m0 c0, .slice a1 m1 c1], .agg #[.slice a2 m2 c2, .slice a3 m3 c3]] w fun e w' => e = .returned (.bool false) ∧ Below w.heap.size w w') :
    Calls Try.prog 4 #[.agg #[.slice a0 m0 c0, .slice a1 m1 c1], .agg #[.slice a2 m2 c2, .slice a3 m3 c3]] W fun e w' => e = .returned (.bool true) ∧ Below W.heap.size W w' := by
  have HB := hid (Tw2.start W (.slice a0 m0 c0) (.slice a1 m1 c1) (.slice a2 m2 c2) (.slice a3 m3 c3))
  have Hla := hid hla
  have Hin := hid hin
  have Hcp := hid hcp
  have Hct := hid hct
  have Hri := hid hri
  clear hla hin hcp hct hri
  go_enter Try.func4, Try.ntmps4
  go_wp2_with (first
    | (go_at_call 9; refine (slives_any _).mono ?_; rintro e w1 ⟨rfl, hb1⟩; replace HB := hid (HB.out.next hb1); clear hb1; obtain ⟨⟨⟨x0, x1⟩, x2, x3⟩, x4, x5⟩ := HB.out.cells)
    | (go_at_call 10; refine (Hla.out _ HB.out.b _ _ (by first | exact Or.inl ⟨rfl, rfl⟩ | exact Or.inr ⟨rfl, rfl⟩)).mono ?_; rintro e w1 ⟨rfl, hb1⟩; replace HB := hid (HB.out.next hb1); clear hb1; obtain ⟨⟨⟨x0, x1⟩, x2, x3⟩, x4, x5⟩ := HB.out.cells)
    | (go_at_call 18; refine (Hin.out _ HB.out.b).mono ?_; rintro e w1 ⟨rfl, hb1⟩; replace HB := hid (HB.out.next hb1); have HE : Hid (Er w1 .nilIface []) := rfl; clear hb1; obtain ⟨⟨⟨x0, x1⟩, x2, x3⟩, x4, x5⟩ := HB.out.cells)
    | (go_at_call 19; refine (Hcp.out _ HB.out.b).mono ?_; rintro e w2 ⟨rfl, hb2⟩; have HQ := hid (Q5.new (c := 0) (a := 0) (HB.out.next hb2) (HE.out.below hb2)); clear hb2 HB HE Hcp x0 x1 x2 x3 x4 x5)
    | (go_at_call 19; refine (Hct.out _ HQ.out.h.b).mono ?_; rintro e w5 ⟨rfl, hb5⟩; have HQ0 := hid (HQ.out.next hb5); clear HQ; have HQ := hid (Q5.set (c' := 0) (a' := 0) HQ0.out); clear hb5 Hct; obtain ⟨⟨⟨z0, z1, z2, z3⟩, z4, z5, z6, z7⟩, z8⟩ := HQ0.out.cells; clear HQ0)
    | (go_at_call 20; with_reducible refine (fbad_no _ _).mono ?_; rintro e w3 ⟨rfl, hb3⟩; replace HQ := hid (HQ.out.next hb3); clear hb3; obtain ⟨⟨⟨z0, z1, z2, z3⟩, z4, z5, z6, z7⟩, z8⟩ := HQ.out.cells; obtain ⟨⟨⟨x0, x1⟩, x2, x3⟩, x4, x5⟩ := HQ.out.h.cells)
    | (go_at_call 21; refine (Hri.out _ HQ.out.h.b).mono ?_; rintro e w6 ⟨rfl, hb6⟩; replace HQ := hid (HQ.out.next hb6); clear hb6))
  go_ret
  exact ⟨rfl, HQ.out.h.b⟩
end Go.Proofs.Ytjenkpgoggmboaa

/- Instance of package solve, where a graph is not good. -/
namespace Go.Proofs.Ytjenkpgoggmboaa
open Go.RowKit

set_option maxRecDepth 100000 in
set_option maxHeartbeats 8000000 in
theorem instance_bad1 {W : World} {n1 r1 n2 r2 : Value} {p t : Gf} (hP : Gr W n1 r1 p) (hT : Gr W n2 r2 t) (hSp : Sized p) (hcp : one (chk p) ≠ []) :
    Calls Try.prog 18 #[.agg #[n1, r1], .agg #[n2, r2]] W fun e w' => (∃ ev, e = .returned (.tuple #[.bool false, ev]) ∧ Er w' ev (one (chk p))) ∧ Below W.heap.size W w' := by
  have hck : Hid (∀ w1, Below W.heap.size W w1 → Calls Try.prog 25 #[.agg #[n1, r1]] w1 fun e w' => (∃ b, e = .returned (.iface 75 (.pointer (some ⟨b, 0, none⟩))) ∧ Er w' (.iface 75 (.pointer (some ⟨b, 0, none⟩))) (one (chk p))) ∧ Below w1.heap.size w1 w') := fun w1 hb => (check_any (hP.below hb) hSp).mono (fun e w' ⟨⟨ev, h1, h2⟩, h3⟩ => by
    rcases h2.isNil with ⟨e0, _⟩ | ⟨_, b, rfl⟩
    · exact absurd e0 hcp
    · exact ⟨⟨b, h1, h2⟩, h3⟩)
  obtain ⟨na, nc, rfl, _⟩ := hP.1
  obtain ⟨ra, rc, rfl, _⟩ := hP.2
  obtain ⟨nb, nd, rfl, _⟩ := hT.1
  obtain ⟨rb, rd, rfl, _⟩ := hT.2
  have hI := hid (Ib.new W (.slice na p.nodes.length nc) (.slice ra p.roots.length rc) (.slice nb t.nodes.length nd) (.slice rb t.roots.length rd))
  clear hP hT hSp hcp
  go_enter Try.func18, Try.ntmps18
  go_wp2
  go_loopw [17] (fun i wr => Hid (Ib W wr (.slice na p.nodes.length nc) (.slice ra p.roots.length rc) (.slice nb t.nodes.length nd) (.slice rb t.roots.length rd)) ∧ i = .int .i64 0) (fun i _ => 2 - (intOf i).toNat)
  case atStart => exact ⟨hI, rfl⟩
  case round =>
    clear hI
    obtain ⟨hI, rfl⟩ := hrel
    obtain ⟨⟨x0, x1, x2, x3⟩, _⟩ := nblk hI.out.l
    have hzx := lt_of_block hI.out.l
    have hcall := hid (hck.out _ (hI.out.b.alloc hI.out.b.size (.cells #[.slice na p.nodes.length nc, .slice ra p.roots.length rc] 25)))
    go_wp2_with (go_at_call 25; refine hcall.out.mono ?_; rintro e w1 ⟨⟨b, rfl, hEr⟩, hb1⟩; have hEr' := hid hEr; have hb := hid (hI.out.next ((below_alloc wr _).trans (hb1.mono (by simp)))).b; clear hb1 hEr)
    go_ret2
    exact ⟨⟨_, rfl, hEr'.out⟩, hb.out⟩
set_option maxRecDepth 100000 in
set_option maxHeartbeats 8000000 in
theorem instance_bad2 {W : World} {n1 r1 n2 r2 : Value} {p t : Gf} (hP : Gr W n1 r1 p) (hT : Gr W n2 r2 t) (hSp : Sized p) (hSt : Sized t) (hcp : one (chk p) = []) (hct : one (chk t) ≠ []) :
    Calls Try.prog 18 #[.agg #[n1, r1], .agg #[n2, r2]] W fun e w' => (∃ ev, e = .returned (.tuple #[.bool false, ev]) ∧ Er w' ev (one (chk t))) ∧ Below W.heap.size W w' := by
  have hck : Hid (∀ w1, Below W.heap.size W w1 → Calls Try.prog 25 #[.agg #[n1, r1]] w1 fun e w' => e = .returned .nilIface ∧ Below w1.heap.size w1 w') := fun w1 hb => (check_any (hP.below hb) hSp).mono (fun e w' ⟨⟨ev, h1, h2⟩, h3⟩ => by
    rw [hcp] at h2
    have h2' : ev = .nilIface := h2
    subst h2'
    exact ⟨h1, h3⟩)
  have hck2 : Hid (∀ w1, Below W.heap.size W w1 → Calls Try.prog 25 #[.agg #[n2, r2]] w1 fun e w' => (∃ b, e = .returned (.iface 75 (.pointer (some ⟨b, 0, none⟩))) ∧ Er w' (.iface 75 (.pointer (some ⟨b, 0, none⟩))) (one (chk t))) ∧ Below w1.heap.size w1 w') := fun w1 hb => (check_any (hT.below hb) hSt).mono (fun e w' ⟨⟨ev, h1, h2⟩, h3⟩ => by
    rcases h2.isNil with ⟨e0, _⟩ | ⟨_, b, rfl⟩
    · exact absurd e0 hct
    · exact ⟨⟨b, h1, h2⟩, h3⟩)
  obtain ⟨na, nc, rfl, _⟩ := hP.1
  obtain ⟨ra, rc, rfl, _⟩ := hP.2
  obtain ⟨nb, nd, rfl, _⟩ := hT.1
  obtain ⟨rb, rd, rfl, _⟩ := hT.2
  have hI := hid (Ib.new W (.slice na p.nodes.length nc) (.slice ra p.roots.length rc) (.slice nb t.nodes.length nd) (.slice rb t.roots.length rd))
  clear hP hT hSp hSt hcp hct
  go_enter Try.func18, Try.ntmps18
  go_wp2
  go_loopw [17] (fun i wr => Hid (Ib W wr (.slice na p.nodes.length nc) (.slice ra p.roots.length rc) (.slice nb t.nodes.length nd) (.slice rb t.roots.length rd)) ∧ (i = .int .i64 0 ∨ i = .int .i64 1)) (fun i _ => 2 - (intOf i).toNat)
  case atStart => exact ⟨hI, Or.inl rfl⟩
  case round =>
    clear hI
    obtain ⟨hI, hrel⟩ := hrel
    obtain ⟨⟨x0, x1, x2, x3⟩, _⟩ := nblk hI.out.l
    have hzx := lt_of_block hI.out.l
    rcases hrel with rfl | rfl
    · have hcall := hid (hck.out _ (hI.out.b.alloc hI.out.b.size (.cells #[.slice na p.nodes.length nc, .slice ra p.roots.length rc] 25)))
      go_wp2_with (go_at_call 25; refine hcall.out.mono ?_; rintro e w1 ⟨rfl, hb1⟩; have hI1 := hid (hI.out.next ((below_alloc wr _).trans (hb1.mono (by simp)))); clear hb1)
      go_roundw
      case rel => exact ⟨hI1, Or.inr (by go_num)⟩
      case measure => simp [intOf]
    · have hcall := hid (hck2.out _ (hI.out.b.alloc hI.out.b.size (.cells #[.slice nb t.nodes.length nd, .slice rb t.roots.length rd] 25)))
      go_wp2_with (go_at_call 25; refine hcall.out.mono ?_; rintro e w1 ⟨⟨b, rfl, hEr⟩, hb1⟩; have hEr' := hid hEr; have hb := hid (hI.out.next ((below_alloc wr _).trans (hb1.mono (by simp)))).b; clear hb1 hEr)
      go_ret2
      exact ⟨⟨_, rfl, hEr'.out⟩, hb.out⟩
end Go.Proofs.Ytjenkpgoggmboaa

/- SolveInstances, at any two graphs. -/
namespace Go.Proofs.Ytjenkpgoggmboaa
open Go.RowKit

theorem lgA {W : World} {n r : Value} {g : Gf} (hG : Gr W n r g) {b : Bool} (h : (!smallK 40 g) = b) (w : World) (hb : Below W.heap.size W w) :
    Calls Try.prog 10 #[.agg #[n, r], .slice none 0 0] w fun e w' => e = .returned (.bool b) ∧ Below w.heap.size w w' := by
  rw [← h]
  exact slarge_nil (hG.below hb)
theorem rchkA {W : World} {n r : Value} {g : Gf} (hG : Gr W n r g) (hS : Sized g) (w : World) (hb : Below W.heap.size W w) :
    Calls Try.prog 19 #[.agg #[n, r]] w fun e w' => e = .returned (.agg #[.int .i64 (chk g).1, .int .i64 (chk g).2, .string ⟨#[]⟩, .slice none 0 0]) ∧ Below w.heap.size w w' := rcheck_any (hG.below hb) hS
theorem chk_zero {g : Gf} (h : one (chk g) = []) : chk g = (0, 0) := by
  have hg := chk_good h
  have h3 : ixOf (fun n => !goodNd g.nodes.length n) g.nodes = -1 := ixOf_none _ _ (by
    rw [List.any_eq_false]
    intro x hx
    simp [hg.node x hx])
  have h4 : ixOf (strange g.nodes.length) g.roots = -1 := ixOf_none _ _ (by
    rw [List.any_eq_false]
    intro x hx
    have := hg.root x hx
    simp [strange]
    omega)
  have a1 := hg.nodes
  have a2 := hg.roots
  unfold chk
  rw [h3, h4, if_neg (by omega : ¬ 4096 < g.nodes.length), if_neg (by omega : ¬ 4096 < g.roots.length)]
  simp
theorem one_bad {x : Int × Int} (h : one x ≠ []) : x.1 ≠ 0 ∧ one x = [x] := by
  unfold one at h ⊢
  by_cases h0 : x.1 = 0
  · rw [if_pos h0] at h
    exact absurd rfl h
  · exact ⟨h0, if_neg h0⟩
theorem solveInstances_walk {W : World} (n1 r1 : Value) (p : Gf) (hP : Gr W n1 r1 p) (zP : Sized p) (n2 r2 : Value) (t : Gf) (hT : Gr W n2 r2 t) (zT : Sized t) :
    Calls Try.prog 4 #[.agg #[n1, r1], .agg #[n2, r2]] W fun e w' => e = .returned (.bool true) ∧ Below W.heap.size W w' := by
  obtain ⟨na, nc, rfl, _⟩ := hP.1
  obtain ⟨ra, rc, rfl, _⟩ := hP.2
  obtain ⟨nb, nd, rfl, _⟩ := hT.1
  obtain ⟨rb, rd, rfl, _⟩ := hT.2
  by_cases sp : smallK 40 p = true
  · by_cases st : smallK 40 t = true
    · have hla : ∀ w, Below W.heap.size W w → ∀ u b, ((u = .agg #[.slice na p.nodes.length nc, .slice ra p.roots.length rc] ∧ b = false) ∨ (u = .agg #[.slice nb t.nodes.length nd, .slice rb t.roots.length rd] ∧ b = false)) → Calls Try.prog 10 #[u, .slice none 0 0] w fun e w' => e = .returned (.bool b) ∧ Below w.heap.size w w' := fun w hb u b hu => by
        rcases hu with ⟨rfl, rfl⟩ | ⟨rfl, rfl⟩
        · exact lgA hP (by rw [sp]; rfl) w hb
        · exact lgA hT (by rw [st]; rfl) w hb
      by_cases gp : one (chk p) = []
      · have hcp : ∀ w, Below W.heap.size W w → Calls Try.prog 19 #[.agg #[.slice na p.nodes.length nc, .slice ra p.roots.length rc]] w fun e w' => e = .returned (.agg #[.int .i64 0, .int .i64 0, .string ⟨#[]⟩, .slice none 0 0]) ∧ Below w.heap.size w w' := fun w hb => by
          have h := rchkA hP zP w hb
          rw [chk_zero gp] at h
          exact h
        by_cases gt : one (chk t) = []
        · have hct : ∀ w, Below W.heap.size W w → Calls Try.prog 19 #[.agg #[.slice nb t.nodes.length nd, .slice rb t.roots.length rd]] w fun e w' => e = .returned (.agg #[.int .i64 0, .int .i64 0, .string ⟨#[]⟩, .slice none 0 0]) ∧ Below w.heap.size w w' := fun w hb => by
            have h := rchkA hT zT w hb
            rw [chk_zero gt] at h
            exact h
          have hgp := chk_good gp
          have hgt := chk_good gt
          by_cases hi : ∃ S, Ins p t S
          · have hl : p.roots.length = t.roots.length := by
              obtain ⟨S, h⟩ := hi
              exact h.len
            exact sins_good_true hla (fun w hb => instance_any (hP.below hb) (hT.below hb) zP zT gp gt true (iff_of_true rfl hi)) hcp hct (fun w hb => rinst_main (hP.below hb) (hT.below hb) hgp hgt hl true (iff_of_true rfl ((ins_iff hgp hgt hl).2 hi)))
          · refine sins_good_false hla (fun w hb => instance_any (hP.below hb) (hT.below hb) zP zT gp gt false (iff_of_false (by decide) hi)) hcp hct (fun w hb => ?_)
            by_cases hl : p.roots.length = t.roots.length
            · exact rinst_main (hP.below hb) (hT.below hb) hgp hgt hl false (iff_of_false (by decide) (fun h => hi ((ins_iff hgp hgt hl).1 h)))
            · exact rinst_len hl
        · obtain ⟨h0, h1⟩ := one_bad gt
          refine sins_bad2 (c := (chk t).1) (a := (chk t).2) h0 hla (fun w hb => (instance_bad2 (hP.below hb) (hT.below hb) zP zT gp gt).mono ?_) hcp (rchkA hT zT)
          rintro e w' ⟨⟨ev, rfl, hev⟩, h2⟩
          rcases hev.isNil with ⟨e0, _⟩ | ⟨_, b, rfl⟩
          · exact absurd e0 gt
          · rw [h1] at hev
            exact ⟨⟨b, rfl, hev⟩, h2⟩
      · obtain ⟨h0, h1⟩ := one_bad gp
        refine sins_bad1 (c := (chk p).1) (a := (chk p).2) h0 hla (fun w hb => (instance_bad1 (hP.below hb) (hT.below hb) zP gp).mono ?_) (rchkA hP zP)
        rintro e w' ⟨⟨ev, rfl, hev⟩, h2⟩
        rcases hev.isNil with ⟨e0, _⟩ | ⟨_, b, rfl⟩
        · exact absurd e0 gp
        · rw [h1] at hev
          exact ⟨⟨b, rfl, hev⟩, h2⟩
    · refine sins_short1 (fun w hb u b hu => ?_)
      rcases hu with ⟨rfl, rfl⟩ | ⟨rfl, rfl⟩
      · exact lgA hP (by rw [sp]; rfl) w hb
      · exact lgA hT (by simpa using st) w hb
  · refine sins_short0 (fun w hb u b hu => ?_)
    rcases hu with ⟨rfl, rfl⟩ | ⟨rfl, rfl⟩ <;> exact lgA hP (by simpa using sp) w hb
end Go.Proofs.Ytjenkpgoggmboaa
