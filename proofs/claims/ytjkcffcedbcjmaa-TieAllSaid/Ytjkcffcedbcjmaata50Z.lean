/- Tie of tendrilref08 where there is a fault. -/
import Derived.BigQuiet
import Derived.Test.Ytjkcffcedbcjmaata47Z
import Derived.Test.Ytjkcffcedbcjmaata46Z
import Derived.Test.Ytjkcffcedbcjmaata02Z
import Derived.Test.Ytjkcffcedbcjmaata33Z
import Derived.Test.Ytjkcffcedbcjmaata42Z
import Derived.Test.Ytjkcffcedbcjmaata28Z
import Derived.Test.Ytjkcffcedbcjmaata44Z
import Derived.Test.Ytjkcffcedbcjmaata40Z
import Derived.Test.Ytjkcffcedbcjmaata31Z
import Derived.Test.Ytjkcffcedbcjmaata13Z
namespace Go.Proofs.Ytjkcffcedbcjmaa
set_option maxRecDepth 100000
open Go.RowKit Go.Maps
set_option maxHeartbeats 400000 in
theorem rbad7_any (c a : Int) (s : ByteArray) (w : World) :
    Calls Try.prog 33 #[fV c a s] w fun e w' => e = .returned (.bool (c != 0)) ∧ Below w.heap.size w w' := by
  have hb := below_alloc w (fO c a s)
  obtain ⟨⟨z0, z1, z2, z3⟩, _⟩ := blk4 (heap_alloc_new w (fO c a s))
  go_enter Try.func33, Try.ntmps33
  go_wp2
  go_ret
  exact ⟨rfl, hb⟩
set_option maxHeartbeats 4000000 in
theorem rtie_bad {W0 : World} {xv qv : Value} {xs : List Ex} {qs : List (ByteArray × Ex)} (hX : Rxs W0 xv xs) (hQ : Rqs W0 qv qs) (hzx : szXs xs) (hzq : ∀ q ∈ qs, q.1.size ≤ 281474976710656 ∧ szX q.2) (hlx : xs.length ≤ 100) (hlq : qs.length ≤ 100) (hp : prtXs xs + prtQ qs ≤ 350) (hc : (chkT xs qs).1 ≠ 0) :
    Calls Try.prog 10 #[xv, qv] W0 fun r w' => r = .returned (.tuple #[.agg #[.slice none 0 0, .slice none 0 0], .slice none 0 0, fV (chkT xs qs).1 (chkT xs qs).2.1 (chkT xs qs).2.2]) ∧ Below W0.heap.size W0 w' := by
  have b2 : Below W0.heap.size W0 ((W0.alloc (.cells #[.slice none 0 0, .slice none 0 0] 29)).alloc (.cells #[.int .i64 0, .int .i64 0, .string ⟨#[]⟩, .slice none 0 0] 37)) := (below_alloc W0 _).alloc (by simp) _
  have hx0 : ((W0.alloc (.cells #[.slice none 0 0, .slice none 0 0] 29)).alloc (.cells #[.int .i64 0, .int .i64 0, .string ⟨#[]⟩, .slice none 0 0] 37)).heap[W0.heap.size]? = some (.cells #[.slice none 0 0, .slice none 0 0] 29) := by
    rw [Below.heap_alloc _ _ _ (by simp)]
    exact heap_alloc_new W0 _
  have hx1 : ((W0.alloc (.cells #[.slice none 0 0, .slice none 0 0] 29)).alloc (.cells #[.int .i64 0, .int .i64 0, .string ⟨#[]⟩, .slice none 0 0] 37)).heap[W0.heap.size + 1]? = some (.cells #[.int .i64 0, .int .i64 0, .string ⟨#[]⟩, .slice none 0 0] 37) := by
    simpa using heap_alloc_new (W0.alloc (.cells #[.slice none 0 0, .slice none 0 0] 29)) (.cells #[.int .i64 0, .int .i64 0, .string ⟨#[]⟩, .slice none 0 0] 37)
  have hck2 := hid (rtcheck_any (hX.next b2) (hQ.next b2) hzx hzq hlx hlq hp)
  have hcd := hid hc
  have hcks : Calls Try.prog 32 #[xv, qv] ((W0.alloc (.cells #[.slice none 0 0, .slice none 0 0] 29)).alloc (.cells #[.int .i64 0, .int .i64 0, .string ⟨#[]⟩, .slice none 0 0] 37)) fun e w' => e = .returned (.tuple #[.slice none 0 0, fV (chkT xs qs).1 (chkT xs qs).2.1 (chkT xs qs).2.2]) ∧ Hid (Below ((W0.alloc (.cells #[.slice none 0 0, .slice none 0 0] 29)).alloc (.cells #[.int .i64 0, .int .i64 0, .string ⟨#[]⟩, .slice none 0 0] 37)).heap.size ((W0.alloc (.cells #[.slice none 0 0, .slice none 0 0] 29)).alloc (.cells #[.int .i64 0, .int .i64 0, .string ⟨#[]⟩, .slice none 0 0] 37)) w') := by
    refine hck2.out.mono ?_
    rintro e w' ⟨h, hb⟩
    rcases h with ⟨h1, _⟩ | ⟨_, h1⟩
    · exact absurd h1 hcd.out
    · exact ⟨h1, hb⟩
  clear hck2 hX hQ hzx hzq hlx hlq hp
  generalize (chkT xs qs).1 = c at *
  generalize (chkT xs qs).2.1 = a at *
  generalize (chkT xs qs).2.2 = s at *
  have hbx := hid (fun (w' : World) (h : Below ((W0.alloc (.cells #[.slice none 0 0, .slice none 0 0] 29)).alloc (.cells #[.int .i64 0, .int .i64 0, .string ⟨#[]⟩, .slice none 0 0] 37)).heap.size ((W0.alloc (.cells #[.slice none 0 0, .slice none 0 0] 29)).alloc (.cells #[.int .i64 0, .int .i64 0, .string ⟨#[]⟩, .slice none 0 0] 37)) w') => And.intro (Below.next b2 h) (And.intro ((h.block _ (lt_of_block hx0)).trans hx0) ((h.block _ (lt_of_block hx1)).trans hx1)))
  have hcn : (c != 0) = true := by simpa using hc
  have hbd := hid (fun w => rbad7_any c a s w)
  rw [hcn] at hbd
  clear hx0 hx1 b2 hcd hc hcn
  go_enter Try.func10, Try.ntmps10
  go_wp2_with (first
    | (go_at_call 33; refine (hbd.out _).mono ?_; rintro e W ⟨rfl, hbW⟩; have hbW2 := Below.next (below_alloc w2 (.cells #[.int .i64 c, .int .i64 a, .string s, .slice none 0 0] 37)) hbW; have hfb := (hbW.block _ (show w2.heap.size < (w2.alloc (.cells #[.int .i64 c, .int .i64 a, .string s, .slice none 0 0] 37)).heap.size by simp)).trans (heap_alloc_new w2 _); obtain ⟨⟨f0, f1, f2, f3⟩, _⟩ := blk4 hfb; obtain ⟨hb0, hw0, hw1⟩ := hbx.out w2 hb2.out; have hw0' := (hbW2.block _ (lt_of_block hw0)).trans hw0; have hw1' := (hbW2.block _ (lt_of_block hw1)).trans hw1; obtain ⟨⟨y0, y1⟩, y2, y3⟩ := blk2 hw0'; obtain ⟨⟨z0, z1, z2, z3⟩, z4, z5, z6, z7⟩ := blk4 hw1'; have hz1 := lt_of_block hw1; have hz2 := lt_of_block hfb; have hz3 := lt_of_block hw1'; have hbw := Below.next hb0 hbW2)
    | (go_at_call 32; refine hcks.mono ?_; clear hcks; rintro e w2 ⟨rfl, hb2⟩))
  go_big_region
  go_wp2
  have hdw : ∀ (w : World) (k : Nat), w.drew.heap[k]? = w.heap[k]? := fun _ _ => rfl
  refine bodyPost_ret (ret_gsF (u0 := .slice none 0 0) (u1 := .slice none 0 0) (c := c) (a := a) (n := s) Try.results10 (by rfl) (by rfl) (by rfl) ?_ ?_) rfl ⟨rfl, ?_⟩
  · rw [hdw, Below.heap_setCell _ _ _ _ (by show W0.heap.size ≠ W0.heap.size + 1; omega), Below.heap_setCell _ _ _ _ (by show W0.heap.size ≠ W0.heap.size + 1; omega), Below.heap_setCell _ _ _ _ (by show W0.heap.size ≠ W0.heap.size + 1; omega), Below.heap_setCell _ _ _ _ (by show W0.heap.size ≠ W0.heap.size + 1; omega)]
    exact blk2_set hw0'
  · rw [hdw]
    refine set4 (u0 := .int .i64 0) (u1 := .int .i64 0) (u2 := .string ⟨#[]⟩) (u3 := .slice none 0 0) ?_
    rw [Below.heap_setCell _ _ _ _ (by show W0.heap.size + 1 ≠ W0.heap.size; omega), Below.heap_setCell _ _ _ _ (by show W0.heap.size + 1 ≠ W0.heap.size; omega)]
    exact hw1'
  · exact ((((((hbw.setCell (p := ⟨W0.heap.size, 0, none⟩) (Nat.le_refl _) _).setCell (p := ⟨W0.heap.size, 1, none⟩) (Nat.le_refl _) _).setCell (p := ⟨W0.heap.size + 1, 0, none⟩) (by show W0.heap.size ≤ W0.heap.size + 1; omega) _).setCell (p := ⟨W0.heap.size + 1, 1, none⟩) (by show W0.heap.size ≤ W0.heap.size + 1; omega) _).setCell (p := ⟨W0.heap.size + 1, 2, none⟩) (by show W0.heap.size ≤ W0.heap.size + 1; omega) _).setCell (p := ⟨W0.heap.size + 1, 3, none⟩) (by show W0.heap.size ≤ W0.heap.size + 1; omega) _).drew
end Go.Proofs.Ytjkcffcedbcjmaa

namespace Go.Proofs.Ytjkcffcedbcjmaa
set_option maxRecDepth 100000
open Go.RowKit Go.Maps
set_option maxHeartbeats 400000 in
theorem is8_no (a : Int) (s : ByteArray) (w : World) :
    Calls Try.prog 11 #[.nilIface, fV 0 a s] w fun e w' => e = .returned (.bool true) ∧ Below w.heap.size w w' := by
  go_enter Try.func11, Try.ntmps11
  go_wp2
  go_loop [0] (fun e => e = .nilIface) (fun _ => 0)
  case atStart => rfl
  case round =>
    subst hrel
    go_wp2
    go_ret
    exact ⟨rfl, (Below.refl _ _).alloc (Nat.le_refl _) _⟩
set_option maxHeartbeats 1000000 in
theorem is8_yes (c a : Int) (s : ByteArray) (b : Nat) (w : World) (hc : (c == 0) = false) (hb : w.heap[b]? = some (.cells #[.int .i64 c, .int .i64 a, .string s, .nilIface] 88)) :
    Calls Try.prog 11 #[.iface 85 (.pointer (some ⟨b, 0, none⟩)), fV c a s] w fun e w' => e = .returned (.bool true) ∧ Below w.heap.size w w' := by
  have hlt : b < w.heap.size := lt_of_block hb
  obtain ⟨⟨h0, h1, h2, h3⟩, _⟩ := blk4 hb
  clear hb
  have hta := fun (w : World) (v : Value) => assert_ptr (P := Try.prog) w 85 32 88 v Try.underlying85
  go_enter Try.func11, Try.ntmps11
  go_wp2
  go_loop [0] (fun e => e = .iface 85 (.pointer (some ⟨b, 0, none⟩))) (fun _ => 0)
  case atStart => rfl
  case round =>
    subst hrel
    go_wp2
    go_quiet (fail)
    go_wp2
    go_ret
    exact ⟨rfl, below_drewN ((Below.refl _ _).alloc (Nat.le_refl _) _) _⟩
theorem is8_any {w : World} {ev : Value} {c a : Int} {s : ByteArray} (h : Eo w ev (c, a, s)) :
    Calls Try.prog 11 #[ev, fV c a s] w fun e w' => e = .returned (.bool true) ∧ Below w.heap.size w w' := by
  rcases h with ⟨hc, he⟩ | ⟨hc, b, he, hb⟩
  · simp only at hc
    subst hc he
    exact is8_no a s w
  · simp only at hc he
    subst he
    exact is8_yes c a s b w (by simpa using hc) hb
theorem eo_next {w w' : World} {ev : Value} {r : Int × Int × ByteArray} (h : Eo w ev r) (hb : Below w.heap.size w w') : Eo w' ev r := by
  rcases h with h | ⟨h, h2⟩
  · exact Or.inl h
  · exact Or.inr ⟨h, h2.next hb⟩
theorem nmd_rnm {w : World} {B : Nat} {mo : Option Addr} {mc : Nat} {ms : List (ByteArray × Int)} (h : w.ownsRow B 56 2 (.slice mo ms.length mc) ms.length (mcells ms)) : Rnm w (.slice mo ms.length mc) ms := ⟨mo, mc, rfl, fun j hj => by
  obtain ⟨b, e, c1, c2⟩ := nmd_cell h hj
  exact ⟨b, 0, e, by rw [Nat.zero_add]; exact c1, by rw [Nat.zero_add]; exact c2⟩⟩
theorem rnm_next {w w' : World} {v : Value} {l : List (ByteArray × Int)} (h : Rnm w v l) (hb : Below w.heap.size w w') : Rnm w' v l := by
  obtain ⟨ao, c, e, h⟩ := h
  refine ⟨ao, c, e, fun j hj => ?_⟩
  obtain ⟨b, o, e1, c1, c2⟩ := h j hj
  exact ⟨b, o, e1, ((bcell hb).1 b _ (lt_of_cell c1)).trans c1, ((bcell hb).1 b _ (lt_of_cell c2)).trans c2⟩
theorem rnm_nil (w : World) : Rnm w (.slice none 0 0) [] := ⟨none, 0, rfl, fun j hj => by simp at hj⟩
theorem gr_nil0 (w : World) : Gr w (.slice none 0 0) (.slice none 0 0) gf0 := ⟨⟨none, 0, rfl, fun j hj => by simp at hj⟩, ⟨none, 0, rfl, fun j hj => by simp at hj⟩⟩
end Go.Proofs.Ytjkcffcedbcjmaa

namespace Go.Proofs.Ytjkcffcedbcjmaa
set_option maxRecDepth 100000
open Go.RowKit Go.Maps
structure Both (W : World) (xv qv : Value) (T : Gf) (ms : List (ByteArray × Int)) (c a : Int) (s : ByteArray) : Prop where
  t : ∀ w, Below W.heap.size W w → Calls Try.prog 9 #[xv, qv] w fun r w' => (∃ n1 n2 r1 r2 m1 m2 ev, r = .returned (.tuple #[.agg #[.slice n1 T.nodes.length n2, .slice r1 T.roots.length r2], .slice m1 ms.length m2, ev]) ∧ Gr w' (.slice n1 T.nodes.length n2) (.slice r1 T.roots.length r2) T ∧ Rnm w' (.slice m1 ms.length m2) ms ∧ Eo w' ev (c, a, s)) ∧ Below w.heap.size w w'
  r : ∀ w, Below W.heap.size W w → Calls Try.prog 10 #[xv, qv] w fun r w' => (∃ n1 n2 r1 r2 m1 m2, r = .returned (.tuple #[.agg #[.slice n1 T.nodes.length n2, .slice r1 T.roots.length r2], .slice m1 ms.length m2, fV c a s]) ∧ Gr w' (.slice n1 T.nodes.length n2) (.slice r1 T.roots.length r2) T ∧ Rnm w' (.slice m1 ms.length m2) ms) ∧ Below w.heap.size w w'
  d : ∀ w, Below W.heap.size W w → Calls Try.prog 14 #[.agg #[xv, qv]] w fun r w' => (∃ n1 n2 r1 r2 ev, r = .returned (.tuple #[.agg #[.slice n1 T.nodes.length n2, .slice r1 T.roots.length r2], ev]) ∧ Gr w' (.slice n1 T.nodes.length n2) (.slice r1 T.roots.length r2) T ∧ Eo w' ev (c, a, s)) ∧ Below w.heap.size w w'
  fit : Fits T
  ml : ms.length ≤ 100000
theorem far_cell {w : World} {q : Nat} {u v : Value} {b o : Nat} (hne : b ≠ q) : ((w.setCell ⟨q, 0, none⟩ u).setCell ⟨q, 1, none⟩ v).cell? ⟨b, o, none⟩ = w.cell? ⟨b, o, none⟩ := by
  have e : ((w.setCell ⟨q, 0, none⟩ u).setCell ⟨q, 1, none⟩ v).heap[b]? = w.heap[b]? := by rw [Below.heap_setCell _ _ _ _ hne, Below.heap_setCell _ _ _ _ hne]
  unfold World.cell?
  rw [e]
theorem box_int {w : World} {q : Nat} {a0 a1 : Option Addr} {m0 m1 c0 c1 : Nat} {T : TypeId} (h : w.heap[q]? = some (.cells #[.slice a0 m0 c0, .slice a1 m1 c1] T)) {b o : Nat} {k : IntKind} {x : Int} (hc : w.cell? ⟨b, o, none⟩ = some (.int k x)) : b ≠ q := fun e => by
  subst e
  rw [cell_of_row w b o _ _ _ h] at hc
  match o, hc with
  | 0, hc => simp at hc
  | 1, hc => simp at hc
  | o + 2, hc => simp at hc
theorem ri_box {w : World} {q : Nat} {a0 a1 : Option Addr} {m0 m1 c0 c1 : Nat} {T : TypeId} {u v rv : Value} {l : List Int} (h : w.heap[q]? = some (.cells #[.slice a0 m0 c0, .slice a1 m1 c1] T)) (hr : Ri w rv l) : Ri ((w.setCell ⟨q, 0, none⟩ u).setCell ⟨q, 1, none⟩ v) rv l := by
  obtain ⟨ao, c, e, hc⟩ := hr
  refine ⟨ao, c, e, fun j hj => ?_⟩
  obtain ⟨b, o, e2, h2⟩ := hc j hj
  exact ⟨b, o, e2, by rw [far_cell (box_int h h2)]; exact h2⟩
theorem gr_box {w : World} {q : Nat} {a0 a1 : Option Addr} {m0 m1 c0 c1 : Nat} {T : TypeId} {u v nv rv : Value} {g : Gf} (h : w.heap[q]? = some (.cells #[.slice a0 m0 c0, .slice a1 m1 c1] T)) (hg : Gr w nv rv g) : Gr ((w.setCell ⟨q, 0, none⟩ u).setCell ⟨q, 1, none⟩ v) nv rv g := by
  refine ⟨?_, ri_box h hg.2⟩
  obtain ⟨ao, c, e, hc⟩ := hg.1
  refine ⟨ao, c, e, fun j hj => ?_⟩
  obtain ⟨b, o, av, e2, h0, h1, h2, h3, h4⟩ := hc j hj
  have hne := box_int h h0
  exact ⟨b, o, av, e2, by rw [far_cell hne]; exact h0, by rw [far_cell hne]; exact h1, by rw [far_cell hne]; exact h2, by rw [far_cell hne]; exact h3, ri_box h h4⟩
theorem eo_box {w : World} {q : Nat} {u0 u1 u v ev : Value} {r : Int × Int × ByteArray} (h : w.heap[q]? = some (.cells #[u0, u1] 29)) (he : Eo w ev r) : Eo ((w.setCell ⟨q, 0, none⟩ u).setCell ⟨q, 1, none⟩ v) ev r := by
  rcases he with he | ⟨hc, b, e, hb⟩
  · exact Or.inl he
  · refine Or.inr ⟨hc, b, e, ?_⟩
    have hne : b ≠ q := fun e2 => by
      subst e2
      rw [h] at hb
      injection hb with hb
      injection hb with h1 _
      have := congrArg Array.size h1
      simp at this
    rw [Below.heap_setCell _ _ _ _ hne, Below.heap_setCell _ _ _ _ hne]
    exact hb
set_option maxHeartbeats 8000000 in
theorem tall_walk (v0 : Value) (l0 : List Ex) {W : World} (hX0 : Rxs W v0 l0) (hZ0 : szXs l0) (z0 : l0.length ≤ 281474976710656) (v1 : Value) (l1 : List (ByteArray × Ex)) (hX1 : Rqs W v1 l1) (hZ1 : ∀ q ∈ l1, q.1.size ≤ 281474976710656 ∧ szX q.2) (z1 : l1.length ≤ 281474976710656) (hBo0 : l0.length ≤ 100 → l1.length ≤ 100 → prtXs l0 + prtQ l1 ≤ 350 → ∃ T ms c a s, Both W v0 v1 T ms c a s) :
    Calls Try.prog 3 #[v0, v1] W fun e w' => e = .returned (.bool true) ∧ Below W.heap.size W w' := by
  have HX := hid hX0
  have HQ := hid hX1
  have hla := hid (fun (w : World) (hb : Below W.heap.size W w) => tlarge_any (HX.out.next hb) (HQ.out.next hb) hZ0 hZ1 z0 z1)
  have hBo := hid hBo0
  obtain ⟨xo, xc, rfl, -⟩ := hX0
  obtain ⟨qo, qc, rfl, -⟩ := hX1
  clear hZ0 hZ1 hBo0
  cases hL : largeT l0 l1 with
  | true =>
    rw [hL] at hla
    clear hL hBo
    go_enter Try.func3, Try.ntmps3
    go_wp2_with (first
      | (go_at_call 8; go_must (refine (hla.out _ hb1).mono ?_; clear hla; rintro e2 w2 ⟨rfl, hb2⟩; have hB := Below.next hb1 hb2; clear hb1 hb2))
      | (go_at_call 7; go_must (refine (tlives_any _).mono ?_; rintro e1 w1 ⟨rfl, hb1⟩)))
    go_ret
    exact ⟨rfl, Below.next hB hb1⟩
  | false =>
    obtain ⟨s1, s2, s3⟩ := large_small hL
    rw [hL] at hla
    clear hL
    obtain ⟨T, ms, c, a, s, hB0⟩ := hBo.out s1 s2 s3
    have HB := hid hB0
    have hsm := hid (fun (w : World) (nv rv mv sv : Value) (h1 : Gr w nv rv T) (h2 : Gr w mv sv T) => rsame_any h1 h2 HB.out.fit)
    rw [eqG_yes] at hsm
    have hml := HB.out.ml
    have hfT := HB.out.fit
    clear hBo hB0 hfT
    go_enter Try.func3, Try.ntmps3
    go_wp2_with (first
      | (go_at_call 8; go_must (refine (hla.out _ hb1).mono ?_; clear hla; rintro e2 w2 ⟨rfl, hb2⟩; have hB := Below.next hb1 hb2; clear hb1 hb2))
      | (go_at_call 7; go_must (refine (tlives_any _).mono ?_; rintro e1 w1 ⟨rfl, hb1⟩))
      | (go_at_call 9; go_must (refine (HB.out.t w2 hB).mono ?_; rintro r w3 ⟨⟨n1, n2, r1, r2, m1, m2, ev, rfl, hG3, hM3, hE3⟩, hb3⟩; have HG3 := hid hG3; have HM3 := hid hM3; have HE3 := hid hE3; have hb4 := Below.next hB hb3; have hx3 := heap_alloc_new w3 (.cells #[.slice n1 T.nodes.length n2, .slice r1 T.roots.length r2] 29); clear hG3 hM3 hE3))
      | (go_at_call 10; go_must (refine (HB.out.r _ (hb4.alloc hb4.size (.cells #[.slice n1 T.nodes.length n2, .slice r1 T.roots.length r2] 29))).mono ?_; rintro r w4 ⟨⟨p1, p2, q1, q2, k1, k2, rfl, hG4, hM4⟩, hb5⟩; have HG4 := hid hG4; have HM4 := hid hM4; clear hG4 hM4)))
    have hWz3 := hb4.size
    have hb3a := below_alloc w3 (.cells #[.slice n1 T.nodes.length n2, .slice r1 T.roots.length r2] 29)
    have hb34 := Below.next hb3a hb5
    have hbK : Below w4.heap.size w4 ((w4.alloc (.cells #[.slice p1 T.nodes.length p2, .slice q1 T.roots.length q2] 29)).alloc (.cells #[.int .i64 c, .int .i64 a, .string s, .slice none 0 0] 37)) := (below_alloc w4 _).alloc (by simp) _
    have hx3K := (hbK.block _ (by have := hb5.size; simp at this; omega)).trans ((hb5.block w3.heap.size (by simp)).trans hx3)
    have hx4K : ((w4.alloc (.cells #[.slice p1 T.nodes.length p2, .slice q1 T.roots.length q2] 29)).alloc (.cells #[.int .i64 c, .int .i64 a, .string s, .slice none 0 0] 37)).heap[w4.heap.size]? = some (.cells #[.slice p1 T.nodes.length p2, .slice q1 T.roots.length q2] 29) := by
      rw [Below.heap_alloc _ _ _ (by simp)]
      exact heap_alloc_new w4 _
    have hx5K : ((w4.alloc (.cells #[.slice p1 T.nodes.length p2, .slice q1 T.roots.length q2] 29)).alloc (.cells #[.int .i64 c, .int .i64 a, .string s, .slice none 0 0] 37)).heap[w4.heap.size + 1]? = some (.cells #[.int .i64 c, .int .i64 a, .string s, .slice none 0 0] 37) := by
      simpa using heap_alloc_new (w4.alloc (.cells #[.slice p1 T.nodes.length p2, .slice q1 T.roots.length q2] 29)) (.cells #[.int .i64 c, .int .i64 a, .string s, .slice none 0 0] 37)
    have hz34 : w3.heap.size < w4.heap.size := by have := hb5.size; simp at this; omega
    have hfa := hid (fun (w' : World) (h : Below ((w4.alloc (.cells #[.slice p1 T.nodes.length p2, .slice q1 T.roots.length q2] 29)).alloc (.cells #[.int .i64 c, .int .i64 a, .string s, .slice none 0 0] 37)).heap.size ((w4.alloc (.cells #[.slice p1 T.nodes.length p2, .slice q1 T.roots.length q2] 29)).alloc (.cells #[.int .i64 c, .int .i64 a, .string s, .slice none 0 0] 37)) w') => (show ((w'.heap[w3.heap.size]? = some (.cells #[.slice n1 T.nodes.length n2, .slice r1 T.roots.length r2] 29) ∧ w'.heap[w4.heap.size]? = some (.cells #[.slice p1 T.nodes.length p2, .slice q1 T.roots.length q2] 29) ∧ w'.heap[w4.heap.size + 1]? = some (.cells #[.int .i64 c, .int .i64 a, .string s, .slice none 0 0] 37)) ∧ (Gr w' (.slice n1 T.nodes.length n2) (.slice r1 T.roots.length r2) T ∧ Gr w' (.slice p1 T.nodes.length p2) (.slice q1 T.roots.length q2) T) ∧ (Rnm w' (.slice m1 ms.length m2) ms ∧ Rnm w' (.slice k1 ms.length k2) ms) ∧ Eo w' ev (c, a, s) ∧ Below W.heap.size W w') from
      ⟨⟨(h.block _ (lt_of_block hx3K)).trans hx3K, (h.block _ (lt_of_block hx4K)).trans hx4K, (h.block _ (lt_of_block hx5K)).trans hx5K⟩, ⟨HG3.out.below (Below.next hb34 (Below.next hbK h)), HG4.out.below (Below.next hbK h)⟩, ⟨rnm_next HM3.out (Below.next hb34 (Below.next hbK h)), rnm_next HM4.out (Below.next hbK h)⟩, eo_next HE3.out (Below.next hb34 (Below.next hbK h)), Below.next (Below.next hb4 hb34) (Below.next hbK h)⟩))
    obtain ⟨⟨t1, t2, t3⟩, _, _, hEK, _⟩ := hfa.out _ (Below.refl _ _)
    have hisK := is8_any hEK
    clear hEK t1 t2 t3 hx3 hx3K hx4K hx5K hb34 hbK hb3a hb3 hB hb4 hb5 HG3 HG4 HM3 HM4 HE3
    generalize (w4.alloc (.cells #[.slice p1 T.nodes.length p2, .slice q1 T.roots.length q2] 29)).alloc (.cells #[.int .i64 c, .int .i64 a, .string s, .slice none 0 0] 37) = wK at hfa hisK ⊢
    go_wp2_with (first
      | (go_at_call 12; refine (hsm.out _ _ _ _ _ hG10 (hG9h.out _ hb10)).mono ?_; rintro e w11 ⟨rfl, hb11⟩)
      | (go_at_call 11; refine (is8_any hE9).mono ?_; rintro e w10 ⟨rfl, hb10⟩; have hG10 := (hG9.out.below hb10); obtain ⟨c9a, c9b⟩ := hbox9.out w10 hb10; obtain ⟨⟨e0, e1⟩, _⟩ := blk2 c9a; obtain ⟨⟨e2, e3⟩, _⟩ := blk2 c9b)
      | (go_at_call 14; refine (HB.out.d w7 hbW7).mono ?_; rintro r w8 ⟨⟨n3, n4, r3, r4, ev2, rfl, hG8, hE8⟩, hb8⟩; obtain ⟨⟨x3, x4, x5⟩, ⟨_, hGh⟩, _, _, hbW8⟩ := hfa.out w8 (Below.next hb7K hb8); obtain ⟨⟨y0, y1⟩, y2, y3⟩ := blk2 x3; obtain ⟨⟨z0, z1, z2, z3⟩, _⟩ := blk4 x5; have hzx5 := lt_of_block x5; have hG9 := hid (gr_box (u := .slice n3 T.nodes.length n4) (v := .slice r3 T.roots.length r4) x3 hG8); have hE9 := eo_box (u := .slice n3 T.nodes.length n4) (v := .slice r3 T.roots.length r4) x3 hE8; have hGh9 := gr_box (u := .slice n3 T.nodes.length n4) (v := .slice r3 T.roots.length r4) x3 hGh; have hG9h := hid (fun w' hb => hGh9.below (w' := w') hb); have hx9a := blk2_set (v0 := .slice n3 T.nodes.length n4) (v1 := .slice r3 T.roots.length r4) x3; have hx9b := (Below.heap_setCell (w8.setCell ⟨w3.heap.size, 0, none⟩ (.slice n3 T.nodes.length n4)) ⟨w3.heap.size, 1, none⟩ (.slice r3 T.roots.length r4) w4.heap.size (show w4.heap.size ≠ w3.heap.size by omega)).trans ((Below.heap_setCell w8 ⟨w3.heap.size, 0, none⟩ (.slice n3 T.nodes.length n4) w4.heap.size (show w4.heap.size ≠ w3.heap.size by omega)).trans x4); have hbox9 := hid (fun w' (hb : Below ((w8.setCell ⟨w3.heap.size, 0, none⟩ (.slice n3 T.nodes.length n4)).setCell ⟨w3.heap.size, 1, none⟩ (.slice r3 T.roots.length r4)).heap.size ((w8.setCell ⟨w3.heap.size, 0, none⟩ (.slice n3 T.nodes.length n4)).setCell ⟨w3.heap.size, 1, none⟩ (.slice r3 T.roots.length r4)) w') => And.intro ((hb.block _ (lt_of_block hx9a)).trans hx9a) ((hb.block _ (lt_of_block hx9b)).trans hx9b)))
      | (go_at_call 13; refine (tsame_yes hMa hMb hml).mono ?_; rintro e w7 ⟨rfl, hb7⟩; have hb7K := Below.next hb6K hb7; obtain ⟨_, _, _, _, hbW7⟩ := hfa.out w7 hb7K)
      | (go_at_call 12; refine (hsm.out _ _ _ _ _ hGa hGb).mono ?_; rintro e w6 ⟨rfl, hb6⟩; have hb6K := Below.next hb5K hb6; obtain ⟨_, _, ⟨hMa, hMb⟩, _, _⟩ := hfa.out w6 hb6K)
      | (go_at_call 11; refine hisK.mono ?_; clear hisK; rintro e w5 ⟨rfl, hb5K⟩; obtain ⟨⟨x0, x1, x2⟩, ⟨hGa, hGb⟩, _, _, _⟩ := hfa.out w5 hb5K; obtain ⟨⟨u0, u1⟩, _⟩ := blk2 x0; obtain ⟨⟨u2, u3⟩, _⟩ := blk2 x1))
    go_ret
    exact ⟨rfl, Below.next (Below.next ((hbW8.setCell (p := ⟨w3.heap.size, 0, none⟩) hWz3 _).setCell (p := ⟨w3.heap.size, 1, none⟩) hWz3 _) hb10) hb11⟩
end Go.Proofs.Ytjkcffcedbcjmaa
