/- Nodes labelled alike, as the statements and the reference ask it. No program stands in it. -/
import Derived.Test.YtllafbghomohhaaBiM
import Derived.Test.YtllafbghomohhaaODZ
import Derived.Deep.RegionWith
import Derived.BigQuiet
import Derived.Test.YtllafbghomohhaaGrGood
import Derived.Shelf.Abstract
import Derived.OwnWalk
namespace Go.Proofs.Ytllafbghomohhaa
open Go.RowKit

/-- Are two nodes labelled alike, as layer 5's statements ask it? -/
def ndL (a b : Nd) : Bool := decide (a.kind = b.kind) && decide (a.name.toList = b.name.toList) && decide (a.num = b.num) && decide (a.args.length = b.args.length)
theorem str_eq {a b : ByteArray} (h : a.toList = b.toList) : a = b := by
  rw [ByteArray.toList_eq, ByteArray.toList_eq] at h
  cases a
  cases b
  simp at h
  rw [h]
theorem ndL_of {g : Gf} {i j : Int} (h : labE g i j) : ndL (g.nd i) (g.nd j) = true := by
  simp only [ndL, Bool.and_eq_true, decide_eq_true_eq]
  exact ⟨⟨⟨h.1, by rw [h.2.1]⟩, h.2.2.1⟩, h.2.2.2.1⟩
theorem labE_of {g : Gf} {i j : Nat} (h : ndL (g.nodes.getD i nd0) (g.nodes.getD j nd0) = true) (hk : (g.nodes.getD i nd0).kind ≠ 1) : labE g (i : Int) (j : Int) := by
  simp only [ndL, Bool.and_eq_true, decide_eq_true_eq] at h
  obtain ⟨⟨⟨h1, h2⟩, h3⟩, h4⟩ := h
  exact ⟨h1, str_eq h2, h3, h4, fun e => absurd e hk⟩
end Go.Proofs.Ytllafbghomohhaa

/- What one of package solve's merge wants. -/
namespace Go.Proofs.Ytllafbghomohhaa
open Go.RowKit

/-- The cells of pairs. -/
def pcells (l : List (Nat × Nat)) : List Value := l.flatMap fun p => [.int .i64 (p.1 : Int), .int .i64 (p.2 : Int)]
theorem pcells_snoc (l : List (Nat × Nat)) (p : Nat × Nat) : pcells (l ++ [p]) = pcells l ++ [.int .i64 (p.1 : Int), .int .i64 (p.2 : Int)] := by simp [pcells]
theorem pcells_len : ∀ l : List (Nat × Nat), (pcells l).length = l.length * 2
  | [] => rfl
  | p :: r => by
    show (_ :: _ :: pcells r).length = _
    rw [List.length_cons, List.length_cons, pcells_len r, List.length_cons]
    omega
theorem infoPr : (Try.prog.info? 48).map (fun i => (i.zero, i.size, i.bytes)) = some (some (.agg #[.int .i64 0, .int .i64 0]), 2, 16) := by kernel_rfl
/-- The last pair of a row, and the row without it. -/
theorem last_pair {w : World} {B g cap : Nat} {rest : List (Nat × Nat)} {a b : Nat} (h : w.ownsRow B 48 2 (.slice (some ⟨g, 0, none⟩) (rest.length + 1) cap) (rest.length + 1) (pcells (rest ++ [(a, b)]))) : w.cell? ⟨g, rest.length * 2, none⟩ = some (.int .i64 (a : Int)) ∧ w.cell? ⟨g, rest.length * 2 + 1, none⟩ = some (.int .i64 (b : Int)) ∧ w.ownsRow B 48 2 (.slice (some ⟨g, 0, none⟩) rest.length cap) rest.length (pcells rest) ∧ rest.length + 1 ≤ cap ∧ cap ≤ maxLen ∧ B ≤ g ∧ g < w.heap.size := by
  have hl := pcells_len rest
  rw [pcells_snoc] at h
  have c0 := h.cellAt (rest.length * 2) (by omega)
  have c1 := h.cellAt (rest.length * 2 + 1) (by omega)
  have hlt := h.lt g rfl
  refine ⟨by rw [c0, List.getElem?_append_right (by omega), hl]; simp, by rw [c1, List.getElem?_append_right (by omega), hl]; simp, ⟨hl, Or.inr ?_⟩, ?_⟩
  · rcases h.2 with ⟨e, _⟩ | ⟨g', cap', cur, e, hb, hg, h1, h2, h3, h4⟩
    · cases e
    · injection e with e1 e2 e3
      injection e1 with e1
      injection e1 with e1 _ _
      subst e1 e3
      refine ⟨g, cap, cur, rfl, hb, hg, by omega, h2, h3, ?_⟩
      have h5 := congrArg (List.take (rest.length * 2)) h4
      have h6 : (pcells rest ++ [Value.int .i64 ((a, b).1 : Int), .int .i64 ((a, b).2 : Int)]).take (rest.length * 2) = pcells rest := by
        rw [← hl, List.take_left]
      rw [List.take_take, h6, Nat.min_eq_left (by omega)] at h5
      exact h5
  · rcases h.2 with ⟨e, _⟩ | ⟨g', cap', cur, e, hb, hg, h1, h2, h3, h4⟩
    · cases e
    · injection e with e1 e2 e3
      subst e3
      exact ⟨h1, h2, hlt.1, hlt.2⟩
def lenOf : Value → Nat
  | .slice _ n _ => n
  | _ => 0
theorem Mo.undr {S : Nat → Prop} {w w' : World} {n : Nat} (h : Mo S (w.drewN n) w') : Mo S w w' := ⟨h.os, h.tape, h.output, h.size, h.block⟩
/-- How many leads are their own, read off the memory. -/
noncomputable def lfix (g : Nat) (w : World) : Nat → Nat
  | 0 => 0
  | n + 1 => lfix g w n + @ite _ (w.cell? ⟨g, n, none⟩ = some (.int .i64 (n : Int))) (Classical.propDecidable _) 1 0
theorem lfix_is {W0 w : World} {mb : Nat} {nv : Value} {g c : Nat} {ns : List Nd} {L : List Nat} {E : Nat → Nat} (h : Mg W0 w mb nv (.slice (some ⟨g, 0, none⟩) ns.length c) ns L) (hE : Ld L E) : ∀ n, n ≤ ns.length → lfix g w n = fixN E n
  | 0, _ => rfl
  | n + 1, hn => by
    rw [lfix, fixN, lfix_is h hE n (by omega)]
    have hc := (h.lcell (n := n) (by omega)).1
    have hf := hE.fix n (by rw [h.ll]; omega)
    by_cases e : E n = n
    · rw [if_pos e, if_pos (by rw [hc, hf.2 e])]
    · rw [if_neg e, if_neg (fun h2 => e (hf.1 (by
        rw [hc] at h2
        injection h2 with h2
        injection h2 with _ h2
        omega)))]
/-- A node lies so in a world. -/
structure NdW (w' : World) (b o x : Nat) (aa : Option Addr) (ac : Nat) (y : Nd) : Prop where
  k : w'.cell? ⟨b, o + x * 4, none⟩ = some (.int .i64 y.kind)
  n : w'.cell? ⟨b, o + x * 4 + 1, none⟩ = some (.string y.name)
  m : w'.cell? ⟨b, o + x * 4 + 2, none⟩ = some (.int .i64 y.num)
  s : w'.cell? ⟨b, o + x * 4 + 3, none⟩ = some (.slice aa y.args.length ac)
  z : b < w'.heap.size
  a : ∀ k, k < y.args.length → ∃ b' o', aa = some ⟨b', o', none⟩ ∧ w'.cell? ⟨b', o' + k, none⟩ = some (.int .i64 (y.args.getD k 0)) ∧ b' < w'.heap.size
/-- The cells of a merge's node. -/
theorem Mg.node {W0 w : World} {mb : Nat} {nv lv : Value} {ns : List Nd} {L : List Nat} (h : Mg W0 w mb nv lv ns L) {x : Nat} (hx : x < ns.length) : ∃ b o c aa ac, nv = .slice (some ⟨b, o, none⟩) ns.length c ∧ ∀ w', Below W0.heap.size W0 w' → NdW w' b o x aa ac (ndN ns x) := by
  obtain ⟨ao, c, rfl, hn⟩ := h.nd
  obtain ⟨b, o, av, rfl, hnd⟩ := hn x hx
  obtain ⟨aa, ac, rfl, _⟩ := hnd.2.2.2.2
  refine ⟨b, o, c, aa, ac, rfl, fun w' hb => ?_⟩
  obtain ⟨h0, h1, h2, h3, h4⟩ := hnd.below hb
  obtain ⟨aa', ac', e, h5⟩ := h4
  injection e with e1 _ _
  subst e1
  refine ⟨h0, h1, h2, h3, lt_of_cell h0, fun k hk => ?_⟩
  obtain ⟨b', o', e, h6⟩ := h5 k hk
  exact ⟨b', o', e, h6, lt_of_cell h6⟩
set_option maxRecDepth 100000 in
set_option maxHeartbeats 2000000 in
theorem unlike_no (k : Int) (n : ByteArray) (m : Int) (a1 a2 : Option Addr) (l c1 c2 : Nat) (w : World) :
    Calls Try.prog 63 #[.agg #[.int .i64 k, .string n, .int .i64 m, .slice a1 l c1], .agg #[.int .i64 k, .string n, .int .i64 m, .slice a2 l c2]] w fun e w' => e = .returned (.bool false) ∧ Below w.heap.size w w' := by
  go_enter Try.func63, Try.ntmps63
  go_wp2
  go_ret
  exact ⟨rfl, (below_alloc w _).alloc (by simp) _⟩
set_option maxRecDepth 100000 in
set_option maxHeartbeats 4000000 in
theorem unlike_yes (k k' : Int) (n n' : ByteArray) (m m' : Int) (a1 a2 : Option Addr) (l l' c1 c2 : Nat) (w : World) (h : ¬ (k = k' ∧ n = n' ∧ m = m' ∧ l = l')) :
    Calls Try.prog 63 #[.agg #[.int .i64 k, .string n, .int .i64 m, .slice a1 l c1], .agg #[.int .i64 k', .string n', .int .i64 m', .slice a2 l' c2]] w fun e w' => e = .returned (.bool true) ∧ Below w.heap.size w w' := by
  have hb := hid ((below_alloc w (.cells #[.int .i64 k, .string n, .int .i64 m, .slice a1 l c1] 56)).alloc (by simp) (.cells #[.int .i64 k', .string n', .int .i64 m', .slice a2 l' c2] 56))
  by_cases e1 : k = k'
  · subst e1
    by_cases e2 : n = n'
    · subst e2
      by_cases e3 : m = m'
      · subst e3
        have e4 : l ≠ l' := fun e => h ⟨rfl, rfl, rfl, e⟩
        have e5 : ((l : Int) == (l' : Int)) = false := beq_eq_false_iff_ne.2 (by omega)
        have e6 : ((l : Int) != (l' : Int)) = true := by rw [bne, e5]; rfl
        clear h
        go_enter Try.func63, Try.ntmps63
        go_wp2
        go_ret
        exact ⟨by first | rfl | (simp; omega), hb.out⟩
      · have e5 : (m == m') = false := beq_eq_false_iff_ne.2 e3
        have e6 : (m != m') = true := by simpa using e3
        clear h
        go_enter Try.func63, Try.ntmps63
        go_wp2
        go_ret
        exact ⟨by first | rfl | simp [e3], hb.out⟩
    · have e5 : (n.toList == n'.toList) = false := by
        cases he : n.toList == n'.toList with
        | false => rfl
        | true => exact absurd (str_eq (by simpa using he)) e2
      clear h
      go_enter Try.func63, Try.ntmps63
      go_wp2
      go_ret
      exact ⟨by first | rfl | simp [e5], hb.out⟩
  · have e5 : (k == k') = false := beq_eq_false_iff_ne.2 e1
    have e6 : (k != k') = true := by simpa using e1
    clear h
    go_enter Try.func63, Try.ntmps63
    go_wp2
    go_ret
    exact ⟨by first | rfl | simp [e1], hb.out⟩
end Go.Proofs.Ytllafbghomohhaa

/- one of package solve's merge. -/
namespace Go.Proofs.Ytllafbghomohhaa
open Go.RowKit

/-- The boxes and cells that a round of one reads. -/
theorem MgL.mg {W0 w w' : World} {mb : Nat} {nv lv : Value} {ns : List Nd} {E : Nat → Nat} (h : MgL W0 w w' mb nv lv ns E) : ∃ L, Mg W0 w' mb nv lv ns L ∧ Ld L E := by
  obtain ⟨L, h1, h2, _⟩ := h
  exact ⟨L, h1, h2⟩
theorem MgL.mo {W0 w w' : World} {mb : Nat} {nv lv : Value} {ns : List Nd} {E : Nat → Nat} (h : MgL W0 w w' mb nv lv ns E) : Mo (fun k => lv.ownBlock = some k) w w' := by
  obtain ⟨L, _, _, h3⟩ := h
  exact h3
theorem MgL.bel {W0 w w' : World} {mb : Nat} {nv lv : Value} {ns : List Nd} {E : Nat → Nat} (h : MgL W0 w w' mb nv lv ns E) : Below W0.heap.size W0 w' := by
  obtain ⟨L, h1, _, _⟩ := h
  exact h1.bel
theorem MgL.drewN {W0 w w' : World} {mb : Nat} {nv lv : Value} {ns : List Nd} {E : Nat → Nat} (h : MgL W0 w w' mb nv lv ns E) (n : Nat) : MgL W0 w (w'.drewN n) mb nv lv ns E := h.next (below_drewN (Below.refl _ _) n)
/-- What one answers. -/
def OneR (W0 w : World) (mb : Nat) (nv lv : Value) (ns : List Nd) (P : List (Nat × Nat)) (e : Ending) (w' : World) : Prop :=
  (e = .returned (.bool true) ∧ ∃ E, Un ns P E [] ∧ MgL W0 w w' mb nv lv ns E) ∨ (e = .returned (.bool false) ∧ NoSol ns P ∧ Below W0.heap.size W0 w' ∧ Mo (fun k => lv.ownBlock = some k) w w')
/-- The merge, with the box of the last pair. -/
structure Kk (W0 w w1 : World) (mb : Nat) (nv : Value) (g c : Nat) (ns : List Nd) (E : Nat → Nat) (xb a b : Nat) : Prop where
  l : MgL W0 w w1 mb nv (.slice (some ⟨g, 0, none⟩) ns.length c) ns E
  x : w1.heap[xb]? = some (.cells #[.int .i64 (a : Int), .int .i64 (b : Int)] 48)
  ne : xb ≠ g
theorem Kk.drewN {W0 w w1 : World} {mb : Nat} {nv : Value} {g c : Nat} {ns : List Nd} {E : Nat → Nat} {xb a b : Nat} (h : Kk W0 w w1 mb nv g c ns E xb a b) (n : Nat) : Kk W0 w (w1.drewN n) mb nv g c ns E xb a b := ⟨h.l.drewN n, h.x, h.ne⟩
theorem kk_end {W0 w w1 : World} {mb : Nat} {nv : Value} {g c : Nat} {ns : List Nd} {E : Nat → Nat} {xb a b n : Nat} (h : Kk W0 w w1 mb nv g c ns E xb a b) (hn : n < ns.length) : Calls Try.prog 55 #[.pointer (some ⟨mb, 0, none⟩), .int .i64 (n : Int)] w1 fun e w' => e = .returned (.int .i64 (E n : Int)) ∧ Kk W0 w w' mb nv g c ns E xb a b ∧ Mo (· = g) w1 w' := by
  obtain ⟨L, h1, h2⟩ := h.l.mg
  refine (send_any h1 h2 n hn).mono ?_
  rintro e w' ⟨rfl, hL⟩
  have hm := hL.mo
  refine ⟨rfl, ⟨MgL.trans h.l.mo hL, (hm.block xb (lt_of_block h.x) (fun e => h.ne (Option.some.inj e).symm)).trans h.x, h.ne⟩, hm.weak (fun k hk => Or.inl (Option.some.inj hk).symm)⟩
theorem gtr_zero (n : Nat) : decide ((0 : Int) < ((n + 1 : Nat) : Int)) = true := decide_eq_true (by omega)
set_option maxRecDepth 100000 in
set_option maxHeartbeats 32000000 in
theorem one_any {W0 w : World} {mb : Nat} {nv lv : Value} {ns : List Nd} {L : List Nat} {E0 : Nat → Nat} {P : List (Nat × Nat)} (h : Mg W0 w mb nv lv ns L) (hE : Ld L E0) (hA : GoodA ns) (hN : ns.length ≤ 10000) (hU : Un ns P E0 []) {i j : Nat} (hi : i < ns.length) (hj : j < ns.length) :
    Calls Try.prog 38 #[.pointer (some ⟨mb, 0, none⟩), .int .i64 (i : Int), .int .i64 (j : Int)] w (OneR W0 w mb nv lv ns (P ++ [(i, j)])) := by
  obtain ⟨g, c, rfl⟩ := h.lsome hi
  obtain ⟨i2, hi2, hz0, hz1, hz2⟩ := info_parts infoPr
  have hlt0 : Hid (g < w.heap.size) := (h.l.lt g rfl).2
  have hbw := hid h.bel.size
  have hmbw := hid (lt_of_block h.blk)
  have hS : Hid (MgL W0 w (w.alloc (.cells #[.int .i64 (i : Int), .int .i64 (j : Int)] 48)) mb nv (.slice (some ⟨g, 0, none⟩) ns.length c) ns E0) := ⟨L, h.next (below_alloc w _), hE, (Mo.refl _ w).alloc _⟩
  have hU0 := hid (hU.pair hi hj)
  have hrow : Hid ((w.alloc (.cells #[.int .i64 (i : Int), .int .i64 (j : Int)] 48)).ownsRow w.heap.size 48 2 (.slice (some ⟨w.heap.size, 0, none⟩) 1 1) 1 (pcells [(i, j)])) := World.ownsRow_lit (base := w.heap.size) (e := 48) (size := 2) w #[.int .i64 (i : Int), .int .i64 (j : Int)] 1 (Nat.le_refl _) (by unfold maxLen; omega) (by rfl)
  generalize P ++ [(i, j)] = Q at *
  have HA := hid hA
  clear h hE hU hA
  go_enter Try.func38, Try.ntmps38
  go_wp2
  go_loopw [7, 8, 9, 10, 11, 12] (fun s7 _ _ _ _ _ wr => ∃ (E : Nat → Nat) (todo : List (Nat × Nat)) (g7 cap : Nat), s7 = .slice (some ⟨g7, 0, none⟩) todo.length cap ∧ Hid (Un ns Q E todo) ∧ Hid (MgL W0 w wr mb nv (.slice (some ⟨g, 0, none⟩) ns.length c) ns E) ∧ Hid (wr.ownsRow w.heap.size 48 2 (.slice (some ⟨g7, 0, none⟩) todo.length cap) todo.length (pcells todo)) ∧ Hid (9 * fixN E ns.length + todo.length ≤ 9 * ns.length + 1)) (fun s7 _ _ _ _ _ wr => 9 * lfix g wr ns.length + lenOf s7)
  case atStart => exact ⟨E0, [(i, j)], w.heap.size, 1, rfl, hU0, hS, hrow, (show 9 * fixN E0 ns.length + 1 ≤ _ by have := fixN_top E0 ns.length; omega)⟩
  case round =>
    clear hS hU0 hrow
    obtain ⟨E, todo, g7, cap, rfl, hU, hL, hR, htl⟩ := hrel
    rcases List.eq_nil_or_concat todo with e | ⟨rest, p, e⟩
    · subst e
      go_wp2
      go_ret
      exact Or.inl ⟨rfl, E, hU.out, hL.out⟩
    · rw [List.concat_eq_append] at e
      subst e
      obtain ⟨a, b⟩ := p
      have hlen : Hid ((rest ++ [(a, b)]).length = rest.length + 1) := hid (by simp)
      rw [hlen.out] at hR htl ⊢
      have htl2 := htl.out
      obtain ⟨c0, c1, hR2, hcap, hmax, hBg, hzg7⟩ := last_pair hR.out
      have hR2' := hid hR2
      have hmx := hid hmax
      obtain ⟨hta, htb⟩ := hU.out.tr (a, b) (by simp)
      have hEa := hU.out.rng a hta
      have hEb := hU.out.rng b htb
      have hrl : (rest.length : Int) < ((rest.length + 1 : Nat) : Int) := by omega
      have hrz : rest.length ≤ 100000 := by omega
      have hwr : Hid (w.heap.size ≤ wr.heap.size) := hL.out.mo.size
      have hgne : Hid (∀ k, w.heap.size ≤ k → k ≠ g) := fun k hk e => by have := hlt0.out; omega
      clear hR hR2 hmax
      have hL1 := hid (hL.out.next (below_alloc wr (.cells #[.int .i64 (a : Int), .int .i64 (b : Int)] 48)))
      have hKK : Hid (Kk W0 w (wr.alloc (.cells #[.int .i64 (a : Int), .int .i64 (b : Int)] 48)) mb nv g c ns E wr.heap.size a b) := ⟨hL1.out, heap_alloc_new wr _, by have := hlt0.out; have := hwr.out; omega⟩
      have hR3 := hid (World.ownsRow.alloc hR2'.out (.cells #[.int .i64 (a : Int), .int .i64 (b : Int)] 48))
      have hfx : Hid (lfix g wr ns.length = fixN E ns.length) := by
        obtain ⟨L1, k1, k2⟩ := hL.out.mg
        exact lfix_is k1 k2 _ (Nat.le_refl _)
      obtain ⟨⟨x0, x1⟩, _⟩ := blk2y hKK.out.x
      clear hL1 hR2'
      go_wp2
      go_cut [9, 10] from 31 to 38 (fun s9 s10 wc => ∃ ka kb : Nat, s9 = .int .i64 (ka : Int) ∧ s10 = .int .i64 (kb : Int) ∧ Hid (ka = E a ∧ kb = E b) ∧ Hid (Kk W0 w wc mb nv g c ns E wr.heap.size a b) ∧ Hid (Mo (· = g) (wr.alloc (.cells #[.int .i64 (a : Int), .int .i64 (b : Int)] 48)) wc))
      case first =>
        have hca := hid (fun w1 (hk : Kk W0 w w1 mb nv g c ns E wr.heap.size a b) => kk_end hk hta)
        have hcb := hid (fun w1 (hk : Kk W0 w w1 mb nv g c ns E wr.heap.size a b) => kk_end hk htb)
        have hM0 := hid (Mo.refl (· = g) (wr.alloc (.cells #[.int .i64 (a : Int), .int .i64 (b : Int)] 48)))
        have m1 : True := trivial
        clear hU hL hR3 hfx c0 c1
        go_region_with (first
          | (have _m := m1; go_at_call 55; refine (hca.out _ (by first | exact hKK.out | exact hKK.out.drewN _)).mono ?_; clear m1 _m; rintro e w5 ⟨rfl, hK5, hM5⟩; have hK5' := hid hK5; obtain ⟨⟨y0, y1⟩, _⟩ := blk2y hK5.x; have hM5' := hid hM5; clear hK5 hM5)
          | (go_at_call 55; refine (hcb.out _ (by first | exact hK5'.out | exact hK5'.out.drewN _)).mono ?_; rintro e w6 ⟨rfl, hK6, hM6⟩; have hK6' := hid hK6; have hM6' := hid hM6; clear hK6 hM6))
        all_goals go_wp2_with fail
        all_goals go_meet
        all_goals exact ⟨E a, E b, rfl, rfl, ⟨rfl, rfl⟩, hK6', by first | exact hM5'.out.trans hM6'.out (fun _ h => Or.inl h) | exact (Mo.undr hM5'.out).trans hM6'.out (fun _ h => Or.inl h) | exact hM5'.out.trans (Mo.undr hM6'.out) (fun _ h => Or.inl h) | exact (Mo.undr hM5'.out).trans (Mo.undr hM6'.out) (fun _ h => Or.inl h)⟩
      case rest =>
        obtain ⟨ka, kb, rfl, rfl, hkab, hK, hM⟩ := hcut
        obtain ⟨w9, hw9⟩ : ∃ w9, w9 = wc := ⟨_, rfl⟩
        subst hw9
        clear hKK x0 x1 c0 c1 hL
        obtain ⟨L1, hg1, hl1⟩ := hK.out.l.mg
        have hfc : Hid (lfix g w9 ns.length = fixN E ns.length) := lfix_is hg1 hl1 _ (Nat.le_refl _)
        have hkaN : ka < ns.length := by rw [hkab.out.1]; exact hEa
        have hkbN : kb < ns.length := by rw [hkab.out.2]; exact hEb
        have hRc : Hid (∀ (wx : World), Mo (· = g) w9 wx → wx.ownsRow w.heap.size 48 2 (.slice (some ⟨g7, 0, none⟩) rest.length cap) rest.length (pcells rest)) := fun wx hm => row_keep hR3.out (fun k hk => by
          have e : g7 = k := by simpa [Value.ownBlock] using hk
          subst e
          have hz : g7 < (wr.alloc (.cells #[.int .i64 (a : Int), .int .i64 (b : Int)] 48)).heap.size := by simp; omega
          exact (hm.block g7 (by have := hM.out.size; omega) (hgne.out g7 hBg)).trans (hM.out.block g7 hz (hgne.out g7 hBg)))
        clear hEa hEb
        by_cases hab : ka = kb
        · subst hab
          have hU2 := hid (hU.out.skip (by rw [← hkab.out.1, ← hkab.out.2]))
          go_wp2
          go_roundw
          case rel => exact ⟨E, rest, g7, cap, rfl, hU2, hK.out.l, hRc.out w9 (Mo.refl _ _), show _ ≤ _ by omega⟩
          case measure =>
            show 9 * lfix g w9 ns.length + rest.length < 9 * lfix g wr ns.length + (rest.length + 1)
            rw [hfc.out, hfx.out]
            omega
        · have hne : ((ka : Int) == (kb : Int)) = false := beq_eq_false_iff_ne.2 (by omega)
          obtain ⟨nb, no, nc, aa, aac, hnv, pW⟩ := hg1.node hkaN
          obtain ⟨nb', no', nc', ba, bac, hnv', qW⟩ := hg1.node hkbN
          have hnv2 := hnv.symm.trans hnv'
          injection hnv2 with u1 _ u3
          injection u1 with u1
          injection u1 with u1 u2 _
          subst u1 u2 u3
          subst hnv
          clear hnv'
          obtain ⟨p0, p1, p2, p3, zn, _⟩ := pW w9 hg1.bel
          obtain ⟨q0, q1, q2, q3, _, _⟩ := qW w9 hg1.bel
          have pW' := hid pW
          have qW' := hid qW
          clear pW qW
          obtain ⟨⟨b0, b1⟩, _⟩ := blk2y hg1.blk
          have zb := lt_of_block hg1.blk
          have hkai : (ka : Int) < (ns.length : Int) := by omega
          have hkbi : (kb : Int) < (ns.length : Int) := by omega
          have hla : (ndN ns ka).args.length ≤ 8 := HA.out.few ka
          have hlb : (ndN ns kb).args.length ≤ 8 := HA.out.few kb
          have hEka : Hid (E ka = ka) := by rw [hkab.out.1]; exact hU.out.idem a
          have hEkb : Hid (E kb = kb) := by rw [hkab.out.2]; exact hU.out.idem b
          clear hg1 hl1
          by_cases hva : (ndN ns ka).kind = 1
          · have hv1 : ((ndN ns ka).kind == 1) = true := by simpa using hva
            go_wp2
            go_cut [78] from 17 to 116 (fun s78 wd => ∃ bb : Bool, s78 = .bool bb ∧ Hid (bb = true → NoSol ns Q) ∧ Hid (bb = false → Un ns Q (bindE E (ka, kb)) (rest ++ newsF ns kb ka (ndN ns ka).args.length) ∧ ((ndN ns ka).args.length ≤ (ndN ns kb).args.length)) ∧ Hid (Kk W0 w wd mb (.slice (some ⟨nb, no, none⟩) ns.length nc) g c ns E wr.heap.size a b) ∧ Hid (Mo (· = g) w9 wd))
            case first =>
              by_cases hvd : (ndN ns ka).kind = 1
              · have hd1 : ((ndN ns ka).kind == 1) = true := by simpa using hvd
                have hd2 : ((ndN ns ka).kind != 1) = false := by rw [bne, hd1]; rfl
                have hUb := hid (hU.out.bind HA.out (keep := kb) (drop := ka) (Or.inr ⟨hkab.out.2, hkab.out.1⟩) (by omega) (Or.inl hvd))
                have hz : Hid ((ndN ns ka).args.length ≤ (ndN ns kb).args.length) := by rw [HA.out.var ka hvd]; exact Nat.zero_le _
                go_quiet (fail)
                go_wp2_with fail
                go_meet
                exact ⟨false, rfl, fun h => (by cases h), fun _ => ⟨hUb.out, hz.out⟩, hK.out.drewN nq, Mo.ofBelow (below_drewN (Below.refl _ _) nq)⟩
              · exact absurd hva hvd
            case rest =>
              obtain ⟨bb, rfl, hbt, hbf, hKd, hMd⟩ := hcut
              clear hK p0 p1 p2 p3 q0 q1 q2 q3 b0 b1 zb zn
              cases bb with
              | true =>
                have hno := hid (hbt.out rfl)
                clear hbt hbf
                go_wp2
                go_ret
                exact Or.inr ⟨rfl, hno.out, hKd.out.l.bel, hKd.out.l.mo.weak (fun k hk => Or.inl hk)⟩
              | false =>
                obtain ⟨hUb, hll⟩ := hbf.out rfl
                have hUb' := hid hUb
                clear hbt hbf hUb
                obtain ⟨L2, hg2, hl2⟩ := hKd.out.l.mg
                obtain ⟨d0, d1⟩ := hg2.lcell (n := ka) hkaN
                have zg := lt_of_cell d0
                have hgm : mb ≠ g := Ne.symm (hg2.lne (k := g) rfl)
                have hKE : Hid (E kb = kb) := hEkb
                have hDE : Hid (E ka = ka) := hEka
                have hg3 := hg2.led ka kb
                have hl3 : Ld (L2.set ka kb) (bindE E (ka, kb)) := hl2.bind (p := (ka, kb)) (by show ka < L2.length; rw [hg2.ll]; exact hkaN) (by show kb < L2.length; rw [hg2.ll]; exact hkbN) hDE.out (by show E kb ≠ ka; rw [hKE.out]; omega)
                have hM3 : Mo (· = g) w9 (wc.setCell ⟨g, ka, none⟩ (.int .i64 (kb : Int))) := hMd.out.setCell (p := ⟨g, ka, none⟩) (Or.inl rfl) _
                have hL3 : Hid (MgL W0 w (wc.setCell ⟨g, ka, none⟩ (.int .i64 (kb : Int))) mb (.slice (some ⟨nb, no, none⟩) ns.length nc) (.slice (some ⟨g, 0, none⟩) ns.length c) ns (bindE E (ka, kb))) := ⟨_, hg3, hl3, hKd.out.l.mo.setCell (p := ⟨g, ka, none⟩) (Or.inl rfl) _⟩
                have hR5 := hid (hRc.out _ hM3)
                obtain ⟨⟨b0, b1⟩, _⟩ := blk2y hg2.blk
                have zb := lt_of_block hg2.blk
                obtain ⟨p0, p1, p2, p3, zn, _⟩ := pW'.out _ hg3.bel
                have hfl : Hid (fixN (bindE E (ka, kb)) ns.length < fixN E ns.length) := fixN_bind hKE.out hDE.out (by omega) hkaN
                have hnode : Hid (∀ wx : World, MgL W0 w wx mb (.slice (some ⟨nb, no, none⟩) ns.length nc) (.slice (some ⟨g, 0, none⟩) ns.length c) ns (bindE E (ka, kb)) → (wx.cell? ⟨mb, 0, none⟩ = some (.slice (some ⟨nb, no, none⟩) ns.length nc) ∧ mb < wx.heap.size) ∧ NdW wx nb no kb ba bac (ndN ns kb) ∧ NdW wx nb no ka aa aac (ndN ns ka)) := fun wx hx => by
                  obtain ⟨L5, y1, y2⟩ := hx.mg
                  obtain ⟨⟨e0, e1⟩, _⟩ := blk2y y1.blk
                  exact ⟨⟨e0, lt_of_block y1.blk⟩, qW'.out wx y1.bel, pW'.out wx y1.bel⟩
                have hAk := hid (fun k (hk : k < (ndN ns kb).args.length) => HA.out.arg kb hkbN k hk)
                have hAd := hid (fun k (hk : k < (ndN ns ka).args.length) => HA.out.arg ka hkaN k hk)
                clear hg2 hl2 hg3 hl3 hM3 hMd hKd hM hRc hR3
                have hll' : (ndN ns ka).args.length ≤ 8 := HA.out.few ka
                have hN8 : (ndN ns ka).args.length ≤ (ndN ns kb).args.length := hll
                go_wp2
                go_loopw [7, 11, 12, 95] (fun s7 _ _ s95 wy => ∃ (k g8 cap8 : Nat), s95 = .int .i64 (k : Int) ∧ k ≤ (ndN ns ka).args.length ∧ s7 = .slice (some ⟨g8, 0, none⟩) (rest.length + k) cap8 ∧ Hid (MgL W0 w wy mb (.slice (some ⟨nb, no, none⟩) ns.length nc) (.slice (some ⟨g, 0, none⟩) ns.length c) ns (bindE E (ka, kb))) ∧ Hid (wy.ownsRow w.heap.size 48 2 (.slice (some ⟨g8, 0, none⟩) (rest.length + k) cap8) (rest.length + k) (pcells (rest ++ newsF ns kb ka k)))) (fun _ _ _ s95 _ => (ndN ns ka).args.length - (intOf s95).toNat)
                case atStart => exact ⟨0, g7, cap, rfl, Nat.zero_le _, rfl, hL3, by rw [newsF, List.append_nil]; exact hR5⟩
                case round =>
                  clear hL3 hR5
                  obtain ⟨k, g8, cap8, rfl, hk, rfl, hL4, hR4⟩ := hrel
                  by_cases hklt : k < (ndN ns ka).args.length
                  · have hkz : (k : Int) < ((ndN ns ka).args.length : Int) := by omega
                    have hkk : (k : Int) < ((ndN ns kb).args.length : Int) := by omega
                    obtain ⟨⟨m0, m1⟩, nK, nD⟩ := hnode.out wr hL4.out
                    obtain ⟨kb1, ko1, e1, t1, zt1⟩ := nK.a k (by omega)
                    obtain ⟨kb2, ko2, e2, t2, zt2⟩ := nD.a k hklt
                    have k3 := nK.s
                    have k4 := nK.z
                    obtain ⟨an, han⟩ : ∃ an : Nat, (ndN ns kb).args.getD k 0 = (an : Int) := ⟨((ndN ns kb).args.getD k 0).toNat, by have := (hAk.out k (by omega)).1; omega⟩
                    obtain ⟨bn, hbn⟩ : ∃ bn : Nat, (ndN ns ka).args.getD k 0 = (bn : Int) := ⟨((ndN ns ka).args.getD k 0).toNat, by have := (hAd.out k hklt).1; omega⟩
                    have hpair : Hid (newsF ns kb ka (k + 1) = newsF ns kb ka k ++ [(an, bn)]) := by
                      show _ = _
                      rw [newsF]
                      unfold argN
                      rw [han, hbn]
                      rfl
                    rw [han] at t1
                    rw [hbn] at t2
                    subst e1
                    subst e2
                    have ho4 := hid (World.ownsRow.alloc hR4.out (.cells #[.int .i64 (an : Int), .int .i64 (bn : Int)] 48))
                    have hws : w.heap.size ≤ wr.heap.size := hL4.out.mo.size
                    have hfin : Hid (∀ (g9 c9 : Nat) (w8 : World), w8.ownsRow w.heap.size 48 2 (.slice (some ⟨g9, 0, none⟩) (rest.length + k + 1) c9) (rest.length + k + 1) (pcells (rest ++ newsF ns kb ka k) ++ [.int .i64 (an : Int), .int .i64 (bn : Int)]) → (wr.alloc (.cells #[.int .i64 (an : Int), .int .i64 (bn : Int)] 48)).grownBy w8 (Value.slice (some ⟨g8, 0, none⟩) (rest.length + k) cap8).ownBlock → MgL W0 w w8 mb (.slice (some ⟨nb, no, none⟩) ns.length nc) (.slice (some ⟨g, 0, none⟩) ns.length c) ns (bindE E (ka, kb)) ∧ w8.ownsRow w.heap.size 48 2 (.slice (some ⟨g9, 0, none⟩) (rest.length + (k + 1)) c9) (rest.length + (k + 1)) (pcells (rest ++ newsF ns kb ka (k + 1)))) := fun g9 c9 w8 h8 hg8 => by
                      refine ⟨?_, by rw [hpair.out, ← List.append_assoc, pcells_snoc]; exact h8⟩
                      obtain ⟨L6, y1, y2, y3⟩ := hL4.out
                      have hge := (hR4.out.lt g8 rfl).1
                      have hgn := hlt0.out
                      have hbwo := hbw.out
                      have old : ∀ q, q < w.heap.size → w8.heap[q]? = wr.heap[q]? := fun q hq => by
                        rw [hg8.block q (by have := y3.size; simp; omega) (fun e => by have e9 : g8 = q := (Option.some.inj e).symm; omega)]
                        exact Below.heap_alloc _ _ _ (by have := y3.size; omega)
                      refine ⟨L6, y1.keep (y1.bel.trans ⟨hg8.os, hg8.tape, hg8.output, by have := hg8.size; simp at this; omega, fun q hq => old q (by omega)⟩) (old mb hmbw.out) (fun q hq => old q (by have e9 : g = q := (by simpa [Value.ownBlock] using hq); omega)), y2, (y3.alloc _).grown hg8 (fun q hq => Or.inr (by have e9 : g8 = q := (by simpa [Value.ownBlock] using hq); omega))⟩
                    clear hAk hAd hnode nK nD hL4 hR4 hpair
                    go_wp2_with (at_builtin; go_must (refine wpList_append_lies _ rfl _ _ 26 rfl w.heap.size 48 i2 (.agg #[.int .i64 0, .int .i64 0]) 2 16 Try.underlying26 hi2 hz0 hz1 hz2 rfl (by decide) _ (rest.length + k) _ rfl ho4.out ⟨wr.heap.size, 0, none⟩ 1 1 [.int .i64 (an : Int), .int .i64 (bn : Int)] rfl rfl (World.news_of_block (cs := #[.int .i64 (an : Int), .int .i64 (bn : Int)]) (t := 48) (fr := (0, 0)) (heap_alloc_new wr _)) (by simp [Value.oneCell']) (by omega) (by unfold maxLen; omega) (by omega) (by simp; omega) (wr.heap.size + 1) (by simp) ?_; intro g9 c9 w8 hown8 hg8 hat8 hlt8))
                    obtain ⟨hf1, hf2⟩ := hfin.out g9 c9 w8 hown8 hg8
                    go_roundw
                    case rel => exact ⟨k + 1, g9, c9, by go_num, by omega, by rw [Nat.add_assoc], hf1, hf2⟩
                    case measure => simp [intOf]; omega
                  · obtain rfl : k = (ndN ns ka).args.length := by omega
                    have hL4' := hid hL4.out
                    have hR4' := hid hR4.out
                    have hfd : Hid (lfix g wr ns.length = fixN (bindE E (ka, kb)) ns.length) := by
                      obtain ⟨L1, k1, k2⟩ := hL4.out.mg
                      exact lfix_is k1 k2 _ (Nat.le_refl _)
                    clear hnode hAk hAd hL4 hR4
                    go_wp2
                    go_roundw
                    case rel => exact ⟨bindE E (ka, kb), rest ++ newsF ns kb ka (ndN ns ka).args.length, g8, cap8, by rw [List.length_append, newsF_len], hUb', hL4', by rw [List.length_append, newsF_len]; exact hR4', show _ ≤ _ by rw [List.length_append, newsF_len]; have := hfl.out; omega⟩
                    case measure =>
                      show 9 * lfix g wr ns.length + (rest.length + (ndN ns ka).args.length) < 9 * lfix g _ ns.length + (rest.length + 1)
                      rw [hfd.out, hfx.out]
                      have := hfl.out
                      omega
          · have hv1 : ((ndN ns ka).kind == 1) = false := beq_eq_false_iff_ne.2 hva
            go_wp2
            go_cut [78] from 17 to 116 (fun s78 wd => ∃ bb : Bool, s78 = .bool bb ∧ Hid (bb = true → NoSol ns Q) ∧ Hid (bb = false → Un ns Q (bindE E (kb, ka)) (rest ++ newsF ns ka kb (ndN ns kb).args.length) ∧ ((ndN ns kb).args.length ≤ (ndN ns ka).args.length)) ∧ Hid (Kk W0 w wd mb (.slice (some ⟨nb, no, none⟩) ns.length nc) g c ns E wr.heap.size a b) ∧ Hid (Mo (· = g) w9 wd))
            case first =>
              by_cases hvd : (ndN ns kb).kind = 1
              · have hd1 : ((ndN ns kb).kind == 1) = true := by simpa using hvd
                have hd2 : ((ndN ns kb).kind != 1) = false := by rw [bne, hd1]; rfl
                have hUb := hid (hU.out.bind HA.out (keep := ka) (drop := kb) (Or.inl ⟨hkab.out.1, hkab.out.2⟩) (by omega) (Or.inl hvd))
                have hz : Hid ((ndN ns kb).args.length ≤ (ndN ns ka).args.length) := by rw [HA.out.var kb hvd]; exact Nat.zero_le _
                go_quiet (fail)
                go_wp2_with fail
                go_meet
                exact ⟨false, rfl, fun h => (by cases h), fun _ => ⟨hUb.out, hz.out⟩, hK.out.drewN nq, Mo.ofBelow (below_drewN (Below.refl _ _) nq)⟩
              · have hd1 : ((ndN ns kb).kind == 1) = false := beq_eq_false_iff_ne.2 hvd
                have hd2 : ((ndN ns kb).kind != 1) = true := by rw [bne, hd1]; rfl
                have hkv : (ndN ns ka).kind ≠ 1 := hva
                have hun : Hid (∀ wx : World, Below w9.heap.size w9 wx → Kk W0 w wx mb (.slice (some ⟨nb, no, none⟩) ns.length nc) g c ns E wr.heap.size a b ∧ Mo (· = g) w9 wx) := fun wx hb => ⟨⟨hK.out.l.next hb, (hb.block _ (lt_of_block hK.out.x)).trans hK.out.x, hK.out.ne⟩, Mo.ofBelow hb⟩
                have hcl : Hid (∃ bb : Bool, (∀ wx : World, Calls Try.prog 63 #[.agg #[.int .i64 (ndN ns ka).kind, .string (ndN ns ka).name, .int .i64 (ndN ns ka).num, .slice aa (ndN ns ka).args.length aac], .agg #[.int .i64 (ndN ns kb).kind, .string (ndN ns kb).name, .int .i64 (ndN ns kb).num, .slice ba (ndN ns kb).args.length bac]] wx fun e w' => e = .returned (.bool bb) ∧ Below wx.heap.size wx w') ∧ (bb = true → NoSol ns Q) ∧ (bb = false → Un ns Q (bindE E (kb, ka)) (rest ++ newsF ns ka kb (ndN ns kb).args.length) ∧ ((ndN ns kb).args.length ≤ (ndN ns ka).args.length))) := by
                  by_cases hlab : labS (ndN ns ka) (ndN ns kb)
                  · have hUb := hU.out.bind HA.out (keep := ka) (drop := kb) (Or.inl ⟨hkab.out.1, hkab.out.2⟩) (by omega) (Or.inr ⟨hvd, hkv, hlab⟩)
                    obtain ⟨l1, l2, l3, l4⟩ := hlab
                    refine ⟨false, fun wx => ?_, fun h => (by cases h), fun _ => ⟨hUb, by omega⟩⟩
                    rw [← l1, ← l2, ← l3, ← l4]
                    exact unlike_no _ _ _ _ _ _ _ _ wx
                  · have hno := hU.out.fail (keep := ka) (drop := kb) (Or.inl ⟨hkab.out.1, hkab.out.2⟩) hvd hkv hlab
                    exact ⟨true, fun wx => unlike_yes _ _ _ _ _ _ _ _ _ _ _ _ wx hlab, fun _ => hno, fun h => (by cases h)⟩
                obtain ⟨bb, hc1, hc2, hc3⟩ := hcl.out
                have hc1' := hid hc1
                have hc2' := hid hc2
                have hc3' := hid hc3
                clear hcl hc1 hc2 hc3
                go_still_tail 24, (by kernel_rfl)
                change wpList _ _ _ _ _ w9.drew
                go_wp2_with (go_at_call 63; go_must (refine (hc1'.out _).mono ?_; rintro e wd ⟨rfl, hbd⟩))
                go_meet
                obtain ⟨hk9, hm9⟩ := hun.out wd (Below.next (Below.refl _ w9).drew hbd)
                exact ⟨bb, rfl, hc2', hc3', hk9, hm9⟩
            case rest =>
              obtain ⟨bb, rfl, hbt, hbf, hKd, hMd⟩ := hcut
              clear hK p0 p1 p2 p3 q0 q1 q2 q3 b0 b1 zb zn
              cases bb with
              | true =>
                have hno := hid (hbt.out rfl)
                clear hbt hbf
                go_wp2
                go_ret
                exact Or.inr ⟨rfl, hno.out, hKd.out.l.bel, hKd.out.l.mo.weak (fun k hk => Or.inl hk)⟩
              | false =>
                obtain ⟨hUb, hll⟩ := hbf.out rfl
                have hUb' := hid hUb
                clear hbt hbf hUb
                obtain ⟨L2, hg2, hl2⟩ := hKd.out.l.mg
                obtain ⟨d0, d1⟩ := hg2.lcell (n := kb) hkbN
                have zg := lt_of_cell d0
                have hgm : mb ≠ g := Ne.symm (hg2.lne (k := g) rfl)
                have hKE : Hid (E ka = ka) := hEka
                have hDE : Hid (E kb = kb) := hEkb
                have hg3 := hg2.led kb ka
                have hl3 : Ld (L2.set kb ka) (bindE E (kb, ka)) := hl2.bind (p := (kb, ka)) (by show kb < L2.length; rw [hg2.ll]; exact hkbN) (by show ka < L2.length; rw [hg2.ll]; exact hkaN) hDE.out (by show E ka ≠ kb; rw [hKE.out]; omega)
                have hM3 : Mo (· = g) w9 (wc.setCell ⟨g, kb, none⟩ (.int .i64 (ka : Int))) := hMd.out.setCell (p := ⟨g, kb, none⟩) (Or.inl rfl) _
                have hL3 : Hid (MgL W0 w (wc.setCell ⟨g, kb, none⟩ (.int .i64 (ka : Int))) mb (.slice (some ⟨nb, no, none⟩) ns.length nc) (.slice (some ⟨g, 0, none⟩) ns.length c) ns (bindE E (kb, ka))) := ⟨_, hg3, hl3, hKd.out.l.mo.setCell (p := ⟨g, kb, none⟩) (Or.inl rfl) _⟩
                have hR5 := hid (hRc.out _ hM3)
                obtain ⟨⟨b0, b1⟩, _⟩ := blk2y hg2.blk
                have zb := lt_of_block hg2.blk
                obtain ⟨p0, p1, p2, p3, zn, _⟩ := qW'.out _ hg3.bel
                have hfl : Hid (fixN (bindE E (kb, ka)) ns.length < fixN E ns.length) := fixN_bind hKE.out hDE.out (by omega) hkbN
                have hnode : Hid (∀ wx : World, MgL W0 w wx mb (.slice (some ⟨nb, no, none⟩) ns.length nc) (.slice (some ⟨g, 0, none⟩) ns.length c) ns (bindE E (kb, ka)) → (wx.cell? ⟨mb, 0, none⟩ = some (.slice (some ⟨nb, no, none⟩) ns.length nc) ∧ mb < wx.heap.size) ∧ NdW wx nb no ka aa aac (ndN ns ka) ∧ NdW wx nb no kb ba bac (ndN ns kb)) := fun wx hx => by
                  obtain ⟨L5, y1, y2⟩ := hx.mg
                  obtain ⟨⟨e0, e1⟩, _⟩ := blk2y y1.blk
                  exact ⟨⟨e0, lt_of_block y1.blk⟩, pW'.out wx y1.bel, qW'.out wx y1.bel⟩
                have hAk := hid (fun k (hk : k < (ndN ns ka).args.length) => HA.out.arg ka hkaN k hk)
                have hAd := hid (fun k (hk : k < (ndN ns kb).args.length) => HA.out.arg kb hkbN k hk)
                clear hg2 hl2 hg3 hl3 hM3 hMd hKd hM hRc hR3
                have hll' : (ndN ns kb).args.length ≤ 8 := HA.out.few kb
                have hN8 : (ndN ns kb).args.length ≤ (ndN ns ka).args.length := hll
                go_wp2
                go_loopw [7, 11, 12, 95] (fun s7 _ _ s95 wy => ∃ (k g8 cap8 : Nat), s95 = .int .i64 (k : Int) ∧ k ≤ (ndN ns kb).args.length ∧ s7 = .slice (some ⟨g8, 0, none⟩) (rest.length + k) cap8 ∧ Hid (MgL W0 w wy mb (.slice (some ⟨nb, no, none⟩) ns.length nc) (.slice (some ⟨g, 0, none⟩) ns.length c) ns (bindE E (kb, ka))) ∧ Hid (wy.ownsRow w.heap.size 48 2 (.slice (some ⟨g8, 0, none⟩) (rest.length + k) cap8) (rest.length + k) (pcells (rest ++ newsF ns ka kb k)))) (fun _ _ _ s95 _ => (ndN ns kb).args.length - (intOf s95).toNat)
                case atStart => exact ⟨0, g7, cap, rfl, Nat.zero_le _, rfl, hL3, by rw [newsF, List.append_nil]; exact hR5⟩
                case round =>
                  clear hL3 hR5
                  obtain ⟨k, g8, cap8, rfl, hk, rfl, hL4, hR4⟩ := hrel
                  by_cases hklt : k < (ndN ns kb).args.length
                  · have hkz : (k : Int) < ((ndN ns kb).args.length : Int) := by omega
                    have hkk : (k : Int) < ((ndN ns ka).args.length : Int) := by omega
                    obtain ⟨⟨m0, m1⟩, nK, nD⟩ := hnode.out wr hL4.out
                    obtain ⟨kb1, ko1, e1, t1, zt1⟩ := nK.a k (by omega)
                    obtain ⟨kb2, ko2, e2, t2, zt2⟩ := nD.a k hklt
                    have k3 := nK.s
                    have k4 := nK.z
                    obtain ⟨an, han⟩ : ∃ an : Nat, (ndN ns ka).args.getD k 0 = (an : Int) := ⟨((ndN ns ka).args.getD k 0).toNat, by have := (hAk.out k (by omega)).1; omega⟩
                    obtain ⟨bn, hbn⟩ : ∃ bn : Nat, (ndN ns kb).args.getD k 0 = (bn : Int) := ⟨((ndN ns kb).args.getD k 0).toNat, by have := (hAd.out k hklt).1; omega⟩
                    have hpair : Hid (newsF ns ka kb (k + 1) = newsF ns ka kb k ++ [(an, bn)]) := by
                      show _ = _
                      rw [newsF]
                      unfold argN
                      rw [han, hbn]
                      rfl
                    rw [han] at t1
                    rw [hbn] at t2
                    subst e1
                    subst e2
                    have ho4 := hid (World.ownsRow.alloc hR4.out (.cells #[.int .i64 (an : Int), .int .i64 (bn : Int)] 48))
                    have hws : w.heap.size ≤ wr.heap.size := hL4.out.mo.size
                    have hfin : Hid (∀ (g9 c9 : Nat) (w8 : World), w8.ownsRow w.heap.size 48 2 (.slice (some ⟨g9, 0, none⟩) (rest.length + k + 1) c9) (rest.length + k + 1) (pcells (rest ++ newsF ns ka kb k) ++ [.int .i64 (an : Int), .int .i64 (bn : Int)]) → (wr.alloc (.cells #[.int .i64 (an : Int), .int .i64 (bn : Int)] 48)).grownBy w8 (Value.slice (some ⟨g8, 0, none⟩) (rest.length + k) cap8).ownBlock → MgL W0 w w8 mb (.slice (some ⟨nb, no, none⟩) ns.length nc) (.slice (some ⟨g, 0, none⟩) ns.length c) ns (bindE E (kb, ka)) ∧ w8.ownsRow w.heap.size 48 2 (.slice (some ⟨g9, 0, none⟩) (rest.length + (k + 1)) c9) (rest.length + (k + 1)) (pcells (rest ++ newsF ns ka kb (k + 1)))) := fun g9 c9 w8 h8 hg8 => by
                      refine ⟨?_, by rw [hpair.out, ← List.append_assoc, pcells_snoc]; exact h8⟩
                      obtain ⟨L6, y1, y2, y3⟩ := hL4.out
                      have hge := (hR4.out.lt g8 rfl).1
                      have hgn := hlt0.out
                      have hbwo := hbw.out
                      have old : ∀ q, q < w.heap.size → w8.heap[q]? = wr.heap[q]? := fun q hq => by
                        rw [hg8.block q (by have := y3.size; simp; omega) (fun e => by have e9 : g8 = q := (Option.some.inj e).symm; omega)]
                        exact Below.heap_alloc _ _ _ (by have := y3.size; omega)
                      refine ⟨L6, y1.keep (y1.bel.trans ⟨hg8.os, hg8.tape, hg8.output, by have := hg8.size; simp at this; omega, fun q hq => old q (by omega)⟩) (old mb hmbw.out) (fun q hq => old q (by have e9 : g = q := (by simpa [Value.ownBlock] using hq); omega)), y2, (y3.alloc _).grown hg8 (fun q hq => Or.inr (by have e9 : g8 = q := (by simpa [Value.ownBlock] using hq); omega))⟩
                    clear hAk hAd hnode nK nD hL4 hR4 hpair
                    go_wp2_with (at_builtin; go_must (refine wpList_append_lies _ rfl _ _ 26 rfl w.heap.size 48 i2 (.agg #[.int .i64 0, .int .i64 0]) 2 16 Try.underlying26 hi2 hz0 hz1 hz2 rfl (by decide) _ (rest.length + k) _ rfl ho4.out ⟨wr.heap.size, 0, none⟩ 1 1 [.int .i64 (an : Int), .int .i64 (bn : Int)] rfl rfl (World.news_of_block (cs := #[.int .i64 (an : Int), .int .i64 (bn : Int)]) (t := 48) (fr := (0, 0)) (heap_alloc_new wr _)) (by simp [Value.oneCell']) (by omega) (by unfold maxLen; omega) (by omega) (by simp; omega) (wr.heap.size + 1) (by simp) ?_; intro g9 c9 w8 hown8 hg8 hat8 hlt8))
                    obtain ⟨hf1, hf2⟩ := hfin.out g9 c9 w8 hown8 hg8
                    go_roundw
                    case rel => exact ⟨k + 1, g9, c9, by go_num, by omega, by rw [Nat.add_assoc], hf1, hf2⟩
                    case measure => simp [intOf]; omega
                  · obtain rfl : k = (ndN ns kb).args.length := by omega
                    have hL4' := hid hL4.out
                    have hR4' := hid hR4.out
                    have hfd : Hid (lfix g wr ns.length = fixN (bindE E (kb, ka)) ns.length) := by
                      obtain ⟨L1, k1, k2⟩ := hL4.out.mg
                      exact lfix_is k1 k2 _ (Nat.le_refl _)
                    clear hnode hAk hAd hL4 hR4
                    go_wp2
                    go_roundw
                    case rel => exact ⟨bindE E (kb, ka), rest ++ newsF ns ka kb (ndN ns kb).args.length, g8, cap8, by rw [List.length_append, newsF_len], hUb', hL4', by rw [List.length_append, newsF_len]; exact hR4', show _ ≤ _ by rw [List.length_append, newsF_len]; have := hfl.out; omega⟩
                    case measure =>
                      show 9 * lfix g wr ns.length + (rest.length + (ndN ns kb).args.length) < 9 * lfix g _ ns.length + (rest.length + 1)
                      rw [hfd.out, hfx.out]
                      have := hfl.out
                      omega
end Go.Proofs.Ytllafbghomohhaa

/- checked of package solve. -/
namespace Go.Proofs.Ytllafbghomohhaa
open Go.RowKit

/-- A slice tells these pairs. -/
def Rp (w : World) (v : Value) (l : List (Int × Int)) : Prop :=
  ∃ ao c, v = .slice ao l.length c ∧ ∀ j, j < l.length → ∃ b o, ao = some ⟨b, o, none⟩ ∧ w.cell? ⟨b, o + j * 2, none⟩ = some (.int .i64 (l.getD j (0, 0)).1) ∧ w.cell? ⟨b, o + j * 2 + 1, none⟩ = some (.int .i64 (l.getD j (0, 0)).2)
theorem Rp.below {w w' : World} {v : Value} {l : List (Int × Int)} (h : Rp w v l) (hb : Below w.heap.size w w') : Rp w' v l := by
  obtain ⟨ao, c, rfl, h⟩ := h
  refine ⟨ao, c, rfl, fun j hj => ?_⟩
  obtain ⟨b, o, e, h0, h1⟩ := h j hj
  exact ⟨b, o, e, (hb.cell (p := ⟨b, o + j * 2, none⟩) (lt_of_cell h0)).trans h0, (hb.cell (p := ⟨b, o + j * 2 + 1, none⟩) (lt_of_cell h1)).trans h1⟩
theorem Rp.below' {w w' : World} {v : Value} {l : List (Int × Int)} (h : Rp w v l) (hb : Below w.heap.size w w') : Rp w' v l := h.below hb
/-- A pair one of whose two is no node. -/
def badP (N : Nat) (p : Int × Int) : Bool := strange N p.1 || strange N p.2
/-- The fault of a graph with pairs. -/
def chkS (g : Gf) (ps : List (Int × Int)) : Fs := if one (chk g) = [] then (if 0 ≤ ixOf (badP g.nodes.length) ps then [(100, ixOf (badP g.nodes.length) ps)] else []) else one (chk g)
set_option maxHeartbeats 1000000 in
theorem strangeS_any {W : World} {B : Nat} {ao : Option Addr} {N c : Nat} {rv : Value} (h : W.heap[B]? = some (.cells #[.slice ao N c, rv] 25)) (x : Int) :
    Calls Try.prog 40 #[.int .i64 x, .pointer (some ⟨B, 0, none⟩)] W fun e w' => e = .returned (.bool (strange N x)) ∧ w' = W := by
  have c0 : W.cell? ⟨B, 0, none⟩ = some (.slice ao N c) := by simp [World.cell?, h]
  have z0 := lt_of_block h
  clear h
  by_cases h0 : x < 0
  · have hG : Hid (strange N x = true) := show strange N x = true by simp [strange]; omega
    have d0 : decide (x < 0) = true := decide_eq_true h0
    go_enter Try.func40, Try.ntmps40
    go_wp2
    go_ret
    exact ⟨ret_bool hG.out.symm, rfl⟩
  · have d0 : decide (x < 0) = false := decide_eq_false h0
    have hG : Hid (strange N x = decide ((N : Int) ≤ x)) := show strange N x = _ by simp [strange]; omega
    go_enter Try.func40, Try.ntmps40
    go_wp2
    go_ret
    exact ⟨ret_bool hG.out.symm, rfl⟩
theorem strangeS_eg : ∀ args w, (callFunc 40 args).run Try.prog w = .ok (.enter 40 args) w := enters_of Try.func40 (by kernel_rfl) rfl
theorem badS_eg : ∀ args w, (callFunc 41 args).run Try.prog w = .ok (.enter 41 args) w := enters_of Try.func41 (by kernel_rfl) rfl
set_option maxRecDepth 100000 in
set_option maxHeartbeats 2000000 in
theorem badS_any {W : World} {B q : Nat} {ao : Option Addr} {N c : Nat} {rv : Value} (h : W.heap[B]? = some (.cells #[.slice ao N c, rv] 25)) (hq : W.cell? ⟨q, 0, none⟩ = some (.func (.func 40) #[] #[.pointer (some ⟨B, 0, none⟩)])) (x y : Int) :
    Calls Try.prog 41 #[.agg #[.int .i64 x, .int .i64 y], .pointer (some ⟨q, 0, none⟩)] W fun e w' => e = .returned (.bool (badP N (x, y))) ∧ Below W.heap.size W w' := by
  have hb := below_alloc W (.cells #[.int .i64 x, .int .i64 y] 48)
  have hc := hid (fun z => strangeS_any ((hb.block B (lt_of_block h)).trans h) z)
  have zq := lt_of_cell hq
  have heg := strangeS_eg
  unfold badP
  cases hx : strange N x with
  | true =>
    have hcx := hc.out x
    rw [hx] at hcx
    clear h hc
    go_enter Try.func41, Try.ntmps41
    go_wp2_with (go_at_fn 40; refine hcx.mono ?_; rintro e w1 ⟨rfl, rfl⟩)
    go_ret
    exact ⟨rfl, hb⟩
  | false =>
    have hcx := hc.out x
    have hcy := hc.out y
    rw [hx] at hcx
    have m1 : True := trivial
    clear h hc
    generalize strange N y = r at *
    go_enter Try.func41, Try.ntmps41
    go_wp2_with (first
      | (have _m := m1; go_at_fn 40; refine hcx.mono ?_; clear m1 _m; rintro e w1 ⟨rfl, rfl⟩)
      | (go_at_fn 40; refine hcy.mono ?_; rintro e w1 ⟨rfl, rfl⟩))
    go_ret
    exact ⟨by first | rfl | simp, hb⟩
set_option maxHeartbeats 1000000 in
theorem index_pairs (f : Nat) (cb : Array Value) (eg : ∀ args w, (callFunc f args).run Try.prog w = .ok (.enter f args) w) (v : Value) (l : List (Int × Int)) (p : Int × Int → Bool) (W : World) (hl : l.length ≤ 5000) (hv : Rp W v l)
    (hs : ∀ n w, n ∈ l → Below W.heap.size W w → Calls Try.prog f (#[.agg #[.int .i64 n.1, .int .i64 n.2]] ++ cb) w fun e w' => e = .returned (.bool (p n)) ∧ Below w.heap.size w w') :
    Calls Try.prog 42 #[v, .func (.func f) #[] cb] W fun e w' => e = .returned (.int .i64 (ixOf p l)) ∧ Below W.heap.size W w' := by
  obtain ⟨ao, c, rfl, hr⟩ := hv
  go_enter Try.func42, Try.ntmps42
  go_wp2
  go_loopw [5, 8] (fun _ i wr => ∃ k : Nat, k ≤ l.length ∧ i = .int .i64 k ∧ Hid (Below W.heap.size W wr) ∧ Hid (∀ j, j < k → p (l.getD j (0, 0)) = false)) (fun _ i _ => l.length - (intOf i).toNat)
  case atStart => exact ⟨0, Nat.zero_le _, rfl, Below.refl _ _, fun j hj => absurd hj (Nat.not_lt_zero _)⟩
  case round =>
    obtain ⟨k, hk, rfl, hI, hp⟩ := hrel
    by_cases hlt : k < l.length
    · obtain ⟨b, o, rfl, h0, h1⟩ := hr k hlt
      have c0 := (hI.out.cell (p := ⟨b, o + k * 2, none⟩) (lt_of_cell h0)).trans h0
      have c1 := (hI.out.cell (p := ⟨b, o + k * 2 + 1, none⟩) (lt_of_cell h1)).trans h1
      have hcall := hs (l.getD k (0, 0)) wr (by simp [List.getD, hlt]) hI.out
      cases hq : p (l.getD k (0, 0)) with
      | true =>
        have hq' := hid (ixOf_hit (0, 0) p l k hlt hp.out hq)
        rw [hq] at hcall
        clear hq hs hr h0 h1
        generalize l.getD k (0, 0) = x at c0 c1 hcall
        obtain ⟨x0, x1⟩ := x
        dsimp only at c0 c1 hcall
        go_wp2_with (go_at_fn f; refine hcall.mono ?_; rintro e w' ⟨rfl, hb⟩)
        go_ret
        exact ⟨ret_int hq'.out.symm, Below.next hI.out hb⟩
      | false =>
        have hq' : Hid (∀ j, j < k + 1 → p (l.getD j (0, 0)) = false) := fun j hj => by
          rcases Nat.lt_or_eq_of_le (Nat.le_of_lt_succ hj) with h | h
          · exact hp.out j h
          · subst h; exact hq
        rw [hq] at hcall
        clear hq hs hr h0 h1
        generalize l.getD k (0, 0) = x at c0 c1 hcall
        obtain ⟨x0, x1⟩ := x
        dsimp only at c0 c1 hcall
        go_wp2_with (go_at_fn f; refine hcall.mono ?_; rintro e w' ⟨rfl, hb⟩)
        go_roundw
        case rel => exact ⟨k + 1, by omega, congrArg (Value.int .i64) (by omega), Below.next hI.out hb, hq'⟩
        case measure => simp [intOf]; omega
    · have hm := hid (ixOf_miss (0, 0) p l (fun j hj => hp.out j (by omega)))
      go_wp2
      go_ret
      exact ⟨ret_int hm.out.symm, hI.out⟩
set_option maxRecDepth 100000 in
set_option maxHeartbeats 4000000 in
theorem checked_any {W : World} {nv rv pv : Value} {g : Gf} {ps : List (Int × Int)} (hG : Gr W nv rv g) (hS : Sized g) (hP : Rp W pv ps) (hl : ps.length ≤ 5000) :
    Calls Try.prog 21 #[.agg #[nv, rv], pv] W fun e w' => (∃ ev, e = .returned ev ∧ Er w' ev (chkS g ps)) ∧ Below W.heap.size W w' := by
  obtain ⟨na, nc, rfl, _⟩ := hG.1
  obtain ⟨ra, rc, rfl, _⟩ := hG.2
  have hb0 := below_alloc W (.cells #[.slice na g.nodes.length nc, .slice ra g.roots.length rc] 25)
  have hq0 := hid (heap_alloc_new W (.cells #[.slice na g.nodes.length nc, .slice ra g.roots.length rc] 25))
  have hck := check_any (hG.below hb0) hS
  have hmf : ∀ (fn : Fn) (first cap : Array Value) (w : World), (Instr.makeFunc fn first cap).run Try.prog w = .ok (.func fn first cap) w := fun _ _ _ _ => rfl
  unfold chkS
  by_cases hg : one (chk g) = []
  · rw [if_pos hg]
    rw [hg] at hck
    have hix : Hid (∀ w1, Below W.heap.size W w1 → w1.heap[W.heap.size]? = some (.cells #[.slice na g.nodes.length nc, .slice ra g.roots.length rc] 25) → Calls Try.prog 42 #[pv, .func (.func 41) #[] #[.pointer (some ⟨w1.heap.size, 0, none⟩)]] (w1.alloc (.cells #[.func (.func 40) #[] #[.pointer (some ⟨W.heap.size, 0, none⟩)]] 82)) fun e w' => e = .returned (.int .i64 (ixOf (badP g.nodes.length) ps)) ∧ Below (w1.alloc (.cells #[.func (.func 40) #[] #[.pointer (some ⟨W.heap.size, 0, none⟩)]] 82)).heap.size (w1.alloc (.cells #[.func (.func 40) #[] #[.pointer (some ⟨W.heap.size, 0, none⟩)]] 82)) w') := fun w1 hb1 hq1 => by
      have hb2 := below_alloc w1 (.cells #[.func (.func 40) #[] #[.pointer (some ⟨W.heap.size, 0, none⟩)]] 82)
      have hn := heap_alloc_new w1 (.cells #[.func (.func 40) #[] #[.pointer (some ⟨W.heap.size, 0, none⟩)]] 82)
      refine index_pairs _ _ badS_eg pv ps (badP g.nodes.length) _ hl (hP.below (Below.next hb1 hb2)) (fun n w3 _ hb3 => ?_)
      have hq3 := ((Below.next hb2 hb3).block _ (lt_of_block hq1)).trans hq1
      exact badS_any hq3 (by
        have h9 := (hb3.block _ (lt_of_block hn)).trans hn
        simp [World.cell?, h9]) n.1 n.2
    have hsz := hid hb0
    clear hG hP hS hg
    generalize hX : ixOf (badP g.nodes.length) ps = X at *
    by_cases h0 : 0 ≤ X
    · rw [if_pos h0]
      have d0 : decide (0 ≤ X) = true := decide_eq_true h0
      go_enter Try.func21, Try.ntmps21
      go_wp2_with (first
        | (go_at_call 35; go_must (refine hck.mono ?_; clear hck; rintro e w1 ⟨⟨ev, rfl, hev⟩, hb1⟩; have hev1 : ev = .nilIface := hev; subst hev1; have hB1 := hid (Below.next hsz.out hb1); have hq1 := hid ((hb1.block W.heap.size (by simp)).trans hq0.out); have hs1 := hb1.size; clear hev hb1))
        | (go_at_call 42; go_must (refine (hix.out w1 hB1.out hq1.out).mono ?_; clear hix; rintro e w2 ⟨rfl, hb2⟩)))
      have hB2 := Below.next (hB1.out.alloc (by have := hB1.out.size; omega) _) hb2
      have hb3 := hB2.alloc hB2.size (.cells #[.int .i64 100, .int .i64 X, .string ⟨#[]⟩, .nilIface] 74)
      go_ret
      exact ⟨⟨_, rfl, by show (100 : Int) ≠ 0; decide, w2.heap.size, .nilIface, rfl, heap_alloc_new w2 _, rfl⟩, hb3⟩
    · rw [if_neg h0]
      have d0 : decide (0 ≤ X) = false := decide_eq_false h0
      go_enter Try.func21, Try.ntmps21
      go_wp2_with (first
        | (go_at_call 35; go_must (refine hck.mono ?_; clear hck; rintro e w1 ⟨⟨ev, rfl, hev⟩, hb1⟩; have hev1 : ev = .nilIface := hev; subst hev1; have hB1 := hid (Below.next hsz.out hb1); have hq1 := hid ((hb1.block W.heap.size (by simp)).trans hq0.out); have hs1 := hb1.size; clear hev hb1))
        | (go_at_call 42; go_must (refine (hix.out w1 hB1.out hq1.out).mono ?_; clear hix; rintro e w2 ⟨rfl, hb2⟩)))
      have hB2 := Below.next (hB1.out.alloc (by have := hB1.out.size; omega) _) hb2
      go_ret
      exact ⟨⟨_, rfl, rfl⟩, hB2⟩
  · rw [if_neg hg]
    have hnil : Hid (∀ (w1 : World) (ev : Value), Er w1 ev (one (chk g)) → ∃ b, ev = .iface 70 (.pointer (some ⟨b, 0, none⟩))) := fun w1 ev h => by
      rcases h.isNil with ⟨h1, _⟩ | ⟨_, h2⟩
      · exact absurd h1 hg
      · exact h2
    clear hG hP hS hg
    go_enter Try.func21, Try.ntmps21
    go_wp2_with (go_at_call 35; go_must (refine hck.mono ?_; clear hck; rintro e w1 ⟨⟨ev, rfl, hev⟩, hb1⟩; obtain ⟨fb, rfl⟩ := hnil.out w1 ev hev; have hB1 := hid (Below.next hb0 hb1); have hE1 := hid hev; clear hev hb1))
    go_ret
    exact ⟨⟨_, rfl, hE1.out⟩, hB1.out⟩
end Go.Proofs.Ytllafbghomohhaa

/- apart and all of package solve. -/
namespace Go.Proofs.Ytllafbghomohhaa
open Go.RowKit

/-- The leads after so many steps. -/
def ldJ (N j : Nat) : List Nat := (List.range N).map (fun i => if i < j then i else 0)
theorem ldJ_len (N j : Nat) : (ldJ N j).length = N := by simp [ldJ]
theorem ldJ_get {N j i : Nat} (h : i < N) : (ldJ N j).getD i 0 = if i < j then i else 0 := by simp [ldJ, List.getD, h]
theorem ldJ_zero (N : Nat) : (ints (ldJ N 0)).map (Value.int .i64) = List.replicate N (.int .i64 0) := by
  apply List.ext_getElem?
  intro i
  by_cases h : i < N
  · simp [ints, ldJ, h]
  · simp [ints, ldJ, h]
theorem ldJ_step {N j : Nat} (h : j < N) : (ldJ N j).set j j = ldJ N (j + 1) := by
  apply List.ext_getElem?
  intro i
  by_cases hi : i < N
  · by_cases e : i = j
    · subst e
      simp [ldJ, h]
    · simp [ldJ, hi, Ne.symm e]
      by_cases h1 : i < j
      · rw [if_pos h1, if_pos (by omega)]
      · rw [if_neg h1, if_neg (by omega)]
  · have h1 : (ldJ N j).length ≤ i := by rw [ldJ_len]; omega
    have h2 : (ldJ N (j + 1)).length ≤ i := by rw [ldJ_len]; omega
    rw [List.getElem?_eq_none (by simpa using h1), List.getElem?_eq_none h2]
theorem ldJ_ld (N : Nat) : Ld (ldJ N N) id := by
  have hg : ∀ n, n < (ldJ N N).length → (ldJ N N).getD n 0 = n := fun n hn => by
    rw [ldJ_len] at hn
    rw [ldJ_get hn, if_pos hn]
  exact ⟨fun n hn => by rw [hg n hn]; exact hn, fun n hn => by rw [hg n hn], fun n hn => by rw [hg n hn]; exact ⟨fun _ => rfl, fun _ => rfl⟩, fun _ _ => rfl, fun _ h => h, fun _ => rfl, fun _ => 0, 0, fun _ => Nat.le_refl _, fun n hn hne => absurd (hg n hn) hne⟩
set_option maxRecDepth 100000 in
set_option maxHeartbeats 4000000 in
theorem apart_any {w : World} {nv : Value} {ns : List Nd} (hn : Rn w nv ns) (hN : ns.length ≤ 10000) :
    Calls Try.prog 22 #[nv] w fun e w' => ∃ mb lv L, e = .returned (.pointer (some ⟨mb, 0, none⟩)) ∧ Mg w w' mb nv lv ns L ∧ Ld L id := by
  obtain ⟨i0, hi, hz0, hz1, hz2⟩ := info_parts infoI
  have HN := hid hn
  obtain ⟨na, nc, rfl, _⟩ := hn
  go_enter Try.func22, Try.ntmps22
  go_wp2_with (at_make; refine wpList_make_full _ rfl _ _ 23 rfl w.heap.size 3 i0 (.int .i64 0) 1 Try.underlying23 hi hz0 hz1 .i64 .i64 _ _ ns.length rfl rfl rfl rfl (by rw [hz2]; omega) (by unfold maxLen; omega) (Nat.le_refl _) ?_; intro w1 hown1 hgrow1; have hb1 := hid ((Below.refl w.heap.size w).grown hgrow1 (Nat.le_refl _) (fun _ e => by cases e)); have ho1 := hid hown1; have hs1 := (hown1.lt w.heap.size rfl).2; clear hown1 hgrow1)
  have hM0 : Hid (Mg w (w1.alloc (.cells #[.slice na ns.length nc, .slice (some ⟨w.heap.size, 0, none⟩) ns.length ns.length] 86)) w1.heap.size (.slice na ns.length nc) (.slice (some ⟨w.heap.size, 0, none⟩) ns.length ns.length) ns (ldJ ns.length 0)) := by
    refine ⟨HN.out, hb1.out.alloc (by omega) _, heap_alloc_new w1 _, by omega, ?_, ldJ_len _ _⟩
    rw [ldJ_len, ldJ_zero]
    have h9 := World.ownsRow.alloc ho1.out (.cells #[.slice na ns.length nc, .slice (some ⟨w.heap.size, 0, none⟩) ns.length ns.length] 86)
    rw [show (madeCells (Value.int .i64 0).cells (ns.length * 1)).toList = List.replicate ns.length (.int .i64 0) by rw [Nat.mul_one]; simp [Value.cells, toList_madeCells_one]] at h9
    exact h9
  clear ho1 hb1
  go_loopw [4, 13] (fun _ i wr => ∃ j : Nat, j ≤ ns.length ∧ i = .int .i64 (j : Int) ∧ Hid (Mg w wr w1.heap.size (.slice na ns.length nc) (.slice (some ⟨w.heap.size, 0, none⟩) ns.length ns.length) ns (ldJ ns.length j))) (fun _ i _ => ns.length - (intOf i).toNat)
  case atStart => exact ⟨0, Nat.zero_le _, rfl, hM0⟩
  case round =>
    clear hM0
    obtain ⟨j, hj, rfl, hM⟩ := hrel
    by_cases hlt : j < ns.length
    · have hji : (j : Int) < (ns.length : Int) := by omega
      obtain ⟨⟨c0, c1⟩, _⟩ := blk2y hM.out.blk
      have zc := lt_of_block hM.out.blk
      obtain ⟨d0, d1⟩ := hM.out.lcell hlt
      have zd := lt_of_cell d0
      have hne := hM.out.lne (k := w.heap.size) rfl
      have hM2 := hid (hM.out.led j j)
      rw [ldJ_step hlt] at hM2
      clear hM
      go_wp2
      go_roundw
      case rel => exact ⟨j + 1, by omega, by go_num, hM2⟩
      case measure => simp [intOf]; omega
    · obtain rfl : j = ns.length := by omega
      go_wp2
      go_ret
      exact ⟨_, _, _, rfl, hM.out, ldJ_ld _⟩
/-- A pair of numbers as places. -/
def natP (p : Int × Int) : Nat × Nat := (p.1.toNat, p.2.toNat)
set_option maxRecDepth 100000 in
set_option maxHeartbeats 4000000 in
theorem all_any {W0 w : World} {mb : Nat} {nv lv : Value} {ns : List Nd} {L : List Nat} {E0 : Nat → Nat} (h : Mg W0 w mb nv lv ns L) (hE : Ld L E0) (hA : GoodA ns) (hN : ns.length ≤ 10000) (hU : Un ns [] E0 []) {pv : Value} {ps : List (Int × Int)} (hP : Rp W0 pv ps) (hr : ∀ p ∈ ps, (0 ≤ p.1 ∧ p.1 < (ns.length : Int)) ∧ 0 ≤ p.2 ∧ p.2 < (ns.length : Int)) (hl : ps.length ≤ 5000) :
    Calls Try.prog 23 #[.pointer (some ⟨mb, 0, none⟩), pv] w (OneR W0 w mb nv lv ns (ps.map natP)) := by
  have hS : Hid (∃ E, Un ns ((ps.take 0).map natP) E [] ∧ MgL W0 w w mb nv lv ns E) := ⟨E0, hU, L, h, hE, Mo.refl _ _⟩
  have HP := hid hP
  have HA := hid hA
  have HR := hid hr
  obtain ⟨pa, pc, rfl, _⟩ := hP
  clear h hE hU hA hr
  go_enter Try.func23, Try.ntmps23
  go_wp2
  go_loopw [6, 9] (fun _ i wr => ∃ j : Nat, j ≤ ps.length ∧ i = .int .i64 (j : Int) ∧ Hid (∃ E, Un ns ((ps.take j).map natP) E [] ∧ MgL W0 w wr mb nv lv ns E)) (fun _ i _ => ps.length - (intOf i).toNat)
  case atStart => exact ⟨0, Nat.zero_le _, rfl, hS⟩
  case round =>
    clear hS
    obtain ⟨j, hj, rfl, hS⟩ := hrel
    by_cases hlt : j < ps.length
    · have hji : (j : Int) < (ps.length : Int) := by omega
      obtain ⟨E, hU, hL⟩ := hS.out
      obtain ⟨L1, hm1, hl1⟩ := hL.mg
      obtain ⟨pa', pc', e, hpc⟩ := HP.out.below' hm1.bel
      injection e with e1 _ e3
      subst e1 e3
      obtain ⟨b, o, rfl, p0, p1⟩ := hpc j hlt
      have zb := lt_of_cell p0
      have hrj := HR.out (ps.getD j (0, 0)) (by simp [List.getD, hlt])
      have htk : Hid ((ps.take (j + 1)).map natP = (ps.take j).map natP ++ [natP (ps.getD j (0, 0))]) := show _ = _ by
        rw [List.take_add_one, List.map_append]
        simp [List.getD, hlt]
      have hno : Hid (NoSol ns ((ps.take j).map natP ++ [natP (ps.getD j (0, 0))]) → NoSol ns (ps.map natP)) := fun hn => hn.more (fun p hp => by
        rw [← htk.out] at hp
        obtain ⟨q, hq, rfl⟩ := List.mem_map.1 hp
        exact List.mem_map.2 ⟨q, List.mem_of_mem_take hq, rfl⟩)
      generalize ps.getD j (0, 0) = pr at *
      obtain ⟨x, y⟩ := pr
      dsimp only at p0 p1 hrj
      obtain ⟨xn, rfl⟩ : ∃ xn : Nat, x = (xn : Int) := ⟨x.toNat, by omega⟩
      obtain ⟨yn, rfl⟩ : ∃ yn : Nat, y = (yn : Int) := ⟨y.toNat, by omega⟩
      have hone := hid (one_any (hm1.next (below_alloc wr (.cells #[.int .i64 (xn : Int), .int .i64 (yn : Int)] 48))) hl1 HA.out hN hU (i := xn) (j := yn) (by omega) (by omega))
      have hn2 : natP ((xn : Int), (yn : Int)) = (xn, yn) := rfl
      rw [hn2] at htk hno
      have hmo := hid hL.mo
      have hfin : Hid (∀ w', MgL W0 (wr.alloc (.cells #[.int .i64 (xn : Int), .int .i64 (yn : Int)] 48)) w' mb nv lv ns E → True) := fun _ _ => trivial
      clear hU hL hm1 hl1 hS hpc hn2 hfin
      have hlast : Hid (∀ (e : Ending) (w' : World), OneR W0 (wr.alloc (.cells #[.int .i64 (xn : Int), .int .i64 (yn : Int)] 48)) mb nv lv ns ((ps.take j).map natP ++ [(xn, yn)]) e w' → (e = .returned (.bool true) ∧ ∃ E, Un ns ((ps.take (j + 1)).map natP) E [] ∧ MgL W0 w w' mb nv lv ns E) ∨ (e = .returned (.bool false) ∧ OneR W0 w mb nv lv ns (ps.map natP) (.returned (.bool false)) w')) := fun e w' hO => by
        rcases hO with ⟨e1, E', hU', hL'⟩ | ⟨e1, hn, hb, hm⟩
        · exact Or.inl ⟨e1, E', by rw [htk.out]; exact hU', MgL.trans (hmo.out.alloc _) hL'⟩
        · exact Or.inr ⟨e1, Or.inr ⟨rfl, hno.out hn, hb, (hmo.out.alloc _).trans hm (fun _ h => Or.inl h)⟩⟩
      have hsp : Hid (∀ (Q : Ending → World → Prop), (∀ w', (∃ E, Un ns ((ps.take (j + 1)).map natP) E [] ∧ MgL W0 w w' mb nv lv ns E) → Q (.returned (.bool true)) w') → (∀ w', OneR W0 w mb nv lv ns (ps.map natP) (.returned (.bool false)) w' → Q (.returned (.bool false)) w') → Calls Try.prog 38 #[.pointer (some ⟨mb, 0, none⟩), .int .i64 (xn : Int), .int .i64 (yn : Int)] (wr.alloc (.cells #[.int .i64 (xn : Int), .int .i64 (yn : Int)] 48)) Q) := fun Q h1 h2 => hone.out.mono (fun e w' hO => by
        rcases hlast.out e w' hO with ⟨rfl, h⟩ | ⟨rfl, h⟩
        · exact h1 w' h
        · exact h2 w' h)
      go_wp2_with (go_at_call 38; go_must (refine hsp.out _ (fun w2 h2 => ?_) (fun w2 h2 => ?_)))
      · go_wp2
        go_roundw
        case rel => exact ⟨j + 1, by omega, by go_num, h2⟩
        case measure => simp [intOf]; omega
      · go_wp2
        go_ret
        exact h2
    · obtain rfl : j = ps.length := by omega
      have h9 := hid hS.out
      rw [List.take_length] at h9
      go_wp2
      go_ret
      exact Or.inl ⟨rfl, h9.out⟩
end Go.Proofs.Ytllafbghomohhaa
