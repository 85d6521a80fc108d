/- Package unify: places that are no cells' are refused. -/
import Derived.Test.YtlibjdilicfcdaaGreatDoorns49Z
import Derived.Test.YtlibjdilicfcdaaGreatDoorns28Z
import Derived.Test.YtlibjdilicfcdaaGreatDoorns25Z
import Derived.Test.YtlibjdilicfcdaaGreatDoorns35Z
namespace Go.Proofs.YtlibjdilicfcdaaGreatDoor
set_option maxRecDepth 100000
open Go.RowKit Go.Maps
abbrev fltO (c a : Int) (ev : Value) : Obj := .cells #[.int .i64 c, .int .i64 a, .string ⟨#[]⟩, ev] 88
section
variable {W : World} {Bh hb ab tb : Nat} {m : Int} {av : Value} {l : List Int} {htv : Value} {tq : Nat} {ns : List ByteArray} {trv ptv : Value} {n : Int}
set_option maxHeartbeats 2000000 in
theorem get_noE (hH : Hp W Bh hb ab tb m av l htv tq ns trv ptv n) {cv : Value} {cs : List Int} (hC : Ri W cv cs) (hl : cs.length ≤ 5000) {c a : Int} (hbd : badF l cs = [(c, a)]) :
    Calls Tryz.prog 14 #[.pointer (some ⟨hb, 0, none⟩), cv] W fun e w' => (∃ q, e = .returned (.tuple #[.agg #[.slice none 0 0, .slice none 0 0], .iface 84 (.pointer (some ⟨q, 0, none⟩))]) ∧ w'.heap[q]? = some (fltO c a .nilIface)) ∧ Below W.heap.size W w' := by
  have hb0 := below_alloc W gr0
  have hx0 := hid (heap_alloc_new W gr0)
  have hck := hid (checkedC_any (hH.below hb0).ar (hC.below hb0) hl)
  rw [hbd] at hck
  have Hb0 := hid hb0
  obtain ⟨⟨c0, _⟩, c5⟩ := (hH.below hb0).cells
  obtain ⟨ca, cc, rfl, _⟩ := hC
  generalize cs.length = len at *
  clear hH hb0 hbd
  go_enter Tryz.func14, Tryz.ntmps14
  go_wp2_with (first
    | (go_at_call 28; refine (self_some _ _).mono ?_; rintro e w2 ⟨rfl, hw⟩; replace hw := hw.symm; subst hw)
    | (go_at_call 29; refine hck.out.mono ?_; rintro e w1 ⟨⟨ev, rfl, hev⟩, hb1⟩; obtain ⟨_, q, ev2, hq, hqb, hnil⟩ := hev; subst hq; have hnil2 : ev2 = .nilIface := hnil; subst hnil2; have Hq := hid hqb; have Hb1 := hid (Below.next Hb0.out hb1); have HX1 := hid ((hb1.block _ (by simp)).trans hx0.out); obtain ⟨⟨y0, y1⟩, yf0, yf1⟩ := cblk2 HX1.out; clear hqb hnil hb1))
  have hfin := heap_setCell_same _ W.heap.size 1 _ _ (.slice none 0 0) (heap_setCell_same w1 W.heap.size 0 _ _ (.slice none 0 0) HX1.out)
  have hne : q ≠ W.heap.size := obj_ne Hq.out HX1.out (by decide)
  exact bodyPost_ret (ret_grE Tryz.results14 (by rfl) (by rfl) hfin) rfl ⟨⟨q, rfl, (Below.heap_setCell _ _ _ _ hne).trans ((Below.heap_setCell _ _ _ _ hne).trans Hq.out)⟩, (Hb1.out.setCell (p := ⟨W.heap.size, 0, none⟩) (Nat.le_refl _) _).setCell (p := ⟨W.heap.size, 1, none⟩) (Nat.le_refl _) _⟩
end
section
variable {w : World} {B hb : Nat} {m : Int} {F : Nat → Prop} {s : Hst}
theorem bad_two {l : List Int} {a b : Int} (h : ¬ (cellB l a = true ∧ cellB l b = true)) : ∃ i, badF l [a, b] = [(113, i)] := by
  by_cases h0 : 0 ≤ badC l [a, b]
  · exact ⟨_, by unfold badF; rw [if_pos h0]⟩
  · exfalso
    have h1 : badF l [a, b] = [] := by unfold badF; rw [if_neg h0]
    exact h (bad_nil h1)
set_option maxHeartbeats 4000000 in
theorem ustrange_bad (hE : ErrC w) (h : Hs w B hb m F s) {a b : Int} (hbad : ¬ (cellB s.l a = true ∧ cellB s.l b = true)) :
    Calls Tryz.prog 32 #[.pointer (some ⟨hb, 0, none⟩), .int .i64 a, .int .i64 b] w fun e w' => (∃ q i, e = .returned (.pointer (some ⟨q, 0, none⟩)) ∧ w'.heap[q]? = some (fltO 113 i .nilIface)) ∧ Below w.heap.size w w' := by
  obtain ⟨i, hi⟩ := bad_two hbad
  have h1 := hid (fun w1 (hb1 : Below w.heap.size w w1) => (h.below hb1).cell_any a)
  have h2 := hid (fun w1 (hb1 : Below w.heap.size w w1) => (h.below hb1).cell_any b)
  have hget : Hid (∀ w1, Below w.heap.size w w1 → Calls Tryz.prog 14 #[.pointer (some ⟨hb, 0, none⟩), .slice (some ⟨w1.heap.size, 0, none⟩) 2 2] (w1.alloc (.cells #[.int .i64 a, .int .i64 b] 3)) fun e w' => (∃ q, e = .returned (.tuple #[.agg #[.slice none 0 0, .slice none 0 0], .iface 84 (.pointer (some ⟨q, 0, none⟩))]) ∧ w'.heap[q]? = some (fltO 113 i .nilIface)) ∧ Below (w1.alloc (.cells #[.int .i64 a, .int .i64 b] 3)).heap.size (w1.alloc (.cells #[.int .i64 a, .int .i64 b] 3)) w') := fun w1 hb1 => by
    obtain ⟨ab, tb, av, tv, tq, trv, ptv, hq, _⟩ := h.below (Below.next hb1 (below_alloc w1 (.cells #[.int .i64 a, .int .i64 b] 3)))
    exact get_noE hq.hp (ri_lit2 (heap_alloc_new w1 _)) (by simp) hi
  have HE := hid hE
  have hway : cellB s.l a = false ∨ (cellB s.l a = true ∧ cellB s.l b = false) := by
    cases ha : cellB s.l a with
    | false => exact Or.inl rfl
    | true =>
      cases hb' : cellB s.l b with
      | false => exact Or.inr ⟨rfl, rfl⟩
      | true => exact absurd ⟨ha, hb'⟩ hbad
  have hb0 := hid (Below.refl w.heap.size w)
  clear h hE hi hbad
  rcases hway with ha | ⟨ha, hb'⟩
  · rw [ha] at h1
    clear ha h2
    go_enter Tryz.func32, Tryz.ntmps32
    go_wp2_with (first
      | (go_at_call 67; refine (h1.out _ hb0.out).mono ?_; rintro e w2 ⟨rfl, hb2⟩; have Hb2 := hid hb2; clear hb2)
      | (go_at_call 14; refine (hget.out _ Hb2.out).mono ?_; rintro e w3 ⟨⟨q, rfl, hq⟩, hb3⟩; have Hb3 := hid (Below.next (Below.next Hb2.out (below_alloc w2 _)) hb3); have Hq := hid hq; clear hq hb3)
      | (go_at_call 68; refine (asC_new q (w3.alloc (.cells #[.slice none 0 0, .slice none 0 0] 25)) _ (by simp) (HE.out.below (Below.next Hb3.out (below_alloc w3 _)))).mono ?_; rintro e w4 ⟨rfl, hb4, hq4⟩; have Hb4 := hid (Below.next (Below.next Hb3.out (below_alloc w3 _)) hb4); have Hq4 := hid (((Below.next (below_alloc w3 (.cells #[.slice none 0 0, .slice none 0 0] 25)) hb4).block _ (lt_of_block Hq.out)).trans Hq.out); obtain ⟨k0, _⟩ := one_cellC hq4; have zk := lt_of_cell k0; clear hb4 hq4))
    go_ret
    exact ⟨⟨q, i, rfl, Hq4.out⟩, Hb4.out⟩
  · rw [ha] at h1
    rw [hb'] at h2
    clear ha hb'
    have t1 : True := trivial
    go_enter Tryz.func32, Tryz.ntmps32
    go_wp2_with (first
      | (go_at_call 67; have _m := t1; clear t1 _m; refine (h1.out _ hb0.out).mono ?_; rintro e w1 ⟨rfl, hb1⟩; have Hb1 := hid hb1; clear hb1)
      | (go_at_call 67; refine (h2.out _ Hb1.out).mono ?_; rintro e w2 ⟨rfl, hb2⟩; have Hb2 := hid (Below.next Hb1.out hb2); clear hb2)
      | (go_at_call 14; refine (hget.out _ Hb2.out).mono ?_; rintro e w3 ⟨⟨q, rfl, hq⟩, hb3⟩; have Hb3 := hid (Below.next (Below.next Hb2.out (below_alloc w2 _)) hb3); have Hq := hid hq; clear hq hb3)
      | (go_at_call 68; refine (asC_new q (w3.alloc (.cells #[.slice none 0 0, .slice none 0 0] 25)) _ (by simp) (HE.out.below (Below.next Hb3.out (below_alloc w3 _)))).mono ?_; rintro e w4 ⟨rfl, hb4, hq4⟩; have Hb4 := hid (Below.next (Below.next Hb3.out (below_alloc w3 _)) hb4); have Hq4 := hid (((Below.next (below_alloc w3 (.cells #[.slice none 0 0, .slice none 0 0] 25)) hb4).block _ (lt_of_block Hq.out)).trans Hq.out); obtain ⟨k0, _⟩ := one_cellC hq4; have zk := lt_of_cell k0; clear hb4 hq4))
    go_ret
    exact ⟨⟨q, i, rfl, Hq4.out⟩, Hb4.out⟩
set_option maxHeartbeats 800000 in
theorem urefused_any (at_ : Int) (q : Nat) (w : World) :
    Calls Tryz.prog 33 #[.int .i64 at_, .pointer (some ⟨q, 0, none⟩)] w fun e w' => (∃ b, e = .returned (.iface 84 (.pointer (some ⟨b, 0, none⟩))) ∧ w'.heap[b]? = some (fltO 120 at_ (.iface 84 (.pointer (some ⟨q, 0, none⟩))))) ∧ Below w.heap.size w w' := by
  go_enter Tryz.func33, Tryz.ntmps33
  go_wp2
  go_ret
  exact ⟨⟨_, rfl, heap_alloc_new w _⟩, below_alloc w _⟩
set_option maxHeartbeats 4000000 in
theorem unify_bad (hE : ErrC w) (h : Hs w B hb m F s) {a b : Int} (hbad : ¬ (cellB s.l a = true ∧ cellB s.l b = true)) :
    Calls Tryz.prog 12 #[.pointer (some ⟨hb, 0, none⟩), .int .i64 a, .int .i64 b] w fun e w' => (∃ q, e = .returned (.tuple #[.bool false, .iface 84 (.pointer (some ⟨q, 0, none⟩))]) ∧ ∃ i, Er w' (.iface 84 (.pointer (some ⟨q, 0, none⟩))) [(120, i), (113, i)]) ∧ Below w.heap.size w w' := by
  have hst := hid (ustrange_bad hE h hbad)
  clear hE h hbad
  go_enter Tryz.func12, Tryz.ntmps12
  go_wp2_with (first
    | (go_at_call 32; refine hst.out.mono ?_; rintro e w1 ⟨⟨q, i, rfl, hq⟩, hb1⟩; have Hb1 := hid hb1; have Hq := hid hq; obtain ⟨⟨f0, f1, f2, f3⟩, _, fz⟩ := flt_cells hq; clear hb1 hq)
    | (go_at_call 33; refine (urefused_any _ _ _).mono ?_; rintro e w2 ⟨⟨b2, rfl, hx2⟩, hb2⟩; have Hb2 := hid (Below.next Hb1.out hb2); have Hx2 := hid hx2; have Hq2 := hid ((hb2.block _ (lt_of_block Hq.out)).trans Hq.out); clear hx2 hb2))
  go_ret2
  exact ⟨⟨b2, rfl, i, by show (120 : Int) ≠ 0; decide, b2, _, rfl, Hx2.out, by show (113 : Int) ≠ 0; decide, q, _, rfl, Hq2.out, rfl⟩, Hb2.out⟩
end
end Go.Proofs.YtlibjdilicfcdaaGreatDoor
