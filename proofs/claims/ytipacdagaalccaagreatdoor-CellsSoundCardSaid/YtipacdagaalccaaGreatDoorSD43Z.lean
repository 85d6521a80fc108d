/- Package cells: a fault of a lower layer, wrapped. -/
import Derived.Deep.RegionHeld3
import Derived.Test.YtipacdagaalccaaGreatDoorSD41Z
import Derived.Test.YtipacdagaalccaaGreatDoorSD38Z
import Derived.Test.YtipacdagaalccaaGreatDoorSD40Z
import Derived.Test.YtipacdagaalccaaGreatDoorSD27Z
import Derived.Test.YtipacdagaalccaaGreatDoorSD21Z
import Derived.Test.YtipacdagaalccaaGreatDoorSD37Z
import Derived.Test.YtipacdagaalccaaGreatDoorSD11Z
import Derived.Test.YtipacdagaalccaaGreatDoorSD33Z
namespace Go.Proofs.YtipacdagaalccaaGreatDoor
set_option maxRecDepth 100000
open Go.RowKit
def ErrC (w : World) : Prop := w.cell? ⟨0, 0, none⟩ = some (.iface 189 (.agg #[.pointer (some ⟨1, 45, none⟩)]))
theorem ErrC.below {w w' : World} (h : ErrC w) (hb : Below w.heap.size w w') : ErrC w' := (hb.cell (p := ⟨0, 0, none⟩) (lt_of_cell h)).trans h
theorem one_cellC {w : World} {q : Nat} {u : Value} {T : TypeId} (h : w.heap[q]? = some (.cells #[u] T)) : w.cell? ⟨q, 0, none⟩ = some u ∧ w.frozen? ⟨q, 0, none⟩ = false := by
  constructor <;> simp [World.cell?, World.frozen?, h]
theorem asC_new (fb : Nat) (w : World) (n : Nat) (hn : n = w.heap.size) (hG : ErrC w) :
    Calls Tryz.prog 59 #[.iface 116 (.pointer (some ⟨fb, 0, none⟩)), .iface 120 (.pointer (some ⟨n, 0, none⟩))] (w.alloc (.cells #[.pointer none] 116)) fun e w' => e = .returned (.bool true) ∧ Below w.heap.size w w' ∧ w'.heap[n]? = some (.cells #[.pointer (some ⟨fb, 0, none⟩)] 116) := by
  subst hn
  have hG1 : ErrC (w.alloc (.cells #[.pointer none] 116)) := hG.below (below_alloc w _)
  have hq := heap_alloc_new w (.cells #[.pointer none] 116)
  obtain ⟨c0, f0⟩ := one_cellC hq
  refine (as_hit ⟨fb, 0, none⟩ ⟨w.heap.size, 0, none⟩ _ (w.alloc (.cells #[.pointer none] 116)) hG1 c0 f0).mono ?_
  rintro e w' ⟨rfl, rfl⟩
  refine ⟨rfl, ?_, ?_⟩
  · refine Below.setCell ?_ (p := ⟨w.heap.size, 0, none⟩) (Nat.le_refl _) _
    exact ((((((Below.refl _ w).alloc (Nat.le_refl _) _).alloc (by simp) _).alloc (by simp; omega) _).alloc (by simp; omega) _).alloc (by simp; omega) _)
  · exact heap_setCell_same _ w.heap.size 0 _ _ _ ((Below.heap_alloc _ _ _ (by simp; omega)).trans ((Below.heap_alloc _ _ _ (by simp; omega)).trans ((Below.heap_alloc _ _ _ (by simp; omega)).trans ((Below.heap_alloc _ _ _ (by simp)).trans hq))))
theorem flt_cells {w : World} {q : Nat} {u0 u1 u2 u3 : Value} {T : TypeId} (h : w.heap[q]? = some (.cells #[u0, u1, u2, u3] T)) : (w.cell? ⟨q, 0, none⟩ = some u0 ∧ w.cell? ⟨q, 1, none⟩ = some u1 ∧ w.cell? ⟨q, 2, none⟩ = some u2 ∧ w.cell? ⟨q, 3, none⟩ = some u3) ∧ (w.frozen? ⟨q, 0, none⟩ = false ∧ w.frozen? ⟨q, 1, none⟩ = false ∧ w.frozen? ⟨q, 2, none⟩ = false ∧ w.frozen? ⟨q, 3, none⟩ = false) ∧ q < w.heap.size := by
  refine ⟨⟨?_, ?_, ?_, ?_⟩, ⟨?_, ?_, ?_, ?_⟩, lt_of_block h⟩ <;> simp [World.cell?, World.frozen?, h]
set_option maxHeartbeats 4000000 in
theorem wrapped_any (w : World) (hG : ErrC w) (c : Int) (fb : Nat) {c1 a1 : Int} {s1 ev : Value} (hf : w.heap[fb]? = some (.cells #[.int .i64 c1, .int .i64 a1, s1, ev] 118)) :
    Calls Tryz.prog 33 #[.int .i64 c, .iface 116 (.pointer (some ⟨fb, 0, none⟩))] w fun e w' => (∃ b, e = .returned (.iface 116 (.pointer (some ⟨b, 0, none⟩))) ∧ w'.heap[b]? = some (.cells #[.int .i64 c, .int .i64 a1, .string ⟨#[]⟩, .iface 116 (.pointer (some ⟨fb, 0, none⟩))] 118)) ∧ Below w.heap.size w w' := by
  have hb0 := below_alloc w (.cells #[.int .i64 c, .int .i64 (-1), .string ⟨#[]⟩, .nilIface] 118)
  have hx0 := heap_alloc_new w (.cells #[.int .i64 c, .int .i64 (-1), .string ⟨#[]⟩, .nilIface] 118)
  have has := hid (asC_new fb _ (w.heap.size + 1) (by simp) (hG.below hb0))
  have zf := lt_of_block hf
  have HF := hid hf
  have Hb0 := hid hb0
  have HX0 := hid hx0
  clear hb0 hx0 hf
  go_enter Tryz.func33, Tryz.ntmps33
  go_wp2_with (go_at_call 59; refine has.out.mono ?_; rintro e w2 ⟨rfl, hb2, hq2⟩; have Hb2 := hid (Below.next Hb0.out hb2); have HX2 := hid ((hb2.block _ (lt_of_block HX0.out)).trans HX0.out); have HF2 := hid ((Hb2.out.block _ zf).trans HF.out); have HQ2 := hid hq2; obtain ⟨k0, _⟩ := one_cellC hq2; have zk := lt_of_cell k0; obtain ⟨⟨f0, f1, f2, f3⟩, _, fz⟩ := flt_cells HF2.out; obtain ⟨⟨x0, x1, x2, x3⟩, ⟨y0, y1, y2, y3⟩, xz⟩ := flt_cells HX2.out; clear hb2 hq2)
  have ne1 : fb ≠ w.heap.size := by omega
  have ne2 : w.heap.size ≠ w.heap.size + 1 := by omega
  have hE := heap_setCell_same _ w.heap.size 3 _ _ (.iface 116 (.pointer (some ⟨fb, 0, none⟩))) (heap_setCell_same w2 w.heap.size 1 _ _ (.int .i64 a1) HX2.out)
  have hE' := heap_setCell_same _ w.heap.size 1 _ _ (.int .i64 a1) (heap_setCell_same w2 w.heap.size 3 _ _ (.iface 116 (.pointer (some ⟨fb, 0, none⟩))) HX2.out)
  have e1 : (if fb = w.heap.size then 1 else 0) = (0:Nat) := by simp [ne1]
  have ne3 : w.heap.size + 1 ≠ w.heap.size := by omega
  go_region
  go_wp2
  go_ret
  exact ⟨⟨_, rfl, hE⟩, ((Hb2.out.setCell (p := ⟨w.heap.size, 1, none⟩) (Nat.le_refl _) _).setCell (p := ⟨w.heap.size, 3, none⟩) (Nat.le_refl _) _).drew⟩
end Go.Proofs.YtipacdagaalccaaGreatDoor

namespace Go.Proofs.YtipacdagaalccaaGreatDoor
set_option maxRecDepth 100000
open Go.RowKit
theorem er_block {w : World} {b : Nat} {fs : Fs} (h : Er w (.iface 116 (.pointer (some ⟨b, 0, none⟩))) fs) : ∃ c a ev, w.heap[b]? = some (.cells #[.int .i64 c, .int .i64 a, .string ⟨#[]⟩, ev] 118) := by
  cases fs with
  | nil => simp [Er] at h
  | cons x r =>
    obtain ⟨_, b', ev, he, hb, _⟩ := h
    injection he with _ he
    injection he with he
    injection he with he
    injection he with he
    subst he
    exact ⟨x.1, x.2, ev, hb⟩
set_option maxHeartbeats 4000000 in
theorem hput_bad (hb : Nat) {W : World} (hE : ErrC W) {nv rv : Value} {g : Gf} (hG : Gr W nv rv g) (hS : Sized g) (hck : one (chk g) ≠ []) :
    Calls Tryz.prog 13 #[.pointer (some ⟨hb, 0, none⟩), .agg #[nv, rv]] W fun e w' => (∃ b, e = .returned (.tuple #[.slice none 0 0, .iface 116 (.pointer (some ⟨b, 0, none⟩))])) ∧ Below W.heap.size W w' := by
  have hb0 := below_alloc W (.cells #[nv, rv] 30)
  have hre := hid (reach_bad (hG.below hb0) hS hck)
  have hwr := hid (fun w1 (hb : Below W.heap.size W w1) (c : Int) (fb : Nat) (c1 a1 : Int) (s1 ev : Value) h => wrapped_any w1 (hE.below hb) c fb (c1 := c1) (a1 := a1) (s1 := s1) (ev := ev) h)
  have Hb0 := hid hb0
  clear hb0 hS hck hG hE
  go_enter Tryz.func13, Tryz.ntmps13
  go_wp2_with (go_at_call 36; refine hre.out.mono ?_; rintro e w1 ⟨⟨b, rfl, he⟩, hb1⟩; have Hb1 := hid (Below.next Hb0.out hb1); have He := hid (er_block he); clear he hb1)
  obtain ⟨c1, a1, ev, hf⟩ := He.out
  have Hf := hid hf
  clear hf He
  go_wp2_with (go_at_call 33; refine (hwr.out _ Hb1.out _ _ _ _ _ _ Hf.out).mono ?_; rintro e w2 ⟨⟨b2, rfl, _⟩, hb2⟩; have Hb2 := hid (Below.next Hb1.out hb2); clear hb2)
  go_ret2
  exact ⟨⟨b2, rfl⟩, Hb2.out⟩
end Go.Proofs.YtipacdagaalccaaGreatDoor

namespace Go.Proofs.YtipacdagaalccaaGreatDoor
set_option maxRecDepth 100000
open Go.RowKit
theorem nodup_vals (f : Nat → Int) : ∀ (n : Nat) (L : List Int), L.Nodup → (∀ x ∈ L, ∃ k, k < n ∧ x = f k) → L.length ≤ n
  | 0, L, _, h => by
    cases L with
    | nil => exact Nat.le_refl _
    | cons x r =>
      obtain ⟨k, hk, _⟩ := h x (by simp)
      omega
  | n + 1, L, hn, h => by
    have h1 := nodup_vals f n (L.erase (f n)) (hn.erase _) (fun x hx => by
      have hx2 := (List.Nodup.mem_erase_iff hn).1 hx
      obtain ⟨k, hk, e⟩ := h x hx2.2
      refine ⟨k, ?_, e⟩
      rcases Nat.lt_or_ge k n with h3 | h3
      · exact h3
      · have e2 : k = n := by omega
        subst e2
        exact absurd e hx2.1)
    have h2 := List.length_erase (a := f n) (l := L)
    split at h2 <;> omega
theorem rfi_len {l cs TS : List Int} (h : Rfi l cs TS) : TS.length ≤ l.length := by
  refine nodup_vals (fun k => trmW l k) l.length TS h.nodup (fun x hx => ?_)
  obtain ⟨k, hk, e⟩ := h.inT x hx
  exact ⟨k, hk, e⟩
section
variable {W : World} {Bh hb ab tb : Nat} {m : Int} {av : Value} {l : List Int} {htv : Value} {tq : Nat} {ns : List ByteArray} {trv ptv : Value} {n : Int} {V : Nat → Bool}
set_option maxHeartbeats 4000000 in
theorem get_no (hH : Hp W Bh hb ab tb m av l htv tq ns trv ptv n) {cv : Value} {cs : List Int} (hC : Ri W cv cs) (hl : cs.length ≤ 5000) (hbd : badF l cs ≠ []) :
    Calls Tryz.prog 17 #[.pointer (some ⟨hb, 0, none⟩), cv] W fun e w' => (∃ q, e = .returned (.tuple #[.agg #[.slice none 0 0, .slice none 0 0], .iface 116 (.pointer (some ⟨q, 0, none⟩))])) ∧ Below W.heap.size W w' := by
  have hb0 := below_alloc W gr0
  have hx0 := hid (heap_alloc_new W gr0)
  have hck := hid (checkedC_any (hH.below hb0).ar (hC.below hb0) hl)
  have Hb0 := hid hb0
  obtain ⟨⟨c0, _⟩, c5⟩ := (hH.below hb0).cells
  obtain ⟨ca, cc, rfl, _⟩ := hC
  generalize badF l cs = fs at *
  generalize cs.length = len at *
  clear hH hb0
  go_enter Tryz.func17, Tryz.ntmps17
  go_wp2_with (first
    | (go_at_call 24; refine (self_some _ _).mono ?_; rintro e w2 ⟨rfl, hw⟩; replace hw := hw.symm; subst hw)
    | (go_at_call 41; refine hck.out.mono ?_; rintro e w1 ⟨⟨ev, rfl, hev⟩, hb1⟩; obtain ⟨q, hq⟩ := er_ptr hev hbd; subst hq; have Hb1 := hid (Below.next Hb0.out hb1); have HX1 := hid ((hb1.block _ (by simp)).trans hx0.out); obtain ⟨⟨y0, y1⟩, yf0, yf1⟩ := cblk2 HX1.out; clear hev hb1))
  have hfin := heap_setCell_same _ W.heap.size 1 _ _ (.slice none 0 0) (heap_setCell_same w1 W.heap.size 0 _ _ (.slice none 0 0) HX1.out)
  exact bodyPost_ret (ret_grE Tryz.results17 (by rfl) (by rfl) hfin) rfl ⟨⟨q, rfl⟩, (Hb1.out.setCell (p := ⟨W.heap.size, 0, none⟩) (Nat.le_refl _) _).setCell (p := ⟨W.heap.size, 1, none⟩) (Nat.le_refl _) _⟩
theorem bad_all {l cs : List Int} (h : badF l cs = []) : ∀ x ∈ cs, cellB l x = true := fun x hx => by
  have h1 := ixOf_any (fun x => !cellB l x) cs
  have h2 : ¬ (0 ≤ ixOf (fun x => !cellB l x) cs) := fun h3 => by
    unfold badF badC at h
    rw [if_pos h3] at h
    cases h
  rw [decide_eq_false h2] at h1
  have h3 := List.any_eq_false.1 h1.symm x hx
  simpa using h3
theorem get_any (hH : Hp W Bh hb ab tb m av l htv tq ns trv ptv n) (hs : Snd l V) (hn : NsB l ns.length) (hll : l.length ≤ 4096) {cv : Value} {cs : List Int} (hC : Ri W cv cs) (hl : cs.length ≤ 4096) :
    Calls Tryz.prog 17 #[.pointer (some ⟨hb, 0, none⟩), cv] W fun e w' => (∃ ev, e = .returned ev) ∧ Below W.heap.size W w' := by
  by_cases hbd : badF l cs = []
  · exact (get_ok hH hs hn hC (bad_all hbd) hl (fun TS h => Nat.le_trans (rfi_len h) hll)).mono fun e w' ⟨⟨_, _, _, _, _, e1, _⟩, e2⟩ => ⟨⟨_, e1⟩, e2⟩
  · exact (get_no hH hC (by omega) hbd).mono fun e w' ⟨⟨_, e1⟩, e2⟩ => ⟨⟨_, e1⟩, e2⟩
theorem look_any (hH : Hp W Bh hb ab tb m av l htv tq ns trv ptv n) (hs : Snd l V) (hn : NsB l ns.length) (x : Int) :
    Calls Tryz.prog 16 #[.pointer (some ⟨hb, 0, none⟩), .int .i64 x] W fun e w' => (∃ ev, e = .returned ev) ∧ Below W.heap.size W w' := by
  cases hc : cellB l x with
  | false => exact (look_no hH x hc).mono fun e w' ⟨⟨_, e1, _⟩, e2⟩ => ⟨⟨_, e1⟩, e2⟩
  | true =>
    have h1 := hc
    unfold cellB at h1
    simp only [Bool.and_eq_true] at h1
    have h2 : 0 ≤ x ∧ x < (l.length : Int) := by simpa [inB] using h1.1.1
    obtain ⟨k, rfl⟩ : ∃ k : Nat, x = (k : Int) := ⟨x.toNat, by omega⟩
    exact (look_ok hH hs hn k hc (by omega)).mono fun e w' ⟨⟨_, _, e1, _⟩, e2⟩ => ⟨⟨_, e1⟩, e2⟩
end
end Go.Proofs.YtipacdagaalccaaGreatDoor

namespace Go.Proofs.YtipacdagaalccaaGreatDoor
set_option maxRecDepth 100000
open Go.RowKit
section
variable {W : World} {Bh hb ab tb : Nat} {m : Int} {av : Value} {l : List Int} {htv : Value} {tq : Nat} {ns : List ByteArray} {trv ptv : Value} {n : Int} {V : Nat → Bool}
set_option maxHeartbeats 2000000 in
theorem hreach_no (hH : Hp W Bh hb ab tb m av l htv tq ns trv ptv n) {cv : Value} {cs : List Int} (hC : Ri W cv cs) (hl : cs.length ≤ 5000) (hbd : badF l cs ≠ []) :
    Calls Tryz.prog 23 #[.pointer (some ⟨hb, 0, none⟩), cv] W fun e w' => (∃ q, e = .returned (.tuple #[.int .i64 0, .iface 116 (.pointer (some ⟨q, 0, none⟩))]) ∧ Er w' (.iface 116 (.pointer (some ⟨q, 0, none⟩))) (badF l cs)) ∧ Below W.heap.size W w' := by
  have hck := hid (checkedC_any hH.ar hC hl)
  obtain ⟨⟨c0, _⟩, c5⟩ := hH.cells
  obtain ⟨ca, cc, rfl, _⟩ := hC
  generalize badF l cs = fs at *
  generalize cs.length = len at *
  clear hH
  go_enter Tryz.func23, Tryz.ntmps23
  go_wp2_with (first
    | (go_at_call 24; refine (self_some _ _).mono ?_; rintro e w2 ⟨rfl, hw⟩; replace hw := hw.symm; subst hw)
    | (go_at_call 41; refine hck.out.mono ?_; rintro e w1 ⟨⟨ev, rfl, hev⟩, hb1⟩; obtain ⟨q, hq⟩ := er_ptr hev hbd; subst hq; have Hb1 := hid hb1; have HE := hid hev; clear hev hb1))
  go_ret2
  exact ⟨⟨q, rfl, HE.out⟩, Hb1.out⟩
set_option maxHeartbeats 2000000 in
theorem hreach_ok (hH : Hp W Bh hb ab tb m av l htv tq ns trv ptv n) (hs : Snd l V) (hll : l.length ≤ 5000) {cv : Value} {cs : List Int} (hC : Ri W cv cs) (hl : cs.length ≤ 5000) (hbd : badF l cs = []) :
    Calls Tryz.prog 23 #[.pointer (some ⟨hb, 0, none⟩), cv] W fun e w' => (∃ M, e = .returned (.tuple #[.int .i64 (M.length : Int), .nilIface]) ∧ RcS l cs M) ∧ Below W.heap.size W w' := by
  have hck := hid (checkedC_any hH.ar hC hl)
  rw [hbd] at hck
  have hrg : ∀ x ∈ cs, 0 ≤ x ∧ x < (l.length : Int) := fun x hx => by
    obtain ⟨k, rfl, hk⟩ := cell_nat (bad_all hbd x hx)
    omega
  obtain ⟨⟨c0, _⟩, c5⟩ := hH.cells
  have HH := hid hH
  obtain ⟨ca, cc, rfl, hc9⟩ := hC
  have hC' : Ri W (.slice ca cs.length cc) cs := ⟨ca, cc, rfl, hc9⟩
  have hrc := hid (fun w1 (hb1 : Below W.heap.size W w1) => reachable_any (hH.below hb1).ar hs hll (hC'.below hb1) hrg hl)
  clear hH hs hc9 hC' hrg hbd
  go_enter Tryz.func23, Tryz.ntmps23
  go_wp2_with (first
    | (go_at_call 24; refine (self_some _ _).mono ?_; rintro e w2 ⟨rfl, hw⟩; replace hw := hw.symm; subst hw)
    | (go_at_call 41; refine hck.out.mono ?_; rintro e w1 ⟨⟨ev, rfl, hev⟩, hb1⟩; have hev1 : ev = .nilIface := hev; subst hev1; have Hb1 := hid hb1; clear c0 c5 hev; obtain ⟨⟨c0, _⟩, c5⟩ := (HH.out.below hb1).cells; clear hb1)
    | (go_at_call 55; refine (hrc.out _ Hb1.out).mono ?_; rintro e w3 ⟨⟨M, rfl, hM⟩, hb3⟩; have HM := hid hM; have Hb3 := hid (Below.next Hb1.out hb3); clear hM hb3))
  go_ret2
  exact ⟨⟨M, rfl, HM.out⟩, Hb3.out⟩
theorem hreach_any (hH : Hp W Bh hb ab tb m av l htv tq ns trv ptv n) (hs : Snd l V) (hll : l.length ≤ 5000) {cv : Value} {cs : List Int} (hC : Ri W cv cs) (hl : cs.length ≤ 5000) :
    Calls Tryz.prog 23 #[.pointer (some ⟨hb, 0, none⟩), cv] W fun e w' => (∃ ev, e = .returned ev) ∧ Below W.heap.size W w' := by
  by_cases hbd : badF l cs = []
  · exact (hreach_ok hH hs hll hC hl hbd).mono fun e w' ⟨⟨_, e1, _⟩, e2⟩ => ⟨⟨_, e1⟩, e2⟩
  · exact (hreach_no hH hC hl hbd).mono fun e w' ⟨⟨_, e1, _⟩, e2⟩ => ⟨⟨_, e1⟩, e2⟩
end
end Go.Proofs.YtipacdagaalccaaGreatDoor

namespace Go.Proofs.YtipacdagaalccaaGreatDoor
set_option maxRecDepth 100000
open Go.RowKit Go.Shelf
attribute [local go_sem] Oper.semAt_some
abbrev dmpO (a b c d e : Value) : Obj := .cells #[a, b, c, d, e] 40
abbrev dmp0 : Obj := dmpO (.slice none 0 0) (.slice none 0 0) (.slice none 0 0) (.slice none 0 0) (.slice none 0 0)
abbrev setD (w : World) (q : Nat) (a b c d e : Value) : World := ((((w.setCell ⟨q, 0, none⟩ a).setCell ⟨q, 1, none⟩ b).setCell ⟨q, 2, none⟩ c).setCell ⟨q, 3, none⟩ d).setCell ⟨q, 4, none⟩ e
theorem setD_at {w : World} {q : Nat} {u0 u1 u2 u3 u4 : Value} {T : TypeId} (h : w.heap[q]? = some (.cells #[u0, u1, u2, u3, u4] T)) (a b c d e : Value) : (setD w q a b c d e).heap[q]? = some (.cells #[a, b, c, d, e] T) :=
  heap_setCell_same _ q 4 _ _ e (heap_setCell_same _ q 3 _ _ d (heap_setCell_same _ q 2 _ _ c (heap_setCell_same _ q 1 _ _ b (heap_setCell_same w q 0 _ _ a h))))
theorem setD_far (w : World) {q k : Nat} (a b c d e : Value) (h : k ≠ q) : (setD w q a b c d e).heap[k]? = w.heap[k]? := by
  rw [Below.heap_setCell _ _ _ _ h, Below.heap_setCell _ _ _ _ h, Below.heap_setCell _ _ _ _ h, Below.heap_setCell _ _ _ _ h, Below.heap_setCell _ _ _ _ h]
theorem setD_below {W w : World} {n q : Nat} (hb : Below n W w) (hq : n ≤ q) (a b c d e : Value) : Below n W (setD w q a b c d e) := ((((hb.setCell (p := ⟨q, 0, none⟩) hq _).setCell (p := ⟨q, 1, none⟩) hq _).setCell (p := ⟨q, 2, none⟩) hq _).setCell (p := ⟨q, 3, none⟩) hq _).setCell (p := ⟨q, 4, none⟩) hq _
theorem ret_dmp {w : World} {fn : Func} {t : Tmp} (hfn : fn.results = #[.cell t 40]) {tmps : Array Value} {q : Nat} {u0 u1 u2 u3 u4 : Value} (h4 : tmps[t]?.getD undef = .pointer (some ⟨q, 0, none⟩)) (hq : w.heap[q]? = some (.cells #[u0, u1, u2, u3, u4] 40)) : (results fn tmps).run Tryz.prog w = .ok (.agg #[u0, u1, u2, u3, u4]) w := by
  obtain ⟨⟨z0, z1, z2, z3, z4⟩, _⟩ := cel_cells hq
  simp [results, hfn, go_sem, h4, z0, z1, z2, z3, z4]
structure Dk (w : World) (hb : Nat) (O : Obj) (W : World) : Prop where
  b : Below w.heap.size w W
  x : W.heap[w.heap.size]? = some dmp0
  n : W.heap[hb]? = some O
theorem Dk.next {w W W' : World} {hb : Nat} {O : Obj} (h : Dk w hb O W) (hb' : Below W.heap.size W W') : Dk w hb O W' := ⟨Below.next h.b hb', (hb'.block _ (lt_of_block h.x)).trans h.x, (hb'.block _ (lt_of_block h.n)).trans h.n⟩
theorem Dk.drew {w W : World} {hb : Nat} {O : Obj} (h : Dk w hb O W) : Dk w hb O W.drew := h.next (Below.refl _ W).drew
abbrev hpO (ap tp : Option Addr) (trv ptv : Value) (n : Int) : Obj := .cells #[.pointer ap, .pointer tp, trv, ptv, .int .i64 n] 70
theorem Dk.cells {w W : World} {hb : Nat} {ap tp : Option Addr} {trv ptv : Value} {n : Int} (h : Dk w hb (hpO ap tp trv ptv n) W) : W.cell? ⟨hb, 0, none⟩ = some (.pointer ap) ∧ W.cell? ⟨hb, 1, none⟩ = some (.pointer tp) ∧ W.cell? ⟨hb, 2, none⟩ = some trv ∧ W.cell? ⟨hb, 3, none⟩ = some ptv ∧ hb < W.heap.size := by
  obtain ⟨⟨c0, c1, c2, c3, _⟩, _, c5⟩ := cel_cells h.n
  exact ⟨c0, c1, c2, c3, c5⟩
theorem row_below {A A' : World} {B z : Nat} {e : TypeId} {v : Value} {n : Nat} {xs : List Value} (h : A.ownsRow B e z v n xs) (hb : Below A.heap.size A A') : A'.ownsRow B e z v n xs := row_keep h (fun k hk => hb.block k (h.lt k hk).2)
structure Dr (B : Nat) (v1 : Value) (k1 : Nat) (xs1 : List Value) (v2 : Value) (k2 : Nat) (xs2 : List Value) (v3 : Value) (k3 : Nat) (xs3 : List Value) (W : World) : Prop where
  r1 : W.ownsRow B 73 1 v1 k1 xs1
  r2 : W.ownsRow B 75 2 v2 k2 xs2
  r3 : W.ownsRow B 78 3 v3 k3 xs3
theorem Dr.keep {B : Nat} {v1 v2 v3 : Value} {k1 k2 k3 : Nat} {xs1 xs2 xs3 : List Value} {A A' : World} (h : Dr B v1 k1 xs1 v2 k2 xs2 v3 k3 xs3 A) (hk : ∀ (k : Nat) (o : Obj), A.heap[k]? = some o → (∀ (cs : Array Value) (x : Nat × Nat), o ≠ .cells cs 40 x) → o.isCells = true → A'.heap[k]? = some o) : Dr B v1 k1 xs1 v2 k2 xs2 v3 k3 xs3 A' := by
  have key : ∀ {z : Nat} {e : TypeId} {v : Value} {n : Nat} {xs : List Value}, A.ownsRow B e z v n xs → e ≠ 40 → A'.ownsRow B e z v n xs := fun {z e v n xs} hr hne => row_keep hr (fun k hk' => by
    obtain ⟨cur, hc⟩ := row_obj hr hk'
    rw [hc]
    exact hk k _ hc (fun cs x e' => by injection e' with _ e'; exact hne e') rfl)
  exact ⟨key h.r1 (by decide), key h.r2 (by decide), key h.r3 (by decide)⟩
structure Dc (w : World) (hb : Nat) (O : Obj) (k1 : Nat) (xs1 : List Value) (k2 : Nat) (xs2 : List Value) (k3 : Nat) (xs3 : List Value) (t3 : Nat) (W : World) : Prop where
  d : Dk w hb O W
  lt : w.heap.size < t3
  r : ∃ a1 c1 a2 c2 a3 c3, W.heap[t3]? = some (dmpO (.slice a1 k1 c1) (.slice a2 k2 c2) (.slice a3 k3 c3) (.slice none 0 0) (.slice none 0 0)) ∧ Dr w.heap.size (.slice a1 k1 c1) k1 xs1 (.slice a2 k2 c2) k2 xs2 (.slice a3 k3 c3) k3 xs3 W
theorem Dc.late {w : World} {hb : Nat} {O : Obj} {k1 k2 k3 : Nat} {xs1 xs2 xs3 : List Value} {W : World} {a1 a2 a3 : Option Addr} {c1 c2 c3 : Nat} (h : Dk w hb O W) (hz : w.heap.size < W.heap.size) (r1 : W.ownsRow w.heap.size 73 1 (.slice a1 k1 c1) k1 xs1) (r2 : W.ownsRow w.heap.size 75 2 (.slice a2 k2 c2) k2 xs2) (r3 : W.ownsRow w.heap.size 78 3 (.slice a3 k3 c3) k3 xs3) : Dc w hb O k1 xs1 k2 xs2 k3 xs3 W.heap.size (W.alloc (dmpO (.slice a1 k1 c1) (.slice a2 k2 c2) (.slice a3 k3 c3) (.slice none 0 0) (.slice none 0 0))) :=
  ⟨h.next (below_alloc W _), hz, a1, c1, a2, c2, a3, c3, heap_alloc_new W _, row_below r1 (below_alloc W _), row_below r2 (below_alloc W _), row_below r3 (below_alloc W _)⟩
theorem Dc.early {w : World} {hb t3 : Nat} {O : Obj} {k1 k2 k3 : Nat} {xs1 xs2 xs3 : List Value} {W : World} {a1 a2 a3 : Option Addr} {c1 c2 c3 : Nat} (h : Dk w hb O W) (hO : ∀ (cs : Array Value) (x : Nat × Nat), O ≠ .cells cs 40 x) (hz : w.heap.size < t3) (ht : W.heap[t3]? = some dmp0) (r1 : W.ownsRow w.heap.size 73 1 (.slice a1 k1 c1) k1 xs1) (r2 : W.ownsRow w.heap.size 75 2 (.slice a2 k2 c2) k2 xs2) (r3 : W.ownsRow w.heap.size 78 3 (.slice a3 k3 c3) k3 xs3) : Dc w hb O k1 xs1 k2 xs2 k3 xs3 t3 (setD W t3 (.slice a1 k1 c1) (.slice a2 k2 c2) (.slice a3 k3 c3) (.slice none 0 0) (.slice none 0 0)) := by
  have hne : hb ≠ t3 := fun e => by
    subst e
    rw [h.n] at ht
    exact hO _ _ (Option.some.inj ht)
  have hfar : ∀ k, k ≠ t3 → (setD W t3 (.slice a1 k1 c1) (.slice a2 k2 c2) (.slice a3 k3 c3) (.slice none 0 0) (.slice none 0 0)).heap[k]? = W.heap[k]? := fun k hk => setD_far W _ _ _ _ _ hk
  refine ⟨⟨setD_below h.b (by omega) _ _ _ _ _, (hfar _ (by omega)).trans h.x, (hfar _ hne).trans h.n⟩, hz, a1, c1, a2, c2, a3, c3, setD_at ht _ _ _ _ _, Dr.keep ⟨r1, r2, r3⟩ (fun k o hk hno _ => (hfar k (fun e => by subst e; rw [ht] at hk; exact hno _ _ (Option.some.inj hk).symm)).trans hk)⟩
structure Dl (w : World) (k1 : Nat) (xs1 : List Value) (k2 : Nat) (xs2 : List Value) (k3 : Nat) (xs3 : List Value) (t3 : Nat) (pre : List (Nat × ByteArray)) (W : World) : Prop where
  b : Below w.heap.size w W
  x : W.heap[w.heap.size]? = some dmp0
  lt : w.heap.size < t3
  r : ∃ a1 c1 a2 c2 a3 c3 ua uc, W.heap[t3]? = some (dmpO (.slice a1 k1 c1) (.slice a2 k2 c2) (.slice a3 k3 c3) (.slice ua pre.length uc) (.slice none 0 0)) ∧ Dr w.heap.size (.slice a1 k1 c1) k1 xs1 (.slice a2 k2 c2) k2 xs2 (.slice a3 k3 c3) k3 xs3 W ∧ W.ownsRow w.heap.size 9 1 (.slice ua pre.length uc) pre.length (pre.map fun x => Value.string x.2)
theorem Dl.nb {w W W' : World} {k1 k2 k3 t3 B : Nat} {xs1 xs2 xs3 : List Value} {pre : List (Nat × ByteArray)} (h : Dl w k1 xs1 k2 xs2 k3 xs3 t3 pre W) (hn : Nb B W W') (hB : w.heap.size ≤ B) : Dl w k1 xs1 k2 xs2 k3 xs3 t3 pre W' := by
  obtain ⟨a1, c1, a2, c2, a3, c3, ua, uc, h1, h2, h3⟩ := h.r
  refine ⟨hn.below h.b hB (Nat.le_refl _), hn.block _ _ h.x (Or.inr rfl), h.lt, a1, c1, a2, c2, a3, c3, ua, uc, hn.block _ _ h1 (Or.inr rfl), h2.keep (fun k o hk _ ho => hn.block k o hk (Or.inr ho)), row_keep h3 (fun k hk => ?_)⟩
  obtain ⟨cur, hc⟩ := row_obj h3 hk
  rw [hc]
  exact hn.block k _ hc (Or.inr rfl)
end Go.Proofs.YtipacdagaalccaaGreatDoor
