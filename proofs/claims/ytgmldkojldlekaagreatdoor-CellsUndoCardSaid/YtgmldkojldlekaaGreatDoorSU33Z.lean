/- Package cells: Dump of a nil heap. -/
import Derived.Deep.RegionHeld3
import Derived.Test.YtgmldkojldlekaaGreatDoorSU06Z
import Derived.Test.YtgmldkojldlekaaGreatDoorSU32Z
import Derived.Test.YtgmldkojldlekaaGreatDoorSU12Z
import Derived.Test.YtgmldkojldlekaaGreatDoorSU31Z
import Derived.Test.YtgmldkojldlekaaGreatDoorSU20Z
namespace Go.Proofs.YtgmldkojldlekaaGreatDoor
open Go.RowKit Go.Shelf
attribute [local go_sem] Oper.semAt_some
abbrev dmpO (a b c d e : Value) : Obj := .cells #[a, b, c, d, e] 44
abbrev dmp0 : Obj := dmpO (.slice none 0 0) (.slice none 0 0) (.slice none 0 0) (.slice none 0 0) (.slice none 0 0)
abbrev setD (w : World) (q : Nat) (a b c d e : Value) : World := ((((w.setCell ⟨q, 0, none⟩ a).setCell ⟨q, 1, none⟩ b).setCell ⟨q, 2, none⟩ c).setCell ⟨q, 3, none⟩ d).setCell ⟨q, 4, none⟩ e
theorem setD_at {w : World} {q : Nat} {u0 u1 u2 u3 u4 : Value} {T : TypeId} (h : w.heap[q]? = some (.cells #[u0, u1, u2, u3, u4] T)) (a b c d e : Value) : (setD w q a b c d e).heap[q]? = some (.cells #[a, b, c, d, e] T) :=
  heap_setCell_same _ q 4 _ _ e (heap_setCell_same _ q 3 _ _ d (heap_setCell_same _ q 2 _ _ c (heap_setCell_same _ q 1 _ _ b (heap_setCell_same w q 0 _ _ a h))))
theorem setD_far (w : World) {q k : Nat} (a b c d e : Value) (h : k ≠ q) : (setD w q a b c d e).heap[k]? = w.heap[k]? := by
  rw [Below.heap_setCell _ _ _ _ h, Below.heap_setCell _ _ _ _ h, Below.heap_setCell _ _ _ _ h, Below.heap_setCell _ _ _ _ h, Below.heap_setCell _ _ _ _ h]
theorem setD_below {W w : World} {n q : Nat} (hb : Below n W w) (hq : n ≤ q) (a b c d e : Value) : Below n W (setD w q a b c d e) := ((((hb.setCell (p := ⟨q, 0, none⟩) hq _).setCell (p := ⟨q, 1, none⟩) hq _).setCell (p := ⟨q, 2, none⟩) hq _).setCell (p := ⟨q, 3, none⟩) hq _).setCell (p := ⟨q, 4, none⟩) hq _
theorem ret_dmp {w : World} {fn : Func} {t : Tmp} (hfn : fn.results = #[.cell t 44]) {tmps : Array Value} {q : Nat} {u0 u1 u2 u3 u4 : Value} (h4 : tmps[t]?.getD undef = .pointer (some ⟨q, 0, none⟩)) (hq : w.heap[q]? = some (.cells #[u0, u1, u2, u3, u4] 44)) : (results fn tmps).run Tryz.prog w = .ok (.agg #[u0, u1, u2, u3, u4]) w := by
  obtain ⟨⟨z0, z1, z2, z3, z4⟩, _⟩ := cel_cells hq
  simp [results, hfn, go_sem, h4, z0, z1, z2, z3, z4]
structure Dk (w : World) (hb : Nat) (O : Obj) (W : World) : Prop where
  b : Below w.heap.size w W
  x : W.heap[w.heap.size]? = some dmp0
  n : W.heap[hb]? = some O
theorem Dk.next {w W W' : World} {hb : Nat} {O : Obj} (h : Dk w hb O W) (hb' : Below W.heap.size W W') : Dk w hb O W' := ⟨Below.next h.b hb', (hb'.block _ (lt_of_block h.x)).trans h.x, (hb'.block _ (lt_of_block h.n)).trans h.n⟩
theorem Dk.drew {w W : World} {hb : Nat} {O : Obj} (h : Dk w hb O W) : Dk w hb O W.drew := h.next (Below.refl _ W).drew
abbrev hpO (ap tp : Option Addr) (trv ptv : Value) (n : Int) : Obj := .cells #[.pointer ap, .pointer tp, trv, ptv, .int .i64 n] 83
theorem Dk.cells {w W : World} {hb : Nat} {ap tp : Option Addr} {trv ptv : Value} {n : Int} (h : Dk w hb (hpO ap tp trv ptv n) W) : W.cell? ⟨hb, 0, none⟩ = some (.pointer ap) ∧ W.cell? ⟨hb, 1, none⟩ = some (.pointer tp) ∧ W.cell? ⟨hb, 2, none⟩ = some trv ∧ W.cell? ⟨hb, 3, none⟩ = some ptv ∧ hb < W.heap.size := by
  obtain ⟨⟨c0, c1, c2, c3, _⟩, _, c5⟩ := cel_cells h.n
  exact ⟨c0, c1, c2, c3, c5⟩
theorem row_below {A A' : World} {B z : Nat} {e : TypeId} {v : Value} {n : Nat} {xs : List Value} (h : A.ownsRow B e z v n xs) (hb : Below A.heap.size A A') : A'.ownsRow B e z v n xs := row_keep h (fun k hk => hb.block k (h.lt k hk).2)
structure Dr (B : Nat) (v1 : Value) (k1 : Nat) (xs1 : List Value) (v2 : Value) (k2 : Nat) (xs2 : List Value) (v3 : Value) (k3 : Nat) (xs3 : List Value) (W : World) : Prop where
  r1 : W.ownsRow B 88 1 v1 k1 xs1
  r2 : W.ownsRow B 90 2 v2 k2 xs2
  r3 : W.ownsRow B 85 3 v3 k3 xs3
theorem Dr.keep {B : Nat} {v1 v2 v3 : Value} {k1 k2 k3 : Nat} {xs1 xs2 xs3 : List Value} {A A' : World} (h : Dr B v1 k1 xs1 v2 k2 xs2 v3 k3 xs3 A) (hk : ∀ (k : Nat) (o : Obj), A.heap[k]? = some o → (∀ (cs : Array Value) (x : Nat × Nat), o ≠ .cells cs 44 x) → o.isCells = true → A'.heap[k]? = some o) : Dr B v1 k1 xs1 v2 k2 xs2 v3 k3 xs3 A' := by
  have key : ∀ {z : Nat} {e : TypeId} {v : Value} {n : Nat} {xs : List Value}, A.ownsRow B e z v n xs → e ≠ 44 → A'.ownsRow B e z v n xs := fun {z e v n xs} hr hne => row_keep hr (fun k hk' => by
    obtain ⟨cur, hc⟩ := row_obj hr hk'
    rw [hc]
    exact hk k _ hc (fun cs x e' => by injection e' with _ e'; exact hne e') rfl)
  exact ⟨key h.r1 (by decide), key h.r2 (by decide), key h.r3 (by decide)⟩
structure Dc (w : World) (hb : Nat) (O : Obj) (k1 : Nat) (xs1 : List Value) (k2 : Nat) (xs2 : List Value) (k3 : Nat) (xs3 : List Value) (t3 : Nat) (W : World) : Prop where
  d : Dk w hb O W
  lt : w.heap.size < t3
  r : ∃ a1 c1 a2 c2 a3 c3, W.heap[t3]? = some (dmpO (.slice a1 k1 c1) (.slice a2 k2 c2) (.slice a3 k3 c3) (.slice none 0 0) (.slice none 0 0)) ∧ Dr w.heap.size (.slice a1 k1 c1) k1 xs1 (.slice a2 k2 c2) k2 xs2 (.slice a3 k3 c3) k3 xs3 W
theorem Dc.late {w : World} {hb : Nat} {O : Obj} {k1 k2 k3 : Nat} {xs1 xs2 xs3 : List Value} {W : World} {a1 a2 a3 : Option Addr} {c1 c2 c3 : Nat} (h : Dk w hb O W) (hz : w.heap.size < W.heap.size) (r1 : W.ownsRow w.heap.size 88 1 (.slice a1 k1 c1) k1 xs1) (r2 : W.ownsRow w.heap.size 90 2 (.slice a2 k2 c2) k2 xs2) (r3 : W.ownsRow w.heap.size 85 3 (.slice a3 k3 c3) k3 xs3) : Dc w hb O k1 xs1 k2 xs2 k3 xs3 W.heap.size (W.alloc (dmpO (.slice a1 k1 c1) (.slice a2 k2 c2) (.slice a3 k3 c3) (.slice none 0 0) (.slice none 0 0))) :=
  ⟨h.next (below_alloc W _), hz, a1, c1, a2, c2, a3, c3, heap_alloc_new W _, row_below r1 (below_alloc W _), row_below r2 (below_alloc W _), row_below r3 (below_alloc W _)⟩
theorem Dc.early {w : World} {hb t3 : Nat} {O : Obj} {k1 k2 k3 : Nat} {xs1 xs2 xs3 : List Value} {W : World} {a1 a2 a3 : Option Addr} {c1 c2 c3 : Nat} (h : Dk w hb O W) (hO : ∀ (cs : Array Value) (x : Nat × Nat), O ≠ .cells cs 44 x) (hz : w.heap.size < t3) (ht : W.heap[t3]? = some dmp0) (r1 : W.ownsRow w.heap.size 88 1 (.slice a1 k1 c1) k1 xs1) (r2 : W.ownsRow w.heap.size 90 2 (.slice a2 k2 c2) k2 xs2) (r3 : W.ownsRow w.heap.size 85 3 (.slice a3 k3 c3) k3 xs3) : Dc w hb O k1 xs1 k2 xs2 k3 xs3 t3 (setD W t3 (.slice a1 k1 c1) (.slice a2 k2 c2) (.slice a3 k3 c3) (.slice none 0 0) (.slice none 0 0)) := by
  have hne : hb ≠ t3 := fun e => by
    subst e
    rw [h.n] at ht
    exact hO _ _ (Option.some.inj ht)
  have hfar : ∀ k, k ≠ t3 → (setD W t3 (.slice a1 k1 c1) (.slice a2 k2 c2) (.slice a3 k3 c3) (.slice none 0 0) (.slice none 0 0)).heap[k]? = W.heap[k]? := fun k hk => setD_far W _ _ _ _ _ hk
  refine ⟨⟨setD_below h.b (by omega) _ _ _ _ _, (hfar _ (by omega)).trans h.x, (hfar _ hne).trans h.n⟩, hz, a1, c1, a2, c2, a3, c3, setD_at ht _ _ _ _ _, Dr.keep ⟨r1, r2, r3⟩ (fun k o hk hno _ => (hfar k (fun e => by subst e; rw [ht] at hk; exact hno _ _ (Option.some.inj hk).symm)).trans hk)⟩
structure Dl (w : World) (k1 : Nat) (xs1 : List Value) (k2 : Nat) (xs2 : List Value) (k3 : Nat) (xs3 : List Value) (t3 : Nat) (pre : List (Nat × ByteArray)) (W : World) : Prop where
  b : Below w.heap.size w W
  x : W.heap[w.heap.size]? = some dmp0
  lt : w.heap.size < t3
  r : ∃ a1 c1 a2 c2 a3 c3 ua uc, W.heap[t3]? = some (dmpO (.slice a1 k1 c1) (.slice a2 k2 c2) (.slice a3 k3 c3) (.slice ua pre.length uc) (.slice none 0 0)) ∧ Dr w.heap.size (.slice a1 k1 c1) k1 xs1 (.slice a2 k2 c2) k2 xs2 (.slice a3 k3 c3) k3 xs3 W ∧ W.ownsRow w.heap.size 9 1 (.slice ua pre.length uc) pre.length (pre.map fun x => Value.string x.2)
theorem Dl.nb {w W W' : World} {k1 k2 k3 t3 B : Nat} {xs1 xs2 xs3 : List Value} {pre : List (Nat × ByteArray)} (h : Dl w k1 xs1 k2 xs2 k3 xs3 t3 pre W) (hn : Nb B W W') (hB : w.heap.size ≤ B) : Dl w k1 xs1 k2 xs2 k3 xs3 t3 pre W' := by
  obtain ⟨a1, c1, a2, c2, a3, c3, ua, uc, h1, h2, h3⟩ := h.r
  refine ⟨hn.below h.b hB (Nat.le_refl _), hn.block _ _ h.x (Or.inr rfl), h.lt, a1, c1, a2, c2, a3, c3, ua, uc, hn.block _ _ h1 (Or.inr rfl), h2.keep (fun k o hk _ ho => hn.block k o hk (Or.inr ho)), row_keep h3 (fun k hk => ?_)⟩
  obtain ⟨cur, hc⟩ := row_obj h3 hk
  rw [hc]
  exact hn.block k _ hc (Or.inr rfl)
end Go.Proofs.YtgmldkojldlekaaGreatDoor

namespace Go.Proofs.YtgmldkojldlekaaGreatDoor
open Go.RowKit
def ErrC (w : World) : Prop := w.cell? ⟨0, 0, none⟩ = some (.iface 200 (.agg #[.pointer (some ⟨1, 35, none⟩)]))
theorem ErrC.below {w w' : World} (h : ErrC w) (hb : Below w.heap.size w w') : ErrC w' := (hb.cell (p := ⟨0, 0, none⟩) (lt_of_cell h)).trans h
theorem one_cellC {w : World} {q : Nat} {u : Value} {T : TypeId} (h : w.heap[q]? = some (.cells #[u] T)) : w.cell? ⟨q, 0, none⟩ = some u ∧ w.frozen? ⟨q, 0, none⟩ = false := by
  constructor <;> simp [World.cell?, World.frozen?, h]
theorem asC_new (fb : Nat) (w : World) (n : Nat) (hn : n = w.heap.size) (hG : ErrC w) :
    Calls Tryz.prog 74 #[.iface 102 (.pointer (some ⟨fb, 0, none⟩)), .iface 139 (.pointer (some ⟨n, 0, none⟩))] (w.alloc (.cells #[.pointer none] 102)) fun e w' => e = .returned (.bool true) ∧ Below w.heap.size w w' ∧ w'.heap[n]? = some (.cells #[.pointer (some ⟨fb, 0, none⟩)] 102) := by
  subst hn
  have hG1 : ErrC (w.alloc (.cells #[.pointer none] 102)) := hG.below (below_alloc w _)
  have hq := heap_alloc_new w (.cells #[.pointer none] 102)
  obtain ⟨c0, f0⟩ := one_cellC hq
  refine (as_hit ⟨fb, 0, none⟩ ⟨w.heap.size, 0, none⟩ _ (w.alloc (.cells #[.pointer none] 102)) hG1 c0 f0).mono ?_
  rintro e w' ⟨rfl, rfl⟩
  refine ⟨rfl, ?_, ?_⟩
  · refine Below.setCell ?_ (p := ⟨w.heap.size, 0, none⟩) (Nat.le_refl _) _
    exact ((((((Below.refl _ w).alloc (Nat.le_refl _) _).alloc (by simp) _).alloc (by simp; omega) _).alloc (by simp; omega) _).alloc (by simp; omega) _)
  · exact heap_setCell_same _ w.heap.size 0 _ _ _ ((Below.heap_alloc _ _ _ (by simp; omega)).trans ((Below.heap_alloc _ _ _ (by simp; omega)).trans ((Below.heap_alloc _ _ _ (by simp; omega)).trans ((Below.heap_alloc _ _ _ (by simp)).trans hq))))
theorem flt_cells {w : World} {q : Nat} {u0 u1 u2 u3 : Value} {T : TypeId} (h : w.heap[q]? = some (.cells #[u0, u1, u2, u3] T)) : (w.cell? ⟨q, 0, none⟩ = some u0 ∧ w.cell? ⟨q, 1, none⟩ = some u1 ∧ w.cell? ⟨q, 2, none⟩ = some u2 ∧ w.cell? ⟨q, 3, none⟩ = some u3) ∧ (w.frozen? ⟨q, 0, none⟩ = false ∧ w.frozen? ⟨q, 1, none⟩ = false ∧ w.frozen? ⟨q, 2, none⟩ = false ∧ w.frozen? ⟨q, 3, none⟩ = false) ∧ q < w.heap.size := by
  refine ⟨⟨?_, ?_, ?_, ?_⟩, ⟨?_, ?_, ?_, ?_⟩, lt_of_block h⟩ <;> simp [World.cell?, World.frozen?, h]
set_option maxRecDepth 100000 in
set_option maxHeartbeats 4000000 in
theorem wrapped_any (w : World) (hG : ErrC w) (c : Int) (fb : Nat) {c1 a1 : Int} {s1 ev : Value} (hf : w.heap[fb]? = some (.cells #[.int .i64 c1, .int .i64 a1, s1, ev] 105)) :
    Calls Tryz.prog 46 #[.int .i64 c, .iface 102 (.pointer (some ⟨fb, 0, none⟩))] w fun e w' => (∃ b, e = .returned (.iface 102 (.pointer (some ⟨b, 0, none⟩))) ∧ w'.heap[b]? = some (.cells #[.int .i64 c, .int .i64 a1, .string ⟨#[]⟩, .iface 102 (.pointer (some ⟨fb, 0, none⟩))] 105)) ∧ Below w.heap.size w w' := by
  have hb0 := below_alloc w (.cells #[.int .i64 c, .int .i64 (-1), .string ⟨#[]⟩, .nilIface] 105)
  have hx0 := heap_alloc_new w (.cells #[.int .i64 c, .int .i64 (-1), .string ⟨#[]⟩, .nilIface] 105)
  have has := hid (asC_new fb _ (w.heap.size + 1) (by simp) (hG.below hb0))
  have zf := lt_of_block hf
  have HF := hid hf
  have Hb0 := hid hb0
  have HX0 := hid hx0
  clear hb0 hx0 hf
  go_enter Tryz.func46, Tryz.ntmps46
  go_wp2_with (go_at_call 74; refine has.out.mono ?_; rintro e w2 ⟨rfl, hb2, hq2⟩; have Hb2 := hid (Below.next Hb0.out hb2); have HX2 := hid ((hb2.block _ (lt_of_block HX0.out)).trans HX0.out); have HF2 := hid ((Hb2.out.block _ zf).trans HF.out); have HQ2 := hid hq2; obtain ⟨k0, _⟩ := one_cellC hq2; have zk := lt_of_cell k0; obtain ⟨⟨f0, f1, f2, f3⟩, _, fz⟩ := flt_cells HF2.out; obtain ⟨⟨x0, x1, x2, x3⟩, ⟨y0, y1, y2, y3⟩, xz⟩ := flt_cells HX2.out; clear hb2 hq2)
  have ne1 : fb ≠ w.heap.size := by omega
  have ne2 : w.heap.size ≠ w.heap.size + 1 := by omega
  have hE := heap_setCell_same _ w.heap.size 3 _ _ (.iface 102 (.pointer (some ⟨fb, 0, none⟩))) (heap_setCell_same w2 w.heap.size 1 _ _ (.int .i64 a1) HX2.out)
  have hE' := heap_setCell_same _ w.heap.size 1 _ _ (.int .i64 a1) (heap_setCell_same w2 w.heap.size 3 _ _ (.iface 102 (.pointer (some ⟨fb, 0, none⟩))) HX2.out)
  have e1 : (if fb = w.heap.size then 1 else 0) = (0:Nat) := by simp [ne1]
  have ne3 : w.heap.size + 1 ≠ w.heap.size := by omega
  go_region
  go_wp2
  go_ret
  exact ⟨⟨_, rfl, hE⟩, ((Hb2.out.setCell (p := ⟨w.heap.size, 1, none⟩) (Nat.le_refl _) _).setCell (p := ⟨w.heap.size, 3, none⟩) (Nat.le_refl _) _).drew⟩
end Go.Proofs.YtgmldkojldlekaaGreatDoor

namespace Go.Proofs.YtgmldkojldlekaaGreatDoor
open Go.RowKit
section
variable {w : World} {B hb ab tb : Nat} {m : Int} {av : Value} {tv : Value} {tq : Nat} {trv ptv : Value} {n : Int}
theorem llook_any (hH : Hp w B hb ab tb m av lL2 tv tq [fSC] trv ptv n) :
    Calls Tryz.prog 25 #[.pointer (some ⟨hb, 0, none⟩), .int .i64 3] w fun e w' => (∃ s ao k c, e = .returned (.tuple #[.agg #[.int .i64 4, .int .i64 1, .string s, .int .i64 0, .slice ao k c], .nilIface])) ∧ Below w.heap.size w w' := by
  refine (look_ok hH sndL2 nsL2 3 (by decide +kernel) (by decide)).mono ?_
  rintro e w' ⟨⟨ao, c, rfl, _⟩, hb'⟩
  rw [trL23, show tdK 11 = 4 by decide +kernel, show tdA 11 = 1 by decide +kernel, show tdN 11 = 0 by decide +kernel]
  exact ⟨⟨_, _, _, _, rfl⟩, hb'⟩
theorem lget_any (hH : Hp w B hb ab tb m av lL2 tv tq [fSC] trv ptv n) {cv : Value} (hC : Ri w cv [0]) :
    Calls Tryz.prog 26 #[.pointer (some ⟨hb, 0, none⟩), cv] w fun e w' => (∃ na nc ra rl rc, e = .returned (.tuple #[.agg #[.slice na 1 nc, .slice ra rl rc], .nilIface])) ∧ Below w.heap.size w w' := by
  refine (get_ok hH sndL2 nsL2 hC (fun x hx => ?_) (by decide) (fun TS h => by rw [oneL h]; decide)).mono ?_
  · have e : x = 0 := by simpa using hx
    subst e
    decide +kernel
  · rintro e w' ⟨⟨nv, rv, avs, TS, ee, rfl, hF, hg, he, hO⟩, hb'⟩
    obtain ⟨na, nc, rfl⟩ := hO.nsl
    obtain ⟨ra, rc, rfl, _⟩ := hO.r
    rw [lenL hF hg he]
    exact ⟨⟨_, _, _, _, _, rfl⟩, hb'⟩
end
set_option maxRecDepth 100000 in
set_option maxHeartbeats 8000000 in
theorem clives_any (w : World) : Calls Tryz.prog 6 #[] w fun e w' => e = .returned (.bool true) ∧ Below w.heap.size w w' := by
  have hnw := hid (hnew_ok 20 w w.heap.size (Nat.le_refl _) (by decide) (by decide))
  go_enter Tryz.func6, Tryz.ntmps6
  go_wp2_with (first
    | (go_at_call 20; refine hnw.out.mono ?_; rintro e w1 ⟨⟨hb, ab, tb, tq, rfl, hH1, z1, z2, z3, z4⟩, hb1⟩; have HH1 := hid hH1; have Hb1 := hid hb1; have zb := lt_of_block hH1.blk; have za := hH1.ar.lt; clear hH1 hb1)
    | (go_at_call 22; refine (loop_any _).mono ?_; rintro e w2 ⟨⟨a, b, c, rfl, hL2, ya, yb, yc⟩, hb2⟩; have HL2 := hid hL2; have HH2 := hid (HH1.out.below hb2); have Hb2 := hid (Below.next Hb1.out hb2); have hpt := hid (lput_any HH2.out Hb2.out.size hL2 ⟨by omega, by omega⟩ ⟨by omega, by omega⟩ ⟨by omega, by omega⟩); clear hL2 hb2)
    | (go_at_call 21; refine hpt.out.mono ?_; rintro e w3 ⟨⟨rb, rc, av3, tb3, tv3, tq3, rfl, r0, hH3⟩, hb3⟩; have HH3 := hid hH3; have Hb3 := hid (Hb2.out.trans hb3); have zr := lt_of_cell r0; clear hH3 hb3)
    | (go_at_call 23; refine (htop_any HH3.out).mono ?_; rintro e w4 ⟨rfl, hw⟩; replace hw := hw.symm; subst hw)
    | (go_at_call 24; refine (lbind_any HH3.out Hb3.out.size (by decide) (by decide)).mono ?_; rintro e w5 ⟨rfl, hH5, hb5⟩; have HH5 := hid hH5; have Hb5 := hid (Hb3.out.trans hb5); clear hH5 hb5)
    | (go_at_call 25; refine (llook_any HH5.out).mono ?_; rintro e w6 ⟨⟨ls, la, lk, lc, rfl⟩, hb6⟩; have HH6 := hid (HH5.out.below hb6); have Hb6 := hid (Below.next Hb5.out hb6); clear hb6))
  have hbc := below_alloc w6 (.cells #[.int .i64 4, .int .i64 1, .string ls, .int .i64 0, .slice la lk lc] 69)
  have hbg := Below.next hbc (below_alloc _ oLc)
  have hri : Ri ((w6.alloc (.cells #[.int .i64 4, .int .i64 1, .string ls, .int .i64 0, .slice la lk lc] 69)).alloc oLc) (.slice (some ⟨w6.heap.size + 1, 0, none⟩) 1 1) [0] := ri_lit1 (by
    have h9 := heap_alloc_new (w6.alloc (.cells #[.int .i64 4, .int .i64 1, .string ls, .int .i64 0, .slice la lk lc] 69)) oLc
    rw [show (w6.alloc (.cells #[.int .i64 4, .int .i64 1, .string ls, .int .i64 0, .slice la lk lc] 69)).heap.size = w6.heap.size + 1 by simp] at h9
    exact h9)
  have hcb : ((w6.alloc (.cells #[.int .i64 4, .int .i64 1, .string ls, .int .i64 0, .slice la lk lc] 69)).alloc oLc).heap[w6.heap.size]? = some (.cells #[.int .i64 4, .int .i64 1, .string ls, .int .i64 0, .slice la lk lc] 69) := (Below.heap_alloc _ _ _ (by simp)).trans (heap_alloc_new w6 _)
  refine (lget_any (HH6.out.below hbg) hri).mono ?_
  rintro e w7 ⟨⟨na, nc, ra, rl, rc7, rfl⟩, hb7⟩
  have hc7 := (hb7.block _ (lt_of_block hcb)).trans hcb
  obtain ⟨⟨c0, c1, c2, c3, c4⟩, _, cz⟩ := cel_cells hc7
  have Hb7 := hid (Below.next Hb6.out (Below.next hbg hb7))
  have Hb8 := hid (Below.next Hb7.out (below_alloc w7 (.cells #[.slice na 1 nc, .slice ra rl rc7] 30)))
  clear hb7 hcb hri hbg hbc hc7
  go_wp2
  go_ret
  exact ⟨rfl, Hb8.out⟩
end Go.Proofs.YtgmldkojldlekaaGreatDoor

namespace Go.Proofs.YtgmldkojldlekaaGreatDoor
open Go.RowKit
section
variable {W : World} {Bh hb ab tb : Nat} {m : Int} {av : Value} {l : List Int} {htv : Value} {tq : Nat} {ns : List ByteArray} {trv ptv : Value} {n : Int} {V : Nat → Bool}
set_option maxRecDepth 100000 in
set_option maxHeartbeats 2000000 in
theorem hreach_no (hH : Hp W Bh hb ab tb m av l htv tq ns trv ptv n) {cv : Value} {cs : List Int} (hC : Ri W cv cs) (hl : cs.length ≤ 5000) (hbd : badF l cs ≠ []) :
    Calls Tryz.prog 14 #[.pointer (some ⟨hb, 0, none⟩), cv] W fun e w' => (∃ q, e = .returned (.tuple #[.int .i64 0, .iface 102 (.pointer (some ⟨q, 0, none⟩))]) ∧ Er w' (.iface 102 (.pointer (some ⟨q, 0, none⟩))) (badF l cs)) ∧ Below W.heap.size W w' := by
  have hck := hid (checkedC_any hH.ar hC hl)
  obtain ⟨⟨c0, _⟩, c5⟩ := hH.cells
  obtain ⟨ca, cc, rfl, _⟩ := hC
  generalize badF l cs = fs at *
  generalize cs.length = len at *
  clear hH
  go_enter Tryz.func14, Tryz.ntmps14
  go_wp2_with (first
    | (go_at_call 31; refine (self_some _ _).mono ?_; rintro e w2 ⟨rfl, hw⟩; replace hw := hw.symm; subst hw)
    | (go_at_call 41; refine hck.out.mono ?_; rintro e w1 ⟨⟨ev, rfl, hev⟩, hb1⟩; obtain ⟨q, hq⟩ := er_ptr hev hbd; subst hq; have Hb1 := hid hb1; have HE := hid hev; clear hev hb1))
  go_ret2
  exact ⟨⟨q, rfl, HE.out⟩, Hb1.out⟩
set_option maxRecDepth 100000 in
set_option maxHeartbeats 2000000 in
theorem hreach_ok (hH : Hp W Bh hb ab tb m av l htv tq ns trv ptv n) (hs : Snd l V) (hll : l.length ≤ 5000) {cv : Value} {cs : List Int} (hC : Ri W cv cs) (hl : cs.length ≤ 5000) (hbd : badF l cs = []) :
    Calls Tryz.prog 14 #[.pointer (some ⟨hb, 0, none⟩), cv] W fun e w' => (∃ M, e = .returned (.tuple #[.int .i64 (M.length : Int), .nilIface]) ∧ RcS l cs M) ∧ Below W.heap.size W w' := by
  have hck := hid (checkedC_any hH.ar hC hl)
  rw [hbd] at hck
  have hrg : ∀ x ∈ cs, 0 ≤ x ∧ x < (l.length : Int) := fun x hx => by
    obtain ⟨k, rfl, hk⟩ := cell_nat (bad_all hbd x hx)
    omega
  obtain ⟨⟨c0, _⟩, c5⟩ := hH.cells
  have HH := hid hH
  obtain ⟨ca, cc, rfl, hc9⟩ := hC
  have hC' : Ri W (.slice ca cs.length cc) cs := ⟨ca, cc, rfl, hc9⟩
  have hrc := hid (fun w1 (hb1 : Below W.heap.size W w1) => reachable_any (hH.below hb1).ar hs hll (hC'.below hb1) hrg hl)
  clear hH hs hc9 hC' hrg hbd
  go_enter Tryz.func14, Tryz.ntmps14
  go_wp2_with (first
    | (go_at_call 31; refine (self_some _ _).mono ?_; rintro e w2 ⟨rfl, hw⟩; replace hw := hw.symm; subst hw)
    | (go_at_call 41; refine hck.out.mono ?_; rintro e w1 ⟨⟨ev, rfl, hev⟩, hb1⟩; have hev1 : ev = .nilIface := hev; subst hev1; have Hb1 := hid hb1; clear c0 c5 hev; obtain ⟨⟨c0, _⟩, c5⟩ := (HH.out.below hb1).cells; clear hb1)
    | (go_at_call 42; refine (hrc.out _ Hb1.out).mono ?_; rintro e w3 ⟨⟨M, rfl, hM⟩, hb3⟩; have HM := hid hM; have Hb3 := hid (Below.next Hb1.out hb3); clear hM hb3))
  go_ret2
  exact ⟨⟨M, rfl, HM.out⟩, Hb3.out⟩
theorem hreach_any (hH : Hp W Bh hb ab tb m av l htv tq ns trv ptv n) (hs : Snd l V) (hll : l.length ≤ 5000) {cv : Value} {cs : List Int} (hC : Ri W cv cs) (hl : cs.length ≤ 5000) :
    Calls Tryz.prog 14 #[.pointer (some ⟨hb, 0, none⟩), cv] W fun e w' => (∃ ev, e = .returned ev) ∧ Below W.heap.size W w' := by
  by_cases hbd : badF l cs = []
  · exact (hreach_ok hH hs hll hC hl hbd).mono fun e w' ⟨⟨_, e1, _⟩, e2⟩ => ⟨⟨_, e1⟩, e2⟩
  · exact (hreach_no hH hC hl hbd).mono fun e w' ⟨⟨_, e1, _⟩, e2⟩ => ⟨⟨_, e1⟩, e2⟩
end
end Go.Proofs.YtgmldkojldlekaaGreatDoor
