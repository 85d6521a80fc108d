/- Package cells: Bind at any two numbers, as a step of the heap's words, trail and points. -/
import Derived.Deep.RegionHeld3
import Derived.Test.YtlibjdilicfcdaaGreatDoorns33Z
import Derived.Test.YtlibjdilicfcdaaGreatDoorns29Z
import Derived.Test.YtlibjdilicfcdaaGreatDoorns31Z
import Derived.Test.YtlibjdilicfcdaaGreatDoorns11Z
import Derived.Test.YtlibjdilicfcdaaGreatDoorns28Z
import Derived.Test.YtlibjdilicfcdaaGreatDoorns14Z
namespace Go.Proofs.YtlibjdilicfcdaaGreatDoor
set_option maxRecDepth 100000
open Go.RowKit
theorem may_fwdQ {i n : Nat} (h : i < n) (h6 : i < 65536) : mayB (wordOf 5 (i : Int)) (n : Int) = true := by
  have hf : fitsB 5 (i : Int) = true := by
    simp [fitsB]
    omega
  unfold mayB
  rw [Bool.and_eq_true]
  refine ⟨?_, ?_⟩
  · unfold goodB
    rw [wordOf_tag 5 (i : Int) (by omega) (by omega), wordOf_val 5 (i : Int) hf]
    exact hf
  · rw [wordOf_val 5 (i : Int) hf, Bool.or_eq_true]
    exact Or.inr (decide_eq_true (by omega))
section
variable {w w1 w' : World} {B hb ab tb : Nat} {m : Int} {av : Value} {l : List Int} {tv : Value} {tq : Nat} {ns : List ByteArray} {trv : Value} {tr : List Te} {ptv : Value} {pt : List Pe} {n : Int}
theorem Wrq.fro {l' : List Int} {tr' : List Te} {n' : Int} (hb1 : Below w.heap.size w w1) (h : Wrq w1 w' B hb ab tb m av l' tv tq ns trv tr' ptv pt n') : Wrq w w' B hb ab tb m av l' tv tq ns trv tr' ptv pt n' := by
  obtain ⟨trv', hq, hm, hx⟩ := h
  refine ⟨trv', hq, (a_Mod.ofBelow hb1).trans hm (fun y hy => Or.inl hy), fun q hq => ?_⟩
  rcases hx q hq with h | h
  · exact Or.inl h
  · exact Or.inr (Nat.le_trans hb1.size h)
theorem write_any (h : Hq w B hb ab tb m av l tv tq ns trv tr ptv pt n) (hB : B ≤ w.heap.size) (k : Nat) (x : Int) (hk : k < l.length) (x0 : 0 ≤ x) (x1 : x ≤ 18446744073709551615) (hm : mayB x l.length = true) (n0 : 0 ≤ n) (n1 : n ≤ 4611686018427387904) (hp : pt.length ≤ 1000000) (htl : tr.length ≤ 1000000) :
    Calls Tryz.prog 140 #[.pointer (some ⟨hb, 0, none⟩), .int .i64 (k : Int), .int .u64 x] w fun e w' => e = .returned (.tuple #[]) ∧ Wrq w w' B hb ab tb m av (l.set k x) tv tq ns trv (trW l tr pt k) ptv pt (n + 1) := by
  unfold trW
  cases hs : seesB pt k with
  | false =>
    rw [if_neg (by simp)]
    exact write_not h k x hk x0 x1 hm n0 n1 hs hp
  | true =>
    rw [if_pos rfl]
    exact write_seen h hB k x hk x0 x1 hm n0 n1 hs hp htl
def Act1 (w w' : World) (B hb ab tb : Nat) (m : Int) (av : Value) (l : List Int) (tv : Value) (tq : Nat) (ns : List ByteArray) (trv : Value) (tr : List Te) (ptv : Value) (pt : List Pe) (n : Int) : Prop :=
  Below w.heap.size w w' ∨ ∃ k x, k < l.length ∧ SndN (l.set k x) ns.length ∧ Wrq w w' B hb ab tb m av (l.set k x) tv tq ns trv (trW l tr pt k) ptv pt (n + 1)
theorem bad_nil {l : List Int} {x y : Int} (h : badF l [x, y] = []) : cellB l x = true ∧ cellB l y = true := by
  by_cases hx : cellB l x = true
  · by_cases hy : cellB l y = true
    · exact ⟨hx, hy⟩
    · exfalso
      have e : badC l [x, y] = ((1 : Nat) : Int) := ixOf_hit 0 (fun x => !cellB l x) [x, y] 1 (by simp) (fun j hj => by
        have : j = 0 := by omega
        subst this
        simp [hx]) (by simpa using hy)
      unfold badF at h
      rw [e, if_pos (by omega)] at h
      cases h
  · exfalso
    have e : badC l [x, y] = ((0 : Nat) : Int) := ixOf_hit 0 (fun x => !cellB l x) [x, y] 0 (by simp) (fun j hj => absurd hj (Nat.not_lt_zero _)) (by simpa using hx)
    unfold badF at h
    rw [e, if_pos (by omega)] at h
    cases h
theorem cell_nat {l : List Int} {x : Int} (h : cellB l x = true) : ∃ k : Nat, x = (k : Int) ∧ k < l.length := by
  unfold cellB at h
  simp only [Bool.and_eq_true] at h
  have h1 : 0 ≤ x ∧ x < (l.length : Int) := by simpa [inB] using h.1.1
  exact ⟨x.toNat, by omega, by omega⟩
theorem bind_act (h : Hq w B hb ab tb m av l tv tq ns trv tr ptv pt n) (hB : B ≤ w.heap.size) (hS : SndN l ns.length) (n0 : 0 ≤ n) (n1 : n ≤ 4611686018427387904) (hp : pt.length ≤ 1000000) (htl : tr.length ≤ 1000000) (x y : Int) :
    Calls Tryz.prog 108 #[.pointer (some ⟨hb, 0, none⟩), .int .i64 x, .int .i64 y] w fun e w' => (∃ ev, e = .returned ev) ∧ Act1 w w' B hb ab tb m av l tv tq ns trv tr ptv pt n := by
  have hl6 : l.length ≤ 65536 := by
    have h1 := h.hp.ar.len
    have h2 := h.hp.ar.m2
    omega
  by_cases hbd : badF l [x, y] = []
  · obtain ⟨ca, cb⟩ := bad_nil hbd
    obtain ⟨a, rfl, ha⟩ := cell_nat ca
    obtain ⟨b, rfl, hb'⟩ := cell_nat cb
    obtain ⟨V, hV⟩ := hS.1
    obtain ⟨⟨xa0, xa1⟩, ma, _⟩ := trm_may hV hl6 ha
    obtain ⟨⟨xb0, xb1⟩, mb, _⟩ := trm_may hV hl6 hb'
    by_cases hv : trmW l a % 8 = 0
    · by_cases he : trmW l a = trmW l b
      · exact (bindq_same h.hp hV a b ca cb ha hb' hv he).mono fun e w' ⟨e1, e2⟩ => ⟨⟨_, e1⟩, Or.inl e2⟩
      · by_cases hsw : trmW l b % 8 = 0 ∧ valOf (trmW l a) < valOf (trmW l b)
        · obtain ⟨k1, k2⟩ := bind_sndn hS hl6 hb' ha hsw.1 (fun _ => Int.le_of_lt hsw.2)
          exact (bindq_swap h.hp hV a b ca cb ha hb' hv he hsw.1 hsw.2 (Q := fun w' => Wrq w w' B hb ab tb m av _ tv tq ns trv _ ptv pt (n + 1)) (fun w1 hb1 => (write_any (h.below hb1) (Nat.le_trans hB hb1.size) _ _ k1 xa0 xa1 ma n0 n1 hp htl).mono fun e w' ⟨e1, e2⟩ => ⟨e1, e2.fro hb1⟩)).mono fun e w' ⟨e1, e2⟩ => ⟨⟨_, e1⟩, Or.inr ⟨_, _, k1, k2, e2⟩⟩
        · obtain ⟨k1, k2⟩ := bind_sndn hS hl6 ha hb' hv (fun h0 => by
            rcases Int.lt_or_le (valOf (trmW l a)) (valOf (trmW l b)) with h1 | h1
            · exact absurd ⟨h0, h1⟩ hsw
            · exact h1)
          exact (bindq_left h.hp hV a b ca cb ha hb' hv he hsw (Q := fun w' => Wrq w w' B hb ab tb m av _ tv tq ns trv _ ptv pt (n + 1)) (fun w1 hb1 => (write_any (h.below hb1) (Nat.le_trans hB hb1.size) _ _ k1 xb0 xb1 mb n0 n1 hp htl).mono fun e w' ⟨e1, e2⟩ => ⟨e1, e2.fro hb1⟩)).mono fun e w' ⟨e1, e2⟩ => ⟨⟨_, e1⟩, Or.inr ⟨_, _, k1, k2, e2⟩⟩
    · exact (bindq_bound h.hp hV a b ca cb ha hb' hv).mono fun e w' ⟨⟨_, e1, _⟩, e2⟩ => ⟨⟨_, e1⟩, Or.inl e2⟩
  · exact (bindq_bad h.hp x y hbd).mono fun e w' ⟨⟨_, e1, _⟩, e2⟩ => ⟨⟨_, e1⟩, Or.inl e2⟩
end
end Go.Proofs.YtlibjdilicfcdaaGreatDoor

namespace Go.Proofs.YtlibjdilicfcdaaGreatDoor
set_option maxRecDepth 100000
open Go.RowKit Go.Shelf
attribute [local go_sem] Oper.semAt_some
abbrev dmpO (a b c d e : Value) : Obj := .cells #[a, b, c, d, e] 96
abbrev dmp0 : Obj := dmpO (.slice none 0 0) (.slice none 0 0) (.slice none 0 0) (.slice none 0 0) (.slice none 0 0)
abbrev setD (w : World) (q : Nat) (a b c d e : Value) : World := ((((w.setCell ⟨q, 0, none⟩ a).setCell ⟨q, 1, none⟩ b).setCell ⟨q, 2, none⟩ c).setCell ⟨q, 3, none⟩ d).setCell ⟨q, 4, none⟩ e
theorem setD_at {w : World} {q : Nat} {u0 u1 u2 u3 u4 : Value} {T : TypeId} (h : w.heap[q]? = some (.cells #[u0, u1, u2, u3, u4] T)) (a b c d e : Value) : (setD w q a b c d e).heap[q]? = some (.cells #[a, b, c, d, e] T) :=
  heap_setCell_same _ q 4 _ _ e (heap_setCell_same _ q 3 _ _ d (heap_setCell_same _ q 2 _ _ c (heap_setCell_same _ q 1 _ _ b (heap_setCell_same w q 0 _ _ a h))))
theorem setD_far (w : World) {q k : Nat} (a b c d e : Value) (h : k ≠ q) : (setD w q a b c d e).heap[k]? = w.heap[k]? := by
  rw [Below.heap_setCell _ _ _ _ h, Below.heap_setCell _ _ _ _ h, Below.heap_setCell _ _ _ _ h, Below.heap_setCell _ _ _ _ h, Below.heap_setCell _ _ _ _ h]
theorem setD_below {W w : World} {n q : Nat} (hb : Below n W w) (hq : n ≤ q) (a b c d e : Value) : Below n W (setD w q a b c d e) := ((((hb.setCell (p := ⟨q, 0, none⟩) hq _).setCell (p := ⟨q, 1, none⟩) hq _).setCell (p := ⟨q, 2, none⟩) hq _).setCell (p := ⟨q, 3, none⟩) hq _).setCell (p := ⟨q, 4, none⟩) hq _
theorem ret_dmp {w : World} {fn : Func} {t : Tmp} (hfn : fn.results = #[.cell t 96]) {tmps : Array Value} {q : Nat} {u0 u1 u2 u3 u4 : Value} (h4 : tmps[t]?.getD undef = .pointer (some ⟨q, 0, none⟩)) (hq : w.heap[q]? = some (.cells #[u0, u1, u2, u3, u4] 96)) : (results fn tmps).run Tryz.prog w = .ok (.agg #[u0, u1, u2, u3, u4]) w := by
  obtain ⟨⟨z0, z1, z2, z3, z4⟩, _⟩ := cel_cells hq
  simp [results, hfn, go_sem, h4, z0, z1, z2, z3, z4]
structure Dk (w : World) (hb : Nat) (O : Obj) (W : World) : Prop where
  b : Below w.heap.size w W
  x : W.heap[w.heap.size]? = some dmp0
  n : W.heap[hb]? = some O
theorem Dk.next {w W W' : World} {hb : Nat} {O : Obj} (h : Dk w hb O W) (hb' : Below W.heap.size W W') : Dk w hb O W' := ⟨Below.next h.b hb', (hb'.block _ (lt_of_block h.x)).trans h.x, (hb'.block _ (lt_of_block h.n)).trans h.n⟩
theorem Dk.drew {w W : World} {hb : Nat} {O : Obj} (h : Dk w hb O W) : Dk w hb O W.drew := h.next (Below.refl _ W).drew
abbrev hpO (ap tp : Option Addr) (trv ptv : Value) (n : Int) : Obj := .cells #[.pointer ap, .pointer tp, trv, ptv, .int .i64 n] 80
theorem Dk.cells {w W : World} {hb : Nat} {ap tp : Option Addr} {trv ptv : Value} {n : Int} (h : Dk w hb (hpO ap tp trv ptv n) W) : W.cell? ⟨hb, 0, none⟩ = some (.pointer ap) ∧ W.cell? ⟨hb, 1, none⟩ = some (.pointer tp) ∧ W.cell? ⟨hb, 2, none⟩ = some trv ∧ W.cell? ⟨hb, 3, none⟩ = some ptv ∧ hb < W.heap.size := by
  obtain ⟨⟨c0, c1, c2, c3, _⟩, _, c5⟩ := cel_cells h.n
  exact ⟨c0, c1, c2, c3, c5⟩
theorem row_below {A A' : World} {B z : Nat} {e : TypeId} {v : Value} {n : Nat} {xs : List Value} (h : A.ownsRow B e z v n xs) (hb : Below A.heap.size A A') : A'.ownsRow B e z v n xs := row_keep h (fun k hk => hb.block k (h.lt k hk).2)
structure Dr (B : Nat) (v1 : Value) (k1 : Nat) (xs1 : List Value) (v2 : Value) (k2 : Nat) (xs2 : List Value) (v3 : Value) (k3 : Nat) (xs3 : List Value) (W : World) : Prop where
  r1 : W.ownsRow B 123 1 v1 k1 xs1
  r2 : W.ownsRow B 149 2 v2 k2 xs2
  r3 : W.ownsRow B 145 3 v3 k3 xs3
theorem Dr.keep {B : Nat} {v1 v2 v3 : Value} {k1 k2 k3 : Nat} {xs1 xs2 xs3 : List Value} {A A' : World} (h : Dr B v1 k1 xs1 v2 k2 xs2 v3 k3 xs3 A) (hk : ∀ (k : Nat) (o : Obj), A.heap[k]? = some o → (∀ (cs : Array Value) (x : Nat × Nat), o ≠ .cells cs 96 x) → o.isCells = true → A'.heap[k]? = some o) : Dr B v1 k1 xs1 v2 k2 xs2 v3 k3 xs3 A' := by
  have key : ∀ {z : Nat} {e : TypeId} {v : Value} {n : Nat} {xs : List Value}, A.ownsRow B e z v n xs → e ≠ 96 → A'.ownsRow B e z v n xs := fun {z e v n xs} hr hne => row_keep hr (fun k hk' => by
    obtain ⟨cur, hc⟩ := row_obj hr hk'
    rw [hc]
    exact hk k _ hc (fun cs x e' => by injection e' with _ e'; exact hne e') rfl)
  exact ⟨key h.r1 (by decide), key h.r2 (by decide), key h.r3 (by decide)⟩
structure Dc (w : World) (hb : Nat) (O : Obj) (k1 : Nat) (xs1 : List Value) (k2 : Nat) (xs2 : List Value) (k3 : Nat) (xs3 : List Value) (t3 : Nat) (W : World) : Prop where
  d : Dk w hb O W
  lt : w.heap.size < t3
  r : ∃ a1 c1 a2 c2 a3 c3, W.heap[t3]? = some (dmpO (.slice a1 k1 c1) (.slice a2 k2 c2) (.slice a3 k3 c3) (.slice none 0 0) (.slice none 0 0)) ∧ Dr w.heap.size (.slice a1 k1 c1) k1 xs1 (.slice a2 k2 c2) k2 xs2 (.slice a3 k3 c3) k3 xs3 W
theorem Dc.late {w : World} {hb : Nat} {O : Obj} {k1 k2 k3 : Nat} {xs1 xs2 xs3 : List Value} {W : World} {a1 a2 a3 : Option Addr} {c1 c2 c3 : Nat} (h : Dk w hb O W) (hz : w.heap.size < W.heap.size) (r1 : W.ownsRow w.heap.size 123 1 (.slice a1 k1 c1) k1 xs1) (r2 : W.ownsRow w.heap.size 149 2 (.slice a2 k2 c2) k2 xs2) (r3 : W.ownsRow w.heap.size 145 3 (.slice a3 k3 c3) k3 xs3) : Dc w hb O k1 xs1 k2 xs2 k3 xs3 W.heap.size (W.alloc (dmpO (.slice a1 k1 c1) (.slice a2 k2 c2) (.slice a3 k3 c3) (.slice none 0 0) (.slice none 0 0))) :=
  ⟨h.next (below_alloc W _), hz, a1, c1, a2, c2, a3, c3, heap_alloc_new W _, row_below r1 (below_alloc W _), row_below r2 (below_alloc W _), row_below r3 (below_alloc W _)⟩
theorem Dc.early {w : World} {hb t3 : Nat} {O : Obj} {k1 k2 k3 : Nat} {xs1 xs2 xs3 : List Value} {W : World} {a1 a2 a3 : Option Addr} {c1 c2 c3 : Nat} (h : Dk w hb O W) (hO : ∀ (cs : Array Value) (x : Nat × Nat), O ≠ .cells cs 96 x) (hz : w.heap.size < t3) (ht : W.heap[t3]? = some dmp0) (r1 : W.ownsRow w.heap.size 123 1 (.slice a1 k1 c1) k1 xs1) (r2 : W.ownsRow w.heap.size 149 2 (.slice a2 k2 c2) k2 xs2) (r3 : W.ownsRow w.heap.size 145 3 (.slice a3 k3 c3) k3 xs3) : Dc w hb O k1 xs1 k2 xs2 k3 xs3 t3 (setD W t3 (.slice a1 k1 c1) (.slice a2 k2 c2) (.slice a3 k3 c3) (.slice none 0 0) (.slice none 0 0)) := by
  have hne : hb ≠ t3 := fun e => by
    subst e
    rw [h.n] at ht
    exact hO _ _ (Option.some.inj ht)
  have hfar : ∀ k, k ≠ t3 → (setD W t3 (.slice a1 k1 c1) (.slice a2 k2 c2) (.slice a3 k3 c3) (.slice none 0 0) (.slice none 0 0)).heap[k]? = W.heap[k]? := fun k hk => setD_far W _ _ _ _ _ hk
  refine ⟨⟨setD_below h.b (by omega) _ _ _ _ _, (hfar _ (by omega)).trans h.x, (hfar _ hne).trans h.n⟩, hz, a1, c1, a2, c2, a3, c3, setD_at ht _ _ _ _ _, Dr.keep ⟨r1, r2, r3⟩ (fun k o hk hno _ => (hfar k (fun e => by subst e; rw [ht] at hk; exact hno _ _ (Option.some.inj hk).symm)).trans hk)⟩
structure Dl (w : World) (k1 : Nat) (xs1 : List Value) (k2 : Nat) (xs2 : List Value) (k3 : Nat) (xs3 : List Value) (t3 : Nat) (pre : List (Nat × ByteArray)) (W : World) : Prop where
  b : Below w.heap.size w W
  x : W.heap[w.heap.size]? = some dmp0
  lt : w.heap.size < t3
  r : ∃ a1 c1 a2 c2 a3 c3 ua uc, W.heap[t3]? = some (dmpO (.slice a1 k1 c1) (.slice a2 k2 c2) (.slice a3 k3 c3) (.slice ua pre.length uc) (.slice none 0 0)) ∧ Dr w.heap.size (.slice a1 k1 c1) k1 xs1 (.slice a2 k2 c2) k2 xs2 (.slice a3 k3 c3) k3 xs3 W ∧ W.ownsRow w.heap.size 9 1 (.slice ua pre.length uc) pre.length (pre.map fun x => Value.string x.2)
theorem Dl.nb {w W W' : World} {k1 k2 k3 t3 B : Nat} {xs1 xs2 xs3 : List Value} {pre : List (Nat × ByteArray)} (h : Dl w k1 xs1 k2 xs2 k3 xs3 t3 pre W) (hn : Nb B W W') (hB : w.heap.size ≤ B) : Dl w k1 xs1 k2 xs2 k3 xs3 t3 pre W' := by
  obtain ⟨a1, c1, a2, c2, a3, c3, ua, uc, h1, h2, h3⟩ := h.r
  refine ⟨hn.below h.b hB (Nat.le_refl _), hn.block _ _ h.x (Or.inr rfl), h.lt, a1, c1, a2, c2, a3, c3, ua, uc, hn.block _ _ h1 (Or.inr rfl), h2.keep (fun k o hk _ ho => hn.block k o hk (Or.inr ho)), row_keep h3 (fun k hk => ?_)⟩
  obtain ⟨cur, hc⟩ := row_obj h3 hk
  rw [hc]
  exact hn.block k _ hc (Or.inr rfl)
end Go.Proofs.YtlibjdilicfcdaaGreatDoor
