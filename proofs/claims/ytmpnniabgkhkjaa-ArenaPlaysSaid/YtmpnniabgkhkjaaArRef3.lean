/- What the reference's Cut of layer 2 does where it takes the place. -/
import Derived.Test.YtmpnniabgkhkjaaArRef2
namespace Go.Proofs.Ytmpnniabgkhkjaa
open Go.ChangeShapes Go.WideShapes Go.ChangeAt Go.RowKit

section
variable {w : World} {B p : Nat} {m : Int} {v : Value} {l : List Int}
/-- The world behind a fault stored into the result's cells and a block laid. -/
abbrev fltEnd (w : World) (q : Nat) (c a : Int) (o : Obj) : World :=
  ((((w.setCell ⟨q, 0, none⟩ (.int .i64 c)).setCell ⟨q, 1, none⟩ (.int .i64 a)).setCell ⟨q, 2, none⟩ (.string ⟨#[]⟩)).setCell ⟨q, 3, none⟩ (.slice none 0 0)).alloc o
theorem flt_end {q : Nat} {c a c' a' : Int} {o : Obj} (h : w.heap[q]? = some (fltObj c a)) : (fltEnd w q c' a' o).heap[q]? = some (fltObj c' a') := by
  have h0 := heap_setCell_same w q 0 _ _ (.int .i64 c') h
  have h1 := heap_setCell_same _ q 1 _ _ (.int .i64 a') h0
  have h2 := heap_setCell_same _ q 2 _ _ (.string ⟨#[]⟩) h1
  have h3 := heap_setCell_same _ q 3 _ _ (.slice none 0 0) h2
  rw [fltEnd, Below.heap_alloc _ _ _ (lt_of_block h3), h3]
  rfl
theorem flt_mod {q : Nat} {c' a' : Int} {o : Obj} : Mod [q] w (fltEnd w q c' a' o) :=
  (((((Mod.refl [q] w).setCell (p := ⟨q, 0, none⟩) (Or.inl (by simp)) _).setCell (p := ⟨q, 1, none⟩) (Or.inl (by simp)) _).setCell (p := ⟨q, 2, none⟩) (Or.inl (by simp)) _).setCell (p := ⟨q, 3, none⟩) (Or.inl (by simp)) _).alloc o
theorem ret_flt {fn : Func} {t : Tmp} (hfn : fn.results = #[.cell t 34]) {tmps : Array Value} {q : Nat} {c a : Int} (h4 : tmps[t]?.getD undef = .pointer (some ⟨q, 0, none⟩)) (hq : w.heap[q]? = some (fltObj c a)) : (results fn tmps).run Try.prog w = .ok (flt c a) w := by
  obtain ⟨⟨z0, z1, z2, z3⟩, _⟩ := flt_facts hq
  simp [results, hfn, go_sem, flt, h4, z0, z1, z2, z3]
theorem ret_flt2 {fn : Func} {s t : Tmp} (hfn : fn.results = #[.tmp s, .cell t 34]) {tmps : Array Value} {q : Nat} {c a : Int} {x : Value} (hs : tmps[s]?.getD undef = x) (h4 : tmps[t]?.getD undef = .pointer (some ⟨q, 0, none⟩)) (hq : w.heap[q]? = some (fltObj c a)) : (results fn tmps).run Try.prog w = .ok (.tuple #[x, flt c a]) w := by
  obtain ⟨⟨z0, z1, z2, z3⟩, _⟩ := flt_facts hq
  simp [results, hfn, go_sem, flt, hs, h4, z0, z1, z2, z3]
theorem field_far {q p : Nat} {c a : Int} {u : Value} (h : w.heap[q]? = some (fltObj c a)) (hp : p ≠ q) : (w.setCell ⟨p, 1, none⟩ u).heap[q]? = some (fltObj c a) :=
  (Below.heap_setCell w ⟨p, 1, none⟩ u q (Ne.symm hp)).trans h
set_option maxRecDepth 100000 in
set_option maxHeartbeats 1600000 in
theorem rcut_ok (h : Ar 31 w B p m v l) (hB : B ≤ w.heap.size) (k : Nat) (hk : k ≤ l.length) :
    Calls Try.prog 31 #[.pointer (some ⟨p, 0, none⟩), .int .i64 (k : Int)] w fun e w' => ∃ v', e = .returned (flt 0 0) ∧ Upd 31 w w' B p m v (l.take k) v' := by
  have c1 := h.c1
  have f1 := h.f1
  have hp := h.lt
  have hlen := h.len
  have hm2 := h.m2
  have hk0 : (0 : Int) ≤ (k : Int) := by omega
  have hk' : (k : Int) ≤ (l.length : Int) := by omega
  have hpn : p ≠ w.heap.size := by omega
  have hpn1 : p ≠ w.heap.size + 1 := by omega
  obtain ⟨u, hu, hrd⟩ : ∃ u, (u = .slice none 0 0 ∧ v = .slice none 0 0 ∧ k = 0 ∧ l = [] ∨ ∃ g cap, u = .slice (some ⟨g, 0, none⟩) k cap ∧ v = .slice (some ⟨g, 0, none⟩) l.length cap ∧ l.length ≤ cap ∧ cap ≤ 9223372036854775807) ∧ Rd w u (l.take k) := by
    rcases h.own.2 with ⟨rfl, hn⟩ | ⟨g, cap, cur, rfl, hb, hg, hc, hm, _⟩
    · obtain rfl : l = [] := List.eq_nil_of_length_eq_zero hn
      exact ⟨_, Or.inl ⟨rfl, rfl, by simpa using hk, rfl⟩, ⟨by simp, Or.inl ⟨rfl, by simp⟩⟩⟩
    · exact ⟨_, Or.inr ⟨g, cap, rfl, rfl, hc, by simpa [maxLen] using hm⟩, rd_take h.own h.rng rfl hk⟩
  have hlt : ((l.take k).length : Int) ≤ m := by simp; omega
  have HL : Hid ((l.take k).length * 8 ≤ 140737488351232) := by show _ ≤ _; simp; omega
  obtain ⟨L, hL⟩ : ∃ L, L = l.take k := ⟨_, rfl⟩
  rw [← hL] at hrd hlt HL
  rw [← hL]
  clear hL
  rcases hu with ⟨rfl, rfl, rfl, rfl⟩ | ⟨g, cap, rfl, rfl, hcap, hcm⟩
  all_goals
    go_enter Try.func31, Try.ntmps31
    go_wp2_with (first
      | (at_builtin; refine wpList_copyRow (by rfl) _ _ (by rfl) (B := w.heap.size + 1) (g := w.heap.size + 1) (by rfl) (by rfl) ((hrd.alloc _).alloc _) (lit_at2 w _ _) (Nat.le_refl _) HL.out ?_; intro v4 w4 ho4 hg4; obtain ⟨hq4, hc4, hf4⟩ := copy_facts (q := w.heap.size) (p := p) (c := 0) (a := 0) hg4 (first_at2 w _ _) (by omega) (by simp; omega) (by omega) (((below2 w _ _).cell (p := ⟨p, 1, none⟩) hp).trans c1) (((below2 w _ _).frozen (p := ⟨p, 1, none⟩) hp).trans f1); obtain ⟨⟨q0, q1, q2, q3⟩, g0, g1, g2, g3⟩ := flt_facts hq4; have HU := copy_upd h hB (below2 w _ _) (by omega) hg4 ho4 hlt hrd.1; have hs4 := lt_of_block hq4; have hrow : w.heap.size ∉ foot p v4 := (fun hx => by (rcases mem_foot.1 hx with e | e; exact hpn e.symm; exact absurd (ho4.lt _ e).1 (by omega))); rcases ho4.2 with ⟨rfl, _⟩ | ⟨g', cap', cur', rfl, _⟩)
      | (go_at_call 27; refine (no_ex _).mono ?_; rintro e wq ⟨rfl, hq⟩; subst hq))
    all_goals
      exact bodyPost_ret (ret_flt Try.results31 (by rfl) (flt_end (field_far hq4 hpn))) rfl ⟨_, rfl, HU.tail (q := w.heap.size) flt_mod (Nat.le_refl _) hrow⟩
end
end Go.Proofs.Ytmpnniabgkhkjaa
