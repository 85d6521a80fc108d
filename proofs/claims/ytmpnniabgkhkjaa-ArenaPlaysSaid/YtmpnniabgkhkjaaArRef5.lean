/- What the reference's Fill of layer 2 does; each of its calls by what the chapter says. -/
import Derived.Test.YtmpnniabgkhkjaaArRef4
namespace Go.Proofs.Ytmpnniabgkhkjaa
open Go.ChangeShapes Go.WideShapes Go.ChangeAt Go.RowKit

set_option maxHeartbeats 400000 in
theorem bad_ex (c a : Int) (w : World) :
    Calls Try.prog 13 #[flt c a] w fun e w' => e = .returned (.bool (c != 0)) ∧ w' = w.alloc (fltObj c a) := by
  go_enter Try.func13, Try.ntmps13
  go_wp2
  go_ret
  exact ⟨rfl, rfl⟩
/-- The five blocks that the reference's Fill lays ahead of the copy. -/
abbrev ch5 (w : World) : World := ((((w.alloc (fltObj 0 0)).alloc (fltObj 0 0)).alloc (fltObj 0 0)).alloc (fltObj 0 0)).alloc (fltObj 0 0)
theorem lit_n (x : World) (o : Obj) (n : Nat) (hn : x.heap.size = n) : (x.alloc o).heap[n]? = some o := by subst hn; exact heap_alloc_new x o
theorem ch5_size (w : World) : (ch5 w).heap.size = w.heap.size + 5 := by simp [ch5]
theorem ch6_below (w : World) (o : Obj) : Below w.heap.size w ((ch5 w).alloc o) := by
  refine Below.alloc ?_ (by simp; omega) _
  repeat (first | exact Below.refl _ _ | refine Below.alloc ?_ (by first | (simp; done) | (simp; omega)) _)
theorem ch6_q (w : World) (o : Obj) : ((ch5 w).alloc o).heap[w.heap.size]? = some (fltObj 0 0) := by
  have h : Below (w.heap.size + 1) (w.alloc (fltObj 0 0)) ((ch5 w).alloc o) := by
    refine Below.alloc ?_ (by first | (simp; done) | (simp; omega)) _
    repeat (first | exact Below.refl _ _ | refine Below.alloc ?_ (by first | (simp; done) | (simp; omega)) _)
  rw [h.block w.heap.size (by omega)]
  exact heap_alloc_new w _
theorem ch6_q3 (w : World) (o : Obj) : ((ch5 w).alloc o).heap[w.heap.size + 3]? = some (fltObj 0 0) := by
  have h : Below (w.heap.size + 4) ((((w.alloc (fltObj 0 0)).alloc (fltObj 0 0)).alloc (fltObj 0 0)).alloc (fltObj 0 0)) ((ch5 w).alloc o) := by
    refine Below.alloc ?_ (by first | (simp; done) | (simp; omega)) _
    repeat (first | exact Below.refl _ _ | refine Below.alloc ?_ (by first | (simp; done) | (simp; omega)) _)
  rw [h.block (w.heap.size + 3) (by omega)]
  exact lit_n _ _ _ (by simp)
theorem flt_end0 {w : World} {q : Nat} {c a c' a' : Int} (h : w.heap[q]? = some (fltObj c a)) : ((((w.setCell ⟨q, 0, none⟩ (.int .i64 c')).setCell ⟨q, 1, none⟩ (.int .i64 a')).setCell ⟨q, 2, none⟩ (.string ⟨#[]⟩)).setCell ⟨q, 3, none⟩ (.slice none 0 0)).heap[q]? = some (fltObj c' a') := by
  have h0 := heap_setCell_same w q 0 _ _ (.int .i64 c') h
  have h1 := heap_setCell_same _ q 1 _ _ (.int .i64 a') h0
  have h2 := heap_setCell_same _ q 2 _ _ (.string ⟨#[]⟩) h1
  have h3 := heap_setCell_same _ q 3 _ _ (.slice none 0 0) h2
  rw [h3]
  rfl
theorem flt_mod0 {w : World} {q : Nat} {c' a' : Int} : Mod [q] w ((((w.setCell ⟨q, 0, none⟩ (.int .i64 c')).setCell ⟨q, 1, none⟩ (.int .i64 a')).setCell ⟨q, 2, none⟩ (.string ⟨#[]⟩)).setCell ⟨q, 3, none⟩ (.slice none 0 0)) :=
  ((((Mod.refl [q] w).setCell (p := ⟨q, 0, none⟩) (Or.inl (by simp)) _).setCell (p := ⟨q, 1, none⟩) (Or.inl (by simp)) _).setCell (p := ⟨q, 2, none⟩) (Or.inl (by simp)) _).setCell (p := ⟨q, 3, none⟩) (Or.inl (by simp)) _
section
variable {w : World} {B p : Nat} {m : Int} {v : Value} {l : List Int}
set_option maxHeartbeats 800000 in
theorem rfill_full {u : Value} {x : List Int} (h : Ar 31 w B p m v l) (hu : Rd w u x) (hf : m < (x.length : Int)) :
    Calls Try.prog 32 #[.pointer (some ⟨p, 0, none⟩), u] w fun e w' => e = .returned (flt 22 x.length) ∧ Below w.heap.size w w' := by
  have c0 := h.c0
  have hp := h.lt
  obtain ⟨ao, c, rfl⟩ := hu.shape
  go_enter Try.func32, Try.ntmps32
  go_wp2_with (go_at_call 25; refine (at_ex _ _ _).mono ?_; rintro e w' ⟨rfl, rfl⟩)
  refine bodyPost_ret (v := flt 22 x.length) (by simp [results, Try.results32, go_sem, flt]) rfl ⟨rfl, ?_⟩
  repeat (first | exact Below.refl _ _ | refine Below.setCell ?_ (by first | (simp; done) | (simp; omega)) _ | refine Below.alloc ?_ (by first | (simp; done) | (simp; omega)) _)
set_option maxRecDepth 100000 in
set_option maxHeartbeats 800000 in
theorem rfill_bad {u : Value} {x : List Int} (h : Ar 31 w B p m v l) (hu : Rd w u x) (hf : (x.length : Int) ≤ m) {n : Nat} (hm : FirstBad x x.length n) :
    Calls Try.prog 32 #[.pointer (some ⟨p, 0, none⟩), u] w fun e w' => e = .returned (flt 24 n) ∧ Below w.heap.size w w' := by
  have c0 := h.c0
  have hp := h.lt
  have hl : x.length ≤ 4611686018427387904 := by have := h.m2; omega
  have hf' : ¬ m < (x.length : Int) := by omega
  have HR : Hid (CheckR x 24 n) := Or.inr ⟨n, hm, rfl, rfl⟩
  obtain ⟨ao, c, rfl⟩ := hu.shape
  go_enter Try.func32, Try.ntmps32
  go_wp2_with (first | (go_at_call 33; refine (rcheck_r (hu.alloc _) hl HR.out).mono ?_; rintro e wq ⟨rfl, hq⟩; subst hq) | (go_at_call 13; refine (bad_ex _ _ _).mono ?_; rintro e wq ⟨rfl, hq⟩; subst hq))
  refine bodyPost_ret (v := flt 24 n) (by simp [results, Try.results32, go_sem, flt]) rfl ⟨rfl, ?_⟩
  repeat (first | exact Below.refl _ _ | refine Below.setCell ?_ (by first | (simp; done) | (simp; omega)) _ | refine Below.alloc ?_ (by first | (simp; done) | (simp; omega)) _)
set_option maxRecDepth 100000 in
set_option maxHeartbeats 3200000 in
theorem rfill_ok {u : Value} {x : List Int} (h : Ar 31 w B p m v l) (hB : B ≤ w.heap.size) (hu : Rd w u x) (hf : (x.length : Int) ≤ m) (hm : AllMay x x.length) :
    Calls Try.prog 32 #[.pointer (some ⟨p, 0, none⟩), u] w fun e w' => ∃ v', e = .returned (flt 0 0) ∧ Upd 31 w w' B p m v x v' := by
  have c0 := h.c0
  have c1 := h.c1
  have f1 := h.f1
  have hp := h.lt
  have hmm := h.m2
  have hl : x.length ≤ 4611686018427387904 := by omega
  have hf' : ¬ m < (x.length : Int) := by omega
  have HR : Hid (CheckR x 0 0) := Or.inl ⟨hm, rfl, rfl⟩
  clear hm
  have hpn : p ≠ w.heap.size := by omega
  have hpn3 : p ≠ w.heap.size + 3 := by omega
  obtain ⟨ao, c, rfl⟩ := hu.shape
  go_enter Try.func32, Try.ntmps32
  go_wp2_with (first
    | (go_at_call 33; refine (rcheck_r (hu.alloc _) hl HR.out).mono ?_; rintro e wq ⟨rfl, hq⟩; subst hq)
    | (go_at_call 13; refine (bad_ex _ _ _).mono ?_; rintro e wq ⟨rfl, hq⟩; subst hq)
    | (at_builtin; refine wpList_copyRow (w := (ch5 w).alloc _) (by rfl) _ _ (by rfl) (B := w.heap.size + 5) (g := w.heap.size + 5) (by rfl) (by rfl) (hu.below (ch6_below w _)) (lit_n _ _ _ (ch5_size w)) (Nat.le_refl _) (by omega) ?_; intro v4 w4 ho4 hg4; obtain ⟨hq4, hc4, hf4⟩ := copy_facts (q := w.heap.size) (p := p) hg4 (ch6_q w _) (by omega) (by simp; omega) (by omega) (((ch6_below w _).cell (p := ⟨p, 1, none⟩) hp).trans c1) (((ch6_below w _).frozen (p := ⟨p, 1, none⟩) hp).trans f1); obtain ⟨hq5, _, _⟩ := copy_facts (q := w.heap.size + 3) (p := p) hg4 (ch6_q3 w _) (by omega) (by simp; omega) (by omega) (((ch6_below w _).cell (p := ⟨p, 1, none⟩) hp).trans c1) (((ch6_below w _).frozen (p := ⟨p, 1, none⟩) hp).trans f1); obtain ⟨⟨q0, q1, q2, q3⟩, g0, g1, g2, g3⟩ := flt_facts hq4; obtain ⟨⟨r0, r1, r2, r3⟩, _⟩ := flt_facts hq5; have HU := copy_upd h hB (ch6_below w _) (by omega) hg4 ho4 hf hu.1; have hs4 := lt_of_block hq4; have hrow : w.heap.size ∉ foot p v4 := (fun hx => by (rcases mem_foot.1 hx with e | e; exact hpn e.symm; exact absurd (ho4.lt _ e).1 (by omega))); rcases ho4.2 with ⟨rfl, _⟩ | ⟨g', cap', cur', rfl, _⟩))
  all_goals
    exact bodyPost_ret (ret_flt Try.results32 (by rfl) (flt_end0 (field_far hq4 hpn))) rfl ⟨_, rfl, HU.tail (q := w.heap.size) flt_mod0 (Nat.le_refl _) hrow⟩
theorem inB_out {n : Int} {k : Nat} (h : inB n k = false) : n < 0 ∨ (0 ≤ n ∧ (k : Int) ≤ n) := by
  simp [inB] at h
  omega
theorem inB_in {n : Int} {k : Nat} (h : inB n k = true) : 0 ≤ n ∧ n < (k : Int) := by simpa [inB] using h
theorem ralloc_r {n c a r : Int} {l' : List Int} (h : Ar 31 w B p m v l) (hB : B ≤ w.heap.size) (hR : AllocR m l n c a r l') :
    Calls Try.prog 28 #[.pointer (some ⟨p, 0, none⟩), .int .i64 n] w fun e w' => ∃ v', e = .returned (.tuple #[.int .i64 r, flt c a]) ∧ Upd 31 w w' B p m v l' v' := by
  rcases hR with ⟨hn, rfl, rfl, rfl, rfl⟩ | ⟨hn, hf, rfl, rfl, rfl, rfl⟩ | ⟨k, rfl, hk, hf, rfl, rfl, rfl, rfl⟩
  · exact (ralloc_few h _ hn).mono fun e w' ⟨he, hw⟩ => ⟨v, he, Upd.same h hw⟩
  · exact (ralloc_full h _ hn hf).mono fun e w' ⟨he, hw⟩ => ⟨v, he, Upd.same h hw⟩
  · exact ralloc_ok h hB k hk hf
theorem rload_r {n c a r : Int} (h : Ar 31 w B p m v l) (hR : LoadR l n c a r) :
    Calls Try.prog 29 #[.pointer (some ⟨p, 0, none⟩), .int .i64 n] w fun e w' => e = .returned (.tuple #[.int .u64 r, flt c a]) ∧ Upd 31 w w' B p m v l v := by
  rcases hR with ⟨hn, rfl, rfl, rfl⟩ | ⟨k, rfl, hk, rfl, rfl, rfl⟩
  · exact (rload_no h _ (inB_out hn)).mono fun e w' ⟨he, hw⟩ => ⟨he, Upd.same h hw⟩
  · exact (rload_ok h k hk).mono fun e w' ⟨he, hw⟩ => ⟨he, Upd.same h hw⟩
theorem rstore_r {n u c a : Int} {l' : List Int} (h : Ar 31 w B p m v l) (u0 : 0 ≤ u) (u1 : u ≤ 18446744073709551615) (hR : StoreR l n u c a l') :
    Calls Try.prog 30 #[.pointer (some ⟨p, 0, none⟩), .int .i64 n, .int .u64 u] w fun e w' => ∃ v', e = .returned (flt c a) ∧ Upd 31 w w' B p m v l' v' := by
  rcases hR with ⟨hn, rfl, rfl, rfl⟩ | ⟨hn, hm, rfl, rfl, rfl⟩ | ⟨k, rfl, hk, hm, rfl, rfl, rfl⟩
  · exact (rstore_out h _ _ (inB_out hn)).mono fun e w' ⟨he, hw⟩ => ⟨v, he, Upd.same h hw⟩
  · exact (rstore_not h _ _ (inB_in hn).1 (inB_in hn).2 u0 u1 hm).mono fun e w' ⟨he, hw⟩ => ⟨v, he, Upd.same h hw⟩
  · exact (rstore_ok h k u hk u0 u1 hm).mono fun e w' ⟨he, hU⟩ => ⟨v, he, hU⟩
theorem rcut_r {n c a : Int} {l' : List Int} (h : Ar 31 w B p m v l) (hB : B ≤ w.heap.size) (hR : CutR l n c a l') :
    Calls Try.prog 31 #[.pointer (some ⟨p, 0, none⟩), .int .i64 n] w fun e w' => ∃ v', e = .returned (flt c a) ∧ Upd 31 w w' B p m v l' v' := by
  rcases hR with ⟨hn, rfl, rfl, rfl⟩ | ⟨k, rfl, hk, rfl, rfl, rfl⟩
  · exact (rcut_out h _ (by omega)).mono fun e w' ⟨he, hw⟩ => ⟨v, he, Upd.same h hw⟩
  · exact rcut_ok h hB k hk
theorem rfill_r {u : Value} {x : List Int} {c a : Int} {l' : List Int} (h : Ar 31 w B p m v l) (hB : B ≤ w.heap.size) (hu : Rd w u x) (hR : FillR m l x c a l') :
    Calls Try.prog 32 #[.pointer (some ⟨p, 0, none⟩), u] w fun e w' => ∃ v', e = .returned (flt c a) ∧ Upd 31 w w' B p m v l' v' := by
  rcases hR with ⟨hf, rfl, rfl, rfl⟩ | ⟨hf, i, hb, rfl, rfl, rfl⟩ | ⟨hf, ha, rfl, rfl, rfl⟩
  · exact (rfill_full h hu hf).mono fun e w' ⟨he, hw⟩ => ⟨v, he, Upd.same h hw⟩
  · exact (rfill_bad h hu hf hb).mono fun e w' ⟨he, hw⟩ => ⟨v, he, Upd.same h hw⟩
  · exact rfill_ok h hB hu hf ha
end
end Go.Proofs.Ytmpnniabgkhkjaa
