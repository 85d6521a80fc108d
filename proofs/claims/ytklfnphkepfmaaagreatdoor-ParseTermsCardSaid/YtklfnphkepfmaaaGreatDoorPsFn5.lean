/- The parser wants a token: it goes on, or gives up. -/
import Derived.Test.YtklfnphkepfmaaaGreatDoorPsFn4
namespace Go.Proofs.YtklfnphkepfmaaaGreatDoor
open Go.RowKit
attribute [local go_sem] tok_kind tok_text tok_num tok_at

theorem Gave.under {w w1 w2 : World} {e : Ending} {c a : Int} (h : Gave w1 w2 e c a) (hb : Below w.heap.size w w1) : Gave w w2 e c a := by
  obtain ⟨b, h0, h1, h2, h3⟩ := h
  exact ⟨b, h0, h1, Nat.le_trans hb.size h2, Below.next hb h3⟩
theorem grown_then {a b c : World} {pb : Nat} (h : a.grownBy b (some pb)) (k : Below a.heap.size b c) : a.grownBy c (some pb) :=
  ⟨k.os.trans h.os, k.tape.trans h.tape, k.output.trans h.output, Nat.le_trans h.size k.size, fun i hi hne => (k.block i hi).trans (h.block i hi hne)⟩
theorem ret_void {w : World} {fn : Func} (hfn : fn.results = #[]) {tmps : Array Value} : (results fn tmps).run Tryz.prog w = .ok (.tuple #[]) w := by
  simp [results, hfn, go_sem]
/-- The fault of a token that cannot stand here. -/
def mustC (t : Tk) : Int := if t.kind = 0 then 72 else 71
set_option maxRecDepth 100000 in
set_option maxHeartbeats 4000000 in
theorem wantMark_yes {w : World} {pb : Nat} {tv : Value} {ts : List Tk} {i : Nat} (h : Ps w pb tv ts i) (hi : i < ts.length) (hl : ts.length ≤ 10000000) (s : ByteArray) (hs : seesF (ts.getD i tk0) 4 s = true) :
    Calls Tryz.prog 96 #[.pointer (some ⟨pb, 0, none⟩), .string s] w fun e w' => e = .returned (.tuple #[]) ∧ w.grownBy w' (some pb) ∧ Ps w' pb tv ts (i + 1) := by
  have ht := takeMark_any h hi hl s
  rw [hs] at ht
  clear h hs
  generalize ts.getD i tk0 = t at *
  go_enter Tryz.func96, Tryz.ntmps96
  go_wp2_with (first
    | (go_at_call 100; refine ht.mono ?_; rintro e w1 ⟨rfl, hg1, hp1⟩)
    | (go_at_call 104; refine must_yes.mono ?_; rintro e w2 ⟨rfl, rfl⟩))

  exact bodyPost_end (ret_void Tryz.results96) rfl ⟨rfl, hg1, hp1⟩
set_option maxRecDepth 100000 in
set_option maxHeartbeats 4000000 in
theorem takeMark_no {w : World} {pb : Nat} {tv : Value} {ts : List Tk} {i : Nat} (h : Ps w pb tv ts i) (hi : i < ts.length) (s : ByteArray) (hs : seesF (ts.getD i tk0) 4 s = false) :
    Calls Tryz.prog 100 #[.pointer (some ⟨pb, 0, none⟩), .string s] w fun e w' => e = .returned (.bool false) ∧ Below w.heap.size w w' := by
  have h1 := sees_any h hi 4 s
  rw [hs] at h1
  have h2 : Calls Tryz.prog 62 #[.pointer (some ⟨pb, 0, none⟩), .int .i64 4, .string s] w fun e w' => e = .returned (.bool false) ∧ Below w.heap.size w w' := by
    clear h hs
    go_enter Tryz.func62, Tryz.ntmps62
    go_wp2_with (go_at_call 102; refine h1.mono ?_; rintro e w1 ⟨rfl, hb1⟩)
    go_ret
    exact ⟨rfl, hb1⟩
  clear h hs h1
  go_enter Tryz.func100, Tryz.ntmps100
  go_wp2_with (go_at_call 62; refine h2.mono ?_; rintro e w1 ⟨rfl, hb1⟩)
  go_ret
  exact ⟨rfl, hb1⟩
set_option maxRecDepth 100000 in
set_option maxHeartbeats 4000000 in
theorem wantMark_no {w : World} {pb : Nat} {tv : Value} {ts : List Tk} {i : Nat} (h : Ps w pb tv ts i) (hi : i < ts.length) (s : ByteArray) (hs : seesF (ts.getD i tk0) 4 s = false) :
    Calls Tryz.prog 96 #[.pointer (some ⟨pb, 0, none⟩), .string s] w fun e w' => Gave w w' e (mustC (ts.getD i tk0)) ((ts.getD i tk0).at_ : Int) := by
  have ht := takeMark_no h hi s hs
  have hm := fun w1 (hb : Below w.heap.size w w1) => must_no (h.below hb) hi
  unfold mustC
  clear h hs
  generalize ts.getD i tk0 = t at *
  generalize (if t.kind = 0 then (72 : Int) else 71) = c at *
  go_enter Tryz.func96, Tryz.ntmps96
  go_wp2_with (first
    | (go_at_call 100; refine ht.mono ?_; rintro e w1 ⟨rfl, hb1⟩)
    | (go_at_call 104; refine (hm w1 hb1).mono ?_; rintro e w2 ⟨b, rfl, h1, h2, h3⟩))
  exact ⟨rfl, b, rfl, h1, Nat.le_trans hb1.size h2, Below.next hb1 h3⟩
set_option maxRecDepth 100000 in
set_option maxHeartbeats 4000000 in
theorem want_no {w : World} {pb : Nat} {tv : Value} {ts : List Tk} {i : Nat} (h : Ps w pb tv ts i) (hi : i < ts.length) (k : Int) (hk : (ts.getD i tk0).kind ≠ k) :
    Calls Tryz.prog 65 #[.pointer (some ⟨pb, 0, none⟩), .int .i64 k] w fun e w' => Gave w w' e (mustC (ts.getD i tk0)) ((ts.getD i tk0).at_ : Int) := by
  have hb0 := below_alloc w (.cells #[.int .i64 0, .string ⟨#[]⟩, .int .i64 0, .int .i64 0, .int .i64 0] 77)
  have hkd := kind_any (h.below hb0) hi
  have hm := fun w1 (hb : Below w.heap.size w w1) => must_no (h.below hb) hi
  unfold mustC
  clear h
  generalize ts.getD i tk0 = t at *
  have e1 : (t.kind == k) = false := beq_eq_false_iff_ne.2 hk
  generalize (if t.kind = 0 then (72 : Int) else 71) = c at *
  go_enter Tryz.func65, Tryz.ntmps65
  go_wp2_with (first
    | (go_at_call 59; refine hkd.mono ?_; rintro e w1 ⟨rfl, hb1⟩; have hB1 := Below.next hb0 hb1)
    | (go_at_call 104; refine (hm w1 hB1).mono ?_; rintro e w2 ⟨b, rfl, h1, h2, h3⟩))
  exact ⟨rfl, b, rfl, h1, Nat.le_trans hB1.size h2, Below.next hB1 h3⟩
set_option maxRecDepth 100000 in
set_option maxHeartbeats 4000000 in
theorem want_yes {w : World} {pb : Nat} {tv : Value} {ts : List Tk} {i : Nat} (h : Ps w pb tv ts i) (hi : i < ts.length) (hl : ts.length ≤ 10000000) (k : Int) (hk : (ts.getD i tk0).kind = k) :
    Calls Tryz.prog 65 #[.pointer (some ⟨pb, 0, none⟩), .int .i64 k] w fun e w' => e = .returned (tokV (ts.getD i tk0)) ∧ w.grownBy w' (some pb) ∧ Ps w' pb tv ts (i + 1) := by
  have hb0 := below_alloc w (.cells #[.int .i64 0, .string ⟨#[]⟩, .int .i64 0, .int .i64 0, .int .i64 0] 77)
  have zp := lt_of_block h.b
  have hkd := kind_any (h.below hb0) hi
  have hn := fun w1 (hb : Below w.heap.size w w1) => pnext_any (h.below hb) hi hl
  subst hk
  unfold tokV at hn ⊢
  generalize ts.getD i tk0 = t at *
  go_enter Tryz.func65, Tryz.ntmps65
  go_wp2_with (first
    | (go_at_call 59; refine hkd.mono ?_; rintro e w1 ⟨rfl, hb1⟩; have hB1 := Below.next hb0 hb1; have hq1 : w1.heap[w.heap.size]? = some (.cells #[.int .i64 0, .string ⟨#[]⟩, .int .i64 0, .int .i64 0, .int .i64 0] 77) := (hb1.block _ (by simp)).trans (heap_alloc_new w _))
    | (go_at_call 104; refine must_yes.mono ?_; rintro e w2 ⟨rfl, rfl⟩)
    | (go_at_call 103; refine (hn _ hB1).mono ?_; rintro e w3 ⟨rfl, hg3, hp3⟩; have hq3 := (hg3.block _ (lt_of_block hq1) (fun e => absurd (Option.some.inj e) (by omega))).trans hq1; obtain ⟨⟨q0, q1, q2, q3, q4⟩, r0, r1, r2, r3, r4⟩ := blk5 hq3))
  have hb4 : Below w.heap.size w3 (tokEnd w3 w.heap.size t) := tokEnd_below (Below.refl _ _) (Nat.le_refl _)
  have hg4 := grown_then (grown_trans (grown_below hB1 pb) hg3) hb4
  have hq4 : (tokEnd w3 w.heap.size t).heap[w.heap.size]? = some (tokObj t) := tok_end (t0 := tk0) t hq3
  have hp4 := h.grown hg4 ((hb4.block pb zp).trans hp3.b)
  exact bodyPost_ret (ret_tok1 (x := t) Tryz.results65 (by rfl) hq4) rfl ⟨rfl, hg4, hp4⟩
end Go.Proofs.YtklfnphkepfmaaaGreatDoor
