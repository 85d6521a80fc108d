/- The reference's reader of terms: its small functions. -/
import Derived.Test.YtklfnphkepfmaaaGreatDoorPCZ
import Derived.Deep.QuietTactic
import Derived.BigQuiet
namespace Go.Proofs.YtklfnphkepfmaaaGreatDoor
open Go.RowKit
attribute [local go_sem] tok_kind tok_text tok_num tok_at

/-- The block of a reader. -/
abbrev rpObj (tv : Value) (i : Nat) (c a : Int) : Obj := .cells #[tv, .int .i64 (i : Int), .int .i64 c, .int .i64 a, .string ⟨#[]⟩, .slice none 0 0] 74
/-- The reader at block pb, without a fault. -/
structure Rs (w : World) (pb : Nat) (tv : Value) (ts : List Tk) (i : Nat) : Prop where
  b : w.heap[pb]? = some (rpObj tv i 0 0)
  t : Rt w tv ts
  ap : ∀ ad n c, tv = .slice (some ad) n c → ad.block ≠ pb
/-- The reader has met a fault. -/
def Rb (w : World) (pb : Nat) (c a : Int) : Prop := c ≠ 0 ∧ ∃ tv i, w.heap[pb]? = some (rpObj tv i c a)
theorem blk6 {w : World} {q : Nat} {u0 u1 u2 u3 u4 u5 : Value} {T : TypeId} (h : w.heap[q]? = some (.cells #[u0, u1, u2, u3, u4, u5] T)) : (w.cell? ⟨q, 0, none⟩ = some u0 ∧ w.cell? ⟨q, 1, none⟩ = some u1 ∧ w.cell? ⟨q, 2, none⟩ = some u2 ∧ w.cell? ⟨q, 3, none⟩ = some u3 ∧ w.cell? ⟨q, 4, none⟩ = some u4 ∧ w.cell? ⟨q, 5, none⟩ = some u5) ∧ w.frozen? ⟨q, 0, none⟩ = false ∧ w.frozen? ⟨q, 1, none⟩ = false ∧ w.frozen? ⟨q, 2, none⟩ = false ∧ w.frozen? ⟨q, 3, none⟩ = false ∧ w.frozen? ⟨q, 4, none⟩ = false ∧ w.frozen? ⟨q, 5, none⟩ = false := by
  refine ⟨⟨?_, ?_, ?_, ?_, ?_, ?_⟩, ?_, ?_, ?_, ?_, ?_, ?_⟩ <;> simp [World.cell?, World.frozen?, h]
theorem Rs.mo {S : Nat → Prop} {w w' : World} {pb : Nat} {tv : Value} {ts : List Tk} {i j : Nat} (h : Rs w pb tv ts i) (hm : Mo S w w') (hS : ∀ k, S k → ∀ ad n c, tv = .slice (some ad) n c → ad.block ≠ k) (hb : w'.heap[pb]? = some (rpObj tv j 0 0)) : Rs w' pb tv ts j := by
  refine ⟨hb, ?_, h.ap⟩
  obtain ⟨ao, c, rfl, ht⟩ := h.t
  refine ⟨ao, c, rfl, fun j hj => ?_⟩
  obtain ⟨b, o, e, hc⟩ := ht j hj
  subst e
  refine ⟨b, o, rfl, fun k u hu => ?_⟩
  have h1 := hc k u hu
  have h2 := hm.block b (lt_of_cell h1) (fun hs => hS _ hs _ _ _ rfl rfl)
  rw [← h1]
  simp only [World.cell?, h2]
theorem Rs.below {w w' : World} {pb : Nat} {tv : Value} {ts : List Tk} {i : Nat} (h : Rs w pb tv ts i) (hb : Below w.heap.size w w') : Rs w' pb tv ts i :=
  h.mo (S := fun _ => False) (Mo.ofBelow hb) (fun _ hk => hk.elim) ((hb.block pb (lt_of_block h.b)).trans h.b)
theorem Rs.step {w w' : World} {pb : Nat} {tv : Value} {ts : List Tk} {i j : Nat} (h : Rs w pb tv ts i) (hm : Mo (· = pb) w w') (hb : w'.heap[pb]? = some (rpObj tv j 0 0)) : Rs w' pb tv ts j :=
  h.mo hm (fun k hk ad n c e => by rw [hk]; exact h.ap ad n c e) hb
theorem Rs.drew {w : World} {pb : Nat} {tv : Value} {ts : List Tk} {i : Nat} (h : Rs w pb tv ts i) : Rs w.drew pb tv ts i := ⟨h.b, h.t, h.ap⟩
set_option maxHeartbeats 1000000 in
theorem rbad_no {w : World} {pb : Nat} {tv : Value} {ts : List Tk} {i : Nat} (h : Rs w pb tv ts i) :
    Calls Tryz.prog 30 #[.pointer (some ⟨pb, 0, none⟩)] w fun e w' => e = .returned (.bool false) ∧ w' = w := by
  obtain ⟨⟨_, _, c2, _, _, _⟩, _⟩ := blk6 h.b
  have zp := lt_of_block h.b
  clear h
  go_enter Tryz.func30, Tryz.ntmps30
  go_wp2
  go_ret
  exact ⟨rfl, rfl⟩
set_option maxHeartbeats 1000000 in
theorem rbad_yes {w : World} {pb : Nat} {c a : Int} (h : Rb w pb c a) :
    Calls Tryz.prog 30 #[.pointer (some ⟨pb, 0, none⟩)] w fun e w' => e = .returned (.bool true) ∧ w' = w := by
  obtain ⟨hc, tv, i, hb⟩ := h
  obtain ⟨⟨_, _, c2, _, _, _⟩, _⟩ := blk6 hb
  have zp := lt_of_block hb
  have hn : (c != 0) = true := by simpa using hc
  go_enter Tryz.func30, Tryz.ntmps30
  go_wp2
  go_ret
  exact ⟨by simp, rfl⟩
theorem ret_f {w : World} {fn : Func} {t : Tmp} (hfn : fn.results = #[.cell t 34]) {tmps : Array Value} {q : Nat} {u0 u1 u2 u3 : Value} (h4 : tmps[t]?.getD undef = .pointer (some ⟨q, 0, none⟩)) (hq : w.heap[q]? = some (.cells #[u0, u1, u2, u3] 34)) : (results fn tmps).run Tryz.prog w = .ok (.agg #[u0, u1, u2, u3]) w := by
  obtain ⟨⟨z0, z1, z2, z3⟩, _⟩ := blk4x hq
  simp [results, hfn, go_sem, h4, z0, z1, z2, z3]
set_option maxHeartbeats 1000000 in
theorem nat_any (c a : Int) (w : World) :
    Calls Tryz.prog 71 #[.int .i64 c, .int .i64 a] w fun e w' => e = .returned (.agg #[.int .i64 c, .int .i64 a, .string ⟨#[]⟩, .slice none 0 0]) ∧ Below w.heap.size w w' := by
  have hb0 := below_alloc w (.cells #[.int .i64 c, .int .i64 a, .string ⟨#[]⟩, .slice none 0 0] 34)
  go_enter Tryz.func71, Tryz.ntmps71
  go_wp2
  refine bodyPost_ret (ret_f Tryz.results71 (by rfl) (heap_alloc_new w _)) rfl ⟨rfl, hb0⟩
/-- The world behind a fault stored into the reader. -/
abbrev rpEnd (w : World) (q : Nat) (c a : Int) : World := (((w.setCell ⟨q, 2, none⟩ (.int .i64 c)).setCell ⟨q, 3, none⟩ (.int .i64 a)).setCell ⟨q, 4, none⟩ (.string ⟨#[]⟩)).setCell ⟨q, 5, none⟩ (.slice none 0 0)
theorem rpEnd_is {w : World} {q : Nat} {tv : Value} {i : Nat} {c0 a0 : Int} (c a : Int) (h : w.heap[q]? = some (rpObj tv i c0 a0)) : (rpEnd w q c a).heap[q]? = some (rpObj tv i c a) := by
  have h0 := heap_setCell_same w q 2 _ _ (.int .i64 c) h
  have h1 := heap_setCell_same _ q 3 _ _ (.int .i64 a) h0
  have h2 := heap_setCell_same _ q 4 _ _ (.string ⟨#[]⟩) h1
  have h3 := heap_setCell_same _ q 5 _ _ (.slice none 0 0) h2
  rw [rpEnd, h3]
  rfl
theorem rpEnd_mo {w w1 : World} {q : Nat} (h : Mo (· = q) w w1) (c a : Int) : Mo (· = q) w (rpEnd w1 q c a) := (((h.setCell (p := ⟨q, 2, none⟩) (Or.inl rfl) _).setCell (p := ⟨q, 3, none⟩) (Or.inl rfl) _).setCell (p := ⟨q, 4, none⟩) (Or.inl rfl) _).setCell (p := ⟨q, 5, none⟩) (Or.inl rfl) _
set_option maxRecDepth 100000 in
set_option maxHeartbeats 4000000 in
theorem rwrong_any {w : World} {pb : Nat} {tv : Value} {ts : List Tk} {i : Nat} (h : Rs w pb tv ts i) (hi : i < ts.length) :
    Calls Tryz.prog 36 #[.pointer (some ⟨pb, 0, none⟩)] w fun e w' => e = .returned (.tuple #[]) ∧ Mo (· = pb) w w' ∧ Rb w' pb (mustC (tkA ts i)) ((tkA ts i).at_ : Int) := by
  have hbd := rbad_no h
  have hB := hid h.b
  obtain ⟨⟨c0, c1, c2, c3, c4, c5⟩, f0, f1, f2, f3, f4, f5⟩ := blk6 h.b
  have zp := lt_of_block h.b
  obtain ⟨ao, c, rfl, ht⟩ := h.t
  obtain ⟨b, o, rfl, hc⟩ := ht i hi
  have t0 := hc 0 _ rfl
  rw [Nat.add_zero] at t0
  have t1 := hc 1 _ rfl
  have t2 := hc 2 _ rfl
  have t3 := hc 3 _ rfl
  have t4 := hc 4 _ rfl
  have zb := lt_of_cell t0
  have hi2 : (i : Int) < (ts.length : Int) := by omega
  have hat := hid (fun c a w => nat_any c a w)
  unfold mustC tkA
  generalize ts.getD i tk0 = t at *
  generalize ts.length = N at *
  clear h ht hc
  obtain ⟨tk, tt, tn, ta, te⟩ := t
  dsimp only at *
  by_cases e0 : tk = 0
  · subst e0
    rw [if_pos rfl]
    go_enter Tryz.func36, Tryz.ntmps36
    go_wp2_with (go_at_call 30; go_must (refine hbd.mono ?_; rintro e w ⟨rfl, rfl⟩))
    go_region
    go_wp2_with (go_at_call 71; go_must (refine (hat.out _ _ _).mono ?_; clear hat; rintro e w2 ⟨rfl, hb2⟩; have hba := hid (below_alloc w (tokObj ⟨0, tt, tn, ta, te⟩)); have hB2 := hid (Below.next hba.out.drew hb2); have hq2 := (hB2.out.block pb zp).trans hB.out; have zp2 := lt_of_block hq2; obtain ⟨⟨u0, u1, u2, u3, u4, u5⟩, g0, g1, g2, g3, g4, g5⟩ := blk6 hq2))
    exact bodyPost_end (ret_void Tryz.results36) rfl ⟨rfl, rpEnd_mo (Mo.ofBelow hB2.out) 72 (ta : Int), by decide, _, i, rpEnd_is 72 (ta : Int) hq2⟩
  · have e1 : (tk == 0) = false := beq_eq_false_iff_ne.2 e0
    rw [if_neg e0]
    go_enter Tryz.func36, Tryz.ntmps36
    go_wp2_with (go_at_call 30; go_must (refine hbd.mono ?_; rintro e w ⟨rfl, rfl⟩))
    go_region
    go_wp2_with (go_at_call 71; go_must (refine (hat.out _ _ _).mono ?_; clear hat; rintro e w2 ⟨rfl, hb2⟩; have hba := hid (below_alloc w (tokObj ⟨tk, tt, tn, ta, te⟩)); have hB2 := hid (Below.next hba.out.drew hb2); have hq2 := (hB2.out.block pb zp).trans hB.out; have zp2 := lt_of_block hq2; obtain ⟨⟨u0, u1, u2, u3, u4, u5⟩, g0, g1, g2, g3, g4, g5⟩ := blk6 hq2))
    exact bodyPost_end (ret_void Tryz.results36) rfl ⟨rfl, rpEnd_mo (Mo.ofBelow hB2.out) 71 (ta : Int), by decide, _, i, rpEnd_is 71 (ta : Int) hq2⟩
set_option maxRecDepth 100000 in
set_option maxHeartbeats 4000000 in
theorem rwrong_bad {w : World} {pb : Nat} {c a : Int} (h : Rb w pb c a) :
    Calls Tryz.prog 36 #[.pointer (some ⟨pb, 0, none⟩)] w fun e w' => e = .returned (.tuple #[]) ∧ w' = w := by
  have hbd := rbad_yes h
  go_enter Tryz.func36, Tryz.ntmps36
  go_wp2_with (go_at_call 30; go_must (refine hbd.mono ?_; rintro e w ⟨rfl, rfl⟩))
  exact bodyPost_ret (ret_void Tryz.results36) rfl ⟨rfl, rfl⟩
set_option maxRecDepth 100000 in
set_option maxHeartbeats 4000000 in
theorem rsee_any {w : World} {pb : Nat} {tv : Value} {ts : List Tk} {i : Nat} (h : Rs w pb tv ts i) (hi : i < ts.length) (s : ByteArray) :
    Calls Tryz.prog 33 #[.pointer (some ⟨pb, 0, none⟩), .string s] w fun e w' => e = .returned (.bool (seesF (tkA ts i) 4 s)) ∧ Below w.heap.size w w' := by
  have hbd := fun k => rbad_no (w := w.drewN k) (pb := pb) (tv := tv) (ts := ts) (i := i) ⟨h.b, h.t, h.ap⟩
  obtain ⟨⟨c0, c1, c2, c3, c4, c5⟩, f0, f1, f2, f3, f4, f5⟩ := blk6 h.b
  have zp := lt_of_block h.b
  obtain ⟨ao, c, rfl, ht⟩ := h.t
  obtain ⟨b, o, rfl, hc⟩ := ht i hi
  have t0 := hc 0 _ rfl
  rw [Nat.add_zero] at t0
  have t1 := hc 1 _ rfl
  have zb := lt_of_cell t0
  have hi2 : (i : Int) < (ts.length : Int) := by omega
  unfold seesF tkA
  generalize ts.getD i tk0 = t at *
  generalize ts.length = N at *
  clear h ht hc hi
  obtain ⟨tk, tt, tn, ta, te⟩ := t
  dsimp only at *
  by_cases e0 : tk = 4
  · subst e0
    go_enter Tryz.func33, Tryz.ntmps33
    go_wp2
    go_quiet ((go_at_call 30; exact Calls.quiet_of_same (hbd _)))
    go_wp2
    go_ret
    exact ⟨rfl, below_drewN (Below.refl _ _) _⟩
  · have e1 : (tk == 4) = false := beq_eq_false_iff_ne.2 e0
    go_enter Tryz.func33, Tryz.ntmps33
    go_wp2
    go_quiet ((go_at_call 30; exact Calls.quiet_of_same (hbd _)))
    go_wp2
    go_ret
    exact ⟨by rw [e1]; rfl, below_drewN (Below.refl _ _) _⟩
set_option maxRecDepth 100000 in
set_option maxHeartbeats 4000000 in
theorem rsee_bad {w : World} {pb : Nat} {c a : Int} (h : Rb w pb c a) (s : ByteArray) :
    Calls Tryz.prog 33 #[.pointer (some ⟨pb, 0, none⟩), .string s] w fun e w' => e = .returned (.bool false) ∧ Below w.heap.size w w' := by
  have hbd := fun k => rbad_yes (w := w.drewN k) (pb := pb) (c := c) (a := a) h
  clear h
  go_enter Tryz.func33, Tryz.ntmps33
  go_wp2
  go_quiet ((go_at_call 30; exact Calls.quiet_of_same (hbd _)))
  go_wp2
  go_ret
  exact ⟨rfl, below_drewN (Below.refl _ _) _⟩
theorem Rb.below {w w' : World} {pb : Nat} {c a : Int} (h : Rb w pb c a) (hb : Below w.heap.size w w') : Rb w' pb c a := by
  obtain ⟨hc, tv, i, h⟩ := h
  exact ⟨hc, tv, i, (hb.block pb (lt_of_block h)).trans h⟩
/-- The world in which the reader has gone on by a token. -/
theorem Rs.next {w w1 : World} {pb : Nat} {tv : Value} {ts : List Tk} {i : Nat} (h : Rs w pb tv ts i) (hb : Below w.heap.size w w1) : Rs (w1.setCell ⟨pb, 1, none⟩ (.int .i64 ((i : Int) + 1))) pb tv ts (i + 1) ∧ Mo (· = pb) w (w1.setCell ⟨pb, 1, none⟩ (.int .i64 ((i : Int) + 1))) := by
  have hm : Mo (· = pb) w (w1.setCell ⟨pb, 1, none⟩ (.int .i64 ((i : Int) + 1))) := (Mo.ofBelow hb : Mo (· = pb) w w1).setCell (p := ⟨pb, 1, none⟩) (Or.inl rfl) _
  exact ⟨h.step hm (heap_setCell_same w1 pb 1 _ _ _ (h.below hb).b), hm⟩
set_option maxRecDepth 100000 in
set_option maxHeartbeats 4000000 in
theorem rskip_yes {w : World} {pb : Nat} {tv : Value} {ts : List Tk} {i : Nat} (h : Rs w pb tv ts i) (hi : i < ts.length) (hl : ts.length ≤ 10000000) (s : ByteArray) (hs : seesF (tkA ts i) 4 s = true) :
    Calls Tryz.prog 35 #[.pointer (some ⟨pb, 0, none⟩), .string s] w fun e w' => e = .returned (.tuple #[]) ∧ Mo (· = pb) w w' ∧ Rs w' pb tv ts (i + 1) := by
  have hse := rsee_any h hi s
  rw [hs] at hse
  have hH := hid h
  have hir : i ≤ 10000000 := by omega
  clear h hs
  go_enter Tryz.func35, Tryz.ntmps35
  go_wp2_with (go_at_call 33; go_must (refine hse.mono ?_; rintro e w1 ⟨rfl, hb1⟩; have hq1 := (hH.out.below hb1).b; have zp1 := lt_of_block hq1; obtain ⟨⟨c0, c1, c2, c3, c4, c5⟩, f0, f1, f2, f3, f4, f5⟩ := blk6 hq1))
  obtain ⟨hR, hM⟩ := hH.out.next hb1
  exact bodyPost_ret (ret_void Tryz.results35) rfl ⟨rfl, hM, hR⟩
set_option maxRecDepth 100000 in
set_option maxHeartbeats 4000000 in
theorem rskip_no {w : World} {pb : Nat} {tv : Value} {ts : List Tk} {i : Nat} (h : Rs w pb tv ts i) (hi : i < ts.length) (s : ByteArray) (hs : seesF (tkA ts i) 4 s = false) :
    Calls Tryz.prog 35 #[.pointer (some ⟨pb, 0, none⟩), .string s] w fun e w' => e = .returned (.tuple #[]) ∧ Mo (· = pb) w w' ∧ Rb w' pb (mustC (tkA ts i)) ((tkA ts i).at_ : Int) := by
  have hse := rsee_any h hi s
  rw [hs] at hse
  have hwr := hid (fun w1 (hb : Below w.heap.size w w1) => rwrong_any (h.below hb) hi)
  clear h hs
  go_enter Tryz.func35, Tryz.ntmps35
  go_wp2_with (first
    | (go_at_call 33; go_must (refine hse.mono ?_; rintro e w1 ⟨rfl, hb1⟩))
    | (go_at_call 36; go_must (refine (hwr.out w1 hb1).mono ?_; rintro e w2 ⟨rfl, hm2, hr2⟩)))
  exact bodyPost_end (ret_void Tryz.results35) rfl ⟨rfl, (Mo.ofBelow hb1 : Mo (· = pb) w w1).trans hm2 (fun _ h => Or.inl h), hr2⟩
set_option maxRecDepth 100000 in
set_option maxHeartbeats 4000000 in
theorem rskip_bad {w : World} {pb : Nat} {c a : Int} (h : Rb w pb c a) (s : ByteArray) :
    Calls Tryz.prog 35 #[.pointer (some ⟨pb, 0, none⟩), .string s] w fun e w' => e = .returned (.tuple #[]) ∧ Below w.heap.size w w' := by
  have hse := rsee_bad h s
  have hwr := hid (fun w1 (hb : Below w.heap.size w w1) => rwrong_bad (h.below hb))
  clear h
  go_enter Tryz.func35, Tryz.ntmps35
  go_wp2_with (first
    | (go_at_call 33; go_must (refine hse.mono ?_; rintro e w1 ⟨rfl, hb1⟩))
    | (go_at_call 36; go_must (refine (hwr.out w1 hb1).mono ?_; rintro e w1 ⟨rfl, rfl⟩)))
  exact bodyPost_end (ret_void Tryz.results35) rfl ⟨rfl, hb1⟩
end Go.Proofs.YtklfnphkepfmaaaGreatDoor

/- The reference's reader: may a term begin here? -/
namespace Go.Proofs.YtklfnphkepfmaaaGreatDoor
open Go.RowKit
attribute [local go_sem] tok_kind tok_text tok_num tok_at

/-- Tokens are of the kinds that there are. -/
def KindT (ts : List Tk) : Prop := ∀ i, i < ts.length → 0 ≤ (tkA ts i).kind ∧ (tkA ts i).kind ≤ 4
/-- The fault for which a term may not begin here; 0: none. -/
def stF (ts : List Tk) (nest number : Int) (i : Nat) : Int := if opensF (tkA ts i) = false then mustC (tkA ts i) else if 8 < number then 74 else if 4096 < nest then 73 else 0
theorem opens_four {t : Tk} (hk : t.kind = 4) : opensF t = (t.text.toList == [91]) := by
  unfold opensF inS
  rw [hk]
  have ha : (t.text.data == #[91]) = (t.text.data.toList == [91]) := by
    rw [Bool.eq_iff_iff, beq_iff_eq, beq_iff_eq]
    constructor
    · intro h; rw [h]
    · intro h; exact Array.toList_inj.1 h
  simp [ByteArray.toList_eq, ha]
theorem opens_some {t : Tk} (h0 : 0 ≤ t.kind) (h4 : t.kind ≤ 4) (hn : t.kind ≠ 4) : opensF t = !(t.kind == 0) := by
  unfold opensF
  have hc : t.kind = 0 ∨ t.kind = 1 ∨ t.kind = 2 ∨ t.kind = 3 := by omega
  rcases hc with h | h | h | h <;> rw [h] <;> rfl
set_option maxRecDepth 100000 in
set_option maxHeartbeats 8000000 in
theorem starts_any {w : World} {pb : Nat} {tv : Value} {ts : List Tk} {i : Nat} (h : Rs w pb tv ts i) (hi : i < ts.length) (hK : KindT ts) (nest number : Int) :
    Calls Tryz.prog 69 #[.pointer (some ⟨pb, 0, none⟩), .int .i64 nest, .int .i64 number] w fun e w' => e = .returned (.bool (stF ts nest number i == 0)) ∧ Mo (· = pb) w w' ∧ (if stF ts nest number i = 0 then Below w.heap.size w w' else Rb w' pb (stF ts nest number i) ((tkA ts i).at_ : Int)) := by
  have hbd := rbad_no h
  obtain ⟨hk0, hk4⟩ := hK i hi
  have hwr := hid (fun w1 (hb : Below w.heap.size w w1) => rwrong_any (h.below hb) hi)
  have hB := hid h.b
  obtain ⟨⟨c0, c1, c2, c3, c4, c5⟩, f0, f1, f2, f3, f4, f5⟩ := blk6 h.b
  have zp := lt_of_block h.b
  obtain ⟨ao, cp, rfl, ht⟩ := h.t
  obtain ⟨b, o, rfl, hc⟩ := ht i hi
  have t0 := hc 0 _ rfl
  rw [Nat.add_zero] at t0
  have t1 := hc 1 _ rfl
  have t2 := hc 2 _ rfl
  have t3 := hc 3 _ rfl
  have t4 := hc 4 _ rfl
  have zb := lt_of_cell t0
  have hi2 : (i : Int) < (ts.length : Int) := by omega
  have hat := hid (fun c a w => nat_any c a w)
  unfold stF
  unfold tkA at *
  generalize ts.getD i tk0 = t at *
  generalize ts.length = N at *
  clear h ht hc hK
  have hba := hid (below_alloc w (tokObj t))
  by_cases ho : opensF t = false
  · rw [if_pos ho]
    have hm0 := must_pos t
    have hmb : (mustC t == 0) = false := beq_eq_false_iff_ne.2 hm0
    by_cases h4 : t.kind = 4
    · rw [opens_four h4] at ho
      obtain ⟨tk, tt, tn, ta, te⟩ := t
      dsimp only at *
      subst h4
      go_enter Tryz.func69, Tryz.ntmps69
      go_wp2_with (go_at_call 30; go_must (refine hbd.mono ?_; rintro e w ⟨rfl, rfl⟩))
      go_region
      go_wp2_with (go_at_call 36; go_must (refine (hwr.out _ hba.out.drew).mono ?_; rintro e w2 ⟨rfl, hm2, hr2⟩))
      go_ret
      exact ⟨by first | rfl | rw [hmb], (Mo.ofBelow hba.out.drew : Mo (· = pb) w _).trans hm2 (fun _ h => Or.inl h), by first | exact hr2 | (rw [if_neg hm0]; exact hr2)⟩
    · rw [opens_some hk0 hk4 h4] at ho
      have h0 : t.kind = 0 := by simpa using ho
      obtain ⟨tk, tt, tn, ta, te⟩ := t
      dsimp only at *
      subst h0
      go_enter Tryz.func69, Tryz.ntmps69
      go_wp2_with (go_at_call 30; go_must (refine hbd.mono ?_; rintro e w ⟨rfl, rfl⟩))
      go_region
      go_wp2_with (go_at_call 36; go_must (refine (hwr.out _ hba.out.drew).mono ?_; rintro e w2 ⟨rfl, hm2, hr2⟩))
      go_ret
      exact ⟨by first | rfl | rw [hmb], (Mo.ofBelow hba.out.drew : Mo (· = pb) w _).trans hm2 (fun _ h => Or.inl h), by first | exact hr2 | (rw [if_neg hm0]; exact hr2)⟩
  · rw [if_neg ho]
    have ho : opensF t = true := by simpa using ho
    have hfin : Hid (∀ w2 (c : Int), c ≠ 0 → Below (w.alloc (tokObj t)).drew.heap.size (w.alloc (tokObj t)).drew w2 → w2.heap[pb]? = some (rpObj (.slice (some ⟨b, o, none⟩) N cp) i 0 0) ∧ Mo (· = pb) w (rpEnd w2 pb c (t.at_ : Int)) ∧ Rb (rpEnd w2 pb c (t.at_ : Int)) pb c (t.at_ : Int)) := fun w2 c hc hb2 => by
      have hB2 := Below.next hba.out.drew hb2
      have hq2 := (hB2.block pb zp).trans hB.out
      exact ⟨hq2, rpEnd_mo (Mo.ofBelow hB2) c _, hc, _, i, rpEnd_is c _ hq2⟩
    have hkc : (t.kind = 4 ∧ (t.text.toList == [91]) = true) ∨ (t.kind ≠ 4 ∧ t.kind ≠ 0) := by
      by_cases h4 : t.kind = 4
      · rw [opens_four h4] at ho
        exact Or.inl ⟨h4, ho⟩
      · rw [opens_some hk0 hk4 h4] at ho
        exact Or.inr ⟨h4, by simpa using ho⟩
    clear hwr ho hk0 hk4
    obtain ⟨tk, tt, tn, ta, te⟩ := t
    dsimp only at *
    by_cases h8 : 8 < number
    · have d8 : decide (8 < number) = true := decide_eq_true h8
      rw [if_pos h8]
      rcases hkc with ⟨h4, hbr⟩ | ⟨h4, h0⟩
      · subst h4
        go_enter Tryz.func69, Tryz.ntmps69
        go_wp2_with (go_at_call 30; go_must (refine hbd.mono ?_; rintro e w ⟨rfl, rfl⟩))
        go_region
        go_wp2_with (go_at_call 71; go_must (refine (hat.out _ _ _).mono ?_; clear hat; rintro e w2 ⟨rfl, hb2⟩; obtain ⟨hq2, hm2, hr2⟩ := hfin.out w2 74 (by decide) hb2; have zp2 := lt_of_block hq2; obtain ⟨⟨u0, u1, u2, u3, u4, u5⟩, g0, g1, g2, g3, g4, g5⟩ := blk6 hq2))
        go_ret
        exact ⟨rfl, hm2, hr2⟩
      · have n4 : (tk == 4) = false := beq_eq_false_iff_ne.2 h4
        have n0 : (tk == 0) = false := beq_eq_false_iff_ne.2 h0
        go_enter Tryz.func69, Tryz.ntmps69
        go_wp2_with (go_at_call 30; go_must (refine hbd.mono ?_; rintro e w ⟨rfl, rfl⟩))
        go_region
        go_wp2_with (go_at_call 71; go_must (refine (hat.out _ _ _).mono ?_; clear hat; rintro e w2 ⟨rfl, hb2⟩; obtain ⟨hq2, hm2, hr2⟩ := hfin.out w2 74 (by decide) hb2; have zp2 := lt_of_block hq2; obtain ⟨⟨u0, u1, u2, u3, u4, u5⟩, g0, g1, g2, g3, g4, g5⟩ := blk6 hq2))
        go_ret
        exact ⟨rfl, hm2, hr2⟩
    · have d8 : decide (8 < number) = false := decide_eq_false h8
      rw [if_neg h8]
      by_cases h9 : 4096 < nest
      · have d9 : decide (4096 < nest) = true := decide_eq_true h9
        rw [if_pos h9]
        rcases hkc with ⟨h4, hbr⟩ | ⟨h4, h0⟩
        · subst h4
          go_enter Tryz.func69, Tryz.ntmps69
          go_wp2_with (go_at_call 30; go_must (refine hbd.mono ?_; rintro e w ⟨rfl, rfl⟩))
          go_region
          go_wp2_with (go_at_call 71; go_must (refine (hat.out _ _ _).mono ?_; clear hat; rintro e w2 ⟨rfl, hb2⟩; obtain ⟨hq2, hm2, hr2⟩ := hfin.out w2 73 (by decide) hb2; have zp2 := lt_of_block hq2; obtain ⟨⟨u0, u1, u2, u3, u4, u5⟩, g0, g1, g2, g3, g4, g5⟩ := blk6 hq2))
          go_ret
          exact ⟨rfl, hm2, hr2⟩
        · have n4 : (tk == 4) = false := beq_eq_false_iff_ne.2 h4
          have n0 : (tk == 0) = false := beq_eq_false_iff_ne.2 h0
          go_enter Tryz.func69, Tryz.ntmps69
          go_wp2_with (go_at_call 30; go_must (refine hbd.mono ?_; rintro e w ⟨rfl, rfl⟩))
          go_region
          go_wp2_with (go_at_call 71; go_must (refine (hat.out _ _ _).mono ?_; clear hat; rintro e w2 ⟨rfl, hb2⟩; obtain ⟨hq2, hm2, hr2⟩ := hfin.out w2 73 (by decide) hb2; have zp2 := lt_of_block hq2; obtain ⟨⟨u0, u1, u2, u3, u4, u5⟩, g0, g1, g2, g3, g4, g5⟩ := blk6 hq2))
          go_ret
          exact ⟨rfl, hm2, hr2⟩
      · have d9 : decide (4096 < nest) = false := decide_eq_false h9
        rw [if_neg h9]
        rcases hkc with ⟨h4, hbr⟩ | ⟨h4, h0⟩
        · subst h4
          go_enter Tryz.func69, Tryz.ntmps69
          go_wp2_with (go_at_call 30; go_must (refine hbd.mono ?_; rintro e w ⟨rfl, rfl⟩))
          go_region
          go_wp2
          go_ret
          exact ⟨rfl, Mo.ofBelow hba.out.drew, hba.out.drew⟩
        · have n4 : (tk == 4) = false := beq_eq_false_iff_ne.2 h4
          have n0 : (tk == 0) = false := beq_eq_false_iff_ne.2 h0
          go_enter Tryz.func69, Tryz.ntmps69
          go_wp2_with (go_at_call 30; go_must (refine hbd.mono ?_; rintro e w ⟨rfl, rfl⟩))
          go_region
          go_wp2
          go_ret
          exact ⟨rfl, Mo.ofBelow hba.out.drew, hba.out.drew⟩
end Go.Proofs.YtklfnphkepfmaaaGreatDoor

/- The reference's reader: a term that is a leaf, or none. -/
namespace Go.Proofs.YtklfnphkepfmaaaGreatDoor
open Go.RowKit
attribute [local go_sem] tok_kind tok_text tok_num tok_at

/-- What the reference's term answers, as plain data: the number's limit ahead of the nest's. -/
def rtF (ts : List Tk) (f : Nat) (nest number : Int) (i : Nat) : Rd1 Ex := if opensF (tkA ts i) = false then .bad (mustC (tkA ts i)) i else if 8 < number then .bad 74 i else termF ts f nest i
theorem rt_bad {ts : List Tk} {f : Nat} {nest number : Int} {i : Nat} (h : stF ts nest number i ≠ 0) (hf : nof (rtF ts f nest number i)) : rtF ts f nest number i = .bad (stF ts nest number i) i := by
  unfold rtF stF at *
  by_cases h1 : opensF (tkA ts i) = false
  · rw [if_pos h1, if_pos h1]
  · rw [if_neg h1] at hf ⊢
    rw [if_neg h1] at h ⊢
    by_cases h2 : 8 < number
    · rw [if_pos h2, if_pos h2]
    · rw [if_neg h2] at hf ⊢
      rw [if_neg h2] at h ⊢
      by_cases h3 : 4096 < nest
      · cases f with
        | zero => exact absurd rfl hf
        | succ f => rw [termF, if_neg h1, if_pos h3, if_pos h3]
      · rw [if_neg h3] at h
        exact absurd rfl h
theorem rt_ok {ts : List Tk} {f : Nat} {nest number : Int} {i : Nat} (h : stF ts nest number i = 0) : rtF ts f nest number i = termF ts f nest i ∧ opensF (tkA ts i) = true ∧ nest ≤ 4096 ∧ number ≤ 8 := by
  unfold rtF
  unfold stF at h
  by_cases h1 : opensF (tkA ts i) = false
  · rw [if_pos h1] at h
    exact absurd h (must_pos _)
  · rw [if_neg h1] at h ⊢
    by_cases h2 : 8 < number
    · rw [if_pos h2] at h
      exact absurd h (by decide)
    · rw [if_neg h2] at h ⊢
      by_cases h3 : 4096 < nest
      · rw [if_pos h3] at h
        exact absurd h (by decide)
      · exact ⟨rfl, by simpa using h1, by omega, by omega⟩
/-- What a call that reads a term leaves. -/
def Rtm (w : World) (pb : Nat) (tv : Value) (ts : List Tk) (r : Rd1 Ex) (e : Ending) (w' : World) : Prop :=
  match r with
  | .ok x j => ∃ v, e = .returned v ∧ Mo (· = pb) w w' ∧ Rs w' pb tv ts j ∧ Xw (w.heap.size ≤ ·) w' x v
  | .bad c j => ∃ (k : Int) (n : ByteArray) (m : Int) (aa : Option Addr) (al ac : Nat), e = .returned (.agg #[.int .i64 k, .string n, .int .i64 m, .slice aa al ac]) ∧ Mo (· = pb) w w' ∧ Rb w' pb c ((tkA ts j).at_ : Int)
abbrev exZ : Obj := .cells #[.int .i64 0, .string ⟨#[]⟩, .int .i64 0, .slice none 0 0] 40
theorem Rb.other {w w' : World} {pb : Nat} {c a : Int} (h : Rb w pb c a) (e : w'.heap[pb]? = w.heap[pb]?) : Rb w' pb c a := by
  obtain ⟨hc, tv, i, h⟩ := h
  exact ⟨hc, tv, i, e.trans h⟩
/-- The cells of the token at the place. -/
theorem Rs.tok {w : World} {pb : Nat} {b o N cp : Nat} {ts : List Tk} {i : Nat} (h : Rs w pb (.slice (some ⟨b, o, none⟩) N cp) ts i) (hi : i < ts.length) : ∀ (k : Nat) (u : Value), (tcell (tkA ts i))[k]? = some u → w.cell? ⟨b, o + i * 5 + k, none⟩ = some u := by
  obtain ⟨ao, c, e, ht⟩ := h.t
  obtain ⟨b', o', e', hc⟩ := ht i hi
  injection e with e1 e2 e3
  subst e1
  injection e' with e'
  injection e' with e4 e5
  subst e4 e5
  exact hc
set_option maxRecDepth 100000 in
set_option maxHeartbeats 4000000 in
theorem rterm_no {w : World} {pb : Nat} {tv : Value} {ts : List Tk} {i : Nat} (h : Rs w pb tv ts i) (hi : i < ts.length) (hK : KindT ts) (nest number : Int) (hs : stF ts nest number i ≠ 0) :
    Calls Tryz.prog 32 #[.pointer (some ⟨pb, 0, none⟩), .int .i64 nest, .int .i64 number] w (Rtm w pb tv ts (.bad (stF ts nest number i) i)) := by
  have zp := lt_of_block h.b
  have hb0 := below_alloc w exZ
  have h1 := starts_any (h.below hb0) hi hK nest number
  rw [show (stF ts nest number i == 0) = false from beq_eq_false_iff_ne.2 hs] at h1
  have hsn := hid hs
  clear hs h
  go_enter Tryz.func32, Tryz.ntmps32
  go_wp2_with (go_at_call 69; go_must (refine h1.mono ?_; clear h1; rintro e w1 ⟨rfl, hm1, hr1⟩; rw [if_neg hsn.out] at hr1; have hq1 : w1.heap[w.heap.size]? = some exZ := (hm1.block _ (by simp) (by omega)).trans (heap_alloc_new w _); have zq1 := lt_of_block hq1; obtain ⟨⟨q0, q1, q2, q3⟩, r0, r1, r2, r3⟩ := blk4x hq1))
  have hM1 := (Mo.ofBelow hb0 : Mo (· = pb) w _).trans hm1 (fun _ h => Or.inl h)
  have hq2 := ex_end (.int .i64 0) (.string ⟨#[]⟩) (.int .i64 0) (.slice none 0 0) hq1
  exact bodyPost_ret (ret_ex Tryz.results32 (by rfl) hq2) rfl ⟨_, _, _, _, _, _, rfl, exEnd_mo hM1 (Nat.le_refl _), hr1.other (exEnd_other (by omega))⟩
set_option maxRecDepth 100000 in
set_option maxHeartbeats 8000000 in
theorem rterm_var {w : World} {pb : Nat} {tv : Value} {ts : List Tk} {i : Nat} (h : Rs w pb tv ts i) (hi : i < ts.length) (hl : ts.length ≤ 10000000) (hK : KindT ts) (nest number : Int) (hs : stF ts nest number i = 0) (hk : (tkA ts i).kind = 2) :
    Calls Tryz.prog 32 #[.pointer (some ⟨pb, 0, none⟩), .int .i64 nest, .int .i64 number] w (Rtm w pb tv ts (.ok (.mk 1 (tkA ts i).text 0 []) (i + 1))) := by
  have zp := lt_of_block h.b
  have hb0 := below_alloc w exZ
  have h1 := starts_any (h.below hb0) hi hK nest number
  rw [hs] at h1
  replace h1 : Calls _ _ _ _ (fun e w' => e = .returned (.bool true) ∧ Mo (· = pb) (w.alloc exZ) w' ∧ Below (w.alloc exZ).heap.size (w.alloc exZ) w') := h1
  have hsl : ∃ b o cp, tv = .slice (some ⟨b, o, none⟩) ts.length cp := by
    obtain ⟨ao, cp, rfl, ht⟩ := h.t
    obtain ⟨b, o, rfl, _⟩ := ht i hi
    exact ⟨b, o, cp, rfl⟩
  obtain ⟨b, o, cp, rfl⟩ := hsl
  have hH := hid h
  have htok : Hid (∀ w1, Below w.heap.size w w1 → ∀ (k : Nat) (u : Value), (tcell (tkA ts i))[k]? = some u → w1.cell? ⟨b, o + i * 5 + k, none⟩ = some u) := fun w1 hb => (h.below hb).tok hi
  have hir : i ≤ 10000000 := by omega
  have hi2 : (i : Int) < (ts.length : Int) := by omega
  clear h hs
  generalize tkA ts i = t at *
  obtain ⟨tk, tt, tn, ta, te⟩ := t
  dsimp only at *
  subst hk
  go_enter Tryz.func32, Tryz.ntmps32
  go_wp2_with (go_at_call 69; go_must (refine h1.mono ?_; clear h1; rintro e w1 ⟨rfl, _, hb1⟩; have hB1 := hid (Below.next hb0 hb1); have hq1 := hid ((hb1.block w.heap.size (by simp)).trans (heap_alloc_new w _)); have zq1 := lt_of_block hq1.out; have hp1 := (hH.out.below hB1.out).b; have zp1 := lt_of_block hp1; obtain ⟨⟨c0, c1, c2, c3, c4, c5⟩, f0, f1, f2, f3, f4, f5⟩ := blk6 hp1; have t0 := htok.out w1 hB1.out 0 _ rfl; rw [Nat.add_zero] at t0; have t1 := htok.out w1 hB1.out 1 _ rfl; have t2 := htok.out w1 hB1.out 2 _ rfl; have t3 := htok.out w1 hB1.out 3 _ rfl; have t4 := htok.out w1 hB1.out 4 _ rfl; have zb := lt_of_cell t0; obtain ⟨⟨q0, q1, q2, q3⟩, r0, r1, r2, r3⟩ := blk4x hq1.out))
  go_region
  go_wp2
  obtain ⟨hR, hM⟩ := hH.out.next hB1.out
  have hq3 := (Below.heap_setCell w1 ⟨pb, 1, none⟩ (.int .i64 ((i : Int) + 1)) w.heap.size (show w.heap.size ≠ pb by omega)).trans hq1.out
  have hq4 := ex_end (.int .i64 1) (.string tt) (.int .i64 0) (.slice none 0 0) hq3
  have hp4 : (exEnd (w1.setCell ⟨pb, 1, none⟩ (.int .i64 ((i : Int) + 1))) w.heap.size (.int .i64 1) (.string tt) (.int .i64 0) (.slice none 0 0)).heap[pb]? = _ := (exEnd_other (by omega)).trans hR.b
  have hM4 : Mo (· = pb) w ((exEnd (w1.setCell ⟨pb, 1, none⟩ (.int .i64 ((i : Int) + 1))) w.heap.size (.int .i64 1) (.string tt) (.int .i64 0) (.slice none 0 0)).alloc (tokObj ⟨2, tt, tn, ta, te⟩)).drew := ((exEnd_mo hM (Nat.le_refl _)).alloc _).drew
  have hq5 : (((exEnd (w1.setCell ⟨pb, 1, none⟩ (.int .i64 ((i : Int) + 1))) w.heap.size (.int .i64 1) (.string tt) (.int .i64 0) (.slice none 0 0)).alloc (tokObj ⟨2, tt, tn, ta, te⟩)).drew).heap[w.heap.size]? = _ := (Below.heap_alloc _ _ _ (lt_of_block hq4)).trans hq4
  have hp5 : (((exEnd (w1.setCell ⟨pb, 1, none⟩ (.int .i64 ((i : Int) + 1))) w.heap.size (.int .i64 1) (.string tt) (.int .i64 0) (.slice none 0 0)).alloc (tokObj ⟨2, tt, tn, ta, te⟩)).drew).heap[pb]? = _ := (Below.heap_alloc _ _ _ (lt_of_block hp4)).trans hp4
  exact bodyPost_ret (ret_ex Tryz.results32 (by rfl) hq5) rfl ⟨_, rfl, hM4, hH.out.step hM4 hp5, Xw.leaf _ _ _ _ _⟩
set_option maxRecDepth 100000 in
set_option maxHeartbeats 8000000 in
theorem rterm_int {w : World} {pb : Nat} {tv : Value} {ts : List Tk} {i : Nat} (h : Rs w pb tv ts i) (hi : i < ts.length) (hl : ts.length ≤ 10000000) (hK : KindT ts) (nest number : Int) (hs : stF ts nest number i = 0) (hk : (tkA ts i).kind = 3) :
    Calls Tryz.prog 32 #[.pointer (some ⟨pb, 0, none⟩), .int .i64 nest, .int .i64 number] w (Rtm w pb tv ts (.ok (.mk 3 ⟨#[]⟩ (tkA ts i).num []) (i + 1))) := by
  have zp := lt_of_block h.b
  have hb0 := below_alloc w exZ
  have h1 := starts_any (h.below hb0) hi hK nest number
  rw [hs] at h1
  replace h1 : Calls _ _ _ _ (fun e w' => e = .returned (.bool true) ∧ Mo (· = pb) (w.alloc exZ) w' ∧ Below (w.alloc exZ).heap.size (w.alloc exZ) w') := h1
  have hsl : ∃ b o cp, tv = .slice (some ⟨b, o, none⟩) ts.length cp := by
    obtain ⟨ao, cp, rfl, ht⟩ := h.t
    obtain ⟨b, o, rfl, _⟩ := ht i hi
    exact ⟨b, o, cp, rfl⟩
  obtain ⟨b, o, cp, rfl⟩ := hsl
  have hH := hid h
  have htok : Hid (∀ w1, Below w.heap.size w w1 → ∀ (k : Nat) (u : Value), (tcell (tkA ts i))[k]? = some u → w1.cell? ⟨b, o + i * 5 + k, none⟩ = some u) := fun w1 hb => (h.below hb).tok hi
  have hir : i ≤ 10000000 := by omega
  have hi2 : (i : Int) < (ts.length : Int) := by omega
  clear h hs
  generalize tkA ts i = t at *
  obtain ⟨tk, tt, tn, ta, te⟩ := t
  dsimp only at *
  subst hk
  go_enter Tryz.func32, Tryz.ntmps32
  go_wp2_with (go_at_call 69; go_must (refine h1.mono ?_; clear h1; rintro e w1 ⟨rfl, _, hb1⟩; have hB1 := hid (Below.next hb0 hb1); have hq1 := hid ((hb1.block w.heap.size (by simp)).trans (heap_alloc_new w _)); have zq1 := lt_of_block hq1.out; have hp1 := (hH.out.below hB1.out).b; have zp1 := lt_of_block hp1; obtain ⟨⟨c0, c1, c2, c3, c4, c5⟩, f0, f1, f2, f3, f4, f5⟩ := blk6 hp1; have t0 := htok.out w1 hB1.out 0 _ rfl; rw [Nat.add_zero] at t0; have t1 := htok.out w1 hB1.out 1 _ rfl; have t2 := htok.out w1 hB1.out 2 _ rfl; have t3 := htok.out w1 hB1.out 3 _ rfl; have t4 := htok.out w1 hB1.out 4 _ rfl; have zb := lt_of_cell t0; obtain ⟨⟨q0, q1, q2, q3⟩, r0, r1, r2, r3⟩ := blk4x hq1.out))
  go_region
  go_wp2
  obtain ⟨hR, hM⟩ := hH.out.next hB1.out
  have hq3 := (Below.heap_setCell w1 ⟨pb, 1, none⟩ (.int .i64 ((i : Int) + 1)) w.heap.size (show w.heap.size ≠ pb by omega)).trans hq1.out
  have hq4 := ex_end (.int .i64 3) (.string ⟨#[]⟩) (.int .i64 tn) (.slice none 0 0) hq3
  have hp4 : (exEnd (w1.setCell ⟨pb, 1, none⟩ (.int .i64 ((i : Int) + 1))) w.heap.size (.int .i64 3) (.string ⟨#[]⟩) (.int .i64 tn) (.slice none 0 0)).heap[pb]? = _ := (exEnd_other (by omega)).trans hR.b
  have hM4 : Mo (· = pb) w ((exEnd (w1.setCell ⟨pb, 1, none⟩ (.int .i64 ((i : Int) + 1))) w.heap.size (.int .i64 3) (.string ⟨#[]⟩) (.int .i64 tn) (.slice none 0 0)).alloc (tokObj ⟨3, tt, tn, ta, te⟩)).drew := ((exEnd_mo hM (Nat.le_refl _)).alloc _).drew
  have hq5 : (((exEnd (w1.setCell ⟨pb, 1, none⟩ (.int .i64 ((i : Int) + 1))) w.heap.size (.int .i64 3) (.string ⟨#[]⟩) (.int .i64 tn) (.slice none 0 0)).alloc (tokObj ⟨3, tt, tn, ta, te⟩)).drew).heap[w.heap.size]? = _ := (Below.heap_alloc _ _ _ (lt_of_block hq4)).trans hq4
  have hp5 : (((exEnd (w1.setCell ⟨pb, 1, none⟩ (.int .i64 ((i : Int) + 1))) w.heap.size (.int .i64 3) (.string ⟨#[]⟩) (.int .i64 tn) (.slice none 0 0)).alloc (tokObj ⟨3, tt, tn, ta, te⟩)).drew).heap[pb]? = _ := (Below.heap_alloc _ _ _ (lt_of_block hp4)).trans hp4
  exact bodyPost_ret (ret_ex Tryz.results32 (by rfl) hq5) rfl ⟨_, rfl, hM4, hH.out.step hM4 hp5, Xw.leaf _ _ _ _ _⟩
end Go.Proofs.YtklfnphkepfmaaaGreatDoor

/- The reference's reader: an atom, a compound. -/
namespace Go.Proofs.YtklfnphkepfmaaaGreatDoor
open Go.RowKit
attribute [local go_sem] tok_kind tok_text tok_num tok_at

/-- What is known of the reference's term, below some fuel. -/
def RTermC (pb : Nat) (tv : Value) (ts : List Tk) (f : Nat) : Prop := ∀ f', f' < f → ∀ (nest number : Int) (i : Nat) (w : World), Rs w pb tv ts i → i < ts.length → -10 ≤ nest → nest ≤ 5000 → nof (rtF ts f' nest number i) →
  Calls Tryz.prog 32 #[.pointer (some ⟨pb, 0, none⟩), .int .i64 nest, .int .i64 number] w (Rtm w pb tv ts (rtF ts f' nest number i))
theorem args_rt {ts : List Tk} {f : Nat} {nest : Int} {i : Nat} {xs : List Ex} (h : xs.length ≤ 8) : argsF ts (f + 1) nest i xs = match rtF ts f nest ((xs.length : Int) + 1) i with
    | .bad c j => .bad c j
    | .ok e j => if mkA ts j 44 then argsF ts f nest (j + 1) (xs ++ [e]) else wantF ts 41 (.ok (xs ++ [e]) j) := by
  rw [argsF]
  unfold rtF
  by_cases h1 : opensF (tkA ts i) = false
  · rw [if_pos h1, if_pos h1]
  · rw [if_neg h1, if_neg h1]
    by_cases h2 : xs.length = 8
    · rw [if_pos h2, if_pos (by omega)]
    · rw [if_neg h2, if_neg (by omega)]
      cases termF ts f nest i <;> rfl
theorem drew_new (w : World) (p : Addr) (u : Value) (o : Obj) : ((w.setCell p u).alloc o).drew.heap[w.heap.size]? = some o := by
  have := heap_alloc_new (w.setCell p u) o
  rw [show (w.setCell p u).heap.size = w.heap.size by simp] at this
  exact this
/-- Where the reader stands, by memory. -/
theorem Rs.atOf {w : World} {pb : Nat} {tv : Value} {ts : List Tk} {i : Nat} (h : Rs w pb tv ts i) : atOf pb w = i := by
  unfold Proofs.YtklfnphkepfmaaaGreatDoor.atOf
  rw [(blk6 h.b).1.2.1]
  simp
theorem rt_wit {ts : List Tk} (hE : EndT ts) {f : Nat} {nest number : Int} {i : Nat} (hi : i < ts.length) {x : Ex} {j : Nat} (h : rtF ts f nest number i = .ok x j) : i < j ∧ j < ts.length := by
  unfold rtF at h
  by_cases h1 : opensF (tkA ts i) = false
  · rw [if_pos h1] at h
    cases h
  · rw [if_neg h1] at h
    by_cases h2 : 8 < number
    · rw [if_pos h2] at h
      cases h
    · rw [if_neg h2] at h
      have := (all_wit hE f).1 nest i hi
      rw [h] at this
      exact this
set_option maxRecDepth 100000 in
set_option maxHeartbeats 8000000 in
theorem rterm_atom {w : World} {pb : Nat} {tv : Value} {ts : List Tk} {i : Nat} (h : Rs w pb tv ts i) (hi : i + 1 < ts.length) (hl : ts.length ≤ 10000000) (hK : KindT ts) (nest number : Int) (hs : stF ts nest number i = 0) (hk : (tkA ts i).kind = 1) (hm : mkA ts (i + 1) 40 = false) :
    Calls Tryz.prog 32 #[.pointer (some ⟨pb, 0, none⟩), .int .i64 nest, .int .i64 number] w (Rtm w pb tv ts (.ok (.mk 2 (tkA ts i).text 0 []) (i + 1))) := by
  have zp := lt_of_block h.b
  have hb0 := below_alloc w exZ
  have h1 := starts_any (h.below hb0) (by omega) hK nest number
  rw [hs] at h1
  replace h1 : Calls _ _ _ _ (fun e w' => e = .returned (.bool true) ∧ Mo (· = pb) (w.alloc exZ) w' ∧ Below (w.alloc exZ).heap.size (w.alloc exZ) w') := h1
  have hsl : ∃ b o cp, tv = .slice (some ⟨b, o, none⟩) ts.length cp := by
    obtain ⟨ao, cp, rfl, ht⟩ := h.t
    obtain ⟨b, o, rfl, _⟩ := ht i (by omega)
    exact ⟨b, o, cp, rfl⟩
  obtain ⟨b, o, cp, rfl⟩ := hsl
  have hH := hid h
  have htok : Hid (∀ w1, Below w.heap.size w w1 → ∀ (k : Nat) (u : Value), (tcell (tkA ts i))[k]? = some u → w1.cell? ⟨b, o + i * 5 + k, none⟩ = some u) := fun w1 hb => (h.below hb).tok (by omega)
  have hse : Hid (∀ w2, Rs w2 pb (.slice (some ⟨b, o, none⟩) ts.length cp) ts (i + 1) → Calls Tryz.prog 33 #[.pointer (some ⟨pb, 0, none⟩), .string ⟨#[40]⟩] w2 fun e w' => e = .returned (.bool false) ∧ Below w2.heap.size w2 w') := fun w2 h2 => by
    have := rsee_any h2 hi ⟨#[40]⟩
    rw [show seesF (tkA ts (i + 1)) 4 ⟨#[40]⟩ = false from hm] at this
    exact this
  have hir : i ≤ 10000000 := by omega
  have hi2 : (i : Int) < (ts.length : Int) := by omega
  clear h hs hm
  generalize tkA ts i = t at *
  obtain ⟨tk, tt, tn, ta, te⟩ := t
  dsimp only at *
  subst hk
  have haf : Hid (∀ w1, Below w.heap.size w w1 → Rs (((w1.setCell ⟨pb, 1, none⟩ (.int .i64 ((i : Int) + 1))).alloc (tokObj ⟨1, tt, tn, ta, te⟩)).drew) pb (.slice (some ⟨b, o, none⟩) ts.length cp) ts (i + 1) ∧ Mo (· = pb) w (((w1.setCell ⟨pb, 1, none⟩ (.int .i64 ((i : Int) + 1))).alloc (tokObj ⟨1, tt, tn, ta, te⟩)).drew)) := fun w1 hb => by
    obtain ⟨hR, hM⟩ := hH.out.next hb
    exact ⟨(hR.below (below_alloc _ _)).drew, (hM.alloc _).drew⟩
  go_enter Tryz.func32, Tryz.ntmps32
  go_wp2_with (go_at_call 69; go_must (refine h1.mono ?_; clear h1; rintro e w1 ⟨rfl, _, hb1⟩; have hB1 := hid (Below.next hb0 hb1); have hq1 := hid ((hb1.block w.heap.size (by simp)).trans (heap_alloc_new w _)); have zq1 := lt_of_block hq1.out; have hp1 := (hH.out.below hB1.out).b; have zp1 := lt_of_block hp1; obtain ⟨⟨c0, c1, c2, c3, c4, c5⟩, f0, f1, f2, f3, f4, f5⟩ := blk6 hp1; have t0 := htok.out w1 hB1.out 0 _ rfl; rw [Nat.add_zero] at t0; have t1 := htok.out w1 hB1.out 1 _ rfl; have t2 := htok.out w1 hB1.out 2 _ rfl; have t3 := htok.out w1 hB1.out 3 _ rfl; have t4 := htok.out w1 hB1.out 4 _ rfl; have zb := lt_of_cell t0))
  go_region
  go_wp2_with (go_at_call 33; go_must (refine (hse.out _ (haf.out w1 hB1.out).1).mono ?_; clear hse; rintro e w4 ⟨rfl, hb4⟩; have hq4 : w4.heap[w.heap.size]? = some exZ := (hb4.block _ (by simp; omega)).trans ((Below.heap_alloc _ _ _ (by simp; omega)).trans ((Below.heap_setCell w1 ⟨pb, 1, none⟩ (.int .i64 ((i : Int) + 1)) w.heap.size (show w.heap.size ≠ pb by omega)).trans hq1.out)); have zq4 := lt_of_block hq4; have hk4 : w4.heap[w1.heap.size]? = some (tokObj ⟨1, tt, tn, ta, te⟩) := (hb4.block _ (by simp)).trans (drew_new w1 _ _ _); have zk4 := lt_of_block hk4; obtain ⟨⟨q0, q1, q2, q3⟩, r0, r1, r2, r3⟩ := blk4x hq4; obtain ⟨⟨s0, s1, s2, s3, s4⟩, _⟩ := blk5 hk4))
  obtain ⟨hR, hM⟩ := haf.out w1 hB1.out
  have hM4 := hM.trans (Mo.ofBelow hb4 : Mo (· = pb) _ w4) (fun _ h => Or.inl h)
  have hM5 : Mo (· = pb) w (exEnd w4 w.heap.size (.int .i64 2) (.string tt) (.int .i64 0) (.slice none 0 0)) := exEnd_mo hM4 (Nat.le_refl _)
  have hq5 := ex_end (.int .i64 2) (.string tt) (.int .i64 0) (.slice none 0 0) hq4
  exact bodyPost_ret (ret_ex Tryz.results32 (by rfl) hq5) rfl ⟨_, rfl, hM5, hH.out.step hM5 ((exEnd_other (by omega)).trans (hR.below hb4).b), Xw.leaf _ _ _ _ _⟩
end Go.Proofs.YtklfnphkepfmaaaGreatDoor

/- The reference's reader: a compound. -/
namespace Go.Proofs.YtklfnphkepfmaaaGreatDoor
open Go.RowKit
attribute [local go_sem] tok_kind tok_text tok_num tok_at

theorem rt_num {ts : List Tk} {f : Nat} {nest number : Int} {i : Nat} {x : Ex} {j : Nat} (h : rtF ts f nest number i = .ok x j) : number ≤ 8 := by
  unfold rtF at h
  by_cases h1 : opensF (tkA ts i) = false
  · rw [if_pos h1] at h
    cases h
  · rw [if_neg h1] at h
    by_cases h2 : 8 < number
    · rw [if_pos h2] at h
      cases h
    · omega
abbrev exB (tt : ByteArray) (ao : Option Addr) (l c : Nat) : Obj := .cells #[.int .i64 4, .string tt, .int .i64 0, .slice ao l c] 40
set_option maxRecDepth 100000 in
set_option maxHeartbeats 8000000 in
theorem rterm_comp {w : World} {pb : Nat} {tv : Value} {ts : List Tk} {i : Nat} (h : Rs w pb tv ts i) (hi : i + 1 < ts.length) (hl : ts.length ≤ 10000000) (hK : KindT ts) (nest number : Int) (hs : stF ts nest number i = 0) (hk : (tkA ts i).kind = 1) (hm : mkA ts (i + 1) 40 = true) (hE : EndT ts) {f : Nat} (hT : RTermC pb tv ts f) (hn0 : -10 ≤ nest) (hn1 : nest ≤ 4096) (hf : nof (argsF ts f (nest + 1) (i + 2) [])) :
    Calls Tryz.prog 32 #[.pointer (some ⟨pb, 0, none⟩), .int .i64 nest, .int .i64 number] w (Rtm w pb tv ts ((argsF ts f (nest + 1) (i + 2) []).map (fun xs => .mk 4 (tkA ts i).text 0 xs))) := by
  have zp := lt_of_block h.b
  have hb0 := below_alloc w exZ
  have h1 := starts_any (h.below hb0) (by omega) hK nest number
  rw [hs] at h1
  replace h1 : Calls _ _ _ _ (fun e w' => e = .returned (.bool true) ∧ Mo (· = pb) (w.alloc exZ) w' ∧ Below (w.alloc exZ).heap.size (w.alloc exZ) w') := h1
  have hsl : ∃ b o cp, tv = .slice (some ⟨b, o, none⟩) ts.length cp := by
    obtain ⟨ao, cp, rfl, ht⟩ := h.t
    obtain ⟨b, o, rfl, _⟩ := ht i (by omega)
    exact ⟨b, o, cp, rfl⟩
  obtain ⟨b, o, cp, rfl⟩ := hsl
  have hH := hid h
  have htok : Hid (∀ w1, Below w.heap.size w w1 → ∀ (k : Nat) (u : Value), (tcell (tkA ts i))[k]? = some u → w1.cell? ⟨b, o + i * 5 + k, none⟩ = some u) := fun w1 hb => (h.below hb).tok (by omega)
  have hse : Hid (∀ w2, Rs w2 pb (.slice (some ⟨b, o, none⟩) ts.length cp) ts (i + 1) → Calls Tryz.prog 33 #[.pointer (some ⟨pb, 0, none⟩), .string ⟨#[40]⟩] w2 fun e w' => e = .returned (.bool true) ∧ Below w2.heap.size w2 w') := fun w2 h2 => by
    have := rsee_any h2 hi ⟨#[40]⟩
    rw [show seesF (tkA ts (i + 1)) 4 ⟨#[40]⟩ = true from hm] at this
    exact this
  have hir : i ≤ 10000000 := by omega
  have hi2 : (i : Int) < (ts.length : Int) := by omega
  have hi3 : i + 1 + 1 < ts.length := mk_next hE hi hm
  obtain ⟨i4, hi4, hw0, hw1, hw2⟩ := info_parts infoEx
  obtain ⟨R, hR⟩ : ∃ R, argsF ts f (nest + 1) (i + 2) [] = R := ⟨_, rfl⟩
  rw [hR] at hf ⊢
  have HT := hid hT
  have hwn : IntKind.i64.wrap (nest + 1) = nest + 1 := by rw [IntKind.wrap_i64]; omega
  clear h hs hm hT
  generalize tkA ts i = t at *
  obtain ⟨tk, tt, tn, ta, te⟩ := t
  dsimp only at *
  subst hk
  have haf : Hid (∀ w1, Below w.heap.size w w1 → Rs (((w1.setCell ⟨pb, 1, none⟩ (.int .i64 ((i : Int) + 1))).alloc (tokObj ⟨1, tt, tn, ta, te⟩)).drew) pb (.slice (some ⟨b, o, none⟩) ts.length cp) ts (i + 1) ∧ Mo (· = pb) w (((w1.setCell ⟨pb, 1, none⟩ (.int .i64 ((i : Int) + 1))).alloc (tokObj ⟨1, tt, tn, ta, te⟩)).drew)) := fun w1 hb => by
    obtain ⟨hR, hM⟩ := hH.out.next hb
    exact ⟨(hR.below (below_alloc _ _)).drew, (hM.alloc _).drew⟩
  go_enter Tryz.func32, Tryz.ntmps32
  go_wp2_with (go_at_call 69; go_must (refine h1.mono ?_; clear h1; rintro e w1 ⟨rfl, _, hb1⟩; have hB1 := hid (Below.next hb0 hb1); have hq1 := hid ((hb1.block w.heap.size (by simp)).trans (heap_alloc_new w _)); have zq1 := lt_of_block hq1.out; have hp1 := (hH.out.below hB1.out).b; have zp1 := lt_of_block hp1; obtain ⟨⟨c0, c1, c2, c3, c4, c5⟩, f0, f1, f2, f3, f4, f5⟩ := blk6 hp1; have t0 := htok.out w1 hB1.out 0 _ rfl; rw [Nat.add_zero] at t0; have t1 := htok.out w1 hB1.out 1 _ rfl; have t2 := htok.out w1 hB1.out 2 _ rfl; have t3 := htok.out w1 hB1.out 3 _ rfl; have t4 := htok.out w1 hB1.out 4 _ rfl; have zb := lt_of_cell t0))
  go_region
  go_wp2_with (go_at_call 33; go_must (refine (hse.out _ (haf.out w1 hB1.out).1).mono ?_; clear hse; rintro e w4 ⟨rfl, hb4⟩; have hq4 : w4.heap[w.heap.size]? = some exZ := (hb4.block _ (by simp; omega)).trans ((Below.heap_alloc _ _ _ (by simp; omega)).trans ((Below.heap_setCell w1 ⟨pb, 1, none⟩ (.int .i64 ((i : Int) + 1)) w.heap.size (show w.heap.size ≠ pb by omega)).trans hq1.out)); have zq4 := lt_of_block hq4; have hk4 : w4.heap[w1.heap.size]? = some (tokObj ⟨1, tt, tn, ta, te⟩) := (hb4.block _ (by simp)).trans (drew_new w1 _ _ _); have zk4 := lt_of_block hk4; obtain ⟨⟨q0, q1, q2, q3⟩, r0, r1, r2, r3⟩ := blk4x hq4; obtain ⟨⟨s0, s1, s2, s3, s4⟩, _⟩ := blk5 hk4))
  obtain ⟨hRaf, hMaf⟩ := haf.out w1 hB1.out
  have hM4 := hid (hMaf.trans (Mo.ofBelow hb4 : Mo (· = pb) _ w4) (fun _ h => Or.inl h))
  have hR4 := hid (hRaf.below hb4)
  have hz4 := hid hq4
  clear haf hRaf hMaf hb4 hq4 hk4 q0 q1 q2 q3 r0 r1 r2 r3 s0 s1 s2 s3 s4 c0 c1 c2 c3 c4 c5 f0 f1 f2 f3 f4 f5 t0 t1 t2 t3 t4 hB1 hq1 htok hp1 hb1 hb0
  go_loopw [9, 10] (fun nn _ wr => ∃ (xs : List Ex) (i' f' c : Nat) (ao : Option Addr), nn = .int .i64 ((xs.length : Int) + 1) ∧ i' + 1 < ts.length ∧ xs.length ≤ 8 ∧ Hid (Rs wr pb (.slice (some ⟨b, o, none⟩) ts.length cp) ts i') ∧ Hid (Mo (· = pb) w wr) ∧ Hid (wr.heap[w.heap.size]? = some exZ) ∧ Hid (wr.heap[w4.heap.size]? = some (exB tt ao xs.length c)) ∧ Hid (Xo (w4.heap.size + 1) wr (.slice ao xs.length c) xs) ∧ Hid (f' ≤ f ∧ argsF ts f' (nest + 1) (i' + 1) xs = R)) (fun _ _ wr => ts.length - atOf pb wr)
  case atStart => exact ⟨[], i + 1, f, 0, none, rfl, hi3, by simp, hR4.out.below (below_alloc _ _), hM4.out.alloc _, (Below.heap_alloc _ _ _ zq4).trans hz4.out, heap_alloc_new w4 _, Xo.nil _ _, ⟨Nat.le_refl _, hR⟩⟩
  case round =>
    clear hR hR4 hM4 hz4
    obtain ⟨xs, i', f', c, ao, rfl, hi', hx8, hP, hM, hqz, hqb, hX, hF⟩ := hrel
    obtain ⟨hff, hF⟩ := hF.out
    cases f' with
    | zero =>
      rw [argsF] at hF
      subst hF
      exact absurd rfl hf
    | succ f'' =>
      rw [args_rt hx8] at hF
      have hpb := hP.out.b
      have zpr := lt_of_block hpb
      have hir' : i' ≤ 10000000 := by omega
      have hzb := lt_of_block hqb.out
      obtain ⟨⟨c0, c1, c2, c3, c4, c5⟩, f0, f1, f2, f3, f4, f5⟩ := blk6 hpb
      clear hpb
      obtain ⟨hR5, hM5⟩ := hP.out.next (Below.refl _ wr)
      have hter := hid (HT.out f'' (by omega) (nest + 1) ((xs.length : Int) + 1) (i' + 1) _ hR5 hi' (by omega) (by omega))
      have hat0 := hid hP.out.atOf
      have hS5 : Hid (∀ w6, Mo (· = pb) (wr.setCell ⟨pb, 1, none⟩ (.int .i64 ((i' : Int) + 1))) w6 → Mo (· = pb) wr w6 ∧ w6.heap[w.heap.size]? = some exZ ∧ w6.heap[w4.heap.size]? = some (exB tt ao xs.length c)) := fun w6 hm6 => by
        have hm7 := hM5.trans hm6 (fun _ h => Or.inl h)
        exact ⟨hm7, (hm7.block _ (by omega) (by omega)).trans hqz.out, (hm7.block _ (by omega) (by omega)).trans hqb.out⟩
      cases hr : rtF ts f'' (nest + 1) ((xs.length : Int) + 1) (i' + 1) with
      | bad c5' j =>
        rw [hr] at hF hter
        replace hF : Rd1.bad c5' j = R := hF
        subst hF
        clear hX hP hqz hqb HT hr hR5 hM5
        go_wp2_with (first
          | (go_at_call 32; go_must (refine (hter.out hf).mono ?_; clear hter; rintro e w6 ⟨k, n, m, aa, al, ac, rfl, hm6, hr6⟩; obtain ⟨hm7, hq6, _⟩ := hS5.out w6 hm6; have zq6 := lt_of_block hq6; obtain ⟨⟨q0, q1, q2, q3⟩, r0, r1, r2, r3⟩ := blk4x hq6))
          | (go_at_call 30; go_must (refine (rbad_yes (hr6.below (below_alloc _ _))).mono ?_; rintro e w7 ⟨rfl, rfl⟩)))
        have hqF := ex_end (.int .i64 0) (.string ⟨#[]⟩) (.int .i64 0) (.slice none 0 0) hq6
        have hMF : Mo (· = pb) w ((exEnd w6 w.heap.size (.int .i64 0) (.string ⟨#[]⟩) (.int .i64 0) (.slice none 0 0)).alloc (.cells #[.int .i64 k, .string n, .int .i64 m, .slice aa al ac] 40)) := (exEnd_mo (hM.out.trans hm7 (fun _ h => Or.inl h)) (Nat.le_refl _)).alloc _
        have hqG : ((exEnd w6 w.heap.size (.int .i64 0) (.string ⟨#[]⟩) (.int .i64 0) (.slice none 0 0)).alloc (.cells #[.int .i64 k, .string n, .int .i64 m, .slice aa al ac] 40)).heap[w.heap.size]? = _ := (Below.heap_alloc _ _ _ (lt_of_block hqF)).trans hqF
        have hrG : Rb (exEnd w6 w.heap.size (.int .i64 0) (.string ⟨#[]⟩) (.int .i64 0) (.slice none 0 0)) pb c5' ((tkA ts j).at_ : Int) := hr6.other (exEnd_other (by omega))
        exact bodyPost_ret (ret_ex Tryz.results32 (by rfl) hqG) rfl ⟨_, _, _, _, _, _, rfl, hMF, hrG.below (below_alloc _ _)⟩
      | ok x j =>
        rw [hr] at hF hter
        replace hter : Hid (Calls _ _ _ _ _) := hid (hter.out trivial)
        replace hF : (if mkA ts j 44 = true then argsF ts f'' (nest + 1) (j + 1) (xs ++ [x]) else wantF ts 41 (.ok (xs ++ [x]) j)) = R := hF
        obtain ⟨hij, hj⟩ := rt_wit hE hi' hr
        have hnum := rt_num hr
        have hstep : Hid (∀ w6 v, Mo (· = pb) (wr.setCell ⟨pb, 1, none⟩ (.int .i64 ((i' : Int) + 1))) w6 → Rs w6 pb (.slice (some ⟨b, o, none⟩) ts.length cp) ts j → Xw ((wr.setCell ⟨pb, 1, none⟩ (.int .i64 ((i' : Int) + 1))).heap.size ≤ ·) w6 x v → ∃ k n m aa al ac, v = .agg #[.int .i64 k, .string n, .int .i64 m, .slice aa al ac] ∧ Hid (Rs (w6.alloc (.cells #[.int .i64 k, .string n, .int .i64 m, .slice aa al ac] 40)) pb (.slice (some ⟨b, o, none⟩) ts.length cp) ts j) ∧ w6.heap[w4.heap.size]? = some (exB tt ao xs.length c) ∧ Hid (((w6.alloc (.cells #[.int .i64 k, .string n, .int .i64 m, .slice aa al ac] 40)).alloc (.cells #[.int .i64 k, .string n, .int .i64 m, .slice aa al ac] 40)).heap[w6.heap.size + 1]? = some (.cells #[.int .i64 k, .string n, .int .i64 m, .slice aa al ac] 40)) ∧ w4.heap.size + 1 ≤ w6.heap.size ∧ ∃ fv : Nat → List Value, Hid (((w6.alloc (.cells #[.int .i64 k, .string n, .int .i64 m, .slice aa al ac] 40)).alloc (.cells #[.int .i64 k, .string n, .int .i64 m, .slice aa al ac] 40)).ownsRow (w4.heap.size + 1) 40 4 (.slice ao xs.length c) xs.length (flatV fv xs.length)) ∧ Hid (∀ g7 c7 w7, w7.ownsRow (w4.heap.size + 1) 40 4 (.slice (some ⟨g7, 0, none⟩) (xs.length + 1) c7) (xs.length + 1) (flatV fv xs.length ++ [.int .i64 k, .string n, .int .i64 m, .slice aa al ac]) → ((w6.alloc (.cells #[.int .i64 k, .string n, .int .i64 m, .slice aa al ac] 40)).alloc (.cells #[.int .i64 k, .string n, .int .i64 m, .slice aa al ac] 40)).grownBy w7 (Value.slice ao xs.length c).ownBlock → ((Value.slice ao xs.length c).ownBlock = some g7 ∨ g7 = w6.heap.size + 2) → Hid (Xo (w4.heap.size + 1) (w7.setCell ⟨w4.heap.size, 3, none⟩ (.slice (some ⟨g7, 0, none⟩) (xs.length + 1) c7)) (.slice (some ⟨g7, 0, none⟩) (xs.length + 1) c7) (xs ++ [x])) ∧ Hid (Rs (w7.setCell ⟨w4.heap.size, 3, none⟩ (.slice (some ⟨g7, 0, none⟩) (xs.length + 1) c7)) pb (.slice (some ⟨b, o, none⟩) ts.length cp) ts j) ∧ Hid (Mo (· = pb) w (w7.setCell ⟨w4.heap.size, 3, none⟩ (.slice (some ⟨g7, 0, none⟩) (xs.length + 1) c7))) ∧ Hid ((w7.setCell ⟨w4.heap.size, 3, none⟩ (.slice (some ⟨g7, 0, none⟩) (xs.length + 1) c7)).heap[w.heap.size]? = some exZ) ∧ Hid ((w7.setCell ⟨w4.heap.size, 3, none⟩ (.slice (some ⟨g7, 0, none⟩) (xs.length + 1) c7)).heap[w4.heap.size]? = some (exB tt (some ⟨g7, 0, none⟩) (xs.length + 1) c7)) ∧ w7.heap[w4.heap.size]? = some (exB tt ao xs.length c))) := fun w6 v hm6 hp6 hx6 => by
          obtain ⟨k, n, m, aa, al, ac, rfl⟩ := hx6.form
          obtain ⟨hm7, hz6, hb6⟩ := hS5.out w6 hm6
          have hs5 : (wr.setCell ⟨pb, 1, none⟩ (.int .i64 ((i' : Int) + 1))).heap.size = wr.heap.size := by simp
          have hzw := hm7.size
          have hX6 := hX.out.mo hm7 (fun k e => by omega)
          have hBk := hX.out.blkB
          have hDk := hX.out.blk
          obtain ⟨fv, hf4, hfx, hown⟩ := hX6
          have hM6 := hM.out.trans hm7 (fun _ h => Or.inl h)
          have hnw : ((w6.alloc (.cells #[.int .i64 k, .string n, .int .i64 m, .slice aa al ac] 40)).alloc (.cells #[.int .i64 k, .string n, .int .i64 m, .slice aa al ac] 40)).heap[w6.heap.size + 1]? = some (.cells #[.int .i64 k, .string n, .int .i64 m, .slice aa al ac] 40) := by
            have := heap_alloc_new (w6.alloc (.cells #[.int .i64 k, .string n, .int .i64 m, .slice aa al ac] 40)) (.cells #[.int .i64 k, .string n, .int .i64 m, .slice aa al ac] 40)
            rw [show (w6.alloc (.cells #[.int .i64 k, .string n, .int .i64 m, .slice aa al ac] 40)).heap.size = w6.heap.size + 1 by simp] at this
            exact this
          refine ⟨k, n, m, aa, al, ac, rfl, hp6.below (below_alloc _ _), hb6, hnw, by omega, fv, (hown.alloc _).alloc _, fun g7 c7 w7 ho7 hg7 hat7 => ?_⟩
          have old : ∀ q, q < w6.heap.size → (Value.slice ao xs.length c).ownBlock ≠ some q → w7.heap[q]? = w6.heap[q]? := fun q hq hne =>
            (hg7.block q (by simp; omega) (fun e => hne e.symm)).trans ((Below.heap_alloc _ _ _ (by simp; omega)).trans (Below.heap_alloc _ _ _ hq))
          have hb7 := (old w4.heap.size (by omega) (fun e => by have := hBk _ e; omega)).trans hb6
          have hz7 := (old w.heap.size (by omega) (fun e => by have := hBk _ e; omega)).trans hz6
          have hp7 := (old pb (by omega) (fun e => by have := hBk _ e; omega)).trans hp6.b
          have hM7 : Mo (· = pb) w w7 := ((hM6.alloc _).alloc _).grown hg7 (fun q e => Or.inr (by have := hBk q e; omega))
          have hM8 : Mo (· = pb) w (w7.setCell ⟨w4.heap.size, 3, none⟩ (.slice (some ⟨g7, 0, none⟩) (xs.length + 1) c7)) := hM7.setCell (p := ⟨w4.heap.size, 3, none⟩) (Or.inr (by show w.heap.size ≤ w4.heap.size; omega)) _
          have hX7 : Xo (w4.heap.size + 1) w7 (.slice (some ⟨g7, 0, none⟩) (xs.length + 1) c7) (xs ++ [x]) := xo_app (w5 := w6.alloc (.cells #[.int .i64 k, .string n, .int .i64 m, .slice aa al ac] 40)) hf4 (fun q hq => (hfx q hq).keep (fun b' hb' hl' => ⟨hb', Below.heap_alloc _ _ _ hl'⟩)) (D := wr.heap.size) (fun b' hb' => by have := hDk b' hb'; omega) (by omega) ((hx6.weak (fun b' hb' _ => by rw [hs5] at hb'; exact hb')).next (below_alloc _ _)) ho7 hg7 (by rw [show (w6.alloc (.cells #[.int .i64 k, .string n, .int .i64 m, .slice aa al ac] 40)).heap.size = w6.heap.size + 1 by simp]; exact hat7)
          have set8 : ∀ q, q ≠ w4.heap.size → (w7.setCell ⟨w4.heap.size, 3, none⟩ (.slice (some ⟨g7, 0, none⟩) (xs.length + 1) c7)).heap[q]? = w7.heap[q]? := fun q hq => Below.heap_setCell w7 ⟨w4.heap.size, 3, none⟩ (.slice (some ⟨g7, 0, none⟩) (xs.length + 1) c7) q hq
          exact ⟨hX7.keep (Nat.le_refl _) (fun b' hb' _ => set8 b' (by omega)), hH.out.step hM8 ((set8 pb (by omega)).trans hp7), hM8, (set8 w.heap.size (by omega)).trans hz7, heap_setCell_same w7 w4.heap.size 3 _ _ (.slice (some ⟨g7, 0, none⟩) (xs.length + 1) c7) hb7, hb7⟩
        have hse2 : Hid (∀ w8, Rs w8 pb (.slice (some ⟨b, o, none⟩) ts.length cp) ts j → Calls Tryz.prog 33 #[.pointer (some ⟨pb, 0, none⟩), .string ⟨#[44]⟩] w8 fun e w' => e = .returned (.bool (mkA ts j 44)) ∧ Below w8.heap.size w8 w') := fun w8 h8 => rsee_any h8 hj ⟨#[44]⟩
        have hmeas : ts.length - j < ts.length - i' := by omega
        cases hm : mkA ts j 44 with
        | true =>
          rw [if_pos hm] at hF
          rw [hm] at hse2
          have hj1 := mk_next hE hj hm
          have hFF : Hid (f'' ≤ f ∧ argsF ts f'' (nest + 1) (j + 1) (xs ++ [x]) = R) := ⟨by omega, hF⟩
          clear hF hr hM hX hP HT hm hS5 hqz hqb hR5 hM5
          go_wp2_with (first
            | (go_at_call 32; go_must (refine hter.out.mono ?_; clear hter; rintro e w6 ⟨v, rfl, hm6, hp6, hx6⟩; obtain ⟨k, n, m, aa, al, ac, rfl, hRb6, hbx6, hnw6, hz6, fv, hown6, hnx6⟩ := hstep.out w6 v hm6 hp6 hx6; clear hstep hm6 hp6 hx6; have zbx := lt_of_block hbx6; obtain ⟨⟨e0, e1, e2, e3⟩, _⟩ := blk4x hbx6))
            | (go_at_call 30; go_must (refine (rbad_no hRb6.out).mono ?_; clear hRb6; rintro e w7 ⟨rfl, rfl⟩))
            | (at_builtin; go_must (refine wpList_append_lies _ rfl _ _ 24 rfl (w4.heap.size + 1) 40 i4 (.agg #[.int .i64 0, .string ⟨#[]⟩, .int .i64 0, .slice none 0 0]) 4 56 Tryz.underlying24 hi4 hw0 hw1 hw2 rfl (by decide) _ xs.length (flatV fv xs.length) rfl hown6.out ⟨w6.heap.size + 1, 0, none⟩ 1 1 [.int .i64 k, .string n, .int .i64 m, .slice aa al ac] rfl rfl (World.news_of_block (cs := #[.int .i64 k, .string n, .int .i64 m, .slice aa al ac]) (t := 40) (fr := (0, 0)) hnw6.out) (by simp [Value.oneCell']) (by omega) (by unfold maxLen; omega) (by omega) (by simp; omega) (w6.heap.size + 2) (by simp) ?_; intro g7 c7 w7 hown7 hg7 hat7 hlt7; obtain ⟨hX8, hP8, hM8, hz8, hb8, hq7⟩ := hnx6.out g7 c7 w7 hown7 hg7 hat7; clear hown7 hg7 hnx6 hown6; have zq7 := lt_of_block hq7; obtain ⟨⟨y0, y1, y2, y3⟩, x0, x1, x2, x3⟩ := blk4x hq7))
            | (go_at_call 33; go_must (refine (hse2.out _ hP8.out).mono ?_; clear hse2; rintro e w9 ⟨rfl, hb9⟩)))
          go_roundw
          case rel => exact ⟨xs ++ [x], j, f'', c7, some ⟨g7, 0, none⟩, by rw [List.length_append, List.length_singleton]; rfl, hj1, by simp; omega, hP8.out.below hb9, hM8.out.trans (Mo.ofBelow hb9 : Mo (· = pb) _ w9) (fun _ h => Or.inl h), (hb9.block _ (lt_of_block hz8.out)).trans hz8.out, by rw [List.length_append, List.length_singleton]; exact (hb9.block _ (lt_of_block hb8.out)).trans hb8.out, by rw [List.length_append, List.length_singleton]; exact hX8.out.next hb9, hFF⟩
          case measure => rw [(hP8.out.below hb9).atOf, hat0.out]; omega
        | false =>
          rw [if_neg (by rw [hm]; decide)] at hF
          rw [hm] at hse2
          have hfin : Hid (∀ w9 w10 g7 c7 (W8 : World), Xo (w4.heap.size + 1) W8 (.slice (some ⟨g7, 0, none⟩) (xs.length + 1) c7) (xs ++ [x]) → Mo (· = pb) w W8 → W8.heap[w.heap.size]? = some exZ → W8.heap[w4.heap.size]? = some (exB tt (some ⟨g7, 0, none⟩) (xs.length + 1) c7) → Below W8.heap.size W8 w9 → Mo (· = pb) w9 w10 → w10.heap[w.heap.size]? = some exZ ∧ w10.heap[w4.heap.size]? = some (exB tt (some ⟨g7, 0, none⟩) (xs.length + 1) c7) ∧ Mo (· = pb) w (exEnd w10 w.heap.size (.int .i64 4) (.string tt) (.int .i64 0) (.slice (some ⟨g7, 0, none⟩) (xs.length + 1) c7)) ∧ Xw (w.heap.size ≤ ·) (exEnd w10 w.heap.size (.int .i64 4) (.string tt) (.int .i64 0) (.slice (some ⟨g7, 0, none⟩) (xs.length + 1) c7)) (.mk 4 tt 0 (xs ++ [x])) (.agg #[.int .i64 4, .string tt, .int .i64 0, (.slice (some ⟨g7, 0, none⟩) (xs.length + 1) c7)])) := fun w9 w10 g7 c7 W8 hX8 hM8 hz8 hb8 hb9 hm10 => by
            have l1 := lt_of_block hz8
            have l2 := lt_of_block hb8
            have l3 := hb9.size
            refine ⟨(hm10.block _ (by omega) (by omega)).trans ((hb9.block _ l1).trans hz8), (hm10.block _ (by omega) (by omega)).trans ((hb9.block _ l2).trans hb8), exEnd_mo ((hM8.trans (Mo.ofBelow hb9 : Mo (· = pb) W8 w9) (fun _ h => Or.inl h)).trans hm10 (fun _ h => Or.inl h)) (Nat.le_refl _), ?_⟩
            have hX10 := (hX8.next hb9).mo hm10 (fun q e => by omega)
            have hX11 : Xo (w4.heap.size + 1) (exEnd w10 w.heap.size (.int .i64 4) (.string tt) (.int .i64 0) (.slice (some ⟨g7, 0, none⟩) (xs.length + 1) c7)) (.slice (some ⟨g7, 0, none⟩) (xs.length + 1) c7) (xs ++ [x]) := hX10.keep (Nat.le_refl _) (fun b' hb' _ => exEnd_other (by omega))
            exact Xw.of (hX11.rxw.keep (fun b' hb' _ => ⟨by show w.heap.size ≤ b'; have hb2 : w4.heap.size + 1 ≤ b' := hb'; omega, rfl⟩))
          cases hm2 : mkA ts j 41 with
          | true =>
            have hR : R = .ok (xs ++ [x]) (j + 1) := by rw [← hF]; show (if _ then _ else _) = _; rw [if_pos hm2]
            have hsk := hid (fun w9 (h9 : Rs w9 pb (.slice (some ⟨b, o, none⟩) ts.length cp) ts j) => rskip_yes h9 hj hl ⟨#[41]⟩ hm2)
            subst hR
            clear hF hr hM hX hP HT hm hm2 hS5 hqz hqb hR5 hM5
            go_wp2_with (first
              | (go_at_call 32; go_must (refine hter.out.mono ?_; clear hter; rintro e w6 ⟨v, rfl, hm6, hp6, hx6⟩; obtain ⟨k, n, m, aa, al, ac, rfl, hRb6, hbx6, hnw6, hz6, fv, hown6, hnx6⟩ := hstep.out w6 v hm6 hp6 hx6; clear hstep hm6 hp6 hx6; have zbx := lt_of_block hbx6; obtain ⟨⟨e0, e1, e2, e3⟩, _⟩ := blk4x hbx6))
              | (go_at_call 30; go_must (refine (rbad_no hRb6.out).mono ?_; clear hRb6; rintro e w7 ⟨rfl, rfl⟩))
              | (at_builtin; go_must (refine wpList_append_lies _ rfl _ _ 24 rfl (w4.heap.size + 1) 40 i4 (.agg #[.int .i64 0, .string ⟨#[]⟩, .int .i64 0, .slice none 0 0]) 4 56 Tryz.underlying24 hi4 hw0 hw1 hw2 rfl (by decide) _ xs.length (flatV fv xs.length) rfl hown6.out ⟨w6.heap.size + 1, 0, none⟩ 1 1 [.int .i64 k, .string n, .int .i64 m, .slice aa al ac] rfl rfl (World.news_of_block (cs := #[.int .i64 k, .string n, .int .i64 m, .slice aa al ac]) (t := 40) (fr := (0, 0)) hnw6.out) (by simp [Value.oneCell']) (by omega) (by unfold maxLen; omega) (by omega) (by simp; omega) (w6.heap.size + 2) (by simp) ?_; intro g7 c7 w7 hown7 hg7 hat7 hlt7; obtain ⟨hX8, hP8, hM8, hz8, hb8, hq7⟩ := hnx6.out g7 c7 w7 hown7 hg7 hat7; clear hown7 hg7 hnx6 hown6; have zq7 := lt_of_block hq7; obtain ⟨⟨y0, y1, y2, y3⟩, x0, x1, x2, x3⟩ := blk4x hq7))
              | (go_at_call 33; go_must (refine (hse2.out _ hP8.out).mono ?_; clear hse2; rintro e w9 ⟨rfl, hb9⟩))
              | (go_at_call 35; go_must (refine (hsk.out _ (hP8.out.below hb9)).mono ?_; clear hsk; rintro e w10 ⟨rfl, hm10, hr10⟩; obtain ⟨hq10, hb10, hMF, hXF⟩ := hfin.out _ _ _ _ _ hX8.out hM8.out hz8.out hb8.out hb9 hm10; have zq10 := lt_of_block hq10; have zb10 := lt_of_block hb10; obtain ⟨⟨q0, q1, q2, q3⟩, r0, r1, r2, r3⟩ := blk4x hq10; obtain ⟨⟨p0, p1, p2, p3⟩, _⟩ := blk4x hb10)))
            exact bodyPost_ret (ret_ex Tryz.results32 (by rfl) (ex_end (.int .i64 4) (.string tt) (.int .i64 0) (.slice (some ⟨g7, 0, none⟩) (xs.length + 1) c7) hq10)) rfl ⟨_, rfl, hMF, hH.out.step hMF ((exEnd_other (by omega)).trans hr10.b), hXF⟩
          | false =>
            have hR : R = .bad (mustC (tkA ts j)) j := by rw [← hF]; show (if _ then _ else _) = _; rw [if_neg (by rw [hm2]; decide)]
            have hsk := hid (fun w9 (h9 : Rs w9 pb (.slice (some ⟨b, o, none⟩) ts.length cp) ts j) => rskip_no h9 hj ⟨#[41]⟩ hm2)
            subst hR
            clear hF hr hM hX hP HT hm hm2 hS5 hqz hqb hR5 hM5
            go_wp2_with (first
              | (go_at_call 32; go_must (refine hter.out.mono ?_; clear hter; rintro e w6 ⟨v, rfl, hm6, hp6, hx6⟩; obtain ⟨k, n, m, aa, al, ac, rfl, hRb6, hbx6, hnw6, hz6, fv, hown6, hnx6⟩ := hstep.out w6 v hm6 hp6 hx6; clear hstep hm6 hp6 hx6; have zbx := lt_of_block hbx6; obtain ⟨⟨e0, e1, e2, e3⟩, _⟩ := blk4x hbx6))
              | (go_at_call 30; go_must (refine (rbad_no hRb6.out).mono ?_; clear hRb6; rintro e w7 ⟨rfl, rfl⟩))
              | (at_builtin; go_must (refine wpList_append_lies _ rfl _ _ 24 rfl (w4.heap.size + 1) 40 i4 (.agg #[.int .i64 0, .string ⟨#[]⟩, .int .i64 0, .slice none 0 0]) 4 56 Tryz.underlying24 hi4 hw0 hw1 hw2 rfl (by decide) _ xs.length (flatV fv xs.length) rfl hown6.out ⟨w6.heap.size + 1, 0, none⟩ 1 1 [.int .i64 k, .string n, .int .i64 m, .slice aa al ac] rfl rfl (World.news_of_block (cs := #[.int .i64 k, .string n, .int .i64 m, .slice aa al ac]) (t := 40) (fr := (0, 0)) hnw6.out) (by simp [Value.oneCell']) (by omega) (by unfold maxLen; omega) (by omega) (by simp; omega) (w6.heap.size + 2) (by simp) ?_; intro g7 c7 w7 hown7 hg7 hat7 hlt7; obtain ⟨hX8, hP8, hM8, hz8, hb8, hq7⟩ := hnx6.out g7 c7 w7 hown7 hg7 hat7; clear hown7 hg7 hnx6 hown6; have zq7 := lt_of_block hq7; obtain ⟨⟨y0, y1, y2, y3⟩, x0, x1, x2, x3⟩ := blk4x hq7))
              | (go_at_call 33; go_must (refine (hse2.out _ hP8.out).mono ?_; clear hse2; rintro e w9 ⟨rfl, hb9⟩))
              | (go_at_call 35; go_must (refine (hsk.out _ (hP8.out.below hb9)).mono ?_; clear hsk; rintro e w10 ⟨rfl, hm10, hr10⟩; obtain ⟨hq10, hb10, hMF, hXF⟩ := hfin.out _ _ _ _ _ hX8.out hM8.out hz8.out hb8.out hb9 hm10; have zq10 := lt_of_block hq10; have zb10 := lt_of_block hb10; obtain ⟨⟨q0, q1, q2, q3⟩, r0, r1, r2, r3⟩ := blk4x hq10; obtain ⟨⟨p0, p1, p2, p3⟩, _⟩ := blk4x hb10)))
            exact bodyPost_ret (ret_ex Tryz.results32 (by rfl) (ex_end (.int .i64 4) (.string tt) (.int .i64 0) (.slice (some ⟨g7, 0, none⟩) (xs.length + 1) c7) hq10)) rfl ⟨_, _, _, _, _, _, rfl, hMF, hr10.other (exEnd_other (by omega))⟩
end Go.Proofs.YtklfnphkepfmaaaGreatDoor

/- The reference's reader: what its list wants. -/
namespace Go.Proofs.YtklfnphkepfmaaaGreatDoor
open Go.RowKit

/-- Where the reader stands behind an answer. -/
def Est (pb : Nat) (tv : Value) (ts : List Tk) (r : Rd1 Ex) (w : World) : Prop :=
  match r with
  | .ok _ j => Rs w pb tv ts j
  | .bad c j => Rb w pb c ((tkA ts j).at_ : Int)
theorem Rtm.parts {w w' : World} {pb : Nat} {tv : Value} {ts : List Tk} {r : Rd1 Ex} {e : Ending} (h : Rtm w pb tv ts r e w') : ∃ (k : Int) (n : ByteArray) (m : Int) (aa : Option Addr) (al ac : Nat), e = .returned (.agg #[.int .i64 k, .string n, .int .i64 m, .slice aa al ac]) ∧ Mo (· = pb) w w' ∧ Est pb tv ts r w' ∧ (∀ x j, r = .ok x j → Xw (w.heap.size ≤ ·) w' x (.agg #[.int .i64 k, .string n, .int .i64 m, .slice aa al ac])) := by
  cases r with
  | ok x j =>
    obtain ⟨v, rfl, hm, hs, hx⟩ := h
    obtain ⟨k, n, m, aa, al, ac, rfl⟩ := hx.form
    exact ⟨k, n, m, aa, al, ac, rfl, hm, hs, fun x' j' e => by cases e; exact hx⟩
  | bad c j =>
    obtain ⟨k, n, m, aa, al, ac, rfl, hm, hs⟩ := h
    exact ⟨k, n, m, aa, al, ac, rfl, hm, hs, fun x' j' e => by cases e⟩
theorem Rtm.of {w w' : World} {pb : Nat} {tv : Value} {ts : List Tk} {r : Rd1 Ex} {k : Int} {n : ByteArray} {m : Int} {aa : Option Addr} {al ac : Nat} (hm : Mo (· = pb) w w') (hs : Est pb tv ts r w') (hx : ∀ x j, r = .ok x j → Xw (w.heap.size ≤ ·) w' x (.agg #[.int .i64 k, .string n, .int .i64 m, .slice aa al ac])) : Rtm w pb tv ts r (.returned (.agg #[.int .i64 k, .string n, .int .i64 m, .slice aa al ac])) w' := by
  cases r with
  | ok x j => exact ⟨_, rfl, hm, hs, hx x j rfl⟩
  | bad c j => exact ⟨_, _, _, _, _, _, rfl, hm, hs⟩
theorem Est.keep {w0 w w' : World} {pb : Nat} {tv : Value} {ts : List Tk} {r : Rd1 Ex} {i : Nat} (h0 : Rs w0 pb tv ts i) (hm : Mo (· = pb) w0 w') (he : w'.heap[pb]? = w.heap[pb]?) (h : Est pb tv ts r w) : Est pb tv ts r w' := by
  cases r with
  | ok x j => exact h0.step hm (he.trans (show Rs w pb tv ts j from h).b)
  | bad c j => exact (show Rb w pb c _ from h).other he
theorem rskip_st {w : World} {pb : Nat} {tv : Value} {ts : List Tk} {r : Rd1 Ex} (h : Est pb tv ts r w) (hr : ∀ x j, r = .ok x j → j < ts.length) (hl : ts.length ≤ 10000000) :
    Calls Tryz.prog 35 #[.pointer (some ⟨pb, 0, none⟩), .string ⟨#[93]⟩] w fun e w' => e = .returned (.tuple #[]) ∧ Mo (· = pb) w w' ∧ Est pb tv ts (wantF ts 93 r) w' := by
  cases r with
  | ok x j =>
    have hj := hr x j rfl
    replace h : Rs w pb tv ts j := h
    cases hm : mkA ts j 93 with
    | true =>
      refine (rskip_yes h hj hl ⟨#[93]⟩ hm).mono ?_
      rintro e w1 ⟨rfl, hm1, hr1⟩
      refine ⟨rfl, hm1, ?_⟩
      rw [show wantF ts 93 (Rd1.ok x j) = .ok x (j + 1) from if_pos hm]
      exact hr1
    | false =>
      refine (rskip_no h hj ⟨#[93]⟩ hm).mono ?_
      rintro e w1 ⟨rfl, hm1, hr1⟩
      refine ⟨rfl, hm1, ?_⟩
      rw [show wantF ts 93 (Rd1.ok x j) = .bad (mustC (tkA ts j)) j from if_neg (by rw [hm]; decide)]
      exact hr1
  | bad c j =>
    replace h : Rb w pb c ((tkA ts j).at_ : Int) := h
    refine (rskip_bad h ⟨#[93]⟩).mono ?_
    rintro e w1 ⟨rfl, hb1⟩
    exact ⟨rfl, Mo.ofBelow hb1, h.below hb1⟩
theorem want_map {α β : Type} (ts : List Tk) (c : UInt8) (g : α → β) (r : Rd1 α) : wantF ts c (r.map g) = (wantF ts c r).map g := by
  cases r with
  | ok x j =>
    show (if _ then _ else _) = Rd1.map g (if _ then _ else _)
    cases mkA ts j c <;> rfl
  | bad c j => rfl
theorem want_ok {ts : List Tk} {c : UInt8} {r : Rd1 Ex} {y : Ex} {j : Nat} (h : wantF ts c r = .ok y j) : ∃ j0, r = .ok y j0 := by
  cases r with
  | ok x j0 =>
    have e2 : (if mkA ts j0 c then Rd1.ok x (j0 + 1) else .bad (mustC (tkA ts j0)) j0) = Rd1.ok y j := h
    cases hm : mkA ts j0 c with
    | true =>
      rw [if_pos hm] at e2
      injection e2 with e3 _
      exact ⟨j0, by rw [e3]⟩
    | false => rw [if_neg (by rw [hm]; decide)] at e2; cases e2
  | bad c j0 => cases h
/-- Two terms in a new row: the compound of both. -/
theorem cons_xw {P : Nat → Prop} {w : World} {nb : Nat} {x y : Ex} {k : Int} {n : ByteArray} {m : Int} {aa : Option Addr} {al ac : Nat} {k2 : Int} {n2 : ByteArray} {m2 : Int} {ba : Option Addr} {bl bc : Nat} {T : TypeId} (h : w.heap[nb]? = some (.cells #[.int .i64 k, .string n, .int .i64 m, .slice aa al ac, .int .i64 k2, .string n2, .int .i64 m2, .slice ba bl bc] T)) (hP : P nb)
    (hx : Xw P w x (.agg #[.int .i64 k, .string n, .int .i64 m, .slice aa al ac])) (hy : Xw P w y (.agg #[.int .i64 k2, .string n2, .int .i64 m2, .slice ba bl bc])) : Xw P w (consX x y) (.agg #[.int .i64 4, .string ⟨#[46]⟩, .int .i64 0, .slice (some ⟨nb, 0, none⟩) 2 2]) := by
  refine Xw.of ⟨some ⟨nb, 0, none⟩, 2, rfl, fun j hj => ?_⟩
  have hj : j = 0 ∨ j = 1 := by have : j < 2 := hj; omega
  rcases hj with rfl | rfl
  · exact ⟨nb, 0, k, n, m, aa, al, ac, rfl, hP, by simp [World.cell?, h], by simp [World.cell?, h], by simp [World.cell?, h], by simp [World.cell?, h], hx⟩
  · exact ⟨nb, 0, k2, n2, m2, ba, bl, bc, rfl, hP, by simp [World.cell?, h], by simp [World.cell?, h], by simp [World.cell?, h], by simp [World.cell?, h], hy⟩
theorem rt_zero {ts : List Tk} {f : Nat} {nest : Int} {i : Nat} (h : nof (termF ts f nest i)) : rtF ts f nest 0 i = termF ts f nest i := by
  unfold rtF
  by_cases h1 : opensF (tkA ts i) = false
  · rw [if_pos h1]
    cases f with
    | zero => exact absurd rfl h
    | succ f => rw [termF, if_pos h1]
  · rw [if_neg h1, if_neg (by decide)]
theorem term_nest {ts : List Tk} {f : Nat} {nest : Int} {i : Nat} {x : Ex} {j : Nat} (h : termF ts f nest i = .ok x j) : nest ≤ 4096 := by
  cases f with
  | zero => rw [termF] at h; cases h
  | succ f =>
    rw [termF] at h
    by_cases h1 : opensF (tkA ts i) = false
    · rw [if_pos h1] at h
      cases h
    · rw [if_neg h1] at h
      by_cases h2 : 4096 < nest
      · rw [if_pos h2] at h
        cases h
      · omega
/-- What stands behind a list's bracket. -/
def rlistF (ts : List Tk) (f : Nat) (nest : Int) (i : Nat) : Rd1 Ex :=
  if mkA ts i 93 then .ok nilX (i + 1)
  else match elemsF ts f nest i [] with
    | .bad c j => .bad c j
    | .ok (es, n) j => (wantF ts 93 (if mkA ts j 124 then termF ts f n (j + 1) else .ok nilX j)).map (listX es)
abbrev exN : Obj := .cells #[.int .i64 2, .string ⟨#[91, 93]⟩, .int .i64 0, .slice none 0 0] 40
/-- Blocks from B on but one. -/
def Pq (B q b : Nat) : Prop := B ≤ b ∧ b ≠ q
theorem exEnd_moS {S : Nat → Prop} {w w1 : World} {q : Nat} {v0 v1 v2 v3 : Value} (h : Mo S w w1) (hq : S q) : Mo S w (exEnd w1 q v0 v1 v2 v3) :=
  (((h.setCell (p := ⟨q, 0, none⟩) (Or.inl hq) _).setCell (p := ⟨q, 1, none⟩) (Or.inl hq) _).setCell (p := ⟨q, 2, none⟩) (Or.inl hq) _).setCell (p := ⟨q, 3, none⟩) (Or.inl hq) _
theorem exEnd_size {w1 : World} {q : Nat} {v0 v1 v2 v3 : Value} : (exEnd w1 q v0 v1 v2 v3).heap.size = w1.heap.size := by simp [exEnd]
theorem Est.map {pb : Nat} {tv : Value} {ts : List Tk} {r : Rd1 Ex} {w : World} (g : Ex → Ex) (h : Est pb tv ts r w) : Est pb tv ts (r.map g) w := by
  cases r with
  | ok x j => exact h
  | bad c j => exact h
/-- The world behind a round that puts an element ahead. -/
abbrev rlW (wr : World) (q : Nat) (k' : Int) (n' : ByteArray) (m' : Int) (ba : Option Addr) (bl bc : Nat) (k : Int) (n : ByteArray) (m : Int) (aa : Option Addr) (al ac : Nat) : World :=
  ((exEnd wr q (.int .i64 4) (.string ⟨#[46]⟩) (.int .i64 0) (.slice (some ⟨wr.heap.size, 0, none⟩) 2 2)).alloc (.cells #[.int .i64 k', .string n', .int .i64 m', .slice ba bl bc, .int .i64 k, .string n, .int .i64 m, .slice aa al ac] 40)).drew
theorem rl_step {B q : Nat} {wr : World} {L : List Ex} {d : Nat} {y : Ex} {k : Int} {n : ByteArray} {m : Int} {aa : Option Addr} {al ac : Nat} {k' : Int} {n' : ByteArray} {m' : Int} {ba : Option Addr} {bl bc : Nat} (hd : d < L.length) (hq : q < wr.heap.size) (hB : B ≤ wr.heap.size)
    (he : Xw (Pq B q) wr (L.getD d x0) (.agg #[.int .i64 k', .string n', .int .i64 m', .slice ba bl bc])) (hx : Xw (Pq B q) wr (listX (L.drop (d + 1)) y) (.agg #[.int .i64 k, .string n, .int .i64 m, .slice aa al ac])) :
    Xw (Pq B q) (rlW wr q k' n' m' ba bl bc k n m aa al ac) (listX (L.drop d) y) (.agg #[.int .i64 4, .string ⟨#[46]⟩, .int .i64 0, .slice (some ⟨wr.heap.size, 0, none⟩) 2 2]) := by
  have hk : ∀ b, Pq B q b → b < wr.heap.size → Pq B q b ∧ (rlW wr q k' n' m' ba bl bc k n m aa al ac).heap[b]? = wr.heap[b]? := fun b hb hl => ⟨hb, (Below.heap_alloc _ _ _ (by rw [exEnd_size]; exact hl)).trans (exEnd_other hb.2)⟩
  have hdr : listX (L.drop d) y = consX (L.getD d x0) (listX (L.drop (d + 1)) y) := by
    rw [List.drop_eq_getElem_cons hd]
    show consX _ _ = _
    rw [show L.getD d x0 = L[d] by simp [List.getD, hd]]
    rfl
  rw [hdr]
  have hnew := heap_alloc_new (exEnd wr q (.int .i64 4) (.string ⟨#[46]⟩) (.int .i64 0) (.slice (some ⟨wr.heap.size, 0, none⟩) 2 2)) (.cells #[.int .i64 k', .string n', .int .i64 m', .slice ba bl bc, .int .i64 k, .string n, .int .i64 m, .slice aa al ac] 40)
  rw [exEnd_size] at hnew
  exact cons_xw (nb := wr.heap.size) hnew ⟨hB, by omega⟩ (he.keep hk) (hx.keep hk)
theorem rl_facts {w w7 w9 w12 : World} {pb g7 c7 : Nat} {es : List Ex} {x : Ex} (zp : pb < w.heap.size) (hb9 : Below w7.heap.size w7 w9) (hX7 : Xo (w.heap.size + 2) w7 (.slice (some ⟨g7, 0, none⟩) (es.length + 1) c7) (es ++ [x])) (hM7 : Mo (· = pb) w w7) (hz7 : w7.heap[w.heap.size]? = some exZ) (hn7 : w7.heap[w.heap.size + 1]? = some exN) (hm : Mo (· = pb) w9 w12) :
    Hid (Mo (· = pb) w w12) ∧ Hid (w12.heap[w.heap.size]? = some exZ) ∧ Hid (Rxw (Pq (w.heap.size + 2) w9.heap.size) w12 (.slice (some ⟨g7, 0, none⟩) (es.length + 1) c7) (es ++ [x])) ∧ w.heap.size + 2 ≤ w9.heap.size ∧ w9.heap.size ≤ w12.heap.size := by
  have l1 := lt_of_block hn7
  have l2 := hb9.size
  refine ⟨(hM7.trans (Mo.ofBelow hb9 : Mo (· = pb) w7 w9) (fun _ h => Or.inl h)).trans hm (fun _ h => Or.inl h), (hm.block _ (by omega) (by omega)).trans ((hb9.block _ (by omega)).trans hz7), ?_, by omega, hm.size⟩
  exact hX7.rxw.keep (fun q hq hl => by
    have hq2 : w.heap.size + 2 ≤ q := hq
    exact ⟨⟨hq, by omega⟩, (hm.block q (by omega) (by omega)).trans (hb9.block q hl)⟩)
end Go.Proofs.YtklfnphkepfmaaaGreatDoor

/- The reference's reader: a list. -/
namespace Go.Proofs.YtklfnphkepfmaaaGreatDoor
open Go.RowKit
attribute [local go_sem] tok_kind tok_text tok_num tok_at

set_option maxRecDepth 100000 in
set_option maxHeartbeats 8000000 in
theorem rlist_any {w : World} {pb : Nat} {tv : Value} {ts : List Tk} {i : Nat} (h : Rs w pb tv ts i) (hi : i < ts.length) (hl : ts.length ≤ 10000000) (hE : EndT ts) {f : Nat} (hT : RTermC pb tv ts (f + 1)) (nest : Int) (hn0 : -10 ≤ nest) (hn1 : nest ≤ 4096) (hf : nof (rlistF ts f nest i)) :
    Calls Tryz.prog 70 #[.pointer (some ⟨pb, 0, none⟩), .int .i64 nest] w (Rtm w pb tv ts (rlistF ts f nest i)) := by
  have zp := lt_of_block h.b
  have hsl : ∃ b o cp, tv = .slice (some ⟨b, o, none⟩) ts.length cp := by
    obtain ⟨ao, cp, rfl, ht⟩ := h.t
    obtain ⟨b, o, rfl, _⟩ := ht i hi
    exact ⟨b, o, cp, rfl⟩
  obtain ⟨b, o, cp, rfl⟩ := hsl
  have hH := hid h
  have hb0 := hid ((below_alloc w exZ).alloc (show w.heap.size ≤ (w.alloc exZ).heap.size by simp) exN)
  have hse := rsee_any (h.below hb0.out) hi ⟨#[93]⟩
  have hir : i ≤ 10000000 := by omega
  have hbl : Hid (∀ w3, Below ((w.alloc exZ).alloc exN).heap.size ((w.alloc exZ).alloc exN) w3 → Below w.heap.size w w3 ∧ w3.heap[w.heap.size]? = some exZ ∧ w3.heap[w.heap.size + 1]? = some exN) := fun w3 hb3 => by
    refine ⟨Below.next hb0.out hb3, (hb3.block _ (by simp; omega)).trans ((Below.heap_alloc _ _ _ (by simp)).trans (heap_alloc_new w _)), (hb3.block _ (by simp)).trans ?_⟩
    have := heap_alloc_new (w.alloc exZ) exN
    rw [show (w.alloc exZ).heap.size = w.heap.size + 1 by simp] at this
    exact this
  clear h
  cases hm0 : mkA ts i 93 with
  | true =>
    have hR : rlistF ts f nest i = .ok nilX (i + 1) := if_pos hm0
    rw [hR]
    rw [show seesF (tkA ts i) 4 ⟨#[93]⟩ = true from hm0] at hse
    clear hR hf hT hm0
    go_enter Tryz.func70, Tryz.ntmps70
    go_wp2_with (go_at_call 33; go_must (refine hse.mono ?_; clear hse; rintro e w3 ⟨rfl, hb3⟩; obtain ⟨hB3, hz3, hn3⟩ := hbl.out w3 hb3; clear hbl; have hp3 := (hH.out.below hB3).b; have zp3 := lt_of_block hp3; have zz3 := lt_of_block hz3; have zn3 := lt_of_block hn3; obtain ⟨⟨c0, c1, c2, c3, c4, c5⟩, f0, f1, f2, f3, f4, f5⟩ := blk6 hp3; obtain ⟨⟨q0, q1, q2, q3⟩, r0, r1, r2, r3⟩ := blk4x hz3; obtain ⟨⟨p0, p1, p2, p3⟩, _⟩ := blk4x hn3))
    obtain ⟨hR, hM⟩ := hH.out.next hB3
    have hq4 := (Below.heap_setCell w3 ⟨pb, 1, none⟩ (.int .i64 ((i : Int) + 1)) w.heap.size (show w.heap.size ≠ pb by omega)).trans hz3
    have hM4 : Mo (· = pb) w (exEnd (w3.setCell ⟨pb, 1, none⟩ (.int .i64 ((i : Int) + 1))) w.heap.size (.int .i64 2) (.string ⟨#[91, 93]⟩) (.int .i64 0) (.slice none 0 0)) := exEnd_mo hM (Nat.le_refl _)
    exact bodyPost_ret (ret_ex Tryz.results70 (by rfl) (ex_end (.int .i64 2) (.string ⟨#[91, 93]⟩) (.int .i64 0) (.slice none 0 0) hq4)) rfl ⟨_, rfl, hM4, hH.out.step hM4 ((exEnd_other (by omega)).trans hR.b), Xw.leaf _ _ _ _ _⟩
  | false =>
    rw [show seesF (tkA ts i) 4 ⟨#[93]⟩ = false from hm0] at hse
    obtain ⟨E0, hE0⟩ : ∃ E0, elemsF ts f nest i [] = E0 := ⟨_, rfl⟩
    have hR : rlistF ts f nest i = match (generalizing := false) E0 with
      | .bad c j => .bad c j
      | .ok (es, n) j => (wantF ts 93 (if mkA ts j 124 then termF ts f n (j + 1) else .ok nilX j)).map (listX es) := by
      rw [← hE0]
      exact if_neg (by rw [hm0]; decide)
    obtain ⟨i4, hi4, hw0, hw1, hw2⟩ := info_parts infoEx
    have HT := hid hT
    obtain ⟨R, hRe⟩ : ∃ R, rlistF ts f nest i = R := ⟨_, rfl⟩
    have hRH := hid (hRe.symm.trans hR)
    rw [hRe] at hf ⊢
    clear hR hm0 hT hRe
    have hwn : IntKind.i64.wrap (nest + 1) = nest + 1 := by rw [IntKind.wrap_i64]; omega
    go_enter Tryz.func70, Tryz.ntmps70
    go_wp2_with (go_at_call 33; go_must (refine hse.mono ?_; clear hse; rintro e w3 ⟨rfl, hb3⟩; have hB3 := hid (hbl.out w3 hb3); clear hbl hb3))
    go_loopw [6, 7] (fun s6 _ wr => ∃ (es : List Ex) (i' f' c : Nat) (ao : Option Addr), s6 = .slice ao es.length c ∧ i' < ts.length ∧ nest + (es.length : Int) ≤ 4096 ∧ Hid (Rs wr pb (.slice (some ⟨b, o, none⟩) ts.length cp) ts i') ∧ Hid (Mo (· = pb) w wr) ∧ Hid (wr.heap[w.heap.size]? = some exZ) ∧ Hid (wr.heap[w.heap.size + 1]? = some exN) ∧ Hid (Xo (w.heap.size + 2) wr (.slice ao es.length c) es) ∧ Hid (f' ≤ f ∧ elemsF ts f' (nest + (es.length : Int)) i' es = E0)) (fun _ _ wr => ts.length - atOf pb wr)
    case atStart => exact ⟨[], i, f, 0, none, rfl, hi, by simp; omega, hH.out.below hB3.out.1, Mo.ofBelow hB3.out.1, hB3.out.2.1, hB3.out.2.2, Xo.nil _ _, ⟨Nat.le_refl _, by rw [← hE0]; simp⟩⟩
    case round =>
      clear hE0 hB3
      obtain ⟨es, i', f', c, ao, rfl, hi', hnl, hP, hM, hqz, hqn, hX, hF⟩ := hrel
      obtain ⟨hff, hF⟩ := hF.out
      have hwn2 : IntKind.i64.wrap (nest + 1 + (es.length : Int)) = nest + 1 + (es.length : Int) := by rw [IntKind.wrap_i64]; omega
      cases f' with
      | zero =>
        rw [elemsF] at hF
        subst hF
        rw [hRH.out] at hf
        exact absurd rfl hf
      | succ f'' =>
        rw [elemsF, show nest + (es.length : Int) + 1 = nest + 1 + (es.length : Int) by omega] at hF
        have hnf : nof (termF ts f'' (nest + 1 + (es.length : Int)) i') := by
          cases hr : termF ts f'' (nest + 1 + (es.length : Int)) i' with
          | ok x j => trivial
          | bad c j =>
            rw [hr] at hF
            replace hF : Rd1.bad c j = E0 := hF
            subst hF
            rw [hRH.out] at hf
            exact hf
        have hrz := rt_zero hnf
        have hter := hid (HT.out f'' (by omega) (nest + 1 + (es.length : Int)) 0 i' _ hP.out hi' (by omega) (by omega) (by rw [hrz]; exact hnf))
        rw [hrz] at hter
        have hat0 := hid hP.out.atOf
        have hzn := lt_of_block hqn.out
        have hS5 : Hid (∀ w6, Mo (· = pb) wr w6 → w6.heap[w.heap.size]? = some exZ ∧ w6.heap[w.heap.size + 1]? = some exN) := fun w6 hm6 =>
          ⟨(hm6.block _ (by omega) (by omega)).trans hqz.out, (hm6.block _ (by omega) (by omega)).trans hqn.out⟩
        cases hr : termF ts f'' (nest + 1 + (es.length : Int)) i' with
        | bad c5' j =>
          rw [hr] at hF hter
          replace hF : Rd1.bad c5' j = E0 := hF
          subst hF
          have hRb : R = .bad c5' j := hRH.out
          clear hRH
          subst hRb
          clear hX hP hqz hqn HT hr hnf hrz
          go_wp2_with (first
            | (go_at_call 32; go_must (refine hter.out.mono ?_; clear hter; rintro e w6 ⟨k, n, m, aa, al, ac, rfl, hm6, hr6⟩; obtain ⟨hq6, _⟩ := hS5.out w6 hm6; have zq6 := lt_of_block hq6; obtain ⟨⟨q0, q1, q2, q3⟩, r0, r1, r2, r3⟩ := blk4x hq6))
            | (go_at_call 30; go_must (refine (rbad_yes (hr6.below (below_alloc _ _))).mono ?_; rintro e w7 ⟨rfl, rfl⟩)))
          have hqF := ex_end (.int .i64 0) (.string ⟨#[]⟩) (.int .i64 0) (.slice none 0 0) hq6
          have hMF : Mo (· = pb) w ((exEnd w6 w.heap.size (.int .i64 0) (.string ⟨#[]⟩) (.int .i64 0) (.slice none 0 0)).alloc (.cells #[.int .i64 k, .string n, .int .i64 m, .slice aa al ac] 40)) := (exEnd_mo (hM.out.trans hm6 (fun _ h => Or.inl h)) (Nat.le_refl _)).alloc _
          have hqG : ((exEnd w6 w.heap.size (.int .i64 0) (.string ⟨#[]⟩) (.int .i64 0) (.slice none 0 0)).alloc (.cells #[.int .i64 k, .string n, .int .i64 m, .slice aa al ac] 40)).heap[w.heap.size]? = _ := (Below.heap_alloc _ _ _ (lt_of_block hqF)).trans hqF
          have hrG : Rb (exEnd w6 w.heap.size (.int .i64 0) (.string ⟨#[]⟩) (.int .i64 0) (.slice none 0 0)) pb c5' ((tkA ts j).at_ : Int) := hr6.other (exEnd_other (by omega))
          exact bodyPost_ret (ret_ex Tryz.results70 (by rfl) hqG) rfl ⟨_, _, _, _, _, _, rfl, hMF, hrG.below (below_alloc _ _)⟩
        | ok x j =>
          rw [hr] at hF hter
          replace hF : (if mkA ts j 44 = true then elemsF ts f'' (nest + 1 + (es.length : Int)) (j + 1) (es ++ [x]) else .ok (es ++ [x], nest + 1 + (es.length : Int)) j) = E0 := hF
          have hwi := (all_wit hE f'').1 (nest + 1 + (es.length : Int)) i' hi'
          rw [hr] at hwi
          obtain ⟨hij, hj⟩ := hwi
          have hnum := term_nest hr
          have hstep : Hid (∀ w6 v, Mo (· = pb) wr w6 → Rs w6 pb (.slice (some ⟨b, o, none⟩) ts.length cp) ts j → Xw (wr.heap.size ≤ ·) w6 x v → ∃ k n m aa al ac, v = .agg #[.int .i64 k, .string n, .int .i64 m, .slice aa al ac] ∧ Hid (Rs (w6.alloc (.cells #[.int .i64 k, .string n, .int .i64 m, .slice aa al ac] 40)) pb (.slice (some ⟨b, o, none⟩) ts.length cp) ts j) ∧ Hid (((w6.alloc (.cells #[.int .i64 k, .string n, .int .i64 m, .slice aa al ac] 40)).alloc (.cells #[.int .i64 k, .string n, .int .i64 m, .slice aa al ac] 40)).heap[w6.heap.size + 1]? = some (.cells #[.int .i64 k, .string n, .int .i64 m, .slice aa al ac] 40)) ∧ w.heap.size + 2 ≤ w6.heap.size ∧ ∃ fv : Nat → List Value, Hid (((w6.alloc (.cells #[.int .i64 k, .string n, .int .i64 m, .slice aa al ac] 40)).alloc (.cells #[.int .i64 k, .string n, .int .i64 m, .slice aa al ac] 40)).ownsRow (w.heap.size + 2) 40 4 (.slice ao es.length c) es.length (flatV fv es.length)) ∧ Hid (∀ g7 c7 w7, w7.ownsRow (w.heap.size + 2) 40 4 (.slice (some ⟨g7, 0, none⟩) (es.length + 1) c7) (es.length + 1) (flatV fv es.length ++ [.int .i64 k, .string n, .int .i64 m, .slice aa al ac]) → ((w6.alloc (.cells #[.int .i64 k, .string n, .int .i64 m, .slice aa al ac] 40)).alloc (.cells #[.int .i64 k, .string n, .int .i64 m, .slice aa al ac] 40)).grownBy w7 (Value.slice ao es.length c).ownBlock → ((Value.slice ao es.length c).ownBlock = some g7 ∨ g7 = w6.heap.size + 2) → Hid (Xo (w.heap.size + 2) w7 (.slice (some ⟨g7, 0, none⟩) (es.length + 1) c7) (es ++ [x])) ∧ Hid (Rs w7 pb (.slice (some ⟨b, o, none⟩) ts.length cp) ts j) ∧ Hid (Mo (· = pb) w w7) ∧ Hid (w7.heap[w.heap.size]? = some exZ) ∧ Hid (w7.heap[w.heap.size + 1]? = some exN))) := fun w6 v hm7 hp6 hx6 => by
            obtain ⟨k, n, m, aa, al, ac, rfl⟩ := hx6.form
            obtain ⟨hz6, hn6⟩ := hS5.out w6 hm7
            have hzw := hm7.size
            have hX6 := hX.out.mo hm7 (fun k e => by omega)
            have hBk := hX.out.blkB
            have hDk := hX.out.blk
            obtain ⟨fv, hf4, hfx, hown⟩ := hX6
            have hM6 := hM.out.trans hm7 (fun _ h => Or.inl h)
            have hnw : ((w6.alloc (.cells #[.int .i64 k, .string n, .int .i64 m, .slice aa al ac] 40)).alloc (.cells #[.int .i64 k, .string n, .int .i64 m, .slice aa al ac] 40)).heap[w6.heap.size + 1]? = some (.cells #[.int .i64 k, .string n, .int .i64 m, .slice aa al ac] 40) := by
              have := heap_alloc_new (w6.alloc (.cells #[.int .i64 k, .string n, .int .i64 m, .slice aa al ac] 40)) (.cells #[.int .i64 k, .string n, .int .i64 m, .slice aa al ac] 40)
              rw [show (w6.alloc (.cells #[.int .i64 k, .string n, .int .i64 m, .slice aa al ac] 40)).heap.size = w6.heap.size + 1 by simp] at this
              exact this
            refine ⟨k, n, m, aa, al, ac, rfl, hp6.below (below_alloc _ _), hnw, by omega, fv, (hown.alloc _).alloc _, fun g7 c7 w7 ho7 hg7 hat7 => ?_⟩
            have old : ∀ q, q < w6.heap.size → (Value.slice ao es.length c).ownBlock ≠ some q → w7.heap[q]? = w6.heap[q]? := fun q hq hne =>
              (hg7.block q (by simp; omega) (fun e => hne e.symm)).trans ((Below.heap_alloc _ _ _ (by simp; omega)).trans (Below.heap_alloc _ _ _ hq))
            have hn7 := (old (w.heap.size + 1) (by omega) (fun e => by have := hBk _ e; omega)).trans hn6
            have hz7 := (old w.heap.size (by omega) (fun e => by have := hBk _ e; omega)).trans hz6
            have hp7 := (old pb (by omega) (fun e => by have := hBk _ e; omega)).trans hp6.b
            have hM7 : Mo (· = pb) w w7 := ((hM6.alloc _).alloc _).grown hg7 (fun q e => Or.inr (by have := hBk q e; omega))
            have hX7 : Xo (w.heap.size + 2) w7 (.slice (some ⟨g7, 0, none⟩) (es.length + 1) c7) (es ++ [x]) := xo_app (w5 := w6.alloc (.cells #[.int .i64 k, .string n, .int .i64 m, .slice aa al ac] 40)) hf4 (fun q hq => (hfx q hq).keep (fun b' hb' hl' => ⟨hb', Below.heap_alloc _ _ _ hl'⟩)) (D := wr.heap.size) (fun b' hb' => by have := hDk b' hb'; omega) (by omega) (hx6.next (below_alloc _ _)) ho7 hg7 (by rw [show (w6.alloc (.cells #[.int .i64 k, .string n, .int .i64 m, .slice aa al ac] 40)).heap.size = w6.heap.size + 1 by simp]; exact hat7)
            exact ⟨hX7, hH.out.step hM7 hp7, hM7, hz7, hn7⟩
          have hse2 : Hid (∀ w8, Rs w8 pb (.slice (some ⟨b, o, none⟩) ts.length cp) ts j → Calls Tryz.prog 33 #[.pointer (some ⟨pb, 0, none⟩), .string ⟨#[44]⟩] w8 fun e w' => e = .returned (.bool (mkA ts j 44)) ∧ Below w8.heap.size w8 w') := fun w8 h8 => rsee_any h8 hj ⟨#[44]⟩
          have hmeas : ts.length - j < ts.length - i' := by omega
          cases hm : mkA ts j 44 with
          | true =>
            rw [if_pos hm] at hF
            rw [hm] at hse2
            have hj1 := mk_next hE hj hm
            have hjr : j ≤ 10000000 := by omega
            have hFF : Hid (f'' ≤ f ∧ elemsF ts f'' (nest + ((es ++ [x]).length : Int)) (j + 1) (es ++ [x]) = E0) := ⟨by omega, by rw [← hF]; congr 1; simp; omega⟩
            clear hF hr hM hX hP HT hm hS5 hqz hqn hnf hrz
            go_wp2_with (first
              | (go_at_call 32; go_must (refine hter.out.mono ?_; clear hter; rintro e w6 ⟨v, rfl, hm6, hp6, hx6⟩; obtain ⟨k, n, m, aa, al, ac, rfl, hRb6, hnw6, hz6, fv, hown6, hnx6⟩ := hstep.out w6 v hm6 hp6 hx6; clear hstep hm6 hp6 hx6))
              | (go_at_call 30; go_must (refine (rbad_no hRb6.out).mono ?_; clear hRb6; rintro e w7 ⟨rfl, rfl⟩))
              | (at_builtin; go_must (refine wpList_append_lies _ rfl _ _ 24 rfl (w.heap.size + 2) 40 i4 (.agg #[.int .i64 0, .string ⟨#[]⟩, .int .i64 0, .slice none 0 0]) 4 56 Tryz.underlying24 hi4 hw0 hw1 hw2 rfl (by decide) _ es.length (flatV fv es.length) rfl hown6.out ⟨w6.heap.size + 1, 0, none⟩ 1 1 [.int .i64 k, .string n, .int .i64 m, .slice aa al ac] rfl rfl (World.news_of_block (cs := #[.int .i64 k, .string n, .int .i64 m, .slice aa al ac]) (t := 40) (fr := (0, 0)) hnw6.out) (by simp [Value.oneCell']) (by omega) (by unfold maxLen; omega) (by omega) (by simp; omega) (w6.heap.size + 2) (by simp) ?_; intro g7 c7 w7 hown7 hg7 hat7 hlt7; obtain ⟨hX8, hP8, hM8, hz8, hn8⟩ := hnx6.out g7 c7 w7 hown7 hg7 hat7; clear hown7 hg7 hnx6 hown6))
              | (go_at_call 33; go_must (refine (hse2.out _ hP8.out).mono ?_; clear hse2; rintro e w9 ⟨rfl, hb9⟩; have hq9 := (hP8.out.below hb9).b; have zp9 := lt_of_block hq9; obtain ⟨⟨c0, c1, c2, c3, c4, c5⟩, f0, f1, f2, f3, f4, f5⟩ := blk6 hq9)))
            obtain ⟨hR10, hM10⟩ := hP8.out.next hb9
            have zn8 := lt_of_block hn8.out
            have zz8 := lt_of_block hz8.out
            go_roundw
            case rel => exact ⟨es ++ [x], j + 1, f'', c7, some ⟨g7, 0, none⟩, by rw [List.length_append, List.length_singleton], hj1, by simp; omega, hR10, hM8.out.trans hM10 (fun _ h => Or.inl h), (hM10.block _ zz8 (by omega)).trans hz8.out, (hM10.block _ zn8 (by omega)).trans hn8.out, by rw [List.length_append, List.length_singleton]; exact hX8.out.mo hM10 (fun k e => by omega), hFF⟩
            case measure => rw [hR10.atOf, hat0.out]; omega
          | false =>
            rw [if_neg (by rw [hm]; decide)] at hF
            rw [hm] at hse2
            subst hF
            have hd0 : decide (4096 < nest + ((es.length : Int) + 1)) = false := decide_eq_false (by omega)
            have hwn3 : IntKind.i64.wrap (nest + ((es.length : Int) + 1)) = nest + ((es.length : Int) + 1) := by rw [IntKind.wrap_i64]; omega
            have hjr : j ≤ 10000000 := by omega
            have hel : es.length ≤ 5000 := by omega
            have hse3 : Hid (∀ w8, Rs w8 pb (.slice (some ⟨b, o, none⟩) ts.length cp) ts j → Calls Tryz.prog 33 #[.pointer (some ⟨pb, 0, none⟩), .string ⟨#[124]⟩] w8 fun e w' => e = .returned (.bool (mkA ts j 124)) ∧ Below w8.heap.size w8 w') := fun w8 h8 => rsee_any h8 hj ⟨#[124]⟩
            have hse4 : Hid (∀ w8, Rs w8 pb (.slice (some ⟨b, o, none⟩) ts.length cp) ts j → Calls Tryz.prog 33 #[.pointer (some ⟨pb, 0, none⟩), .string ⟨#[93]⟩] w8 fun e w' => e = .returned (.bool (mkA ts j 93)) ∧ Below w8.heap.size w8 w') := fun w8 h8 => rsee_any h8 hj ⟨#[93]⟩
            have hRT : R = (wantF ts 93 (if mkA ts j 124 then termF ts f (nest + 1 + (es.length : Int)) (j + 1) else .ok nilX j)).map (listX (es ++ [x])) := hRH.out
            clear hm hr hX hP hqz hqn hnf hrz hS5 hmeas hat0 hM hRH
            cases hm124 : mkA ts j 124 with
            | true =>
              rw [if_pos hm124] at hRT
              have hj1 := mk_next hE hj hm124
              have hnf : nof (termF ts f (nest + 1 + (es.length : Int)) (j + 1)) := by
                cases hr : (termF ts f (nest + 1 + (es.length : Int)) (j + 1)) with
                | ok y j' => trivial
                | bad c j' =>
                  rw [hr] at hRT
                  rw [hRT] at hf
                  exact hf
              have hter2 : Hid (∀ W, Rs W pb (.slice (some ⟨b, o, none⟩) ts.length cp) ts (j + 1) → Calls Tryz.prog 32 #[.pointer (some ⟨pb, 0, none⟩), .int .i64 (nest + ((es.length : Int) + 1)), .int .i64 0] W (Rtm W pb (.slice (some ⟨b, o, none⟩) ts.length cp) ts (termF ts f (nest + 1 + (es.length : Int)) (j + 1)))) := fun W hW => by
                have e1 : nest + ((es.length : Int) + 1) = nest + 1 + (es.length : Int) := by omega
                have hz := rt_zero hnf
                have := HT.out f (Nat.lt_succ_self f) (nest + 1 + (es.length : Int)) 0 (j + 1) W hW hj1 (by omega) (by omega) (by rw [hz]; exact hnf)
                rw [hz] at this
                rw [e1]
                exact this
              have hwi := (all_wit hE f).1 (nest + 1 + (es.length : Int)) (j + 1) hj1
              have hsk : Hid (∀ W, Est pb (.slice (some ⟨b, o, none⟩) ts.length cp) ts (termF ts f (nest + 1 + (es.length : Int)) (j + 1)) W → Calls Tryz.prog 35 #[.pointer (some ⟨pb, 0, none⟩), .string ⟨#[93]⟩] W fun e w' => e = .returned (.tuple #[]) ∧ Mo (· = pb) W w' ∧ Est pb (.slice (some ⟨b, o, none⟩) ts.length cp) ts (wantF ts 93 (termF ts f (nest + 1 + (es.length : Int)) (j + 1))) w') := fun W hW => rskip_st hW (fun y j' e => by rw [e] at hwi; exact hwi.2) hl
              have hfi := hid hRT
              rw [hm124] at hse3
              clear hm124 hRT hf hnf hwi hse4 HT
              go_wp2_with (first
                | (have _m := hter; go_at_call 32; go_must (refine hter.out.mono ?_; clear hter _m; rintro e w6 ⟨v, rfl, hm6, hp6, hx6⟩; obtain ⟨k, n, m, aa, al, ac, rfl, hRb6, hnw6, hz6, fv, hown6, hnx6⟩ := hstep.out w6 v hm6 hp6 hx6; clear hstep hm6 hp6 hx6))
                | (have _m := hter2; go_at_call 32; go_must (refine (hter2.out _ hnx10.out.1).mono ?_; clear hter2 _m; intro e w11 hr11; obtain ⟨k2, n2, m2, aa2, al2, ac2, rfl, hm11, hE11, hx11⟩ := hr11.parts; have hq11 : w11.heap[w9.heap.size]? = some exN := (hm11.block _ (by have h1 := hb10.size; simp at h1; simp; omega) (by omega)).trans ((hnx10.out.2.block _ (by simp) (by omega)).trans (heap_alloc_new w9 _)); have zq11 := lt_of_block hq11; obtain ⟨⟨q0, q1, q2, q3⟩, r0, r1, r2, r3⟩ := blk4x hq11; have hMA : Hid (Mo (· = pb) w9 (exEnd w11 w9.heap.size (.int .i64 k2) (.string n2) (.int .i64 m2) (.slice aa2 al2 ac2))) := exEnd_mo ((((Mo.refl (· = pb) w9).alloc exN).trans hnx10.out.2 (fun _ h => Or.inl h)).trans hm11 (fun _ h => Or.inl h)) (Nat.le_refl _); have hE11' : Hid (Est pb (.slice (some ⟨b, o, none⟩) ts.length cp) ts (termF ts f (nest + 1 + (es.length : Int)) (j + 1)) w11) := hE11; have hx11' := hid hx11; clear hE11 hx11 hr11))
                | (go_at_call 30; go_must (refine (rbad_no hRb6.out).mono ?_; clear hRb6; rintro e w7 ⟨rfl, rfl⟩))
                | (at_builtin; go_must (refine wpList_append_lies _ rfl _ _ 24 rfl (w.heap.size + 2) 40 i4 (.agg #[.int .i64 0, .string ⟨#[]⟩, .int .i64 0, .slice none 0 0]) 4 56 Tryz.underlying24 hi4 hw0 hw1 hw2 rfl (by decide) _ es.length (flatV fv es.length) rfl hown6.out ⟨w6.heap.size + 1, 0, none⟩ 1 1 [.int .i64 k, .string n, .int .i64 m, .slice aa al ac] rfl rfl (World.news_of_block (cs := #[.int .i64 k, .string n, .int .i64 m, .slice aa al ac]) (t := 40) (fr := (0, 0)) hnw6.out) (by simp [Value.oneCell']) (by omega) (by unfold maxLen; omega) (by omega) (by simp; omega) (w6.heap.size + 2) (by simp) ?_; intro g7 c7 w7 hown7 hg7 hat7 hlt7; obtain ⟨hX8, hP8, hM8, hz8, hn8⟩ := hnx6.out g7 c7 w7 hown7 hg7 hat7; clear hown7 hg7 hnx6 hown6))
                | (have _m := hse2; go_at_call 33; go_must (refine (hse2.out _ hP8.out).mono ?_; clear hse2 _m; rintro e w9 ⟨rfl, hb9⟩; have hn9 := (hb9.block _ (lt_of_block hn8.out)).trans hn8.out; have zn9 := lt_of_block hn9; obtain ⟨⟨v0, v1, v2, v3⟩, _⟩ := blk4x hn9; have hP9 := hid ((hP8.out.below hb9).below (below_alloc w9 exN))))
                | (have _m := hse3; go_at_call 33; go_must (refine (hse3.out _ hP9.out).mono ?_; clear hse3 _m; rintro e w10 ⟨rfl, hb10⟩; have hP10 := hid (hP9.out.below hb10); have hq10 := hP10.out.b; have zp10 := lt_of_block hq10; obtain ⟨⟨c0, c1, c2, c3, c4, c5⟩, f0, f1, f2, f3, f4, f5⟩ := blk6 hq10; have hnx10 := hid (hP9.out.next hb10); clear hq10))
                | (go_at_call 35; go_must (refine (hsk.out (exEnd w11 w9.heap.size (.int .i64 k2) (.string n2) (.int .i64 m2) (.slice aa2 al2 ac2)) (Est.keep hH.out ((hM8.out.trans (Mo.ofBelow hb9 : Mo (· = pb) _ w9) (fun _ h => Or.inl h)).trans hMA.out (fun _ h => Or.inl h)) (exEnd_other (by omega)) hE11'.out)).mono ?_; clear hsk; rintro e w12 ⟨rfl, hm12, he12⟩; obtain ⟨hM12, hz12, hrow, hs9, hs12⟩ := rl_facts zp hb9 hX8.out hM8.out hz8.out hn8.out (hMA.out.trans hm12 (fun _ h => Or.inl h)); have hq12 := hid ((hm12.block w9.heap.size (by rw [exEnd_size]; omega) (by omega)).trans (ex_end (.int .i64 k2) (.string n2) (.int .i64 m2) (.slice aa2 al2 ac2) hq11)); have hE12 : Hid (Est pb (.slice (some ⟨b, o, none⟩) ts.length cp) ts (wantF ts 93 (termF ts f (nest + 1 + (es.length : Int)) (j + 1))) w12) := he12)))
              have hx12 : Hid (∀ y j', wantF ts 93 (termF ts f (nest + 1 + (es.length : Int)) (j + 1)) = .ok y j' → Xw (Pq (w.heap.size + 2) w9.heap.size) w12 y (.agg #[.int .i64 k2, .string n2, .int .i64 m2, .slice aa2 al2 ac2])) := fun y j' e => by
                obtain ⟨j0, e0⟩ := want_ok e
                have h1 := hb10.size
                simp at h1
                exact (hx11'.out y j0 e0).keep (fun q hq hql => by
                  have hq2 : (w10.setCell ⟨pb, 1, none⟩ (.int .i64 ((j : Int) + 1))).heap.size ≤ q := hq
                  simp at hq2
                  exact ⟨⟨by omega, by omega⟩, (hm12.block q (by rw [exEnd_size]; exact hql) (by omega)).trans (exEnd_other (by omega))⟩)
              clear hm12 hb10 hb9 hP9 hP10 he12 hm11 hx11' hE11' hMA hnx10 hq11
              clear hP8 hM8 hz8 hn8 hX8
              go_loopw [9] (fun s9 wr2 => ∃ (d : Nat) (k : Int) (n : ByteArray) (m : Int) (aa : Option Addr) (al ac : Nat), s9 = .int .i64 ((d : Int) - 1) ∧ d ≤ es.length + 1 ∧ Hid (wr2.heap[w9.heap.size]? = some (.cells #[.int .i64 k, .string n, .int .i64 m, .slice aa al ac] 40)) ∧ Hid (Mo (· = w9.heap.size) w12 wr2) ∧ Hid (∀ y j', wantF ts 93 (termF ts f (nest + 1 + (es.length : Int)) (j + 1)) = .ok y j' → Xw (Pq (w.heap.size + 2) w9.heap.size) wr2 (listX ((es ++ [x]).drop d) y) (.agg #[.int .i64 k, .string n, .int .i64 m, .slice aa al ac]))) (fun s9 _ => (intOf s9 + 1).toNat)
              case atStart => exact ⟨es.length + 1, _, _, _, _, _, _, by congr 1; omega, Nat.le_refl _, hq12, Mo.refl _ _, fun y j' e => by rw [List.drop_eq_nil_of_le (by simp)]; exact hx12.out y j' e⟩
              case round =>
                obtain ⟨d, k, n, m, aa, al, ac, rfl, hd, hqb, hMr, hxr⟩ := hrel
                have hbx := hqb.out
                have zbx := lt_of_block hbx
                obtain ⟨⟨a0, a1, a2, a3⟩, u0, u1, u2, u3⟩ := blk4x hbx
                clear hbx
                have hzr : Hid (wr.heap[w.heap.size]? = some exZ) := (hMr.out.block _ (lt_of_block hz12.out) (by omega)).trans hz12.out
                cases d with
                | zero =>
                  have hqz := hzr.out
                  have zqz := lt_of_block hqz
                  obtain ⟨⟨q0, q1, q2, q3⟩, r0, r1, r2, r3⟩ := blk4x hqz
                  go_wp2
                  have hpW : wr.heap[pb]? = w12.heap[pb]? := hMr.out.block pb (by have := hM12.out.size; omega) (by omega)
                  have hMW : Mo (· = pb) w wr := hM12.out.trans hMr.out (fun q hq => Or.inr (by rw [hq]; omega))
                  have hMF : Mo (· = pb) w (exEnd wr w.heap.size (.int .i64 k) (.string n) (.int .i64 m) (.slice aa al ac)) := exEnd_mo hMW (Nat.le_refl _)
                  have hEF : Est pb (.slice (some ⟨b, o, none⟩) ts.length cp) ts (wantF ts 93 (termF ts f (nest + 1 + (es.length : Int)) (j + 1))) (exEnd wr w.heap.size (.int .i64 k) (.string n) (.int .i64 m) (.slice aa al ac)) := Est.keep hH.out hMF ((exEnd_other (by omega)).trans hpW) hE12.out
                  refine bodyPost_ret (ret_ex Tryz.results70 (by rfl) (ex_end (.int .i64 k) (.string n) (.int .i64 m) (.slice aa al ac) hqz)) rfl ?_
                  have hfin : Rtm w pb (.slice (some ⟨b, o, none⟩) ts.length cp) ts ((wantF ts 93 (termF ts f (nest + 1 + (es.length : Int)) (j + 1))).map (listX (es ++ [x]))) (.returned (.agg #[.int .i64 k, .string n, .int .i64 m, .slice aa al ac])) (exEnd wr w.heap.size (.int .i64 k) (.string n) (.int .i64 m) (.slice aa al ac)) := Rtm.of hMF (hEF.map _) (fun y j' e => by
                    cases hw : wantF ts 93 (termF ts f (nest + 1 + (es.length : Int)) (j + 1)) with
                    | bad c j => rw [hw] at e; cases e
                    | ok y0 j0 =>
                      rw [hw] at e
                      have e2 : listX (es ++ [x]) y0 = y := by injection e
                      rw [← e2]
                      exact (hxr.out y0 j0 hw).keep (fun b' hb' _ => ⟨by show w.heap.size ≤ b'; have := hb'.1; omega, exEnd_other (by have := hb'.1; omega)⟩))
                  exact by rw [hfi.out]; exact hfin
                | succ d =>
                  rw [show ((d + 1 : Nat) : Int) - 1 = (d : Int) by omega]
                  obtain ⟨ao', c', ee, hall⟩ := hrow.out
                  obtain ⟨b', o', k', n', m', ba, bl, bc, e1, hPb, w0', w1', w2', w3', hXe⟩ := hall d (by simp; omega)
                  have hge : b' = g7 ∧ o' = 0 := by
                    injection ee with ee1 ee2 ee3
                    rw [← ee1] at e1
                    injection e1 with e1
                    injection e1 with e2 e3
                    exact ⟨e2.symm, e3.symm⟩
                  obtain ⟨rfl, rfl⟩ := hge
                  rw [Nat.zero_add] at w0' w1' w2' w3'
                  have hkp : ∀ q, Pq (w.heap.size + 2) w9.heap.size q → q < w12.heap.size → Pq (w.heap.size + 2) w9.heap.size q ∧ wr.heap[q]? = w12.heap[q]? := fun q hq hql => ⟨hq, hMr.out.block q hql hq.2⟩
                  have hcl : ∀ q, wr.cell? ⟨b', q, none⟩ = w12.cell? ⟨b', q, none⟩ := fun q => by simp only [World.cell?, (hkp b' hPb (lt_of_cell w0')).2]
                  rw [← hcl] at w0' w1' w2' w3'
                  have zg := lt_of_cell w0'
                  have hXe2 := hid (hXe.keep hkp)
                  have hd2 : (d : Int) < ((es.length + 1 : Nat) : Int) := by omega
                  have hd3 : (d : Int) < (es.length : Int) + 1 := by omega
                  have hd4 : decide ((0 : Int) ≤ (d : Int)) = true := decide_eq_true (by omega)
                  clear hall hXe hcl hkp ee e1 hE12
                  go_wp2
                  go_region
                  go_wp2
                  go_roundw
                  case rel => exact ⟨d, 4, ⟨#[46]⟩, 0, some ⟨wr.heap.size, 0, none⟩, 2, 2, rfl, by omega, (Below.heap_alloc _ _ _ (by rw [exEnd_size]; omega)).trans (ex_end (.int .i64 4) (.string ⟨#[46]⟩) (.int .i64 0) (.slice (some ⟨wr.heap.size, 0, none⟩) 2 2) hqb.out), ((exEnd_moS hMr.out rfl).alloc _).drew, fun y j' e => rl_step (by simp; omega) zbx (by omega) hXe2.out (hxr.out y j' e)⟩
                  case measure => first | (simp [intOf]; done) | (simp [intOf]; omega)
            | false =>
              rw [if_neg (by rw [hm124]; decide)] at hRT
              have hfi := hid hRT
              have hx0 : Hid (∀ (W : World) q y j', wantF ts 93 (Rd1.ok nilX j) = .ok y j' → Xw (Pq (w.heap.size + 2) q) W y (.agg #[.int .i64 2, .string ⟨#[91, 93]⟩, .int .i64 0, .slice none 0 0])) := fun W q y j' e => by
                obtain ⟨j0, e0⟩ := want_ok e
                injection e0 with e1 _
                rw [← e1]
                exact Xw.leaf _ _ _ _ _
              have hsk : Hid (∀ w11, Rs w11 pb (.slice (some ⟨b, o, none⟩) ts.length cp) ts j → Calls Tryz.prog 35 #[.pointer (some ⟨pb, 0, none⟩), .string ⟨#[93]⟩] w11 fun e w' => e = .returned (.tuple #[]) ∧ Mo (· = pb) w11 w' ∧ Est pb (.slice (some ⟨b, o, none⟩) ts.length cp) ts (wantF ts 93 (.ok nilX j)) w') := fun w11 h11 => rskip_st (r := .ok nilX j) h11 (fun y j' e => by cases e; exact hj) hl
              rw [hm124] at hse3
              clear hm124 hRT hf HT
              cases hm93 : mkA ts j 93 with
              | true =>
                rw [hm93] at hse4
                clear hm93
                go_wp2_with (first
                  | (have _m := hter; go_at_call 32; go_must (refine hter.out.mono ?_; clear hter _m; rintro e w6 ⟨v, rfl, hm6, hp6, hx6⟩; obtain ⟨k, n, m, aa, al, ac, rfl, hRb6, hnw6, hz6, fv, hown6, hnx6⟩ := hstep.out w6 v hm6 hp6 hx6; clear hstep hm6 hp6 hx6))
                  | (go_at_call 30; go_must (refine (rbad_no hRb6.out).mono ?_; clear hRb6; rintro e w7 ⟨rfl, rfl⟩))
                  | (at_builtin; go_must (refine wpList_append_lies _ rfl _ _ 24 rfl (w.heap.size + 2) 40 i4 (.agg #[.int .i64 0, .string ⟨#[]⟩, .int .i64 0, .slice none 0 0]) 4 56 Tryz.underlying24 hi4 hw0 hw1 hw2 rfl (by decide) _ es.length (flatV fv es.length) rfl hown6.out ⟨w6.heap.size + 1, 0, none⟩ 1 1 [.int .i64 k, .string n, .int .i64 m, .slice aa al ac] rfl rfl (World.news_of_block (cs := #[.int .i64 k, .string n, .int .i64 m, .slice aa al ac]) (t := 40) (fr := (0, 0)) hnw6.out) (by simp [Value.oneCell']) (by omega) (by unfold maxLen; omega) (by omega) (by simp; omega) (w6.heap.size + 2) (by simp) ?_; intro g7 c7 w7 hown7 hg7 hat7 hlt7; obtain ⟨hX8, hP8, hM8, hz8, hn8⟩ := hnx6.out g7 c7 w7 hown7 hg7 hat7; clear hown7 hg7 hnx6 hown6))
                  | (have _m := hse2; go_at_call 33; go_must (refine (hse2.out _ hP8.out).mono ?_; clear hse2 _m; rintro e w9 ⟨rfl, hb9⟩; have hn9 := (hb9.block _ (lt_of_block hn8.out)).trans hn8.out; have zn9 := lt_of_block hn9; obtain ⟨⟨v0, v1, v2, v3⟩, _⟩ := blk4x hn9; have hP9 := hid ((hP8.out.below hb9).below (below_alloc w9 exN))))
                  | (have _m := hse3; go_at_call 33; go_must (refine (hse3.out _ hP9.out).mono ?_; clear hse3 _m; rintro e w10 ⟨rfl, hb10⟩; have hP10 := hid (hP9.out.below hb10)))
                  | (have _m := hse4; go_at_call 33; go_must (refine (hse4.out _ hP10.out).mono ?_; clear hse4 _m; rintro e w11 ⟨rfl, hb11⟩; have hP11 := hid (hP10.out.below hb11)))
                  | (go_at_call 35; go_must (refine (hsk.out w11 hP11.out).mono ?_; clear hsk; rintro e w12 ⟨rfl, hm12, he12⟩; obtain ⟨hM12, hz12, hrow, hs9, hs12⟩ := rl_facts zp hb9 hX8.out hM8.out hz8.out hn8.out ((((Mo.refl (· = pb) w9).alloc exN).trans (Mo.ofBelow (Below.next hb10 hb11) : Mo (· = pb) _ w11) (fun _ h => Or.inl h)).trans hm12 (fun _ h => Or.inl h)); have hq12 : Hid (w12.heap[w9.heap.size]? = some exN) := (hm12.block _ (by have h1 := hb10.size; have h2 := hb11.size; simp at h1; omega) (by omega)).trans ((hb11.block _ (by have h1 := hb10.size; simp at h1; omega)).trans ((hb10.block _ (by simp)).trans (heap_alloc_new w9 _))); have hE12 : Hid (Est pb (.slice (some ⟨b, o, none⟩) ts.length cp) ts (wantF ts 93 (.ok nilX j)) w12) := he12; clear he12 hm12 hb10 hb11 hb9 hP9 hP10 hP11)))
                have hx12 := hid (hx0.out w12 w9.heap.size)
                clear hP8 hM8 hz8 hn8 hX8
                go_loopw [9] (fun s9 wr2 => ∃ (d : Nat) (k : Int) (n : ByteArray) (m : Int) (aa : Option Addr) (al ac : Nat), s9 = .int .i64 ((d : Int) - 1) ∧ d ≤ es.length + 1 ∧ Hid (wr2.heap[w9.heap.size]? = some (.cells #[.int .i64 k, .string n, .int .i64 m, .slice aa al ac] 40)) ∧ Hid (Mo (· = w9.heap.size) w12 wr2) ∧ Hid (∀ y j', wantF ts 93 (Rd1.ok nilX j) = .ok y j' → Xw (Pq (w.heap.size + 2) w9.heap.size) wr2 (listX ((es ++ [x]).drop d) y) (.agg #[.int .i64 k, .string n, .int .i64 m, .slice aa al ac]))) (fun s9 _ => (intOf s9 + 1).toNat)
                case atStart => exact ⟨es.length + 1, _, _, _, _, _, _, by congr 1; omega, Nat.le_refl _, hq12, Mo.refl _ _, fun y j' e => by rw [List.drop_eq_nil_of_le (by simp)]; exact hx12.out y j' e⟩
                case round =>
                  obtain ⟨d, k, n, m, aa, al, ac, rfl, hd, hqb, hMr, hxr⟩ := hrel
                  have hbx := hqb.out
                  have zbx := lt_of_block hbx
                  obtain ⟨⟨a0, a1, a2, a3⟩, u0, u1, u2, u3⟩ := blk4x hbx
                  clear hbx
                  have hzr : Hid (wr.heap[w.heap.size]? = some exZ) := (hMr.out.block _ (lt_of_block hz12.out) (by omega)).trans hz12.out
                  cases d with
                  | zero =>
                    have hqz := hzr.out
                    have zqz := lt_of_block hqz
                    obtain ⟨⟨q0, q1, q2, q3⟩, r0, r1, r2, r3⟩ := blk4x hqz
                    go_wp2
                    have hpW : wr.heap[pb]? = w12.heap[pb]? := hMr.out.block pb (by have := hM12.out.size; omega) (by omega)
                    have hMW : Mo (· = pb) w wr := hM12.out.trans hMr.out (fun q hq => Or.inr (by rw [hq]; omega))
                    have hMF : Mo (· = pb) w (exEnd wr w.heap.size (.int .i64 k) (.string n) (.int .i64 m) (.slice aa al ac)) := exEnd_mo hMW (Nat.le_refl _)
                    have hEF : Est pb (.slice (some ⟨b, o, none⟩) ts.length cp) ts (wantF ts 93 (Rd1.ok nilX j)) (exEnd wr w.heap.size (.int .i64 k) (.string n) (.int .i64 m) (.slice aa al ac)) := Est.keep hH.out hMF ((exEnd_other (by omega)).trans hpW) hE12.out
                    refine bodyPost_ret (ret_ex Tryz.results70 (by rfl) (ex_end (.int .i64 k) (.string n) (.int .i64 m) (.slice aa al ac) hqz)) rfl ?_
                    have hfin : Rtm w pb (.slice (some ⟨b, o, none⟩) ts.length cp) ts ((wantF ts 93 (Rd1.ok nilX j)).map (listX (es ++ [x]))) (.returned (.agg #[.int .i64 k, .string n, .int .i64 m, .slice aa al ac])) (exEnd wr w.heap.size (.int .i64 k) (.string n) (.int .i64 m) (.slice aa al ac)) := Rtm.of hMF (hEF.map _) (fun y j' e => by
                      cases hw : wantF ts 93 (Rd1.ok nilX j) with
                      | bad c j => rw [hw] at e; cases e
                      | ok y0 j0 =>
                        rw [hw] at e
                        have e2 : listX (es ++ [x]) y0 = y := by injection e
                        rw [← e2]
                        exact (hxr.out y0 j0 hw).keep (fun b' hb' _ => ⟨by show w.heap.size ≤ b'; have := hb'.1; omega, exEnd_other (by have := hb'.1; omega)⟩))
                    exact by rw [hfi.out]; exact hfin
                  | succ d =>
                    rw [show ((d + 1 : Nat) : Int) - 1 = (d : Int) by omega]
                    obtain ⟨ao', c', ee, hall⟩ := hrow.out
                    obtain ⟨b', o', k', n', m', ba, bl, bc, e1, hPb, w0', w1', w2', w3', hXe⟩ := hall d (by simp; omega)
                    have hge : b' = g7 ∧ o' = 0 := by
                      injection ee with ee1 ee2 ee3
                      rw [← ee1] at e1
                      injection e1 with e1
                      injection e1 with e2 e3
                      exact ⟨e2.symm, e3.symm⟩
                    obtain ⟨rfl, rfl⟩ := hge
                    rw [Nat.zero_add] at w0' w1' w2' w3'
                    have hkp : ∀ q, Pq (w.heap.size + 2) w9.heap.size q → q < w12.heap.size → Pq (w.heap.size + 2) w9.heap.size q ∧ wr.heap[q]? = w12.heap[q]? := fun q hq hql => ⟨hq, hMr.out.block q hql hq.2⟩
                    have hcl : ∀ q, wr.cell? ⟨b', q, none⟩ = w12.cell? ⟨b', q, none⟩ := fun q => by simp only [World.cell?, (hkp b' hPb (lt_of_cell w0')).2]
                    rw [← hcl] at w0' w1' w2' w3'
                    have zg := lt_of_cell w0'
                    have hXe2 := hid (hXe.keep hkp)
                    have hd2 : (d : Int) < ((es.length + 1 : Nat) : Int) := by omega
                    have hd3 : (d : Int) < (es.length : Int) + 1 := by omega
                    have hd4 : decide ((0 : Int) ≤ (d : Int)) = true := decide_eq_true (by omega)
                    clear hall hXe hcl hkp ee e1 hE12
                    go_wp2
                    go_region
                    go_wp2
                    go_roundw
                    case rel => exact ⟨d, 4, ⟨#[46]⟩, 0, some ⟨wr.heap.size, 0, none⟩, 2, 2, rfl, by omega, (Below.heap_alloc _ _ _ (by rw [exEnd_size]; omega)).trans (ex_end (.int .i64 4) (.string ⟨#[46]⟩) (.int .i64 0) (.slice (some ⟨wr.heap.size, 0, none⟩) 2 2) hqb.out), ((exEnd_moS hMr.out rfl).alloc _).drew, fun y j' e => rl_step (by simp; omega) zbx (by omega) hXe2.out (hxr.out y j' e)⟩
                    case measure => first | (simp [intOf]; done) | (simp [intOf]; omega)
              | false =>
                rw [hm93] at hse4
                clear hm93
                go_wp2_with (first
                  | (have _m := hter; go_at_call 32; go_must (refine hter.out.mono ?_; clear hter _m; rintro e w6 ⟨v, rfl, hm6, hp6, hx6⟩; obtain ⟨k, n, m, aa, al, ac, rfl, hRb6, hnw6, hz6, fv, hown6, hnx6⟩ := hstep.out w6 v hm6 hp6 hx6; clear hstep hm6 hp6 hx6))
                  | (go_at_call 30; go_must (refine (rbad_no hRb6.out).mono ?_; clear hRb6; rintro e w7 ⟨rfl, rfl⟩))
                  | (at_builtin; go_must (refine wpList_append_lies _ rfl _ _ 24 rfl (w.heap.size + 2) 40 i4 (.agg #[.int .i64 0, .string ⟨#[]⟩, .int .i64 0, .slice none 0 0]) 4 56 Tryz.underlying24 hi4 hw0 hw1 hw2 rfl (by decide) _ es.length (flatV fv es.length) rfl hown6.out ⟨w6.heap.size + 1, 0, none⟩ 1 1 [.int .i64 k, .string n, .int .i64 m, .slice aa al ac] rfl rfl (World.news_of_block (cs := #[.int .i64 k, .string n, .int .i64 m, .slice aa al ac]) (t := 40) (fr := (0, 0)) hnw6.out) (by simp [Value.oneCell']) (by omega) (by unfold maxLen; omega) (by omega) (by simp; omega) (w6.heap.size + 2) (by simp) ?_; intro g7 c7 w7 hown7 hg7 hat7 hlt7; obtain ⟨hX8, hP8, hM8, hz8, hn8⟩ := hnx6.out g7 c7 w7 hown7 hg7 hat7; clear hown7 hg7 hnx6 hown6))
                  | (have _m := hse2; go_at_call 33; go_must (refine (hse2.out _ hP8.out).mono ?_; clear hse2 _m; rintro e w9 ⟨rfl, hb9⟩; have hn9 := (hb9.block _ (lt_of_block hn8.out)).trans hn8.out; have zn9 := lt_of_block hn9; obtain ⟨⟨v0, v1, v2, v3⟩, _⟩ := blk4x hn9; have hP9 := hid ((hP8.out.below hb9).below (below_alloc w9 exN))))
                  | (have _m := hse3; go_at_call 33; go_must (refine (hse3.out _ hP9.out).mono ?_; clear hse3 _m; rintro e w10 ⟨rfl, hb10⟩; have hP10 := hid (hP9.out.below hb10)))
                  | (have _m := hse4; go_at_call 33; go_must (refine (hse4.out _ hP10.out).mono ?_; clear hse4 _m; rintro e w11 ⟨rfl, hb11⟩; have hP11 := hid (hP10.out.below hb11)))
                  | (go_at_call 35; go_must (refine (hsk.out w11 hP11.out).mono ?_; clear hsk; rintro e w12 ⟨rfl, hm12, he12⟩; obtain ⟨hM12, hz12, hrow, hs9, hs12⟩ := rl_facts zp hb9 hX8.out hM8.out hz8.out hn8.out ((((Mo.refl (· = pb) w9).alloc exN).trans (Mo.ofBelow (Below.next hb10 hb11) : Mo (· = pb) _ w11) (fun _ h => Or.inl h)).trans hm12 (fun _ h => Or.inl h)); have hq12 : Hid (w12.heap[w9.heap.size]? = some exN) := (hm12.block _ (by have h1 := hb10.size; have h2 := hb11.size; simp at h1; omega) (by omega)).trans ((hb11.block _ (by have h1 := hb10.size; simp at h1; omega)).trans ((hb10.block _ (by simp)).trans (heap_alloc_new w9 _))); have hE12 : Hid (Est pb (.slice (some ⟨b, o, none⟩) ts.length cp) ts (wantF ts 93 (.ok nilX j)) w12) := he12; clear he12 hm12 hb10 hb11 hb9 hP9 hP10 hP11)))
                have hx12 := hid (hx0.out w12 w9.heap.size)
                clear hP8 hM8 hz8 hn8 hX8
                go_loopw [9] (fun s9 wr2 => ∃ (d : Nat) (k : Int) (n : ByteArray) (m : Int) (aa : Option Addr) (al ac : Nat), s9 = .int .i64 ((d : Int) - 1) ∧ d ≤ es.length + 1 ∧ Hid (wr2.heap[w9.heap.size]? = some (.cells #[.int .i64 k, .string n, .int .i64 m, .slice aa al ac] 40)) ∧ Hid (Mo (· = w9.heap.size) w12 wr2) ∧ Hid (∀ y j', wantF ts 93 (Rd1.ok nilX j) = .ok y j' → Xw (Pq (w.heap.size + 2) w9.heap.size) wr2 (listX ((es ++ [x]).drop d) y) (.agg #[.int .i64 k, .string n, .int .i64 m, .slice aa al ac]))) (fun s9 _ => (intOf s9 + 1).toNat)
                case atStart => exact ⟨es.length + 1, _, _, _, _, _, _, by congr 1; omega, Nat.le_refl _, hq12, Mo.refl _ _, fun y j' e => by rw [List.drop_eq_nil_of_le (by simp)]; exact hx12.out y j' e⟩
                case round =>
                  obtain ⟨d, k, n, m, aa, al, ac, rfl, hd, hqb, hMr, hxr⟩ := hrel
                  have hbx := hqb.out
                  have zbx := lt_of_block hbx
                  obtain ⟨⟨a0, a1, a2, a3⟩, u0, u1, u2, u3⟩ := blk4x hbx
                  clear hbx
                  have hzr : Hid (wr.heap[w.heap.size]? = some exZ) := (hMr.out.block _ (lt_of_block hz12.out) (by omega)).trans hz12.out
                  cases d with
                  | zero =>
                    have hqz := hzr.out
                    have zqz := lt_of_block hqz
                    obtain ⟨⟨q0, q1, q2, q3⟩, r0, r1, r2, r3⟩ := blk4x hqz
                    go_wp2
                    have hpW : wr.heap[pb]? = w12.heap[pb]? := hMr.out.block pb (by have := hM12.out.size; omega) (by omega)
                    have hMW : Mo (· = pb) w wr := hM12.out.trans hMr.out (fun q hq => Or.inr (by rw [hq]; omega))
                    have hMF : Mo (· = pb) w (exEnd wr w.heap.size (.int .i64 k) (.string n) (.int .i64 m) (.slice aa al ac)) := exEnd_mo hMW (Nat.le_refl _)
                    have hEF : Est pb (.slice (some ⟨b, o, none⟩) ts.length cp) ts (wantF ts 93 (Rd1.ok nilX j)) (exEnd wr w.heap.size (.int .i64 k) (.string n) (.int .i64 m) (.slice aa al ac)) := Est.keep hH.out hMF ((exEnd_other (by omega)).trans hpW) hE12.out
                    refine bodyPost_ret (ret_ex Tryz.results70 (by rfl) (ex_end (.int .i64 k) (.string n) (.int .i64 m) (.slice aa al ac) hqz)) rfl ?_
                    have hfin : Rtm w pb (.slice (some ⟨b, o, none⟩) ts.length cp) ts ((wantF ts 93 (Rd1.ok nilX j)).map (listX (es ++ [x]))) (.returned (.agg #[.int .i64 k, .string n, .int .i64 m, .slice aa al ac])) (exEnd wr w.heap.size (.int .i64 k) (.string n) (.int .i64 m) (.slice aa al ac)) := Rtm.of hMF (hEF.map _) (fun y j' e => by
                      cases hw : wantF ts 93 (Rd1.ok nilX j) with
                      | bad c j => rw [hw] at e; cases e
                      | ok y0 j0 =>
                        rw [hw] at e
                        have e2 : listX (es ++ [x]) y0 = y := by injection e
                        rw [← e2]
                        exact (hxr.out y0 j0 hw).keep (fun b' hb' _ => ⟨by show w.heap.size ≤ b'; have := hb'.1; omega, exEnd_other (by have := hb'.1; omega)⟩))
                    exact by rw [hfi.out]; exact hfin
                  | succ d =>
                    rw [show ((d + 1 : Nat) : Int) - 1 = (d : Int) by omega]
                    obtain ⟨ao', c', ee, hall⟩ := hrow.out
                    obtain ⟨b', o', k', n', m', ba, bl, bc, e1, hPb, w0', w1', w2', w3', hXe⟩ := hall d (by simp; omega)
                    have hge : b' = g7 ∧ o' = 0 := by
                      injection ee with ee1 ee2 ee3
                      rw [← ee1] at e1
                      injection e1 with e1
                      injection e1 with e2 e3
                      exact ⟨e2.symm, e3.symm⟩
                    obtain ⟨rfl, rfl⟩ := hge
                    rw [Nat.zero_add] at w0' w1' w2' w3'
                    have hkp : ∀ q, Pq (w.heap.size + 2) w9.heap.size q → q < w12.heap.size → Pq (w.heap.size + 2) w9.heap.size q ∧ wr.heap[q]? = w12.heap[q]? := fun q hq hql => ⟨hq, hMr.out.block q hql hq.2⟩
                    have hcl : ∀ q, wr.cell? ⟨b', q, none⟩ = w12.cell? ⟨b', q, none⟩ := fun q => by simp only [World.cell?, (hkp b' hPb (lt_of_cell w0')).2]
                    rw [← hcl] at w0' w1' w2' w3'
                    have zg := lt_of_cell w0'
                    have hXe2 := hid (hXe.keep hkp)
                    have hd2 : (d : Int) < ((es.length + 1 : Nat) : Int) := by omega
                    have hd3 : (d : Int) < (es.length : Int) + 1 := by omega
                    have hd4 : decide ((0 : Int) ≤ (d : Int)) = true := decide_eq_true (by omega)
                    clear hall hXe hcl hkp ee e1 hE12
                    go_wp2
                    go_region
                    go_wp2
                    go_roundw
                    case rel => exact ⟨d, 4, ⟨#[46]⟩, 0, some ⟨wr.heap.size, 0, none⟩, 2, 2, rfl, by omega, (Below.heap_alloc _ _ _ (by rw [exEnd_size]; omega)).trans (ex_end (.int .i64 4) (.string ⟨#[46]⟩) (.int .i64 0) (.slice (some ⟨wr.heap.size, 0, none⟩) 2 2) hqb.out), ((exEnd_moS hMr.out rfl).alloc _).drew, fun y j' e => rl_step (by simp; omega) zbx (by omega) hXe2.out (hxr.out y j' e)⟩
                    case measure => first | (simp [intOf]; done) | (simp [intOf]; omega)
end Go.Proofs.YtklfnphkepfmaaaGreatDoor

/- The reference's reader: every term. -/
namespace Go.Proofs.YtklfnphkepfmaaaGreatDoor
open Go.RowKit
attribute [local go_sem] tok_kind tok_text tok_num tok_at

set_option maxRecDepth 100000 in
set_option maxHeartbeats 8000000 in
theorem rterm_lst {w : World} {pb : Nat} {tv : Value} {ts : List Tk} {i : Nat} (h : Rs w pb tv ts i) (hi : i + 1 < ts.length) (hl : ts.length ≤ 10000000) (hK : KindT ts) (nest number : Int) (hs : stF ts nest number i = 0) (hk : (tkA ts i).kind = 4) {r : Rd1 Ex} (hL : ∀ W, Rs W pb tv ts (i + 1) → Calls Tryz.prog 70 #[.pointer (some ⟨pb, 0, none⟩), .int .i64 nest] W (Rtm W pb tv ts r)) :
    Calls Tryz.prog 32 #[.pointer (some ⟨pb, 0, none⟩), .int .i64 nest, .int .i64 number] w (Rtm w pb tv ts r) := by
  have zp := lt_of_block h.b
  have hb0 := below_alloc w exZ
  have h1 := starts_any (h.below hb0) (by omega) hK nest number
  rw [hs] at h1
  replace h1 : Calls _ _ _ _ (fun e w' => e = .returned (.bool true) ∧ Mo (· = pb) (w.alloc exZ) w' ∧ Below (w.alloc exZ).heap.size (w.alloc exZ) w') := h1
  have hsl : ∃ b o cp, tv = .slice (some ⟨b, o, none⟩) ts.length cp := by
    obtain ⟨ao, cp, rfl, ht⟩ := h.t
    obtain ⟨b, o, rfl, _⟩ := ht i (by omega)
    exact ⟨b, o, cp, rfl⟩
  obtain ⟨b, o, cp, rfl⟩ := hsl
  have hH := hid h
  have htok : Hid (∀ w1, Below w.heap.size w w1 → ∀ (k : Nat) (u : Value), (tcell (tkA ts i))[k]? = some u → w1.cell? ⟨b, o + i * 5 + k, none⟩ = some u) := fun w1 hb => (h.below hb).tok (by omega)
  have HL := hid hL
  have hir : i ≤ 10000000 := by omega
  have hi2 : (i : Int) < (ts.length : Int) := by omega
  clear h hs hL
  generalize tkA ts i = t at *
  obtain ⟨tk, tt, tn, ta, te⟩ := t
  dsimp only at *
  subst hk
  have haf : Hid (∀ w1, Below w.heap.size w w1 → Rs (((w1.setCell ⟨pb, 1, none⟩ (.int .i64 ((i : Int) + 1))).alloc (tokObj ⟨4, tt, tn, ta, te⟩)).drew) pb (.slice (some ⟨b, o, none⟩) ts.length cp) ts (i + 1) ∧ Mo (· = pb) w (((w1.setCell ⟨pb, 1, none⟩ (.int .i64 ((i : Int) + 1))).alloc (tokObj ⟨4, tt, tn, ta, te⟩)).drew)) := fun w1 hb => by
    obtain ⟨hR, hM⟩ := hH.out.next hb
    exact ⟨(hR.below (below_alloc _ _)).drew, (hM.alloc _).drew⟩
  go_enter Tryz.func32, Tryz.ntmps32
  go_wp2_with (go_at_call 69; go_must (refine h1.mono ?_; clear h1; rintro e w1 ⟨rfl, _, hb1⟩; have hB1 := hid (Below.next hb0 hb1); have hq1 := hid ((hb1.block w.heap.size (by simp)).trans (heap_alloc_new w _)); have zq1 := lt_of_block hq1.out; have hp1 := (hH.out.below hB1.out).b; have zp1 := lt_of_block hp1; obtain ⟨⟨c0, c1, c2, c3, c4, c5⟩, f0, f1, f2, f3, f4, f5⟩ := blk6 hp1; have t0 := htok.out w1 hB1.out 0 _ rfl; rw [Nat.add_zero] at t0; have t1 := htok.out w1 hB1.out 1 _ rfl; have t2 := htok.out w1 hB1.out 2 _ rfl; have t3 := htok.out w1 hB1.out 3 _ rfl; have t4 := htok.out w1 hB1.out 4 _ rfl; have zb := lt_of_cell t0))
  go_region
  go_wp2_with (go_at_call 70; go_must (refine (HL.out _ (haf.out w1 hB1.out).1).mono ?_; clear HL; intro e w4 hr4; obtain ⟨k, n, m, aa, al, ac, rfl, hm4, hE4, hx4⟩ := hr4.parts; have hq4 : w4.heap[w.heap.size]? = some exZ := (hm4.block _ (by simp; omega) (by omega)).trans ((Below.heap_alloc _ _ _ (by simp; omega)).trans ((Below.heap_setCell w1 ⟨pb, 1, none⟩ (.int .i64 ((i : Int) + 1)) w.heap.size (show w.heap.size ≠ pb by omega)).trans hq1.out)); have zq4 := lt_of_block hq4; obtain ⟨⟨q0, q1, q2, q3⟩, r0, r1, r2, r3⟩ := blk4x hq4))
  obtain ⟨hR, hM⟩ := haf.out w1 hB1.out
  have hM4 := hM.trans hm4 (fun _ h => Or.inl h)
  have hM5 : Mo (· = pb) w (exEnd w4 w.heap.size (.int .i64 k) (.string n) (.int .i64 m) (.slice aa al ac)) := exEnd_mo hM4 (Nat.le_refl _)
  have hq5 := ex_end (.int .i64 k) (.string n) (.int .i64 m) (.slice aa al ac) hq4
  refine bodyPost_ret (ret_ex Tryz.results32 (by rfl) hq5) rfl (Rtm.of hM5 (Est.keep hH.out hM5 (exEnd_other (by omega)) hE4) (fun y j' e => (hx4 y j' e).keep (fun q hq _ => ?_)))
  have hq2 : (((w1.setCell ⟨pb, 1, none⟩ (.int .i64 ((i : Int) + 1))).alloc (tokObj ⟨4, tt, tn, ta, te⟩)).drew).heap.size ≤ q := hq
  have hq3 : w1.heap.size + 1 ≤ q := by simpa using hq2
  exact ⟨by show w.heap.size ≤ q; omega, exEnd_other (by omega)⟩
/-- A list's answer in the words of rlistF. -/
theorem list_rl (ts : List Tk) (f : Nat) (nest : Int) (i : Nat) : (if mkA ts i 93 then Rd1.ok nilX (i + 1)
      else match elemsF ts f nest i [] with
        | .bad c j => .bad c j
        | .ok (es, n) j => if mkA ts j 124 then wantF ts 93 ((termF ts f n (j + 1)).map (listX es)) else wantF ts 93 (.ok (listX es nilX) j)) = rlistF ts f nest i := by
  unfold rlistF
  cases mkA ts i 93 with
  | true => rfl
  | false =>
    cases elemsF ts f nest i [] with
    | bad c j => rfl
    | ok en j =>
      obtain ⟨es, n⟩ := en
      show (if mkA ts j 124 then wantF ts 93 ((termF ts f n (j + 1)).map (listX es)) else wantF ts 93 (.ok (listX es nilX) j)) = (wantF ts 93 (if mkA ts j 124 then termF ts f n (j + 1) else .ok nilX j)).map (listX es)
      cases mkA ts j 124 with
      | true => exact want_map ts 93 (listX es) _
      | false => exact want_map ts 93 (listX es) (.ok nilX j)
theorem RTermC.weak {pb : Nat} {tv : Value} {ts : List Tk} {f g : Nat} (h : RTermC pb tv ts g) (hfg : f ≤ g) : RTermC pb tv ts f := fun f' hf' => h f' (by omega)
/-- The reference's term, at every place. -/
theorem rterm_all {ts : List Tk} (hE : EndT ts) (hl : ts.length ≤ 10000000) (hK : KindT ts) {pb : Nat} {tv : Value} : ∀ f, RTermC pb tv ts f := by
  intro f
  induction f with
  | zero => exact fun f' hf' => absurd hf' (Nat.not_lt_zero _)
  | succ f ih =>
    intro f' hf' nest number i w h hi hn0 hn1 hnf
    by_cases hlt : f' < f
    · exact ih f' hlt nest number i w h hi hn0 hn1 hnf
    · have e : f' = f := by omega
      subst e
      by_cases hs : stF ts nest number i = 0
      · obtain ⟨e1, ho, hn4, hn8⟩ := rt_ok (f := f') hs
        rw [e1] at hnf ⊢
        cases f' with
        | zero => exact absurd rfl hnf
        | succ f0 =>
          have hkn := opens_kind ho
          obtain ⟨hk0, hk4⟩ := hK i hi
          have hi1 : i + 1 < ts.length := hE i hi hkn
          have hof : ¬ opensF (tkA ts i) = false := by rw [ho]; decide
          rw [termF, if_neg hof, if_neg (by omega)] at hnf ⊢
          by_cases k2 : (tkA ts i).kind = 2
          · rw [if_pos k2]
            exact rterm_var h hi hl hK nest number hs k2
          · rw [if_neg k2] at hnf ⊢
            by_cases k3 : (tkA ts i).kind = 3
            · rw [if_pos k3]
              exact rterm_int h hi hl hK nest number hs k3
            · rw [if_neg k3] at hnf ⊢
              by_cases k4 : (tkA ts i).kind = 4
              · rw [if_pos k4] at hnf ⊢
                have e2 := list_rl ts f0 nest (i + 1)
                have hnf2 : nof (rlistF ts f0 nest (i + 1)) := by rw [← e2]; exact hnf
                have hter : Calls Tryz.prog 32 #[.pointer (some ⟨pb, 0, none⟩), .int .i64 nest, .int .i64 number] w (Rtm w pb tv ts (rlistF ts f0 nest (i + 1))) := rterm_lst h hi1 hl hK nest number hs k4 (fun W hW => rlist_any hW hi1 hl hE ih nest hn0 hn4 hnf2)
                rw [← e2] at hter
                exact hter
              · rw [if_neg k4] at hnf ⊢
                have k1 : (tkA ts i).kind = 1 := by omega
                cases hm : mkA ts (i + 1) 40 with
                | true =>
                  rw [if_pos rfl]
                  rw [if_pos hm] at hnf
                  have hna : nof (argsF ts f0 (nest + 1) (i + 2) []) := by
                    cases hr : argsF ts f0 (nest + 1) (i + 2) [] with
                    | ok xs j => trivial
                    | bad c j => rw [hr] at hnf; exact hnf
                  exact rterm_comp h hi1 hl hK nest number hs k1 hm hE (ih.weak (by omega)) hn0 hn4 hna
                | false =>
                  rw [if_neg (by decide)]
                  exact rterm_atom h hi1 hl hK nest number hs k1 hm
      · rw [rt_bad hs hnf]
        exact rterm_no h hi hK nest number hs
end Go.Proofs.YtklfnphkepfmaaaGreatDoor
