/- The reference's reader: a token of a kind. -/
import Derived.Test.YtklfnphkepfmaaaGreatDoorRAZ
import Derived.Test.YtklfnphkepfmaaaGreatDoorPEZ
namespace Go.Proofs.YtklfnphkepfmaaaGreatDoor
open Go.RowKit
attribute [local go_sem] tok_kind tok_text tok_num tok_at

set_option maxRecDepth 100000 in
set_option maxHeartbeats 4000000 in
theorem rkind_any {w : World} {pb : Nat} {tv : Value} {ts : List Tk} {i : Nat} (h : Rs w pb tv ts i) (hi : i < ts.length) :
    Calls Tryz.prog 31 #[.pointer (some ⟨pb, 0, none⟩)] w fun e w' => e = .returned (.int .i64 (tkA ts i).kind) ∧ Below w.heap.size w w' := by
  have hp := h.b
  have zp := lt_of_block hp
  obtain ⟨⟨c0, c1, c2, c3, c4, c5⟩, f0, f1, f2, f3, f4, f5⟩ := blk6 hp
  obtain ⟨ao, c, rfl, ht⟩ := h.t
  obtain ⟨b, o, rfl, hc⟩ := ht i hi
  have t0 := hc 0 _ rfl
  rw [Nat.add_zero] at t0
  have zb := lt_of_cell t0
  have hi2 : (i : Int) < (ts.length : Int) := by omega
  unfold tkA
  generalize ts.getD i tk0 = t at *
  generalize ts.length = N at *
  clear h ht hc hi hp
  go_enter Tryz.func31, Tryz.ntmps31
  go_wp2
  go_quiet (fail)
  go_wp2
  go_ret
  exact ⟨rfl, below_drewN (Below.refl _ _) _⟩
end Go.Proofs.YtklfnphkepfmaaaGreatDoor

/- The reference's reader: it takes a token of a kind. -/
namespace Go.Proofs.YtklfnphkepfmaaaGreatDoor
open Go.RowKit
attribute [local go_sem] tok_kind tok_text tok_num tok_at

abbrev tkZ : Obj := .cells #[.int .i64 0, .string ⟨#[]⟩, .int .i64 0, .int .i64 0, .int .i64 0] 77
/-- The world behind a token stored into its cells. -/
abbrev tkEnd (w : World) (q : Nat) (v0 v1 v2 v3 v4 : Value) : World := ((((w.setCell ⟨q, 0, none⟩ v0).setCell ⟨q, 1, none⟩ v1).setCell ⟨q, 2, none⟩ v2).setCell ⟨q, 3, none⟩ v3).setCell ⟨q, 4, none⟩ v4
theorem tk_end {w : World} {q : Nat} {u0 u1 u2 u3 u4 : Value} (v0 v1 v2 v3 v4 : Value) {T : TypeId} (h : w.heap[q]? = some (.cells #[u0, u1, u2, u3, u4] T)) : (tkEnd w q v0 v1 v2 v3 v4).heap[q]? = some (.cells #[v0, v1, v2, v3, v4] T) := by
  have h0 := heap_setCell_same w q 0 _ _ v0 h
  have h1 := heap_setCell_same _ q 1 _ _ v1 h0
  have h2 := heap_setCell_same _ q 2 _ _ v2 h1
  have h3 := heap_setCell_same _ q 3 _ _ v3 h2
  have h4 := heap_setCell_same _ q 4 _ _ v4 h3
  rw [tkEnd, h4]
  rfl
theorem tkEnd_mo {w w1 : World} {pb q : Nat} {v0 v1 v2 v3 v4 : Value} (h : Mo (· = pb) w w1) (hq : w.heap.size ≤ q) : Mo (· = pb) w (tkEnd w1 q v0 v1 v2 v3 v4) :=
  ((((h.setCell (p := ⟨q, 0, none⟩) (Or.inr hq) _).setCell (p := ⟨q, 1, none⟩) (Or.inr hq) _).setCell (p := ⟨q, 2, none⟩) (Or.inr hq) _).setCell (p := ⟨q, 3, none⟩) (Or.inr hq) _).setCell (p := ⟨q, 4, none⟩) (Or.inr hq) _
theorem tkEnd_other {w : World} {q b : Nat} {v0 v1 v2 v3 v4 : Value} (h : b ≠ q) : (tkEnd w q v0 v1 v2 v3 v4).heap[b]? = w.heap[b]? := by
  unfold tkEnd
  rw [Below.heap_setCell _ _ _ _ h, Below.heap_setCell _ _ _ _ h, Below.heap_setCell _ _ _ _ h, Below.heap_setCell _ _ _ _ h, Below.heap_setCell _ _ _ _ h]
theorem blk5x {w : World} {q : Nat} {u0 u1 u2 u3 u4 : Value} {T : TypeId} (h : w.heap[q]? = some (.cells #[u0, u1, u2, u3, u4] T)) : (w.cell? ⟨q, 0, none⟩ = some u0 ∧ w.cell? ⟨q, 1, none⟩ = some u1 ∧ w.cell? ⟨q, 2, none⟩ = some u2 ∧ w.cell? ⟨q, 3, none⟩ = some u3 ∧ w.cell? ⟨q, 4, none⟩ = some u4) ∧ w.frozen? ⟨q, 0, none⟩ = false ∧ w.frozen? ⟨q, 1, none⟩ = false ∧ w.frozen? ⟨q, 2, none⟩ = false ∧ w.frozen? ⟨q, 3, none⟩ = false ∧ w.frozen? ⟨q, 4, none⟩ = false := by
  refine ⟨⟨?_, ?_, ?_, ?_, ?_⟩, ?_, ?_, ?_, ?_, ?_⟩ <;> simp [World.cell?, World.frozen?, h]
theorem ret_tk {w : World} {fn : Func} {t : Tmp} (hfn : fn.results = #[.cell t 77]) {tmps : Array Value} {q : Nat} {u0 u1 u2 u3 u4 : Value} (h4 : tmps[t]?.getD undef = .pointer (some ⟨q, 0, none⟩)) (hq : w.heap[q]? = some (.cells #[u0, u1, u2, u3, u4] 77)) : (results fn tmps).run Tryz.prog w = .ok (.agg #[u0, u1, u2, u3, u4]) w := by
  obtain ⟨⟨z0, z1, z2, z3, z4⟩, _⟩ := blk5x hq
  simp [results, hfn, go_sem, h4, z0, z1, z2, z3, z4]
set_option maxRecDepth 100000 in
set_option maxHeartbeats 4000000 in
theorem rtake_bad {w : World} {pb : Nat} {c a : Int} (h : Rb w pb c a) (kd : Int) :
    Calls Tryz.prog 34 #[.pointer (some ⟨pb, 0, none⟩), .int .i64 kd] w fun e w' => e = .returned (tokV tk0) ∧ Mo (· = pb) w w' ∧ Rb w' pb c a := by
  have zp : pb < w.heap.size := by obtain ⟨_, _, _, hb⟩ := h; exact lt_of_block hb
  have hb0 := below_alloc w tkZ
  have hbd := rbad_yes (h.below hb0)
  have hwr := rwrong_bad (h.below hb0)
  have hq := heap_alloc_new w tkZ
  have hH := hid (h.below hb0)
  clear h
  go_enter Tryz.func34, Tryz.ntmps34
  go_wp2_with (first
    | (go_at_call 30; go_must (refine hbd.mono ?_; rintro e w1 ⟨rfl, rfl⟩))
    | (go_at_call 36; go_must (refine hwr.mono ?_; rintro e w1 ⟨rfl, rfl⟩)))
  refine bodyPost_ret (ret_tk Tryz.results34 (by rfl) hq) rfl ⟨rfl, Mo.ofBelow hb0, hH.out⟩
set_option maxRecDepth 100000 in
set_option maxHeartbeats 4000000 in
theorem rtake_no {w : World} {pb : Nat} {tv : Value} {ts : List Tk} {i : Nat} (h : Rs w pb tv ts i) (hi : i < ts.length) (kd : Int) (hk : (tkA ts i).kind ≠ kd) :
    Calls Tryz.prog 34 #[.pointer (some ⟨pb, 0, none⟩), .int .i64 kd] w fun e w' => e = .returned (tokV tk0) ∧ Mo (· = pb) w w' ∧ Rb w' pb (mustC (tkA ts i)) ((tkA ts i).at_ : Int) := by
  have zp := lt_of_block h.b
  have hb0 := below_alloc w tkZ
  have hbd := rbad_no (h.below hb0)
  have hkd := rkind_any (h.below hb0) hi
  have hwr := hid (fun w1 (hb : Below w.heap.size w w1) => rwrong_any (h.below hb) hi)
  have hkn : ((tkA ts i).kind == kd) = false := beq_eq_false_iff_ne.2 hk
  have hq := hid (heap_alloc_new w tkZ)
  clear h hk
  go_enter Tryz.func34, Tryz.ntmps34
  go_wp2_with (first
    | (go_at_call 30; go_must (refine hbd.mono ?_; rintro e w1 ⟨rfl, rfl⟩))
    | (go_at_call 31; go_must (refine hkd.mono ?_; rintro e w1 ⟨rfl, hb1⟩))
    | (go_at_call 36; go_must (refine (hwr.out w1 (Below.next hb0 hb1)).mono ?_; rintro e w2 ⟨rfl, hm2, hr2⟩; have hq2 := (hm2.block w.heap.size (by have := hb1.size; simp at this; omega) (by omega)).trans ((hb1.block _ (by simp)).trans hq.out); have zq2 := lt_of_block hq2; obtain ⟨⟨y0, y1, y2, y3, y4⟩, x0, x1, x2, x3, x4⟩ := blk5x hq2)))
  have hM := (Mo.ofBelow (Below.next hb0 hb1) : Mo (· = pb) w w1).trans hm2 (fun _ h => Or.inl h)
  refine bodyPost_ret (ret_tk Tryz.results34 (by rfl) (tk_end (.int .i64 0) (.string ⟨#[]⟩) (.int .i64 0) (.int .i64 0) (.int .i64 0) hq2)) rfl ⟨rfl, tkEnd_mo hM (Nat.le_refl _), hr2.other (tkEnd_other (by omega))⟩
end Go.Proofs.YtklfnphkepfmaaaGreatDoor

/- The reference's reader: it takes a token that is there. -/
namespace Go.Proofs.YtklfnphkepfmaaaGreatDoor
open Go.RowKit
attribute [local go_sem] tok_kind tok_text tok_num tok_at

theorem drew_at {w : World} {q : Nat} {o : Obj} (h : w.heap[q]? = some o) : w.drew.heap[q]? = some o := h
set_option maxRecDepth 100000 in
set_option maxHeartbeats 4000000 in
theorem rtake_yes {w : World} {pb : Nat} {tv : Value} {ts : List Tk} {i : Nat} (h : Rs w pb tv ts i) (hi : i < ts.length) (hl : ts.length ≤ 10000000) (kd : Int) (hk : (tkA ts i).kind = kd) :
    Calls Tryz.prog 34 #[.pointer (some ⟨pb, 0, none⟩), .int .i64 kd] w fun e w' => e = .returned (tokV (tkA ts i)) ∧ Mo (· = pb) w w' ∧ Rs w' pb tv ts (i + 1) := by
  have zp := lt_of_block h.b
  have hb0 := hid (below_alloc w tkZ)
  have hbd := rbad_no (h.below hb0.out)
  have hkd := rkind_any (h.below hb0.out) hi
  have hsl : ∃ b o cp, tv = .slice (some ⟨b, o, none⟩) ts.length cp := by
    obtain ⟨ao, cp, rfl, ht⟩ := h.t
    obtain ⟨b, o, rfl, _⟩ := ht i hi
    exact ⟨b, o, cp, rfl⟩
  obtain ⟨b, o, cp, rfl⟩ := hsl
  have hH := hid h
  have hap : b ≠ pb := h.ap ⟨b, o, none⟩ _ _ rfl
  have htok : Hid (∀ w1, Below w.heap.size w w1 → ∀ (k : Nat) (u : Value), (tcell (tkA ts i))[k]? = some u → w1.cell? ⟨b, o + i * 5 + k, none⟩ = some u) := fun w1 hb => (h.below hb).tok hi
  have hob : Hid (b < w.heap.size) := by
    have := h.tok hi 0 _ rfl
    exact lt_of_cell this
  have hq := hid (heap_alloc_new w tkZ)
  have hir : i ≤ 10000000 := by omega
  have hi2 : (i : Int) < (ts.length : Int) := by omega
  clear h
  generalize tkA ts i = t at *
  obtain ⟨tk, tt, tn, ta, te⟩ := t
  dsimp only at *
  subst hk
  have hobw := hob.out
  go_enter Tryz.func34, Tryz.ntmps34
  go_wp2_with (first
    | (go_at_call 30; go_must (refine hbd.mono ?_; rintro e w1 ⟨rfl, rfl⟩))
    | (go_at_call 31; go_must (refine hkd.mono ?_; rintro e w1 ⟨rfl, hb1⟩; have hB1 := hid (Below.next hb0.out hb1); have hq1 := hid ((hb1.block w.heap.size (by simp)).trans hq.out); have zq1 := lt_of_block hq1.out; have hp1 := (hH.out.below hB1.out).b; have zp1 := lt_of_block hp1; obtain ⟨⟨c0, c1, c2, c3, c4, c5⟩, f0, f1, f2, f3, f4, f5⟩ := blk6 hp1; have t0 := htok.out w1 hB1.out 0 _ rfl; rw [Nat.add_zero] at t0; have t1 := htok.out w1 hB1.out 1 _ rfl; have t2 := htok.out w1 hB1.out 2 _ rfl; have t3 := htok.out w1 hB1.out 3 _ rfl; have t4 := htok.out w1 hB1.out 4 _ rfl; have zb := lt_of_cell t0; obtain ⟨⟨y0, y1, y2, y3, y4⟩, x0, x1, x2, x3, x4⟩ := blk5x hq1.out; clear hp1 hb1)))
  go_region
  go_wp2
  obtain ⟨hR, hM⟩ := hH.out.next hB1.out
  have hq3 := (Below.heap_setCell w1 ⟨pb, 1, none⟩ (.int .i64 ((i : Int) + 1)) w.heap.size (show w.heap.size ≠ pb by omega)).trans hq1.out
  have hq4 := tk_end (.int .i64 tk) (.string tt) (.int .i64 tn) (.int .i64 (ta : Int)) (.int .i64 (te : Int)) hq3
  have hM4 : Mo (· = pb) w (tkEnd (w1.setCell ⟨pb, 1, none⟩ (.int .i64 ((i : Int) + 1))) w.heap.size (.int .i64 tk) (.string tt) (.int .i64 tn) (.int .i64 (ta : Int)) (.int .i64 (te : Int))).drew := (tkEnd_mo hM (Nat.le_refl _)).drew
  have hq5 := drew_at hq4
  have hp4 : (tkEnd (w1.setCell ⟨pb, 1, none⟩ (.int .i64 ((i : Int) + 1))) w.heap.size (.int .i64 tk) (.string tt) (.int .i64 tn) (.int .i64 (ta : Int)) (.int .i64 (te : Int))).heap[pb]? = _ := (tkEnd_other (by omega)).trans hR.b
  have hp5 := drew_at hp4
  exact bodyPost_ret (ret_tk Tryz.results34 (by rfl) hq5) rfl ⟨rfl, hM4, hH.out.step hM4 hp5⟩
end Go.Proofs.YtklfnphkepfmaaaGreatDoor

/- Tokens are of the kinds that there are. -/
namespace Go.Proofs.YtklfnphkepfmaaaGreatDoor
open Go.RowKit

/-- A kind is one of five. -/
def Kd (t : Tk) : Prop := 0 ≤ t.kind ∧ t.kind ≤ 4
theorem kd_bad (c p : Int) : Kd (badT c p).tok := ⟨by show (0 : Int) ≤ 0; decide, by show (0 : Int) ≤ 4; decide⟩
theorem kd_ok {t : Tk} (h0 : 0 ≤ t.kind) (h4 : t.kind ≤ 4) : Kd (okT t).tok := ⟨h0, h4⟩
theorem kd_word (s : ByteArray) (a : Nat) {k : Int} (h0 : 0 ≤ k) (h4 : k ≤ 4) : Kd (wordF s a k).tok := by
  unfold wordF
  split
  · exact kd_bad _ _
  · exact ⟨h0, h4⟩
theorem kd_int (s : ByteArray) (a f : Nat) : Kd (intF s a f).tok := by
  unfold intF
  split
  · exact ⟨by show (0 : Int) ≤ 3; decide, by show (3 : Int) ≤ 4; decide⟩
  · exact kd_bad _ _
theorem kd_q (s : ByteArray) (a : Nat) : ∀ n i acc, Kd (qF s a n i acc).tok
  | 0, _, _ => by rw [qF]; exact kd_bad _ _
  | n + 1, i, acc => by
    rw [qF]
    split
    · split
      · split
        · exact kd_bad _ _
        · exact ⟨by show (0 : Int) ≤ 1; decide, by show (1 : Int) ≤ 4; decide⟩
      · split
        · split
          · split
            · exact kd_q s a n _ _
            · exact kd_bad _ _
          · exact kd_bad _ _
        · split
          · exact kd_bad _ _
          · exact kd_q s a n _ _
    · exact kd_bad _ _
theorem kd_tok (s : ByteArray) (a : Nat) : Kd (tokF s a).tok := by
  unfold tokF
  split
  · exact kd_word s a (by decide) (by decide)
  · split
    · exact kd_word s a (by decide) (by decide)
    · split
      · exact kd_int s a a
      · split
        · split
          · exact kd_int s a (a + 1)
          · exact kd_bad _ _
        · split
          · exact kd_q s a _ _ _
          · split
            · split
              · exact ⟨by show (0 : Int) ≤ 4; decide, by show (4 : Int) ≤ 4; decide⟩
              · exact kd_bad _ _
            · split
              · exact ⟨by show (0 : Int) ≤ 4; decide, by show (4 : Int) ≤ 4; decide⟩
              · exact kd_bad _ _
theorem kd_end (s : ByteArray) : Kd (endT s) := ⟨by show (0 : Int) ≤ 0; decide, by show (0 : Int) ≤ 4; decide⟩
theorem kd_nxt (s : ByteArray) (a : Nat) : Kd (nxt s a).tok := by
  unfold nxt
  split
  · exact kd_end s
  · exact kd_tok s _
theorem kd_all (s : ByteArray) : ∀ n a, ∀ t ∈ (allF s n a).1, Kd t
  | 0, _ => fun t h => by rw [allF] at h; cases h
  | n + 1, a => fun t h => by
    rw [allF] at h
    split at h
    · split at h
      · have e : t = endT s := by simpa using h
        rw [e]
        exact kd_end s
      · rcases List.mem_cons.1 h with e | e
        · rw [e]
          exact kd_nxt s a
        · exact kd_all s n _ t e
    · cases h
theorem someT_kind (s : ByteArray) : KindT (someT s) := by
  intro i hi
  have hm : tkA (someT s) i ∈ someT s := by
    unfold tkA
    rw [show (someT s).getD i tk0 = (someT s)[i] by simp [List.getD, hi]]
    exact List.getElem_mem hi
  clear hi
  unfold someT at hm ⊢
  split at hm
  · rename_i h0
    rw [if_pos h0]
    exact kd_all s _ _ _ hm
  · cases hm
end Go.Proofs.YtklfnphkepfmaaaGreatDoor
