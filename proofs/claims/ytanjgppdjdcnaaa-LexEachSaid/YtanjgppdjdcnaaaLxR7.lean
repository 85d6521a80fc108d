/- Some of layer 6's reference: all tokens ahead of the end or of a fault. -/
import Derived.Test.YtanjgppdjdcnaaaLxR6
import Derived.Test.YtanjgppdjdcnaaaLxRow
import Derived.Test.YtanjgppdjdcnaaaLxQ
namespace Go.Proofs.Ytanjgppdjdcnaaa
open Go.RowKit

/-- A row of tokens and a fault, as the reference answers them. -/
def SAns (w : World) (l : List Tk) (c p : Int) (e : Ending) (w' : World) : Prop := ∃ v, e = .returned (.tuple #[v, flt c p]) ∧ Tr w' w.heap.size v l ∧ Below w.heap.size w w'
theorem ret_s {w : World} {fn : Func} {s u : Tmp} (hfn : fn.results = #[.tmp s, .cell u 30]) {tmps : Array Value} {q : Nat} {c a : Int} {v1 : Value} (h1 : tmps[s]?.getD undef = v1) (h4 : tmps[u]?.getD undef = .pointer (some ⟨q, 0, none⟩)) (hq : w.heap[q]? = some (fltObj c a)) : (results fn tmps).run Try.prog w = .ok (.tuple #[v1, flt c a]) w := by
  obtain ⟨⟨z0, z1, z2, z3⟩, _⟩ := flt_facts hq
  simp [results, hfn, go_sem, h1, h4, z0, z1, z2, z3]
theorem s_end {w w3 : World} {a : Act} {v : Value} {l l' : List Tk} {c p c' p' c0 p0 : Int} (hl : l = l') (hc : c = c') (hp : p = p') (hq : w3.heap[w.heap.size]? = some (fltObj c0 p0)) (hrow : Tr w3 (w.heap.size + 1) v l) (hB : Below w.heap.size w w3)
    (h1 : a.tmps[2]?.getD undef = v) (h4 : a.tmps[3]?.getD undef = .pointer (some ⟨w.heap.size, 0, none⟩)) (hd : a.defers = []) :
    bodyPost Try.prog Try.f11 (SAns w l' c' p') .ret a (fltEnd w3 w.heap.size c p) := by
  subst hl hc hp
  refine bodyPost_ret (ret_s Try.results11 h1 h4 (flt_end c p hq)) hd ⟨v, rfl, own_base (own_keep hrow fun k hk => ?_) (by omega), fltEnd_below hB (Nat.le_refl _)⟩
  have := (hrow.lt k hk).1
  rw [Below.heap_setCell _ ⟨w.heap.size, 3, none⟩ _ _ (by simp; omega), Below.heap_setCell _ ⟨w.heap.size, 2, none⟩ _ _ (by simp; omega), Below.heap_setCell _ ⟨w.heap.size, 1, none⟩ _ _ (by simp; omega), Below.heap_setCell _ ⟨w.heap.size, 0, none⟩ _ _ (by simp; omega)]
theorem s_end_d {w w3 : World} {a : Act} {v : Value} {l l' : List Tk} {c p c' p' c0 p0 : Int} (hl : l = l') (hc : c = c') (hp : p = p') (hq : w3.heap[w.heap.size]? = some (fltObj c0 p0)) (hrow : Tr w3 (w.heap.size + 1) v l) (hB : Below w.heap.size w w3)
    (h1 : a.tmps[2]?.getD undef = v) (h4 : a.tmps[3]?.getD undef = .pointer (some ⟨w.heap.size, 0, none⟩)) (hd : a.defers = []) :
    bodyPost Try.prog Try.f11 (SAns w l' c' p') .ret a (fltEnd w3 w.heap.size c p).drew :=
  s_end (w3 := w3.drew) hl hc hp hq hrow.drew hB.drew h1 h4 hd
set_option maxHeartbeats 1000000 in
theorem rsome_long (s : ByteArray) (w : World) (hs : 4194304 < s.size) :
    Calls Try.prog 11 #[.string s] w (SAns w [] 60 4194304) := by
  have hs' : (4194304 : Int) < (s.size : Int) := by omega
  go_enter Try.func11, Try.ntmps11
  go_wp2_with (go_at_call 21; refine (at_ex _ _ _).mono ?_; rintro x w2 ⟨rfl, hb⟩; have hq := kept_first hb; obtain ⟨⟨v0, v1, v2, v3, r0, r1, r2, r3⟩, s0, s1, s2, s3⟩ := flt_cells (c := 0) (a := 0) hq)
  exact s_end (v := .slice none 0 0) (l := []) rfl rfl rfl (c0 := 0) (p0 := 0) hq (World.ownsRow_nil _ _ _ _) (below_first hb) (by rfl) (by rfl) rfl
/-- What one token's round leaves. -/
theorem tok_round {w wr w2 w3 : World} {v : Value} {l : List Tk} {t : Tk} {c p : Int} (hq : wr.heap[w.heap.size]? = some (fltObj 0 0)) (hrow : Tr wr (w.heap.size + 1) v l) (hB : Below w.heap.size w wr) (hb : Below wr.heap.size wr w2)
    (h : Below ((w2.alloc (tokObj t)).alloc (fltObj c p)).heap.size ((w2.alloc (tokObj t)).alloc (fltObj c p)) w3) :
    w3.heap[w.heap.size]? = some (fltObj 0 0) ∧ Tr w3 (w.heap.size + 1) v l ∧ Below w.heap.size w w3 ∧ w3.heap[w2.heap.size]? = some (tokObj t) ∧ w3.heap[w2.heap.size + 1]? = some (fltObj c p) ∧ (∀ k, v.ownBlock = some k → k < w2.heap.size) := by
  have hb3 : Below w2.heap.size w2 w3 := (((Below.refl _ w2).alloc (Nat.le_refl _) _).alloc (by simp) _).trans (h.mono (by simp; omega))
  have h0 : ((w2.alloc (tokObj t)).alloc (fltObj c p)).heap[w2.heap.size]? = some (tokObj t) := by
    rw [Below.heap_alloc _ _ _ (by simp)]
    exact heap_alloc_new w2 _
  have h1 : ((w2.alloc (tokObj t)).alloc (fltObj c p)).heap[w2.heap.size + 1]? = some (fltObj c p) := by
    have := heap_alloc_new (w2.alloc (tokObj t)) (fltObj c p)
    simpa using this
  exact ⟨keep_q (keep_q hq hb) hb3, own_below (own_below hrow hb) hb3, Below.next (Below.next hB hb) hb3, keep_q h0 h, keep_q h1 h, fun k hk => Nat.lt_of_lt_of_le (hrow.lt k hk).2 hb.size⟩
/-- What an append of a token leaves. -/
theorem tok_append {w w3 w4 : World} {o o' : Obj} {v v' : Value} {l : List Tk} {t : Tk} {b : Nat} (hq : w3.heap[w.heap.size]? = some o') (hrow : Tr w3 (w.heap.size + 1) v l) (hB : Below w.heap.size w w3) (hg : (w3.alloc o).grownBy w4 v.ownBlock)
    (hown : w4.ownsRow (w.heap.size + 1) 40 5 v' (l.length + 1) (tcells l ++ tcell t)) (ht : w3.heap[b]? = some (tokObj t)) (hb : ∀ k, v.ownBlock = some k → k < b) :
    Tr w4 (w.heap.size + 1) v' (l ++ [t]) ∧ Below w.heap.size w w4 ∧ w4.heap[w.heap.size]? = some o' ∧ w4.cell? ⟨b, 4, none⟩ = some (.int .i64 (t.end_ : Int)) := by
  have hlq := lt_of_block hq
  have hlt := lt_of_block ht
  refine ⟨?_, (hB.alloc hB.size o).grown hg (by have := hB.size; simp; omega) (fun k e => by have := (hrow.lt k e).1; omega), ?_, ?_⟩
  · show w4.ownsRow _ _ _ _ _ _
    rw [List.length_append, tcells_snoc]
    exact hown
  · rw [hg.block _ (by simp; omega) (fun e => by have := (hrow.lt _ e.symm).1; omega), Below.heap_alloc _ _ _ hlq]
    exact hq
  · have h2 : w4.heap[b]? = some (tokObj t) := by
      rw [hg.block _ (by simp; omega) (fun e => by have := hb _ e.symm; omega), Below.heap_alloc _ _ _ hlt]
      exact ht
    exact (tok_facts h2).1.2.2.2.2
theorem tok_last {w w3 w4 : World} {o o' : Obj} {v v' : Value} {l : List Tk} {t : Tk} (hq : w3.heap[w.heap.size]? = some o') (hrow : Tr w3 (w.heap.size + 1) v l) (hB : Below w.heap.size w w3) (hg : (w3.alloc o).grownBy w4 v.ownBlock)
    (hown : w4.ownsRow (w.heap.size + 1) 40 5 v' (l.length + 1) (tcells l ++ tcell t)) : Tr w4 (w.heap.size + 1) v' (l ++ [t]) ∧ Below w.heap.size w w4 ∧ w4.heap[w.heap.size]? = some o' := by
  have hlq := lt_of_block hq
  refine ⟨?_, (hB.alloc hB.size o).grown hg (by have := hB.size; simp; omega) (fun k e => by have := (hrow.lt k e).1; omega), ?_⟩
  · show w4.ownsRow _ _ _ _ _ _
    rw [List.length_append, tcells_snoc]
    exact hown
  · rw [hg.block _ (by simp; omega) (fun e => by have := (hrow.lt _ e.symm).1; omega), Below.heap_alloc _ _ _ hlq]
    exact hq
theorem no_ex (w : World) : Calls Try.prog 24 #[] w fun e w' => e = .returned (flt 0 0) ∧ Below w.heap.size w w' :=
  (no_eq w).mono fun _ _ h => ⟨h.1, by rw [h.2]; exact below_alloc w _⟩
theorem own_shape5 {w : World} {B : Nat} {v : Value} {l : List Tk} (h : Tr w B v l) : ∃ ao c, v = .slice ao l.length c := own_shape h
set_option maxRecDepth 100000 in
set_option maxHeartbeats 4000000 in
theorem rsome_all (s : ByteArray) (w : World) (hs : s.size ≤ 4194304) :
    Calls Try.prog 11 #[.string s] w (SAns w (allT s 0) (allC s 0) (allP s 0)) := by
  obtain ⟨i0, hi, hz0, hz1, hz2⟩ := info_parts infoT
  have hlen := allT_le (s := s) (a := 0) (Nat.zero_le _)
  have hsk0 := fun W => rskip_any s 0 W (by omega) (by omega)
  go_enter Try.func11, Try.ntmps11
  go_wp2_with (go_at_call 22; refine (hsk0 _).mono ?_; rintro x w2 ⟨rfl, rfl⟩)
  go_loopw [4, 5] (fun out i wr => ∃ (a : Nat) (pre : List Tk), a ≤ s.size ∧ i = .int .i64 (skp s a : Nat) ∧ Tr wr (w.heap.size + 1) out pre ∧ wr.heap[w.heap.size]? = some (fltObj 0 0) ∧ Below w.heap.size w wr ∧ Hid (pre ++ allT s a = allT s 0 ∧ allC s a = allC s 0 ∧ allP s a = allP s 0)) (fun _ i _ => s.size - (intOf i).toNat)
  case atStart => exact ⟨0, [], by omega, rfl, World.ownsRow_nil _ _ _ _, heap_alloc_new w _, below_alloc w _, rfl, rfl, rfl⟩
  case round =>
    obtain ⟨a, pre, ha, rfl, hrow, hq, hB, hA⟩ := hrel
    have hzr := hB.size
    have hzq := lt_of_block hq
    have hpl : pre.length ≤ s.size + 1 := by
      have := congrArg List.length hA.out.1
      rw [List.length_append] at this
      omega
    have hle := skp_le ha
    have hge := skp_ge s a
    rcases nxt_ways ha with ⟨e1, e2⟩ | ⟨e1, e2, e3, e4, e5, e6, e7⟩ | ⟨e1, e2, e3⟩
    · have hE := all_end e1
      have hN : Hid (pre ++ [endT s] = allT s 0 ∧ (0 : Int) = allC s 0 ∧ (0 : Int) = allP s 0) := by
        obtain ⟨a1, a2, a3⟩ := hA.out
        rw [hE.1] at a1
        exact ⟨a1, hE.2.1.symm.trans a2, hE.2.2.symm.trans a3⟩
      have hn : ¬ ((skp s a : Nat) : Int) < (s.size : Int) := by omega
      clear hE hA e1 e2
      obtain ⟨ao, c, rfl⟩ := own_shape5 hrow
      go_wp2_with (first
        | (at_builtin; go_must (refine wpList_append_own _ rfl _ _ 23 rfl (w.heap.size + 1) 40 i0 (tokV tk0) 5 48 Try.underlying23 hi hz0 hz1 hz2 rfl (by decide) _ _ _ rfl (hrow.alloc _) ⟨wr.heap.size, 0, none⟩ 1 1 (tcell (endT s)) rfl rfl (World.news_of_block (cs := (tcell (endT s)).toArray) (t := 40) (fr := (0, 0)) (heap_alloc_new wr _)) (by simp [Value.oneCell', tcell]) (by unfold maxLen; omega) (by omega) (by simp; omega) ?_; intro v' w4 hown' hgrow _; obtain ⟨hr4, hB4, hq4⟩ := tok_last hq hrow hB hgrow hown'))
        | (go_at_call 24; go_must (refine (no_ex _).mono ?_; rintro x w5 ⟨rfl, hb5⟩; have hq5 := keep_q hq4 hb5; obtain ⟨⟨v0, v1, v2, v3, r0, r1, r2, r3⟩, s0, s1, s2, s3⟩ := flt_cells hq5)))
      exact s_end hN.out.1 hN.out.2.1 hN.out.2.2 hq5 (own_below hr4 hb5) (Below.next hB4 hb5) (by rfl) (by rfl) rfl
    · have hT := fun W => rtok_any s (skp s a) W hs e1
      have hsk := fun W => rskip_any s (nxt s a).tok.end_ W (by omega) e6
      have hge2 := skp_ge s (nxt s a).tok.end_
      have hE := all_tok ha (by omega) e3
      rw [← e2] at hT
      have hN : Hid ((pre ++ [(nxt s a).tok]) ++ allT s (nxt s a).tok.end_ = allT s 0 ∧ allC s (nxt s a).tok.end_ = allC s 0 ∧ allP s (nxt s a).tok.end_ = allP s 0) := by
        obtain ⟨a1, a2, a3⟩ := hA.out
        rw [hE.1] at a1
        exact ⟨by rw [← a1]; simp, hE.2.1.symm.trans a2, hE.2.2.symm.trans a3⟩
      have hz : ((nxt s a).code != 0) = false := by simp [e3]
      have hlt : ((skp s a : Nat) : Int) < (s.size : Int) := by omega
      have hgt : skp s a < (nxt s a).tok.end_ := by
        have hl := tokF_lies s (skp s a)
        rw [← e2] at hl
        exact (hl e3).2.1
      clear hE hA e2 e3 e4 e5 e7
      generalize nxt s a = X at *
      obtain ⟨ao, c, rfl⟩ := own_shape5 hrow
      go_wp2_with (first
        | (go_at_call 23; go_must (refine (hT _).mono ?_; rintro x w2 ⟨rfl, hb⟩))
        | (go_at_call 12; go_must (refine (bad_ex _ _ _).mono ?_; rintro x w3 ⟨rfl, hb3⟩; obtain ⟨hq3, hr3, hB3, ht3, hf3, hk3⟩ := tok_round hq hrow hB hb hb3; obtain ⟨⟨q0, q1, q2, q3, q4⟩, _⟩ := tok_facts ht3; have hz3 := lt_of_block hq3; have hz4 := lt_of_block ht3))
        | (at_builtin; go_must (refine wpList_append_own _ rfl _ _ 23 rfl (w.heap.size + 1) 40 i0 (tokV tk0) 5 48 Try.underlying23 hi hz0 hz1 hz2 rfl (by decide) _ _ _ rfl (hr3.alloc _) ⟨w3.heap.size, 0, none⟩ 1 1 (tcell X.tok) rfl rfl (World.news_of_block (cs := (tcell X.tok).toArray) (t := 40) (fr := (0, 0)) (heap_alloc_new w3 _)) (by simp [Value.oneCell', tcell]) (by unfold maxLen; omega) (by omega) (by simp; omega) ?_; intro v' w4 hown' hgrow _; obtain ⟨hr4, hB4, hq4, hc4⟩ := tok_append hq3 hr3 hB3 hgrow hown' ht3 hk3; obtain ⟨ao', c', rfl⟩ := own_shape5 hr4))
        | (go_at_call 22; go_must (refine (hsk _).mono ?_; rintro x w4 ⟨rfl, rfl⟩)))
      exact ⟨⟨X.tok.end_, pre ++ [X.tok], e6, rfl, by simpa using hr4, hq4, hB4, hN⟩, by simp [intOf]; omega⟩
    · have hT := fun W => rtok_any s (skp s a) W hs e1
      have hE := all_bad e3
      rw [← e2] at hT
      have hN : Hid (pre = allT s 0 ∧ (nxt s a).code = allC s 0 ∧ (nxt s a).pl = allP s 0) := by
        obtain ⟨a1, a2, a3⟩ := hA.out
        rw [hE.1, List.append_nil] at a1
        exact ⟨a1, hE.2.1.symm.trans a2, hE.2.2.symm.trans a3⟩
      have hz : ((nxt s a).code != 0) = true := bne_iff_ne.2 e3
      have hlt : ((skp s a : Nat) : Int) < (s.size : Int) := by omega
      clear hE hA e2 e3
      generalize nxt s a = X at *
      obtain ⟨ao, c, rfl⟩ := own_shape5 hrow
      go_wp2_with (first
        | (go_at_call 23; go_must (refine (hT _).mono ?_; rintro x w2 ⟨rfl, hb⟩))
        | (go_at_call 12; go_must (refine (bad_ex _ _ _).mono ?_; rintro x w3 ⟨rfl, hb3⟩; obtain ⟨hq3, hr3, hB3, ht3, hf3, hk3⟩ := tok_round hq hrow hB hb hb3; obtain ⟨⟨v0, v1, v2, v3, r0, r1, r2, r3⟩, s0, s1, s2, s3⟩ := flt_cells hq3; obtain ⟨⟨t0, t1, t2, t3⟩, _⟩ := flt_facts hf3)))
      go_region_law (fail)
      all_goals go_wp2
      all_goals exact s_end_d hN.out.1 hN.out.2.1 hN.out.2.2 hq3 hr3 hB3 (by rfl) (by rfl) rfl
end Go.Proofs.Ytanjgppdjdcnaaa
