/- Each of package lex: what its iterator tells, for every loop body. -/
import Derived.Test.YtklfnphkepfmaaaGreatDoorLxNext
import Derived.Test.YtklfnphkepfmaaaGreatDoorLxM3
import Derived.Test.YtklfnphkepfmaaaGreatDoorLxRange
import Derived.Shelf.Abstract
import Derived.OwnWalkIn
import Derived.TacticsInMore
import Derived.LoopNIn
import Derived.LoopIn
namespace Go.Proofs.YtklfnphkepfmaaaGreatDoor
open Go.RowKit Go.Shelf

attribute [local go_sem] Oper.semAt_some

theorem wordF_bad {s : ByteArray} {a : Nat} {k : Int} (h : (wordF s a k).code ≠ 0) : (wordF s a k).tok = tk0 := by
  unfold wordF at h ⊢
  split
  · rfl
  · rename_i k
    rw [if_neg k] at h
    exact absurd rfl h
theorem intF_bad {s : ByteArray} {a f : Nat} (h : (intF s a f).code ≠ 0) : (intF s a f).tok = tk0 := by
  unfold intF at h ⊢
  split
  · rename_i k
    rw [if_pos k] at h
    exact absurd rfl h
  · rfl
theorem tokF_bad {s : ByteArray} {a : Nat} (h : (tokF s a).code ≠ 0) : (tokF s a).tok = tk0 := by
  have hq : ∀ n i acc, (qF s a n i acc).code ≠ 0 → (qF s a n i acc).tok = tk0 := qF_bad s a
  unfold tokF at h ⊢
  split
  · rename_i k
    rw [if_pos k] at h
    exact wordF_bad h
  · rename_i k
    rw [if_neg k] at h
    split
    · rename_i k
      rw [if_pos k] at h
      exact wordF_bad h
    · rename_i k
      rw [if_neg k] at h
      split
      · rename_i k
        rw [if_pos k] at h
        exact intF_bad h
      · rename_i k
        rw [if_neg k] at h
        split
        · rename_i k
          rw [if_pos k] at h
          split
          · rename_i k
            rw [if_pos k] at h
            exact intF_bad h
          · rfl
        · rename_i k
          rw [if_neg k] at h
          split
          · rename_i k
            rw [if_pos k] at h
            exact hq _ _ _ h
          · rename_i k
            rw [if_neg k] at h
            split
            · rename_i k
              rw [if_pos k] at h
              split
              · rename_i k
                rw [if_pos k] at h
                exact absurd rfl h
              · rfl
            · rename_i k
              rw [if_neg k] at h
              split
              · rename_i k
                rw [if_pos k] at h
                exact absurd rfl h
              · rfl
theorem nxt_bad {s : ByteArray} {a : Nat} (h : (nxt s a).code ≠ 0) : (nxt s a).tok = tk0 := by
  unfold nxt at h ⊢
  split
  · rename_i k
    rw [if_pos k] at h
    exact absurd rfl h
  · rename_i k
    rw [if_neg k] at h
    exact tokF_bad h
/-- All tokens of a source ahead of a fault; the fault. -/
def someT (s : ByteArray) : List Tk := if s.size ≤ 4194304 then allT s 0 else []
def someC (s : ByteArray) : Int := if s.size ≤ 4194304 then allC s 0 else 60
def someP (s : ByteArray) : Int := if s.size ≤ 4194304 then allP s 0 else 4194304
/-- A token and an error as yield takes them. -/
abbrev encT (x : Tk × Value) : Array Value := #[tokV x.1, x.2]
/-- No errors so far. -/
def calm (l : List (Tk × Value)) : Prop := ∀ y ∈ l, y.2 = .nilIface
theorem calm_snoc {l : List (Tk × Value)} {t : Tk} (h : calm l) : calm (l ++ [(t, .nilIface)]) := fun y hy => by
  rcases List.mem_append.1 hy with h1 | h1
  · exact h y h1
  · rw [List.mem_singleton] at h1
    rw [h1]
/-- What comes next. -/
def nextT (s : ByteArray) (pre : List (Tk × Value)) (x : Tk × Value) (W : World) : Prop :=
  calm pre ∧ ((∃ r, pre.map Prod.fst ++ x.1 :: r = someT s ∧ x.2 = .nilIface) ∨ (pre.map Prod.fst = someT s ∧ someC s ≠ 0 ∧ x.1 = tk0 ∧ Err W x.2 (someC s) (someP s)))
/-- All that came. -/
def endS (s : ByteArray) (xs : List (Tk × Value)) : Prop :=
  (someC s = 0 ∧ xs.map Prod.fst = someT s ∧ calm xs) ∨ (someC s ≠ 0 ∧ ∃ ys ev, xs = ys ++ [(tk0, ev)] ∧ ys.map Prod.fst = someT s ∧ calm ys ∧ ev ≠ .nilIface)
theorem Err.nb {B : Nat} {A A' : World} {e : Value} {c a : Int} (h : Err A e c a) (hn : Nb B A A') : Err A' e c a := by
  rcases h with h | ⟨hc, b, rfl, hb⟩
  · exact Or.inl h
  · exact Or.inr ⟨hc, b, rfl, hn.block b _ hb (Or.inr rfl)⟩
theorem nextT_nb {s : ByteArray} {B : Nat} (pre : List (Tk × Value)) (x : Tk × Value) (A A' : World) (h : nextT s pre x A) (hn : Nb B A A') : nextT s pre x A' :=
  ⟨h.1, h.2.imp id fun h => ⟨h.1, h.2.1, h.2.2.1, h.2.2.2.nb hn⟩⟩
theorem Err.some_ne {w : World} {e : Value} {c a : Int} (h : Err w e c a) (hc : c ≠ 0) : e ≠ .nilIface := by
  rcases h with h | ⟨_, b, rfl, _⟩
  · exact absurd h.1 hc
  · intro e
    cases e
theorem Err.none_eq {w : World} {e : Value} {a : Int} (h : Err w e 0 a) : e = .nilIface := by
  rcases h with h | ⟨h, _⟩
  · exact h.2
  · exact absurd rfl h
theorem Err.shape {w : World} {e : Value} {c a : Int} (h : Err w e c a) (hc : c ≠ 0) : ∃ b, e = .iface 82 (.pointer (some ⟨b, 0, none⟩)) := by
  rcases h with h | ⟨_, b, rfl, _⟩
  · exact absurd h.1 hc
  · exact ⟨b, rfl⟩
set_option maxHeartbeats 400000 in
theorem each_any (s : ByteArray) (w : World) :
    Calls Tryz.prog 119 #[.string s] w fun e w' => e = .returned (.func (.func 137) #[] #[.pointer (some ⟨w.heap.size, 0, none⟩)]) ∧ w' = w.alloc (.cells #[.string s] 9) := by
  go_enter Tryz.func119, Tryz.ntmps119
  go_wp2
  go_ret
  exact ⟨rfl, rfl⟩
/-- A call of yield, as the walk spells it. -/
theorem yield_lit {l : Nat} {t : Tk} {ev : Value} {w2 : World} {fn : FuncId} {tmps : Array Value} {assign body : Code} (hy : (Instr.yield l (encT (t, ev))).run Tryz.prog (w2.alloc (tokObj t)) = .ok (.round l fn tmps assign body) (w2.alloc (tokObj t))) :
    (Instr.yield l #[.agg #[.int .i64 t.kind, .string t.text, .int .i64 t.num, .int .i64 (t.at_ : Int), .int .i64 (t.end_ : Int)], ev]).run Tryz.prog (w2.alloc (.cells #[.int .i64 t.kind, .string t.text, .int .i64 t.num, .int .i64 (t.at_ : Int), .int .i64 (t.end_ : Int)] 77)) =
      .ok (.round l fn tmps assign body) (w2.alloc (.cells #[.int .i64 t.kind, .string t.text, .int .i64 t.num, .int .i64 (t.at_ : Int), .int .i64 (t.end_ : Int)] 77)) := hy
set_option maxRecDepth 100000 in
set_option maxHeartbeats 2000000 in
theorem each_long (s : ByteArray) (n : Nat) (B Bs : Nat) (w : World) (hn : 2 ≤ n) (hs : 4194304 < s.size) (hB : Bs < w.heap.size) (hBs : w.cell? ⟨Bs, 0, none⟩ = some (.string s)) :
    Tells n Tryz.prog 137 #[.pointer (some ⟨Bs, 0, none⟩)] encT B Bs (nextT s) (endS s) w := by
  intro l J Jx W hW hBW hJ hJx hY h0
  have hcb : W.cell? ⟨Bs, 0, none⟩ = some (.string s) := (hW.cell (p := ⟨Bs, 0, none⟩) hB).trans hBs
  have e1 : someT s = [] := by simp [someT, Nat.not_le.2 hs]
  have e2 : someC s = 60 := by simp [someC, Nat.not_le.2 hs]
  have e3 : someP s = 4194304 := by simp [someP, Nat.not_le.2 hs]
  have hs' : (4194304 : Int) < (s.size : Int) := by omega
  have hEnd : ∀ ev W', Err W' ev 60 4194304 → endS s ([] ++ [(tk0, ev)]) := fun ev W' hE => Or.inr ⟨by rw [e2]; decide, [], ev, rfl, by rw [e1]; rfl, fun y hy => by simp at hy, hE.some_ne (by decide)⟩
  have hNx : ∀ ev W', Err W' ev 60 4194304 → nextT s [] (tk0, ev) W' := fun ev W' hE => ⟨fun y hy => by simp at hy, Or.inr ⟨by rw [e1]; rfl, by rw [e2]; decide, rfl, by rw [e2, e3]; exact hE⟩⟩
  have f26 : Fence.wide.fn 138 := trivial
  have h1n : 1 ≤ n := by omega
  clear e1 e2 e3
  refine callsIn_of_wp Tryz.func137 rfl trivial ?_ rfl
  simp only [Tryz.ntmps137, List.size_toArray, List.length_cons, List.length_nil, Nat.reduceAdd, Nat.reduceSub, Array.replicate_succ, Array.replicate_zero, List.push_toArray, List.append_toArray, List.nil_append, List.cons_append]
  gi_wp2_with (gi_at_call 138; go_must (refine (callsIn_wide.2 (none_any _ _ _ (by decide))).mono ?_; rintro e w2 ⟨ev, rfl, hE, hb⟩; obtain ⟨fn, tmps, assign, body, hy, hR⟩ := hY [] ((badT 60 4194304).tok, ev) w2 (hJ _ _ _ h0 hb) (hNx _ _ hE); simp only [encT] at hy))
  refine hR.mono ?_
  rintro e W3 (⟨rfl, hJ3, hk3⟩ | ⟨rfl, hJx3⟩)
  · gi_wp2
    refine bodyPost_ret (results_none rfl _ _ _) rfl ?_
    exact ⟨⟨_, rfl⟩, .inl ⟨_, hEnd _ _ hE, hJ3⟩⟩
  · gi_wp2
    refine bodyPost_ret (results_none rfl _ _ _) rfl ?_
    exact ⟨⟨_, rfl⟩, .inr ⟨_, hJx3⟩⟩
/-- What the box of the source holds. -/
abbrev srcObj (s : ByteArray) : Obj := .cells #[.string s] 9
theorem src_cell {w : World} {b : Nat} {s : ByteArray} (h : w.heap[b]? = some (srcObj s)) : w.cell? ⟨b, 0, none⟩ = some (.string s) := by simp [World.cell?, h]
/-- The state between two rounds. -/
structure EI (s : ByteArray) (B Bs : Nat) (J : List (Tk × Value) → World → Prop) (a : Nat) (pre : List (Tk × Value)) (wr : World) : Prop where
  ha : a ≤ s.size
  j : J pre wr
  src : wr.heap[Bs]? = some (srcObj s)
  size : B ≤ wr.heap.size
  toks : pre.map Prod.fst ++ allT s a = allT s 0 ∧ allC s a = allC s 0 ∧ allP s a = allP s 0
  calm : calm pre
set_option maxRecDepth 100000 in
set_option maxHeartbeats 4000000 in
theorem each_all (s : ByteArray) (n : Nat) (B Bs : Nat) (w : World) (hn : 2 ≤ n) (hs : s.size ≤ 4194304) (hB : Bs < w.heap.size) (hBs : w.heap[Bs]? = some (srcObj s)) :
    Tells n Tryz.prog 137 #[.pointer (some ⟨Bs, 0, none⟩)] encT B Bs (nextT s) (endS s) w := by
  intro l J Jx W hW hBW hJ hJx hY h0
  have hsrc : W.heap[Bs]? = some (srcObj s) := by rw [hW.block _ hB]; exact hBs
  have hcb := src_cell hsrc
  have e1 : someT s = allT s 0 := by simp [someT, hs]
  have e2 : someC s = allC s 0 := by simp [someC, hs]
  have e3 : someP s = allP s 0 := by simp [someP, hs]
  have f27 : Fence.wide.fn 139 := trivial
  have h1n : 1 ≤ n := by omega
  have hs' : ¬ (4194304 : Int) < (s.size : Int) := by omega
  refine callsIn_of_wp Tryz.func137 rfl trivial ?_ rfl
  simp only [Tryz.ntmps137, List.size_toArray, List.length_cons, List.length_nil, Nat.reduceAdd, Nat.reduceSub, Array.replicate_succ, Array.replicate_zero, List.push_toArray, List.append_toArray, List.nil_append, List.cons_append]
  have E1 := hid e1
  have E2 := hid e2
  have E3 := hid e3
  clear e1 e2 e3
  gi_wp2
  gi_loopw [3] (fun i wr => ∃ (a : Nat) (pre : List (Tk × Value)), i = .int .i64 (a : Int) ∧ EI s B Bs J a pre wr) (fun i _ => s.size - (intOf i).toNat)
  case atStart => exact ⟨0, [], rfl, ⟨by omega, h0, hsrc, hBW, ⟨rfl, rfl, rfl⟩, fun y hy => by simp at hy⟩⟩
  case round =>
    obtain ⟨a, pre, rfl, hi⟩ := hrel
    have hcr := src_cell hi.src
    have hnx := fun W => next_any s a W hs hi.ha
    have ha := hi.ha
    have HI := hid hi
    rcases nxt_ways hi.ha with ⟨k1, k2⟩ | ⟨k1, k2, k3, k4, k5, k6, k7⟩ | ⟨k1, k2, k3⟩
    · have hA := all_end k1
      have hT : ∀ W', nextT s pre (endT s, .nilIface) W' := fun W' => ⟨hi.calm, Or.inl ⟨[], by rw [E1.out, ← hi.toks.1, hA.1], rfl⟩⟩
      have hS : endS s (pre ++ [(endT s, .nilIface)]) := Or.inl ⟨by rw [E2.out, ← hi.toks.2.1, hA.2.1], by rw [E1.out, ← hi.toks.1, hA.1]; simp, calm_snoc hi.calm⟩
      have hkd : ((nxt s a).tok.kind == 0) = true := by rw [k2]; rfl
      have K3 : Hid ((nxt s a).code = 0) := by show _ = _; rw [k2]; rfl
      have K2 : Hid ((nxt s a).tok = endT s) := by show _ = _; rw [k2]; rfl
      clear hA k1 k2 hi
      generalize nxt s a = X at *
      gi_wp2_with (gi_at_call 139; go_must (refine (callsIn_wide.2 (hnx _)).mono ?_; rintro e w2 ⟨ev, rfl, hE, hb⟩; rw [K3.out] at hE; obtain rfl := hE.none_eq; have hb2 := Below.next hb (below_alloc w2 (tokObj X.tok)); obtain ⟨fn, tmps, assign, body, hy, hR⟩ := hY pre (X.tok, .nilIface) (w2.alloc (tokObj X.tok)) (hJ _ _ _ HI.out.j hb2) (by rw [K2.out]; exact hT _); replace hy := yield_lit hy))
      refine hR.mono ?_
      rintro e W3 (⟨rfl, hJ3, hk3⟩ | ⟨rfl, hJx3⟩)
      · have hz2 : B ≤ w2.heap.size := Nat.le_trans HI.out.size hb.size
        have ht3 : W3.heap[w2.heap.size]? = some (tokObj X.tok) := (hk3.2 _ (Or.inr hz2) (by simp)).trans (heap_alloc_new w2 _)
        obtain ⟨⟨q0, q1, q2, q3, q4⟩, _⟩ := tok_facts ht3
        rw [K2.out] at hJ3
        gi_wp2
        refine bodyPost_ret (results_none rfl _ _ _) rfl ?_
        exact ⟨⟨_, rfl⟩, .inl ⟨_, hS, hJ3⟩⟩
      · gi_wp2
        refine bodyPost_ret (results_none rfl _ _ _) rfl ?_
        exact ⟨⟨_, rfl⟩, .inr ⟨_, hJx3⟩⟩
    · have hA := all_tok hi.ha (by omega) k3
      have hT : ∀ W', nextT s pre ((nxt s a).tok, .nilIface) W' := fun W' => ⟨hi.calm, Or.inl ⟨allT s (nxt s a).tok.end_, by rw [E1.out, ← hi.toks.1, hA.1], rfl⟩⟩
      have hN : pre.map Prod.fst ++ [(nxt s a).tok] ++ allT s (nxt s a).tok.end_ = allT s 0 ∧ allC s (nxt s a).tok.end_ = allC s 0 ∧ allP s (nxt s a).tok.end_ = allP s 0 :=
        ⟨by rw [← hi.toks.1, hA.1]; simp, hA.2.1.symm.trans hi.toks.2.1, hA.2.2.symm.trans hi.toks.2.2⟩
      have HN := hid hN
      have hkd : ((nxt s a).tok.kind == 0) = false := beq_eq_false_iff_ne.2 k7
      have K3 := hid k3
      clear hA k1 k2 k3 k4 k7 hi hN
      generalize nxt s a = X at *
      gi_wp2_with (gi_at_call 139; go_must (refine (callsIn_wide.2 (hnx _)).mono ?_; rintro e w2 ⟨ev, rfl, hE, hb⟩; rw [K3.out] at hE; obtain rfl := hE.none_eq; have hb2 := Below.next hb (below_alloc w2 (tokObj X.tok)); obtain ⟨fn, tmps, assign, body, hy, hR⟩ := hY pre (X.tok, .nilIface) (w2.alloc (tokObj X.tok)) (hJ _ _ _ HI.out.j hb2) (hT _); replace hy := yield_lit hy))
      refine hR.mono ?_
      rintro e W3 (⟨rfl, hJ3, hk3⟩ | ⟨rfl, hJx3⟩)
      · have hz2 : B ≤ w2.heap.size := Nat.le_trans HI.out.size hb.size
        have ht3 : W3.heap[w2.heap.size]? = some (tokObj X.tok) := (hk3.2 _ (Or.inr hz2) (by simp)).trans (heap_alloc_new w2 _)
        have hs3 : W3.heap[Bs]? = some (srcObj s) := (hk3.2 _ (Or.inl rfl) (Nat.lt_of_lt_of_le (lt_of_block HI.out.src) hb2.size)).trans (keep_q HI.out.src hb2)
        have hz3 : B ≤ W3.heap.size := Nat.le_trans (Nat.le_trans HI.out.size hb2.size) hk3.1
        have hI3 : EI s B Bs J X.tok.end_ (pre ++ [(X.tok, .nilIface)]) W3 := ⟨k6, hJ3, hs3, hz3, by rw [List.map_append]; exact HN.out, calm_snoc HI.out.calm⟩
        obtain ⟨⟨q0, q1, q2, q3, q4⟩, _⟩ := tok_facts ht3
        gi_wp2
        exact ⟨⟨X.tok.end_, _, rfl, hI3⟩, by simp [intOf]; omega⟩
      · gi_wp2
        refine bodyPost_ret (results_none rfl _ _ _) rfl ?_
        exact ⟨⟨_, rfl⟩, .inr ⟨_, hJx3⟩⟩
    · have hA := all_bad k3
      have htk : (nxt s a).tok = tk0 := nxt_bad k3
      have hT : ∀ W' ev, Err W' ev (nxt s a).code (nxt s a).pl → nextT s pre (tk0, ev) W' := fun W' ev hE => ⟨hi.calm, Or.inr ⟨by rw [E1.out, ← hi.toks.1, hA.1, List.append_nil], by rw [E2.out, ← hi.toks.2.1, hA.2.1]; exact k3, rfl, by rw [E2.out, E3.out, ← hi.toks.2.1, ← hi.toks.2.2, hA.2.1, hA.2.2]; exact hE⟩⟩
      have hS : ∀ ev, ev ≠ .nilIface → endS s (pre ++ [(tk0, ev)]) := fun ev hne => Or.inr ⟨by rw [E2.out, ← hi.toks.2.1, hA.2.1]; exact k3, pre, ev, rfl, by rw [E1.out, ← hi.toks.1, hA.1, List.append_nil], hi.calm, hne⟩
      have K3 := hid k3
      have K2 := hid htk
      clear hA k1 k2 k3 hi htk
      generalize nxt s a = X at *
      gi_wp2_with (gi_at_call 139; go_must (refine (callsIn_wide.2 (hnx _)).mono ?_; rintro e w2 ⟨ev, rfl, hE, hb⟩; have hS2 := hS ev (hE.some_ne K3.out); obtain ⟨fb, rfl⟩ := hE.shape K3.out; have hb2 := Below.next hb (below_alloc w2 (tokObj X.tok)); obtain ⟨fn, tmps, assign, body, hy, hR⟩ := hY pre (X.tok, .iface 82 (.pointer (some ⟨fb, 0, none⟩))) (w2.alloc (tokObj X.tok)) (hJ _ _ _ HI.out.j hb2) (by rw [K2.out]; exact hT _ _ (hE.below (below_alloc w2 _))); replace hy := yield_lit hy))
      refine hR.mono ?_
      rintro e W3 (⟨rfl, hJ3, hk3⟩ | ⟨rfl, hJx3⟩)
      · rw [K2.out] at hJ3
        gi_wp2
        refine bodyPost_ret (results_none rfl _ _ _) rfl ?_
        exact ⟨⟨_, rfl⟩, .inl ⟨_, hS2, hJ3⟩⟩
      · gi_wp2
        refine bodyPost_ret (results_none rfl _ _ _) rfl ?_
        exact ⟨⟨_, rfl⟩, .inr ⟨_, hJx3⟩⟩
/-- Each's iterator, at every source. -/
theorem each_tells (s : ByteArray) (n : Nat) (B Bs : Nat) (w : World) (hn : 2 ≤ n) (hBs : w.heap[Bs]? = some (srcObj s)) :
    Tells n Tryz.prog 137 #[.pointer (some ⟨Bs, 0, none⟩)] encT B Bs (nextT s) (endS s) w := by
  by_cases hs : s.size ≤ 4194304
  · exact each_all s n B Bs w hn hs (lt_of_block hBs) hBs
  · exact each_long s n B Bs w hn (by omega) (lt_of_block hBs) (src_cell hBs)
end Go.Proofs.YtklfnphkepfmaaaGreatDoor
