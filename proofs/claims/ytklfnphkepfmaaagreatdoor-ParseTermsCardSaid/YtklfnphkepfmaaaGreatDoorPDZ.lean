/- eq of package parse. -/
import Derived.Test.YtklfnphkepfmaaaGreatDoorPCZ
namespace Go.Proofs.YtklfnphkepfmaaaGreatDoor
open Go.RowKit
attribute [local go_sem] tok_kind tok_text tok_num tok_at

/-- What an equation is read as. -/
def eqF (ts : List Tk) (f i : Nat) : Rd1 (ByteArray × Ex) :=
  if (tkA ts i).kind = 2 then
    if mkA ts (i + 1) 61 = true then (termF ts f 0 (i + 2)).map (fun x => ((tkA ts i).text, x))
    else .bad (mustC (tkA ts (i + 1))) (i + 1)
  else .bad (mustC (tkA ts i)) i
theorem wit_eqF {ts : List Tk} (hE : EndT ts) (f i : Nat) (hi : i < ts.length) : wit ts i (eqF ts f i) := by
  unfold eqF
  split
  · rename_i hk
    have hi1 := hE i hi (by rw [hk]; decide)
    split
    · rename_i hm
      exact wit.from (wit.map _ ((all_wit hE f).1 0 (i + 2) (mk_next hE hi1 hm))) (by omega)
    · exact ⟨by omega, hi1⟩
  · exact ⟨Nat.le_refl _, hi⟩
/-- A value tells an equation. -/
def Qw (P : Nat → Prop) (w : World) (q : ByteArray × Ex) (v : Value) : Prop := ∃ (k : Int) (n : ByteArray) (m : Int) (aa : Option Addr) (al ac : Nat), v = .agg #[.string q.1, .int .i64 k, .string n, .int .i64 m, .slice aa al ac] ∧ Xw P w q.2 (.agg #[.int .i64 k, .string n, .int .i64 m, .slice aa al ac])
def QwC (P : Nat → Prop) (w : World) (q : ByteArray × Ex) (cs : List Value) : Prop := ∃ (k : Int) (n : ByteArray) (m : Int) (aa : Option Addr) (al ac : Nat), cs = [.string q.1, .int .i64 k, .string n, .int .i64 m, .slice aa al ac] ∧ Xw P w q.2 (.agg #[.int .i64 k, .string n, .int .i64 m, .slice aa al ac])
/-- Equations. -/
def eltQ : Elt (ByteArray × Ex) := ⟨81, 5, QwC, fun hk h => by
  obtain ⟨k, n, m, aa, al, ac, e, hx⟩ := h
  exact ⟨k, n, m, aa, al, ac, e, hx.keep hk⟩⟩
theorem infoEq : (Tryz.prog.info? 81).map (fun i => (i.zero, i.size, i.bytes)) = some (some (.agg #[.string ⟨#[]⟩, .int .i64 0, .string ⟨#[]⟩, .int .i64 0, .slice none 0 0]), 5, 72) := by kernel_rfl
/-- What a call that reads the next equation answers. -/
def Nq (S : Nat → Prop) (I : Nat → World → Prop) (w : World) (pb : Nat) (tv : Value) (ts : List Tk) (k : Nat) (r : Rd1 (ByteArray × Ex)) (e : Ending) (w' : World) : Prop :=
  match r with
  | .ok x j => ∃ v, e = .returned v ∧ Mo S w w' ∧ Ps w' pb tv ts j ∧ I (k + 1) w' ∧ Qw (w.heap.size ≤ ·) w' x v
  | .bad c j => Gv S w w' e c ((tkA ts j).at_ : Int)
/-- The world behind five stores into a result's cells. -/
abbrev eqEnd (w : World) (q : Nat) (v0 v1 v2 v3 v4 : Value) : World := ((((w.setCell ⟨q, 0, none⟩ v0).setCell ⟨q, 1, none⟩ v1).setCell ⟨q, 2, none⟩ v2).setCell ⟨q, 3, none⟩ v3).setCell ⟨q, 4, none⟩ v4
theorem eqEnd_is {w : World} {q : Nat} {u0 u1 u2 u3 u4 : Value} (v0 v1 v2 v3 v4 : Value) {T : TypeId} (h : w.heap[q]? = some (.cells #[u0, u1, u2, u3, u4] T)) : (eqEnd w q v0 v1 v2 v3 v4).heap[q]? = some (.cells #[v0, v1, v2, v3, v4] T) := by
  have h0 := heap_setCell_same w q 0 _ _ v0 h
  have h1 := heap_setCell_same _ q 1 _ _ v1 h0
  have h2 := heap_setCell_same _ q 2 _ _ v2 h1
  have h3 := heap_setCell_same _ q 3 _ _ v3 h2
  have h4 := heap_setCell_same _ q 4 _ _ v4 h3
  rw [eqEnd, h4]
  rfl
theorem eqEnd_mo {w : World} {q : Nat} (v0 v1 v2 v3 v4 : Value) : Mo (· = q) w (eqEnd w q v0 v1 v2 v3 v4) := (((((Mo.refl (· = q) w).setCell (p := ⟨q, 0, none⟩) (Or.inl rfl) _).setCell (p := ⟨q, 1, none⟩) (Or.inl rfl) _).setCell (p := ⟨q, 2, none⟩) (Or.inl rfl) _).setCell (p := ⟨q, 3, none⟩) (Or.inl rfl) _).setCell (p := ⟨q, 4, none⟩) (Or.inl rfl) _
theorem ret_eq {w : World} {fn : Func} {t : Tmp} (hfn : fn.results = #[.cell t 81]) {tmps : Array Value} {q : Nat} {u0 u1 u2 u3 u4 : Value} (h4 : tmps[t]?.getD undef = .pointer (some ⟨q, 0, none⟩)) (hq : w.heap[q]? = some (.cells #[u0, u1, u2, u3, u4] 81)) : (results fn tmps).run Tryz.prog w = .ok (.agg #[u0, u1, u2, u3, u4]) w := by
  obtain ⟨⟨z0, z1, z2, z3, z4⟩, _⟩ := blk5 hq
  simp [results, hfn, go_sem, h4, z0, z1, z2, z3, z4]
set_option maxRecDepth 100000 in
set_option maxHeartbeats 8000000 in
theorem eq_any {ts : List Tk} (hE : EndT ts) (hl : ts.length ≤ 10000000) {pb : Nat} {tv : Value} {f k0 i : Nat} {w : World} (h : Ps w pb tv ts i) (hi : i < ts.length) (hn : nof (eqF ts f i)) :
    Calls Tryz.prog 64 #[.pointer (some ⟨pb, 0, none⟩)] w (Nq (· = pb) (fun _ _ => True) w pb tv ts k0 (eqF ts f i)) := by
  have zp := lt_of_block h.b
  have hts := hid (h.old (by omega))
  have hb0 := below_alloc w (.cells #[.string ⟨#[]⟩, .int .i64 0, .string ⟨#[]⟩, .int .i64 0, .slice none 0 0] 81)
  unfold eqF at hn ⊢
  by_cases hk : (tkA ts i).kind = 2
  · rw [if_pos hk] at hn ⊢
    have hi1 := hE i hi (by rw [hk]; decide)
    have hwa := want_yes (h.below hb0) hi hl 2 hk
    unfold tokV at hwa
    cases hm : mkA ts (i + 1) 61 with
    | false =>
      rw [if_neg (by decide)]
      have hwm := hid (fun w1 (hp : Ps w1 pb tv ts (i + 1)) => wantMark_no hp hi1 ⟨#[61]⟩ hm)
      clear hk hm
      generalize ts.getD i tk0 = t at *
      go_enter Tryz.func64, Tryz.ntmps64
      go_wp2_with (first
        | (go_at_call 65; go_must (refine hwa.mono ?_; clear hwa; rintro e w1 ⟨rfl, hg1, hp1⟩))
        | (go_at_call 96; go_must (refine (hwm.out w1 hp1).mono ?_; rintro e w2 ⟨b2, rfl, hb2, hc2, hd2⟩)))
      have hm1 : Mo (· = pb) w w1 := (Mo.ofBelow hb0 : Mo (· = pb) w _).step hg1
      exact ⟨rfl, b2, rfl, hb2, Nat.le_trans hm1.size hc2, hm1.trans (Mo.ofBelow hd2 : Mo (· = pb) w1 w2) (fun _ h => Or.inl h)⟩
    | true =>
      rw [hm] at hn
      rw [if_pos rfl] at hn ⊢
      have hi2 := mk_next hE hi1 hm
      have hwm := hid (fun w1 (hp : Ps w1 pb tv ts (i + 1)) => wantMark_yes hp hi1 hl ⟨#[61]⟩ hm)
      have hter := hid (fun w1 (hp : Ps w1 pb tv ts (i + 2)) => term_all hE hl pb tv (f + 1) f (by omega) 0 (i + 2) w1 hp hi2 (by omega) (by omega) hn.unmap)
      cases hr : termF ts f 0 (i + 2) with
      | bad c5 j =>
        rw [hr] at hter
        clear hk hm
        show Calls _ _ _ _ (Nq _ _ _ _ _ _ _ (.bad c5 j))
        generalize ts.getD i tk0 = t at *
        go_enter Tryz.func64, Tryz.ntmps64
        go_wp2_with (first
          | (go_at_call 65; go_must (refine hwa.mono ?_; clear hwa; rintro e w1 ⟨rfl, hg1, hp1⟩))
          | (go_at_call 96; go_must (refine (hwm.out w1 hp1).mono ?_; rintro e w2 ⟨rfl, hg2, hp2⟩))
          | (go_at_call 101; go_must (refine (hter.out w2 hp2).mono ?_; rintro e w3 ⟨b3, rfl, hb3, hc3, hd3⟩)))
        have hm2 : Mo (· = pb) w w2 := ((Mo.ofBelow hb0 : Mo (· = pb) w _).step hg1).step hg2
        exact ⟨rfl, b3, rfl, hb3, Nat.le_trans hm2.size hc3, hm2.trans hd3 (fun _ h => Or.inl h)⟩
      | ok x j =>
        rw [hr] at hter
        show Calls _ _ _ _ (Nq _ _ _ _ _ _ _ (.ok ((tkA ts i).text, x) j))
        unfold tkA
        clear hk hm
        generalize ts.getD i tk0 = t at *
        go_enter Tryz.func64, Tryz.ntmps64
        go_wp2_with (first
          | (go_at_call 65; go_must (refine hwa.mono ?_; clear hwa; rintro e w1 ⟨rfl, hg1, hp1⟩; have hq1 := (hg1.block w.heap.size (by simp) (fun e => absurd (Option.some.inj e) (by omega))).trans (heap_alloc_new w _)))
          | (go_at_call 96; go_must (refine (hwm.out w1 hp1).mono ?_; rintro e w2 ⟨rfl, hg2, hp2⟩; have hq2 := (hg2.block w.heap.size (lt_of_block hq1) (fun e => absurd (Option.some.inj e) (by omega))).trans hq1))
          | (go_at_call 101; go_must (refine (hter.out w2 hp2).mono ?_; rintro e w3 ⟨v, rfl, hm3, hp3, hx3⟩; obtain ⟨k, n, m, aa, al, ac, rfl⟩ := hx3.form; have hq3 := (hm3.block w.heap.size (lt_of_block hq2) (by omega)).trans hq2; have z3 := lt_of_block hq3; obtain ⟨⟨a0, a1, a2, a3, a4⟩, b0, b1, b2, b3, b4⟩ := blk5 hq3)))
        have hmq := eqEnd_mo (w := w3) (q := w.heap.size) (.string t.text) (.int .i64 k) (.string n) (.int .i64 m) (.slice aa al ac)
        have hqF := eqEnd_is (.string t.text) (.int .i64 k) (.string n) (.int .i64 m) (.slice aa al ac) hq3
        have hm2 : Mo (· = pb) w w2 := ((Mo.ofBelow hb0 : Mo (· = pb) w _).step hg1).step hg2
        have hz2 : w.heap.size < w2.heap.size := lt_of_block hq2
        refine bodyPost_ret (ret_eq Tryz.results64 (by rfl) hqF) rfl ⟨_, rfl, (hm2.trans hm3 (fun _ h => Or.inl h)).trans hmq (fun b hb => Or.inr (by omega)), hp3.mo hmq (fun b hb => by subst hb; exact ⟨by omega, fun ad n c htv e => by have := hts.out ad n c htv; omega⟩), trivial, k, n, m, aa, al, ac, rfl, hx3.keep (fun b hb hl => ?_)⟩
        have hb' : w2.heap.size ≤ b := hb
        exact ⟨by omega, hmq.block b hl (by omega)⟩
  · rw [if_neg hk]
    have hwa := want_no (h.below hb0) hi 2 hk
    clear hk
    go_enter Tryz.func64, Tryz.ntmps64
    go_wp2_with (go_at_call 65; go_must (refine hwa.mono ?_; clear hwa; rintro e w1 ⟨b2, rfl, hb2, hc2, hd2⟩))
    exact ⟨rfl, b2, rfl, hb2, Nat.le_trans hb0.size hc2, (Mo.ofBelow hb0 : Mo (· = pb) w _).trans (Mo.ofBelow hd2 : Mo (· = pb) _ w1) (fun _ h => Or.inl h)⟩
end Go.Proofs.YtklfnphkepfmaaaGreatDoor

/- several of package parse, over equations. -/
namespace Go.Proofs.YtklfnphkepfmaaaGreatDoor
open Go.RowKit
attribute [local go_sem] tok_kind tok_text tok_num tok_at

set_option maxRecDepth 100000 in
set_option maxHeartbeats 8000000 in
theorem sevQ_any {ts : List Tk} (hE : EndT ts) (hl : ts.length ≤ 10000000) {pb : Nat} {tv : Value} {K : Nat} {fs cb : Array Value} (eg : ∀ args w, (callFunc K args).run Tryz.prog w = .ok (.enter K args) w) {S : Nat → Prop} {rd : Nat → Nat → Rd1 (ByteArray × Ex)} {I : Nat → World → Prop} {w : World} {i : Nat} (hSp : S pb) (hS : ∀ k, S k → k < w.heap.size)
    (hI : ∀ k a b, I k a → (∀ q, q < w.heap.size → q ≠ pb → b.heap[q]? = a.heap[q]?) → I k b) (hw : ∀ k i, i < ts.length → wit ts i (rd k i))
    (hc : ∀ k i w1, Ps w1 pb tv ts i → I k w1 → w.heap.size ≤ w1.heap.size → i < ts.length → nof (rd k i) → Calls Tryz.prog K (fs ++ cb) w1 (Nq S I w1 pb tv ts k (rd k i)))
    (h : Ps w pb tv ts i) (hi : i < ts.length) (h0 : I 0 w) (f : Nat) (hf : nof (sevF ts rd f i [])) :
    Calls Tryz.prog 63 #[.pointer (some ⟨pb, 0, none⟩), .func (.func K) fs cb] w (Sm eltQ S I w pb tv ts (sevF ts rd f i [])) := by
  obtain ⟨i4, hi4, hw0, hw1, hw2⟩ := info_parts infoEq
  obtain ⟨R, hR⟩ : ∃ R, sevF ts rd f i [] = R := ⟨_, rfl⟩
  rw [hR] at hf ⊢
  have zp := lt_of_block h.b
  have hts := hid (h.old (by omega))
  have HC := hid hc
  have HI := hid hI
  have HW := hid hw
  have HS := hid hS
  have hcall0 := hid (hc 0 i w h h0 (Nat.le_refl _) hi)
  have hwi0 := hw 0 i hi
  clear hc hI hw hS
  cases f with
  | zero =>
    rw [sevF] at hR
    subst hR
    exact absurd rfl hf
  | succ f' =>
    rw [sevF] at hR
    cases hr : rd ([] : List (ByteArray × Ex)).length i with
    | bad c5 j =>
      rw [hr] at hR
      replace hr : rd 0 i = .bad c5 j := hr
      rw [hr] at hcall0
      subst hR
      go_enter Tryz.func63, Tryz.ntmps63
      go_wp2_with (go_at_fn K; refine (hcall0.out hf).mono ?_; rintro e w6 ⟨b6, rfl, hb6, hc6, hd6⟩)
      exact ⟨rfl, b6, rfl, hb6, hc6, hd6⟩
    | ok x j =>
      rw [hr] at hR
      replace hr : rd 0 i = .ok x j := hr
      rw [hr] at hcall0 hwi0
      replace hR : (if mkA ts j 44 = true then sevF ts rd f' (j + 1) [x] else .ok [x] j) = R := hR
      have hone : Hid (∀ w6 v, Mo S w w6 → Ps w6 pb tv ts j → I 1 w6 → Qw (w.heap.size ≤ ·) w6 x v → ∃ k n m aa al ac, v = .agg #[.string x.1, .int .i64 k, .string n, .int .i64 m, .slice aa al ac] ∧ Hid (Ro eltQ w.heap.size (w6.alloc (.cells #[.string x.1, .int .i64 k, .string n, .int .i64 m, .slice aa al ac] 81)) (.slice (some ⟨w6.heap.size, 0, none⟩) 1 1) [x]) ∧ Hid (Ps (w6.alloc (.cells #[.string x.1, .int .i64 k, .string n, .int .i64 m, .slice aa al ac] 81)) pb tv ts j) ∧ Hid (I 1 (w6.alloc (.cells #[.string x.1, .int .i64 k, .string n, .int .i64 m, .slice aa al ac] 81))) ∧ Hid (Mo S w (w6.alloc (.cells #[.string x.1, .int .i64 k, .string n, .int .i64 m, .slice aa al ac] 81)))) := fun w6 v hm6 hp6 hi6 hx6 => by
        obtain ⟨k, n, m, aa, al, ac, rfl, hx6⟩ := hx6
        refine ⟨k, n, m, aa, al, ac, rfl, ro_one (E := eltQ) (D := w.heap.size) (Nat.le_refl _) hm6.size rfl ⟨k, n, m, aa, al, ac, rfl, hx6⟩, hp6.below (below_alloc w6 _), HI.out 1 w6 _ hi6 (fun q hq _ => Below.heap_alloc _ _ _ (by have := hm6.size; omega)), hm6.alloc _⟩
      clear hr h h0
      go_enter Tryz.func63, Tryz.ntmps63
      go_wp2_with (go_at_fn K; refine (hcall0.out trivial).mono ?_; clear hcall0; rintro e w6 ⟨v, rfl, hm6, hp6, hi6, hx6⟩; obtain ⟨k, n, m, aa, al, ac, rfl, hX1, hP1, hI1, hM1⟩ := hone.out w6 v hm6 hp6 hi6 hx6; clear hone hm6 hp6 hi6 hx6)
      go_loopw [5] (fun y wr => ∃ (xs : List (ByteArray × Ex)) (i' f' c : Nat) (ao : Option Addr), y = .slice ao xs.length c ∧ i' < ts.length ∧ xs.length ≤ i' ∧ Hid (Ps wr pb tv ts i') ∧ Hid (I xs.length wr) ∧ Hid (Mo S w wr) ∧ Hid (Ro eltQ w.heap.size wr (.slice ao xs.length c) xs) ∧ Hid ((if mkA ts i' 44 = true then sevF ts rd f' (i' + 1) xs else .ok xs i') = R)) (fun _ wr => ts.length - atOf pb wr)
      case atStart => exact ⟨[x], j, f', 1, _, rfl, hwi0.2, by have := hwi0.1; simp; omega, hP1, hI1, hM1, hX1, hR⟩
      case round =>
        clear hX1 hP1 hI1 hM1 hR hwi0
        obtain ⟨xs, i', f', c, ao, rfl, hi', hxi, hP, hII, hM, hX, hF⟩ := hrel
        cases hm : mkA ts i' 44 with
        | false =>
          have hF := hF.out
          rw [if_neg (by rw [hm]; decide)] at hF
          have htk := takeMark_no hP.out hi' ⟨#[44]⟩ hm
          subst hF
          go_wp2_with (go_at_call 100; refine htk.mono ?_; clear htk; rintro e w8 ⟨rfl, hb8⟩)
          go_ret
          exact ⟨_, rfl, hM.out.trans (Mo.ofBelow hb8 : Mo S wr w8) (fun _ h => Or.inl h), hP.out.below hb8, HI.out _ _ _ hII.out (fun q hq _ => hb8.block q (by have := hM.out.size; omega)), hX.out.next hb8⟩
        | true =>
          have hF := hF.out
          rw [if_pos hm] at hF
          have hi1 := mk_next hE hi' hm
          have htk := takeMark_yes hP.out hi' hl ⟨#[44]⟩ hm
          have hkp : Hid (∀ w8, wr.grownBy w8 (some pb) → Ps w8 pb tv ts (i' + 1) → nof (rd xs.length (i' + 1)) → Calls Tryz.prog K (fs ++ cb) w8 (Nq S I w8 pb tv ts xs.length (rd xs.length (i' + 1)))) := fun w8 hg8 hp8 hn8 =>
            HC.out xs.length (i' + 1) w8 hp8 (HI.out _ _ _ hII.out (fun q hq hne => hg8.block q (by have := hM.out.size; omega) (fun e => hne (Option.some.inj e)))) (Nat.le_trans hM.out.size hg8.size) hi1 hn8
          have hwi := HW.out xs.length (i' + 1) hi1
          cases f' with
          | zero =>
            rw [sevF] at hF
            subst hF
            exact absurd rfl hf
          | succ f'' =>
            rw [sevF] at hF
            cases hr : rd xs.length (i' + 1) with
            | bad c5 j5 =>
              rw [hr] at hF hkp
              subst hF
              go_wp2_with (first
                | (go_at_call 100; refine htk.mono ?_; clear htk; rintro e w8 ⟨rfl, hg8, hp8⟩)
                | (go_at_fn K; refine (hkp.out w8 hg8 hp8 hf).mono ?_; rintro e w9 ⟨b9, rfl, hb9, hc9, hd9⟩))
              exact ⟨rfl, b9, rfl, hb9, Nat.le_trans hM.out.size (Nat.le_trans hg8.size hc9), (hM.out.trans (Mo.ofGrown hg8 hSp : Mo S wr w8) (fun _ h => Or.inl h)).trans hd9 (fun _ h => Or.inl h)⟩
            | ok x5 j5 =>
              rw [hr] at hF hkp hwi
              replace hF : (if mkA ts j5 44 = true then sevF ts rd f'' (j5 + 1) (xs ++ [x5]) else .ok (xs ++ [x5]) j5) = R := hF
              obtain ⟨hij, hj5⟩ := hwi
              have hat0 := hid hP.out.atOf
              have hFF := hid hF
              have hstep : Hid (∀ w8 w6 v, wr.grownBy w8 (some pb) → Mo S w8 w6 → Ps w6 pb tv ts j5 → I (xs.length + 1) w6 → Qw (w8.heap.size ≤ ·) w6 x5 v → ∃ k n m aa al ac, v = .agg #[.string x5.1, .int .i64 k, .string n, .int .i64 m, .slice aa al ac] ∧ ∃ fv : Nat → List Value, (w6.alloc (.cells #[.string x5.1, .int .i64 k, .string n, .int .i64 m, .slice aa al ac] 81)).ownsRow w.heap.size 81 5 (.slice ao xs.length c) xs.length (flatV fv xs.length) ∧ w.heap.size ≤ w6.heap.size ∧ ∀ g7 c7 w7, w7.ownsRow w.heap.size 81 5 (.slice (some ⟨g7, 0, none⟩) (xs.length + 1) c7) (xs.length + 1) (flatV fv xs.length ++ [.string x5.1, .int .i64 k, .string n, .int .i64 m, .slice aa al ac]) → (w6.alloc (.cells #[.string x5.1, .int .i64 k, .string n, .int .i64 m, .slice aa al ac] 81)).grownBy w7 (Value.slice ao xs.length c).ownBlock → ((Value.slice ao xs.length c).ownBlock = some g7 ∨ g7 = w6.heap.size + 1) → Hid (Ro eltQ w.heap.size w7 (.slice (some ⟨g7, 0, none⟩) (xs.length + 1) c7) (xs ++ [x5])) ∧ Hid (Ps w7 pb tv ts j5) ∧ Hid (I (xs.length + 1) w7) ∧ Hid (Mo S w w7)) := fun w8 w6 v hg8 hm6 hp6 hi6 hx6 => by
                obtain ⟨k, n, m, aa, al, ac, rfl, hx6⟩ := hx6
                have hz8 := hg8.size
                have hzw := hM.out.size
                have hBk := hX.out.blkB
                have hDk := hX.out.blk
                have hX6 := (hX.out.grown hg8 zp).mo hm6 HS.out
                obtain ⟨fv, hf4, hfx, hown⟩ := hX6
                have hM6 := (hM.out.trans (Mo.ofGrown hg8 hSp : Mo S wr w8) (fun _ h => Or.inl h)).trans hm6 (fun _ h => Or.inl h)
                refine ⟨k, n, m, aa, al, ac, rfl, fv, World.ownsRow.alloc hown _, hM6.size, fun g7 c7 w7 ho7 hg7 hat7 => ?_⟩
                obtain ⟨a1, a2, a3⟩ := sev_keep hM6.size zp hts.out HI.out hBk hp6 hi6 hM6 hg7
                exact ⟨ro_app (E := eltQ) hf4 hfx (D := w8.heap.size) (fun b hb => by have := hDk b hb; omega) (by omega) rfl ⟨k, n, m, aa, al, ac, rfl, hx6⟩ ho7 hg7 hat7, a1, a2, a3⟩
              have hxb : xs.length ≤ 10000000 := by omega
              clear hF hr hM hX hP HC HI HW hII hm
              go_wp2_with (first
                | (go_at_call 100; refine htk.mono ?_; clear htk; rintro e w8 ⟨rfl, hg8, hp8⟩)
                | (go_at_fn K; refine (hkp.out w8 hg8 hp8 trivial).mono ?_; clear hkp; rintro e w6 ⟨v, rfl, hm6, hp6, hi6, hx6⟩; obtain ⟨k, n, m, aa, al, ac, rfl, fv, hown6, hz6, hnx6⟩ := hstep.out _ _ _ hg8 hm6 hp6 hi6 hx6)
                | (at_builtin; go_must (refine wpList_append_lies _ rfl _ _ 25 rfl w.heap.size 81 i4 (.agg #[.string ⟨#[]⟩, .int .i64 0, .string ⟨#[]⟩, .int .i64 0, .slice none 0 0]) 5 72 Tryz.underlying25 hi4 hw0 hw1 hw2 rfl (by decide) _ xs.length (flatV fv xs.length) rfl hown6 ⟨w6.heap.size, 0, none⟩ 1 1 [.string x5.1, .int .i64 k, .string n, .int .i64 m, .slice aa al ac] rfl rfl (World.news_of_block (cs := #[.string x5.1, .int .i64 k, .string n, .int .i64 m, .slice aa al ac]) (t := 81) (fr := (0, 0)) (heap_alloc_new w6 _)) (by simp [Value.oneCell']) (by omega) (by unfold maxLen; omega) (by omega) (by simp; omega) (w6.heap.size + 1) (by simp) ?_; intro g7 c7 w7 hown7 hg7 hat7 hlt7; obtain ⟨hX7, hP7, hI7, hM7⟩ := hnx6 g7 c7 w7 hown7 hg7 hat7; clear hown7 hg7)))
              go_roundw
              case rel => exact ⟨xs ++ [x5], j5, f'', c7, some ⟨g7, 0, none⟩, by rw [List.length_append, List.length_singleton], hj5, by simp; omega, hP7, by rw [List.length_append, List.length_singleton]; exact hI7, hM7, by rw [List.length_append, List.length_singleton]; exact hX7, hFF⟩
              case measure => rw [hP7.out.atOf, hat0.out]; omega
end Go.Proofs.YtklfnphkepfmaaaGreatDoor

/- terms of package parse. -/
namespace Go.Proofs.YtklfnphkepfmaaaGreatDoor
open Go.RowKit Go.Shelf
attribute [local go_sem] tok_kind tok_text tok_num tok_at

/-- The word where. -/
abbrev whereB : ByteArray := ⟨#[119, 104, 101, 114, 101]⟩
/-- The end is wanted. -/
def endF {α : Type} (ts : List Tk) (v : α) (j : Nat) : Rd1 α := if (tkA ts j).kind = 0 then .ok v (j + 1) else .bad (mustC (tkA ts j)) j
/-- What a source of terms is read as. -/
def termsF (ts : List Tk) (f i : Nat) : Rd1 (List Ex × List (ByteArray × Ex)) :=
  if (tkA ts i).kind = 0 then endF ts ([], []) i
  else match sevF ts (fun _ i => termF ts f 0 i) f i [] with
    | .bad c j => .bad c j
    | .ok xs j => if seesF (tkA ts j) 1 whereB = true then match sevF ts (fun _ i => eqF ts f i) f (j + 1) [] with
        | .bad c j => .bad c j
        | .ok qs j => endF ts (xs, qs) j
      else endF ts (xs, []) j
/-- The state of terms: its result's block, what it has read. -/
structure Tw (w : World) (pb : Nat) (tv : Value) (ts : List Tk) (xs : List Ex) (qs : List (ByteArray × Ex)) (rv qv : Value) (j : Nat) (W : World) : Prop where
  r : W.heap[w.heap.size]? = some (.cells #[.slice none 0 0, .slice none 0 0] 27)
  o : W.heap[w.heap.size + 1]? = some (.cells #[rv, qv] 27)
  m : Mo (· = pb) w W
  p : Ps W pb tv ts j
  x : Ro eltX (w.heap.size + 2) W rv xs
  q : Ro eltQ (w.heap.size + 2) W qv qs
  z : w.heap.size + 2 ≤ W.heap.size
theorem Tw.step {w W W' : World} {pb : Nat} {tv : Value} {ts : List Tk} {xs : List Ex} {qs : List (ByteArray × Ex)} {rv qv : Value} {j j' : Nat} (zp : pb < w.heap.size) (h : Tw w pb tv ts xs qs rv qv j W) (hm : Mo (· = pb) W W') (hp : Ps W' pb tv ts j') : Tw w pb tv ts xs qs rv qv j' W' :=
  ⟨(hm.block _ (lt_of_block h.r) (by omega)).trans h.r, (hm.block _ (lt_of_block h.o) (by omega)).trans h.o, h.m.trans hm (fun _ h => Or.inl h), hp, h.x.mo hm (fun k hk => by omega), h.q.mo hm (fun k hk => by omega), Nat.le_trans h.z hm.size⟩
theorem blk2x {w : World} {q : Nat} {u0 u1 : Value} {T : TypeId} (h : w.heap[q]? = some (.cells #[u0, u1] T)) : (w.cell? ⟨q, 0, none⟩ = some u0 ∧ w.cell? ⟨q, 1, none⟩ = some u1) ∧ w.frozen? ⟨q, 0, none⟩ = false ∧ w.frozen? ⟨q, 1, none⟩ = false := by
  refine ⟨⟨?_, ?_⟩, ?_, ?_⟩ <;> simp [World.cell?, World.frozen?, h]
theorem Tw.start (w : World) {pb : Nat} {tv : Value} {ts : List Tk} {i : Nat} (h : Ps w pb tv ts i) : Tw w pb tv ts [] [] (.slice none 0 0) (.slice none 0 0) i ((w.alloc (.cells #[.slice none 0 0, .slice none 0 0] 27)).alloc (.cells #[.slice none 0 0, .slice none 0 0] 27)) := by
  have h1 := heap_alloc_new w (.cells #[.slice none 0 0, .slice none 0 0] 27)
  have h2 := heap_alloc_new (w.alloc (.cells #[.slice none 0 0, .slice none 0 0] 27)) (.cells #[.slice none 0 0, .slice none 0 0] 27)
  simp only [World.size_alloc] at h2
  exact ⟨(Below.heap_alloc _ _ _ (by simp)).trans h1, h2, ((Mo.refl _ w).alloc _).alloc _, (h.below (below_alloc w _)).below (below_alloc _ _), Ro.nil _ _, Ro.nil _ _, by simp⟩
theorem Tw.roots {w W W' : World} {pb : Nat} {tv : Value} {ts : List Tk} {xs ys : List Ex} {qs : List (ByteArray × Ex)} {rv qv v : Value} {j j' D : Nat} (zp : pb < w.heap.size) (hts : ∀ ad n c, tv = .slice (some ad) n c → ad.block < w.heap.size) (h : Tw w pb tv ts xs qs rv qv j W) (hm : Mo (· = pb) W W') (hp : Ps W' pb tv ts j') (hD : w.heap.size + 2 ≤ D) (hv : Ro eltX D W' v ys) : Tw w pb tv ts ys qs v qv j' (W'.setCell ⟨w.heap.size + 1, 0, none⟩ v) := by
  have h' := h.step zp hm hp
  have hmq : Mo (· = w.heap.size + 1) W' (W'.setCell ⟨w.heap.size + 1, 0, none⟩ v) := (Mo.refl (· = w.heap.size + 1) W').setCell (p := ⟨w.heap.size + 1, 0, none⟩) (Or.inl rfl) _
  exact ⟨(hmq.block _ (lt_of_block h'.r) (by omega)).trans h'.r, heap_setCell_same W' _ 0 _ _ v h'.o, h'.m.trans hmq (fun b hb => Or.inr (by omega)), hp.mo hmq (fun b hb => by subst hb; exact ⟨by omega, fun ad n c htv e => by have := hts ad n c htv; omega⟩), (hv.keep hD (fun _ _ _ => rfl)).mo hmq (fun k hk => by omega), h'.q.mo hmq (fun k hk => by omega), by simpa using h'.z⟩
theorem Tw.eqs {w W W' : World} {pb : Nat} {tv : Value} {ts : List Tk} {xs : List Ex} {qs ys : List (ByteArray × Ex)} {rv qv v : Value} {j j' D : Nat} (zp : pb < w.heap.size) (hts : ∀ ad n c, tv = .slice (some ad) n c → ad.block < w.heap.size) (h : Tw w pb tv ts xs qs rv qv j W) (hm : Mo (· = pb) W W') (hp : Ps W' pb tv ts j') (hD : w.heap.size + 2 ≤ D) (hv : Ro eltQ D W' v ys) : Tw w pb tv ts xs ys rv v j' (W'.setCell ⟨w.heap.size + 1, 1, none⟩ v) := by
  have h' := h.step zp hm hp
  have hmq : Mo (· = w.heap.size + 1) W' (W'.setCell ⟨w.heap.size + 1, 1, none⟩ v) := (Mo.refl (· = w.heap.size + 1) W').setCell (p := ⟨w.heap.size + 1, 1, none⟩) (Or.inl rfl) _
  exact ⟨(hmq.block _ (lt_of_block h'.r) (by omega)).trans h'.r, heap_setCell_same W' _ 1 _ _ v h'.o, h'.m.trans hmq (fun b hb => Or.inr (by omega)), hp.mo hmq (fun b hb => by subst hb; exact ⟨by omega, fun ad n c htv e => by have := hts ad n c htv; omega⟩), h'.x.mo hmq (fun k hk => by omega), (hv.keep hD (fun _ _ _ => rfl)).mo hmq (fun k hk => by omega), by simpa using h'.z⟩
/-- What terms answers. -/
def Zm (w : World) (pb : Nat) (ts : List Tk) (r : Rd1 (List Ex × List (ByteArray × Ex))) (e : Ending) (w' : World) : Prop :=
  match r with
  | .ok (xs, qs) _ => ∃ ro rc qo qc, e = .returned (.agg #[.slice ro xs.length rc, .slice qo qs.length qc]) ∧ Mo (· = pb) w w' ∧ Ro eltX w.heap.size w' (.slice ro xs.length rc) xs ∧ Ro eltQ w.heap.size w' (.slice qo qs.length qc) qs
  | .bad c j => Gv (· = pb) w w' e c ((tkA ts j).at_ : Int)
theorem ret_terms {w : World} {fn : Func} {t : Tmp} (hfn : fn.results = #[.cell t 27]) {tmps : Array Value} {q : Nat} {u0 u1 : Value} (h4 : tmps[t]?.getD undef = .pointer (some ⟨q, 0, none⟩)) (hq : w.heap[q]? = some (.cells #[u0, u1] 27)) : (results fn tmps).run Tryz.prog w = .ok (.agg #[u0, u1]) w := by
  obtain ⟨⟨z0, z1⟩, _⟩ := blk2x hq
  simp [results, hfn, go_sem, h4, z0, z1]
/-- The end of terms. -/
theorem Tw.fin {w W : World} {pb : Nat} {tv : Value} {ts : List Tk} {xs : List Ex} {qs : List (ByteArray × Ex)} {ro qo : Option Addr} {rc qc : Nat} {j : Nat} (h : Tw w pb tv ts xs qs (.slice ro xs.length rc) (.slice qo qs.length qc) j W) :
    ((W.setCell ⟨w.heap.size, 0, none⟩ (.slice ro xs.length rc)).setCell ⟨w.heap.size, 1, none⟩ (.slice qo qs.length qc)).heap[w.heap.size]? = some (.cells #[.slice ro xs.length rc, .slice qo qs.length qc] 27) ∧ Mo (· = pb) w ((W.setCell ⟨w.heap.size, 0, none⟩ (.slice ro xs.length rc)).setCell ⟨w.heap.size, 1, none⟩ (.slice qo qs.length qc)) ∧ Ro eltX w.heap.size ((W.setCell ⟨w.heap.size, 0, none⟩ (.slice ro xs.length rc)).setCell ⟨w.heap.size, 1, none⟩ (.slice qo qs.length qc)) (.slice ro xs.length rc) xs ∧ Ro eltQ w.heap.size ((W.setCell ⟨w.heap.size, 0, none⟩ (.slice ro xs.length rc)).setCell ⟨w.heap.size, 1, none⟩ (.slice qo qs.length qc)) (.slice qo qs.length qc) qs := by
  have hmq : Mo (· = w.heap.size) W ((W.setCell ⟨w.heap.size, 0, none⟩ (.slice ro xs.length rc)).setCell ⟨w.heap.size, 1, none⟩ (.slice qo qs.length qc)) := ((Mo.refl (· = w.heap.size) W).setCell (p := ⟨w.heap.size, 0, none⟩) (Or.inl rfl) _).setCell (p := ⟨w.heap.size, 1, none⟩) (Or.inl rfl) _
  have h0 := heap_setCell_same W w.heap.size 0 _ _ (.slice ro xs.length rc) h.r
  have h1 := heap_setCell_same _ w.heap.size 1 _ _ (.slice qo qs.length qc) h0
  exact ⟨h1, h.m.trans hmq (fun b hb => Or.inr (by omega)), h.x.keep (by omega) (fun b hb hl => hmq.block b hl (by omega)), h.q.keep (by omega) (fun b hb hl => hmq.block b hl (by omega))⟩
theorem sev_wit {α : Type} {ts : List Tk} (hE : EndT ts) {rd : Nat → Nat → Rd1 α} (hw : ∀ k i, i < ts.length → wit ts i (rd k i)) : ∀ (f i : Nat) (xs : List α), i < ts.length → ∀ {ys : List α} {j : Nat}, sevF ts rd f i xs = .ok ys j → j < ts.length := by
  intro f
  induction f with
  | zero => intro i xs hi ys j h; rw [sevF] at h; cases h
  | succ f ih =>
    intro i xs hi ys j h
    rw [sevF] at h
    have hwi := hw xs.length i hi
    cases hr : rd xs.length i with
    | bad c5 j5 => rw [hr] at h; cases h
    | ok x j5 =>
      rw [hr] at h hwi
      replace h : (if mkA ts j5 44 = true then sevF ts rd f (j5 + 1) (xs ++ [x]) else .ok (xs ++ [x]) j5) = .ok ys j := h
      obtain ⟨h1, h2⟩ := hwi
      split at h
      · rename_i hm
        exact ih (j5 + 1) (xs ++ [x]) (mk_next hE h2 hm) h
      · cases h
        exact h2
theorem rootRd_wit {ts : List Tk} (hE : EndT ts) (f : Nat) : ∀ (_ : Nat) i, i < ts.length → wit ts i (termF ts f 0 i) := fun _ i hi => (all_wit hE f).1 0 i hi
/-- several over roots. -/
theorem roots_any {ts : List Tk} (hE : EndT ts) (hl : ts.length ≤ 10000000) {pb : Nat} {tv : Value} {f i : Nat} {w : World} (h : Ps w pb tv ts i) (hi : i < ts.length) (hf : nof (sevF ts (fun _ i => termF ts f 0 i) f i [])) :
    Calls Tryz.prog 60 #[.pointer (some ⟨pb, 0, none⟩), .func (.func 61) #[.pointer (some ⟨pb, 0, none⟩)] #[]] w (Sm eltX (· = pb) (fun _ _ => True) w pb tv ts (sevF ts (fun _ i => termF ts f 0 i) f i [])) := by
  have zp := lt_of_block h.b
  exact sevX_any hE hl (S := (· = pb)) (fs := #[.pointer (some ⟨pb, 0, none⟩)]) (cb := #[]) (enters_of Tryz.func61 (by kernel_rfl) rfl) rfl (fun k hk => by omega) (fun _ _ _ _ _ => trivial) (rootRd_wit hE f) (fun k i' w1 hp _ _ hi' hn => root_any (term_all hE hl pb tv (f + 1)) (by omega) hp hi' hn) h hi trivial f hf
/-- several over equations. -/
theorem eqs_any {ts : List Tk} (hE : EndT ts) (hl : ts.length ≤ 10000000) {pb : Nat} {tv : Value} {f i : Nat} {w : World} (h : Ps w pb tv ts i) (hi : i < ts.length) (hf : nof (sevF ts (fun _ i => eqF ts f i) f i [])) :
    Calls Tryz.prog 63 #[.pointer (some ⟨pb, 0, none⟩), .func (.func 64) #[.pointer (some ⟨pb, 0, none⟩)] #[]] w (Sm eltQ (· = pb) (fun _ _ => True) w pb tv ts (sevF ts (fun _ i => eqF ts f i) f i [])) := by
  have zp := lt_of_block h.b
  exact sevQ_any hE hl (S := (· = pb)) (fs := #[.pointer (some ⟨pb, 0, none⟩)]) (cb := #[]) (enters_of Tryz.func64 (by kernel_rfl) rfl) rfl (fun k hk => by omega) (fun _ _ _ _ _ => trivial) (fun _ i hi => wit_eqF hE f i hi) (fun k i' w1 hp _ _ hi' hn => eq_any hE hl hp hi' hn) h hi trivial f hf
theorem take_no {w : World} {pb : Nat} {tv : Value} {ts : List Tk} {i : Nat} (h : Ps w pb tv ts i) (hi : i < ts.length) (hl : ts.length ≤ 10000000) (k : Int) (s : ByteArray) (hs : seesF (ts.getD i tk0) k s = false) :
    Calls Tryz.prog 62 #[.pointer (some ⟨pb, 0, none⟩), .int .i64 k, .string s] w fun e w' => e = .returned (.bool false) ∧ w.grownBy w' (some pb) ∧ Ps w' pb tv ts i := by
  have ht := take_any h hi hl k s
  rw [hs] at ht
  exact ht
theorem take_yes {w : World} {pb : Nat} {tv : Value} {ts : List Tk} {i : Nat} (h : Ps w pb tv ts i) (hi : i < ts.length) (hl : ts.length ≤ 10000000) (k : Int) (s : ByteArray) (hs : seesF (ts.getD i tk0) k s = true) :
    Calls Tryz.prog 62 #[.pointer (some ⟨pb, 0, none⟩), .int .i64 k, .string s] w fun e w' => e = .returned (.bool true) ∧ w.grownBy w' (some pb) ∧ Ps w' pb tv ts (i + 1) := by
  have ht := take_any h hi hl k s
  rw [hs] at ht
  exact ht
set_option maxRecDepth 100000 in
set_option maxHeartbeats 8000000 in
theorem terms_none {ts : List Tk} (hl : ts.length ≤ 10000000) {pb : Nat} {tv : Value} {w : World} {i : Nat} (h : Ps w pb tv ts i) (hi : i < ts.length) (hk : (tkA ts i).kind = 0) :
    Calls Tryz.prog 28 #[.pointer (some ⟨pb, 0, none⟩)] w (Zm w pb ts (.ok ([], []) (i + 1))) := by
  have zp := lt_of_block h.b
  have hts := hid (h.old (by omega))
  have HT0 := hid (Tw.start w h)
  have hmf : ∀ (fn : Fn) (first cap : Array Value) (w : World), (Instr.makeFunc fn first cap).run Tryz.prog w = .ok (.func fn first cap) w := fun _ _ _ _ => rfl
  have hkd := kind_any HT0.out.p hi
  have hwa := hid (fun w1 (hp : Ps w1 pb tv ts i) => want_yes hp hi hl 0 hk)
  rw [show (ts.getD i tk0).kind = 0 from hk] at hkd
  unfold tokV at hwa
  clear hk
  generalize ts.getD i tk0 = t at *
  go_enter Tryz.func28, Tryz.ntmps28
  go_wp2_with (first
    | (go_at_call 59; go_must (refine hkd.mono ?_; clear hkd; rintro e w1 ⟨rfl, hb1⟩; have HT1 := hid (HT0.out.step zp (Mo.ofBelow hb1) (HT0.out.p.below hb1))))
    | (go_at_call 65; go_must (refine (hwa.out _ HT1.out.p).mono ?_; clear hwa; rintro e w9 ⟨rfl, hg9, hp9⟩; have HT9 := hid (HT1.out.step zp (Mo.ofGrown hg9 rfl) hp9); obtain ⟨⟨a0, a1⟩, _⟩ := blk2x HT9.out.o; obtain ⟨⟨c0, c1⟩, d0, d1⟩ := blk2x HT9.out.r; have zo9 := lt_of_block HT9.out.o; have zr9 := lt_of_block HT9.out.r)))
  obtain ⟨g1, g2, g3, g4⟩ := Tw.fin (ro := none) (rc := 0) (qo := none) (qc := 0) HT9.out
  exact bodyPost_ret (ret_terms Tryz.results28 (by rfl) g1) rfl ⟨_, _, _, _, rfl, g2, g3, g4⟩
set_option maxRecDepth 100000 in
set_option maxHeartbeats 8000000 in
theorem terms_rb {ts : List Tk} (hE : EndT ts) (hl : ts.length ≤ 10000000) {pb : Nat} {tv : Value} {w : World} {i : Nat} (h : Ps w pb tv ts i) (hi : i < ts.length) (hk : (tkA ts i).kind ≠ 0) {f : Nat} {c5 : Int} {j : Nat} (hc : c5 ≠ 0) (hs : sevF ts (fun _ i => termF ts f 0 i) f i [] = .bad c5 j) :
    Calls Tryz.prog 28 #[.pointer (some ⟨pb, 0, none⟩)] w (Zm w pb ts (.bad c5 j)) := by
  have zp := lt_of_block h.b
  have hts := hid (h.old (by omega))
  have HT0 := hid (Tw.start w h)
  have hmf : ∀ (fn : Fn) (first cap : Array Value) (w : World), (Instr.makeFunc fn first cap).run Tryz.prog w = .ok (.func fn first cap) w := fun _ _ _ _ => rfl
  have hkd := kind_any HT0.out.p hi
  have hkn : ((ts.getD i tk0).kind != 0) = true := by simpa [tkA] using hk
  have hsv := hid (fun w1 (hp : Ps w1 pb tv ts i) => roots_any (f := f) hE hl hp hi (by rw [hs]; exact hc))
  rw [hs] at hsv
  clear hk
  generalize ts.getD i tk0 = t0 at *
  go_enter Tryz.func28, Tryz.ntmps28
  go_wp2_with (first
    | (go_at_call 59; go_must (refine hkd.mono ?_; clear hkd; rintro e w1 ⟨rfl, hb1⟩; have HT1 := hid (HT0.out.step zp (Mo.ofBelow hb1) (HT0.out.p.below hb1))))
    | (go_at_call 60; go_must (refine (hsv.out _ HT1.out.p).mono ?_; clear hsv; rintro e w2 ⟨b2, rfl, hb2, hc2, hd2⟩)))
  exact ⟨rfl, b2, rfl, hb2, Nat.le_trans HT1.out.m.size hc2, HT1.out.m.trans hd2 (fun _ h => Or.inl h)⟩
set_option maxRecDepth 100000 in
set_option maxHeartbeats 8000000 in
theorem terms_r {ts : List Tk} (hE : EndT ts) (hl : ts.length ≤ 10000000) {pb : Nat} {tv : Value} {w : World} {i : Nat} (h : Ps w pb tv ts i) (hi : i < ts.length) (hk : (tkA ts i).kind ≠ 0) {f : Nat} {xs : List Ex} {j : Nat} (hs : sevF ts (fun _ i => termF ts f 0 i) f i [] = .ok xs j) (hw : seesF (tkA ts j) 1 whereB = false) (he : (tkA ts j).kind = 0) :
    Calls Tryz.prog 28 #[.pointer (some ⟨pb, 0, none⟩)] w (Zm w pb ts (.ok (xs, []) (j + 1))) := by
  have zp := lt_of_block h.b
  have hts := hid (h.old (by omega))
  have HT0 := hid (Tw.start w h)
  have hmf : ∀ (fn : Fn) (first cap : Array Value) (w : World), (Instr.makeFunc fn first cap).run Tryz.prog w = .ok (.func fn first cap) w := fun _ _ _ _ => rfl
  have hkd := kind_any HT0.out.p hi
  have hj : j < ts.length := (sev_wit hE (rootRd_wit hE f) f i [] hi hs)
  have hkn : ((ts.getD i tk0).kind != 0) = true := by simpa [tkA] using hk
  have hsv := hid (fun w1 (hp : Ps w1 pb tv ts i) => roots_any (f := f) hE hl hp hi (by rw [hs]; exact trivial))
  rw [hs] at hsv
  clear hk
  generalize ts.getD i tk0 = t0 at *
  have htk := hid (fun w1 (hp : Ps w1 pb tv ts j) => take_no hp hj hl 1 whereB hw)
  have hwa := hid (fun w1 (hp : Ps w1 pb tv ts j) => want_yes hp hj hl 0 he)
  unfold tokV at hwa
  clear hw he
  generalize ts.getD j tk0 = t1 at *
  go_enter Tryz.func28, Tryz.ntmps28
  go_wp2_with (first
    | (go_at_call 59; go_must (refine hkd.mono ?_; clear hkd; rintro e w1 ⟨rfl, hb1⟩; have HT1 := hid (HT0.out.step zp (Mo.ofBelow hb1) (HT0.out.p.below hb1))))
    | (go_at_call 60; go_must (refine (hsv.out _ HT1.out.p).mono ?_; clear hsv; rintro e w2 ⟨v2, rfl, hm2, hp2, _, hx2⟩; obtain ⟨ro, rc, rfl⟩ := hx2.slice; have zo2 := lt_of_block ((HT1.out.step zp hm2 hp2).o); obtain ⟨⟨o0, o1⟩, f0, f1⟩ := blk2x ((HT1.out.step zp hm2 hp2).o); have HT2 := hid (HT1.out.roots zp hts.out hm2 hp2 HT1.out.z hx2); clear hx2))
    | (go_at_call 62; go_must (refine (htk.out _ HT2.out.p).mono ?_; clear htk; rintro e w3 ⟨rfl, hg3, hp3⟩; have HT3 := hid (HT2.out.step zp (Mo.ofGrown hg3 rfl) hp3)))
    | (go_at_call 65; go_must (refine (hwa.out _ HT3.out.p).mono ?_; clear hwa; rintro e w9 ⟨rfl, hg9, hp9⟩; have HT9 := hid (HT3.out.step zp (Mo.ofGrown hg9 rfl) hp9); obtain ⟨⟨a0, a1⟩, _⟩ := blk2x HT9.out.o; obtain ⟨⟨c0, c1⟩, d0, d1⟩ := blk2x HT9.out.r; have zo9 := lt_of_block HT9.out.o; have zr9 := lt_of_block HT9.out.r)))
  obtain ⟨g1, g2, g3, g4⟩ := Tw.fin (ro := ro) (rc := rc) (qo := none) (qc := 0) HT9.out
  exact bodyPost_ret (ret_terms Tryz.results28 (by rfl) g1) rfl ⟨_, _, _, _, rfl, g2, g3, g4⟩
set_option maxRecDepth 100000 in
set_option maxHeartbeats 8000000 in
theorem terms_rn {ts : List Tk} (hE : EndT ts) (hl : ts.length ≤ 10000000) {pb : Nat} {tv : Value} {w : World} {i : Nat} (h : Ps w pb tv ts i) (hi : i < ts.length) (hk : (tkA ts i).kind ≠ 0) {f : Nat} {xs : List Ex} {j : Nat} (hs : sevF ts (fun _ i => termF ts f 0 i) f i [] = .ok xs j) (hw : seesF (tkA ts j) 1 whereB = false) (he : (tkA ts j).kind ≠ 0) :
    Calls Tryz.prog 28 #[.pointer (some ⟨pb, 0, none⟩)] w (Zm w pb ts (.bad (mustC (tkA ts j)) j)) := by
  have zp := lt_of_block h.b
  have hts := hid (h.old (by omega))
  have HT0 := hid (Tw.start w h)
  have hmf : ∀ (fn : Fn) (first cap : Array Value) (w : World), (Instr.makeFunc fn first cap).run Tryz.prog w = .ok (.func fn first cap) w := fun _ _ _ _ => rfl
  have hkd := kind_any HT0.out.p hi
  have hj : j < ts.length := (sev_wit hE (rootRd_wit hE f) f i [] hi hs)
  have hkn : ((ts.getD i tk0).kind != 0) = true := by simpa [tkA] using hk
  have hsv := hid (fun w1 (hp : Ps w1 pb tv ts i) => roots_any (f := f) hE hl hp hi (by rw [hs]; exact trivial))
  rw [hs] at hsv
  clear hk
  generalize ts.getD i tk0 = t0 at *
  have htk := hid (fun w1 (hp : Ps w1 pb tv ts j) => take_no hp hj hl 1 whereB hw)
  have hwa : Hid (∀ w1, Ps w1 pb tv ts j → Calls Tryz.prog 65 #[.pointer (some ⟨pb, 0, none⟩), .int .i64 0] w1 fun e w' => Gave w1 w' e (mustC (tkA ts j)) ((tkA ts j).at_ : Int)) := fun w1 hp => want_no hp hj 0 he
  clear hw he
  go_enter Tryz.func28, Tryz.ntmps28
  go_wp2_with (first
    | (go_at_call 59; go_must (refine hkd.mono ?_; clear hkd; rintro e w1 ⟨rfl, hb1⟩; have HT1 := hid (HT0.out.step zp (Mo.ofBelow hb1) (HT0.out.p.below hb1))))
    | (go_at_call 60; go_must (refine (hsv.out _ HT1.out.p).mono ?_; clear hsv; rintro e w2 ⟨v2, rfl, hm2, hp2, _, hx2⟩; obtain ⟨ro, rc, rfl⟩ := hx2.slice; have zo2 := lt_of_block ((HT1.out.step zp hm2 hp2).o); obtain ⟨⟨o0, o1⟩, f0, f1⟩ := blk2x ((HT1.out.step zp hm2 hp2).o); have HT2 := hid (HT1.out.roots zp hts.out hm2 hp2 HT1.out.z hx2); clear hx2))
    | (go_at_call 62; go_must (refine (htk.out _ HT2.out.p).mono ?_; clear htk; rintro e w3 ⟨rfl, hg3, hp3⟩; have HT3 := hid (HT2.out.step zp (Mo.ofGrown hg3 rfl) hp3)))
    | (go_at_call 65; go_must (refine (hwa.out _ HT3.out.p).mono ?_; rintro e w9 ⟨b9, rfl, hb9, hc9, hd9⟩)))
  exact ⟨rfl, b9, rfl, hb9, Nat.le_trans HT3.out.m.size hc9, HT3.out.m.trans (Mo.ofBelow hd9 : Mo (· = pb) _ w9) (fun _ h => Or.inl h)⟩
set_option maxRecDepth 100000 in
set_option maxHeartbeats 8000000 in
theorem terms_eb {ts : List Tk} (hE : EndT ts) (hl : ts.length ≤ 10000000) {pb : Nat} {tv : Value} {w : World} {i : Nat} (h : Ps w pb tv ts i) (hi : i < ts.length) (hk : (tkA ts i).kind ≠ 0) {f : Nat} {xs : List Ex} {j : Nat} (hs : sevF ts (fun _ i => termF ts f 0 i) f i [] = .ok xs j) (hw : seesF (tkA ts j) 1 whereB = true) {c5 : Int} {j5 : Nat} (hc : c5 ≠ 0) (hq : sevF ts (fun _ i => eqF ts f i) f (j + 1) [] = .bad c5 j5) :
    Calls Tryz.prog 28 #[.pointer (some ⟨pb, 0, none⟩)] w (Zm w pb ts (.bad c5 j5)) := by
  have zp := lt_of_block h.b
  have hts := hid (h.old (by omega))
  have HT0 := hid (Tw.start w h)
  have hmf : ∀ (fn : Fn) (first cap : Array Value) (w : World), (Instr.makeFunc fn first cap).run Tryz.prog w = .ok (.func fn first cap) w := fun _ _ _ _ => rfl
  have hkd := kind_any HT0.out.p hi
  have hj : j < ts.length := (sev_wit hE (rootRd_wit hE f) f i [] hi hs)
  have hkn : ((ts.getD i tk0).kind != 0) = true := by simpa [tkA] using hk
  have hsv := hid (fun w1 (hp : Ps w1 pb tv ts i) => roots_any (f := f) hE hl hp hi (by rw [hs]; exact trivial))
  rw [hs] at hsv
  clear hk
  generalize ts.getD i tk0 = t0 at *
  have htk := hid (fun w1 (hp : Ps w1 pb tv ts j) => take_yes hp hj hl 1 whereB hw)
  have hj1 : j + 1 < ts.length := hE j hj (by
    unfold seesF at hw
    simp at hw
    show (ts.getD j tk0).kind ≠ 0
    have e : (ts.getD j tk0).kind = 1 := hw.1
    rw [e]
    decide)
  have hsq := hid (fun w1 (hp : Ps w1 pb tv ts (j + 1)) => eqs_any (f := f) hE hl hp hj1 (by rw [hq]; exact hc))
  rw [hq] at hsq
  clear hw
  generalize ts.getD j tk0 = t1 at *
  go_enter Tryz.func28, Tryz.ntmps28
  go_wp2_with (first
    | (go_at_call 59; go_must (refine hkd.mono ?_; clear hkd; rintro e w1 ⟨rfl, hb1⟩; have HT1 := hid (HT0.out.step zp (Mo.ofBelow hb1) (HT0.out.p.below hb1))))
    | (go_at_call 60; go_must (refine (hsv.out _ HT1.out.p).mono ?_; clear hsv; rintro e w2 ⟨v2, rfl, hm2, hp2, _, hx2⟩; obtain ⟨ro, rc, rfl⟩ := hx2.slice; have zo2 := lt_of_block ((HT1.out.step zp hm2 hp2).o); obtain ⟨⟨o0, o1⟩, f0, f1⟩ := blk2x ((HT1.out.step zp hm2 hp2).o); have HT2 := hid (HT1.out.roots zp hts.out hm2 hp2 HT1.out.z hx2); clear hx2))
    | (go_at_call 62; go_must (refine (htk.out _ HT2.out.p).mono ?_; clear htk; rintro e w3 ⟨rfl, hg3, hp3⟩; have HT3 := hid (HT2.out.step zp (Mo.ofGrown hg3 rfl) hp3)))
    | (go_at_call 63; go_must (refine (hsq.out _ HT3.out.p).mono ?_; clear hsq; rintro e w4 ⟨b4, rfl, hb4, hc4, hd4⟩)))
  exact ⟨rfl, b4, rfl, hb4, Nat.le_trans HT3.out.m.size hc4, HT3.out.m.trans hd4 (fun _ h => Or.inl h)⟩
set_option maxRecDepth 100000 in
set_option maxHeartbeats 8000000 in
theorem terms_e {ts : List Tk} (hE : EndT ts) (hl : ts.length ≤ 10000000) {pb : Nat} {tv : Value} {w : World} {i : Nat} (h : Ps w pb tv ts i) (hi : i < ts.length) (hk : (tkA ts i).kind ≠ 0) {f : Nat} {xs : List Ex} {j : Nat} (hs : sevF ts (fun _ i => termF ts f 0 i) f i [] = .ok xs j) (hw : seesF (tkA ts j) 1 whereB = true) {qs : List (ByteArray × Ex)} {j5 : Nat} (hq : sevF ts (fun _ i => eqF ts f i) f (j + 1) [] = .ok qs j5) (he : (tkA ts j5).kind = 0) :
    Calls Tryz.prog 28 #[.pointer (some ⟨pb, 0, none⟩)] w (Zm w pb ts (.ok (xs, qs) (j5 + 1))) := by
  have zp := lt_of_block h.b
  have hts := hid (h.old (by omega))
  have HT0 := hid (Tw.start w h)
  have hmf : ∀ (fn : Fn) (first cap : Array Value) (w : World), (Instr.makeFunc fn first cap).run Tryz.prog w = .ok (.func fn first cap) w := fun _ _ _ _ => rfl
  have hkd := kind_any HT0.out.p hi
  have hj : j < ts.length := (sev_wit hE (rootRd_wit hE f) f i [] hi hs)
  have hkn : ((ts.getD i tk0).kind != 0) = true := by simpa [tkA] using hk
  have hsv := hid (fun w1 (hp : Ps w1 pb tv ts i) => roots_any (f := f) hE hl hp hi (by rw [hs]; exact trivial))
  rw [hs] at hsv
  clear hk
  generalize ts.getD i tk0 = t0 at *
  have htk := hid (fun w1 (hp : Ps w1 pb tv ts j) => take_yes hp hj hl 1 whereB hw)
  have hj1 : j + 1 < ts.length := hE j hj (by
    unfold seesF at hw
    simp at hw
    show (ts.getD j tk0).kind ≠ 0
    have e : (ts.getD j tk0).kind = 1 := hw.1
    rw [e]
    decide)
  have hj5 : j5 < ts.length := sev_wit hE (fun _ i hi => wit_eqF hE f i hi) f (j + 1) [] hj1 hq
  have hsq := hid (fun w1 (hp : Ps w1 pb tv ts (j + 1)) => eqs_any (f := f) hE hl hp hj1 (by rw [hq]; exact trivial))
  rw [hq] at hsq
  clear hw
  generalize ts.getD j tk0 = t1 at *
  have hwa := hid (fun w1 (hp : Ps w1 pb tv ts j5) => want_yes hp hj5 hl 0 he)
  unfold tokV at hwa
  clear he
  generalize ts.getD j5 tk0 = t5 at *
  go_enter Tryz.func28, Tryz.ntmps28
  go_wp2_with (first
    | (go_at_call 59; go_must (refine hkd.mono ?_; clear hkd; rintro e w1 ⟨rfl, hb1⟩; have HT1 := hid (HT0.out.step zp (Mo.ofBelow hb1) (HT0.out.p.below hb1))))
    | (go_at_call 60; go_must (refine (hsv.out _ HT1.out.p).mono ?_; clear hsv; rintro e w2 ⟨v2, rfl, hm2, hp2, _, hx2⟩; obtain ⟨ro, rc, rfl⟩ := hx2.slice; have zo2 := lt_of_block ((HT1.out.step zp hm2 hp2).o); obtain ⟨⟨o0, o1⟩, f0, f1⟩ := blk2x ((HT1.out.step zp hm2 hp2).o); have HT2 := hid (HT1.out.roots zp hts.out hm2 hp2 HT1.out.z hx2); clear hx2))
    | (go_at_call 62; go_must (refine (htk.out _ HT2.out.p).mono ?_; clear htk; rintro e w3 ⟨rfl, hg3, hp3⟩; have HT3 := hid (HT2.out.step zp (Mo.ofGrown hg3 rfl) hp3)))
    | (go_at_call 63; go_must (refine (hsq.out _ HT3.out.p).mono ?_; clear hsq; rintro e w4 ⟨v4, rfl, hm4, hp4, _, hx4⟩; obtain ⟨qo, qc, rfl⟩ := hx4.slice; have zo4 := lt_of_block ((HT3.out.step zp hm4 hp4).o); obtain ⟨⟨o4, o5⟩, f4, f5⟩ := blk2x ((HT3.out.step zp hm4 hp4).o); have HT4 := hid (HT3.out.eqs zp hts.out hm4 hp4 HT3.out.z hx4); clear hx4))
    | (go_at_call 65; go_must (refine (hwa.out _ HT4.out.p).mono ?_; clear hwa; rintro e w9 ⟨rfl, hg9, hp9⟩; have HT9 := hid (HT4.out.step zp (Mo.ofGrown hg9 rfl) hp9); obtain ⟨⟨a0, a1⟩, _⟩ := blk2x HT9.out.o; obtain ⟨⟨c0, c1⟩, d0, d1⟩ := blk2x HT9.out.r; have zo9 := lt_of_block HT9.out.o; have zr9 := lt_of_block HT9.out.r)))
  obtain ⟨g1, g2, g3, g4⟩ := Tw.fin (ro := ro) (rc := rc) (qo := qo) (qc := qc) HT9.out
  exact bodyPost_ret (ret_terms Tryz.results28 (by rfl) g1) rfl ⟨_, _, _, _, rfl, g2, g3, g4⟩
set_option maxRecDepth 100000 in
set_option maxHeartbeats 8000000 in
theorem terms_en {ts : List Tk} (hE : EndT ts) (hl : ts.length ≤ 10000000) {pb : Nat} {tv : Value} {w : World} {i : Nat} (h : Ps w pb tv ts i) (hi : i < ts.length) (hk : (tkA ts i).kind ≠ 0) {f : Nat} {xs : List Ex} {j : Nat} (hs : sevF ts (fun _ i => termF ts f 0 i) f i [] = .ok xs j) (hw : seesF (tkA ts j) 1 whereB = true) {qs : List (ByteArray × Ex)} {j5 : Nat} (hq : sevF ts (fun _ i => eqF ts f i) f (j + 1) [] = .ok qs j5) (he : (tkA ts j5).kind ≠ 0) :
    Calls Tryz.prog 28 #[.pointer (some ⟨pb, 0, none⟩)] w (Zm w pb ts (.bad (mustC (tkA ts j5)) j5)) := by
  have zp := lt_of_block h.b
  have hts := hid (h.old (by omega))
  have HT0 := hid (Tw.start w h)
  have hmf : ∀ (fn : Fn) (first cap : Array Value) (w : World), (Instr.makeFunc fn first cap).run Tryz.prog w = .ok (.func fn first cap) w := fun _ _ _ _ => rfl
  have hkd := kind_any HT0.out.p hi
  have hj : j < ts.length := (sev_wit hE (rootRd_wit hE f) f i [] hi hs)
  have hkn : ((ts.getD i tk0).kind != 0) = true := by simpa [tkA] using hk
  have hsv := hid (fun w1 (hp : Ps w1 pb tv ts i) => roots_any (f := f) hE hl hp hi (by rw [hs]; exact trivial))
  rw [hs] at hsv
  clear hk
  generalize ts.getD i tk0 = t0 at *
  have htk := hid (fun w1 (hp : Ps w1 pb tv ts j) => take_yes hp hj hl 1 whereB hw)
  have hj1 : j + 1 < ts.length := hE j hj (by
    unfold seesF at hw
    simp at hw
    show (ts.getD j tk0).kind ≠ 0
    have e : (ts.getD j tk0).kind = 1 := hw.1
    rw [e]
    decide)
  have hj5 : j5 < ts.length := sev_wit hE (fun _ i hi => wit_eqF hE f i hi) f (j + 1) [] hj1 hq
  have hsq := hid (fun w1 (hp : Ps w1 pb tv ts (j + 1)) => eqs_any (f := f) hE hl hp hj1 (by rw [hq]; exact trivial))
  rw [hq] at hsq
  clear hw
  generalize ts.getD j tk0 = t1 at *
  have hwa : Hid (∀ w1, Ps w1 pb tv ts j5 → Calls Tryz.prog 65 #[.pointer (some ⟨pb, 0, none⟩), .int .i64 0] w1 fun e w' => Gave w1 w' e (mustC (tkA ts j5)) ((tkA ts j5).at_ : Int)) := fun w1 hp => want_no hp hj5 0 he
  clear he
  go_enter Tryz.func28, Tryz.ntmps28
  go_wp2_with (first
    | (go_at_call 59; go_must (refine hkd.mono ?_; clear hkd; rintro e w1 ⟨rfl, hb1⟩; have HT1 := hid (HT0.out.step zp (Mo.ofBelow hb1) (HT0.out.p.below hb1))))
    | (go_at_call 60; go_must (refine (hsv.out _ HT1.out.p).mono ?_; clear hsv; rintro e w2 ⟨v2, rfl, hm2, hp2, _, hx2⟩; obtain ⟨ro, rc, rfl⟩ := hx2.slice; have zo2 := lt_of_block ((HT1.out.step zp hm2 hp2).o); obtain ⟨⟨o0, o1⟩, f0, f1⟩ := blk2x ((HT1.out.step zp hm2 hp2).o); have HT2 := hid (HT1.out.roots zp hts.out hm2 hp2 HT1.out.z hx2); clear hx2))
    | (go_at_call 62; go_must (refine (htk.out _ HT2.out.p).mono ?_; clear htk; rintro e w3 ⟨rfl, hg3, hp3⟩; have HT3 := hid (HT2.out.step zp (Mo.ofGrown hg3 rfl) hp3)))
    | (go_at_call 63; go_must (refine (hsq.out _ HT3.out.p).mono ?_; clear hsq; rintro e w4 ⟨v4, rfl, hm4, hp4, _, hx4⟩; obtain ⟨qo, qc, rfl⟩ := hx4.slice; have zo4 := lt_of_block ((HT3.out.step zp hm4 hp4).o); obtain ⟨⟨o4, o5⟩, f4, f5⟩ := blk2x ((HT3.out.step zp hm4 hp4).o); have HT4 := hid (HT3.out.eqs zp hts.out hm4 hp4 HT3.out.z hx4); clear hx4))
    | (go_at_call 65; go_must (refine (hwa.out _ HT4.out.p).mono ?_; rintro e w9 ⟨b9, rfl, hb9, hc9, hd9⟩)))
  exact ⟨rfl, b9, rfl, hb9, Nat.le_trans HT4.out.m.size hc9, HT4.out.m.trans (Mo.ofBelow hd9 : Mo (· = pb) _ w9) (fun _ h => Or.inl h)⟩
/-- terms at every place. -/
theorem terms_all {ts : List Tk} (hE : EndT ts) (hl : ts.length ≤ 10000000) {pb : Nat} {tv : Value} {w : World} {i : Nat} (h : Ps w pb tv ts i) (hi : i < ts.length) (f : Nat) (hn : nof (termsF ts f i)) :
    Calls Tryz.prog 28 #[.pointer (some ⟨pb, 0, none⟩)] w (Zm w pb ts (termsF ts f i)) := by
  unfold termsF at hn ⊢
  by_cases hk : (tkA ts i).kind = 0
  · rw [if_pos hk]
    unfold endF
    rw [if_pos hk]
    exact terms_none hl h hi hk
  · rw [if_neg hk] at hn ⊢
    cases hs : sevF ts (fun _ i => termF ts f 0 i) f i [] with
    | bad c5 j =>
      rw [hs] at hn
      exact terms_rb hE hl h hi hk hn hs
    | ok xs j =>
      rw [hs] at hn
      cases hw : seesF (tkA ts j) 1 whereB with
      | false =>
        show Calls _ _ _ _ (Zm w pb ts (if seesF (tkA ts j) 1 whereB = true then _ else endF ts (xs, []) j))
        rw [hw, if_neg (by decide)]
        unfold endF
        by_cases he : (tkA ts j).kind = 0
        · rw [if_pos he]
          exact terms_r hE hl h hi hk hs hw he
        · rw [if_neg he]
          exact terms_rn hE hl h hi hk hs hw he
      | true =>
        replace hn : nof (if seesF (tkA ts j) 1 whereB = true then (match sevF ts (fun _ i => eqF ts f i) f (j + 1) [] with
          | .bad c j => .bad c j
          | .ok qs j => endF ts (xs, qs) j) else endF ts (xs, []) j) := hn
        show Calls _ _ _ _ (Zm w pb ts (if seesF (tkA ts j) 1 whereB = true then (match sevF ts (fun _ i => eqF ts f i) f (j + 1) [] with
          | .bad c j => .bad c j
          | .ok qs j => endF ts (xs, qs) j) else endF ts (xs, []) j))
        rw [hw, if_pos rfl] at hn
        rw [hw, if_pos rfl]
        cases hq : sevF ts (fun _ i => eqF ts f i) f (j + 1) [] with
        | bad c5 j5 =>
          rw [hq] at hn
          exact terms_eb hE hl h hi hk hs hw hn hq
        | ok qs j5 =>
          show Calls _ _ _ _ (Zm w pb ts (endF ts (xs, qs) j5))
          unfold endF
          by_cases he : (tkA ts j5).kind = 0
          · rw [if_pos he]
            exact terms_e hE hl h hi hk hs hw hq he
          · rw [if_neg he]
            exact terms_en hE hl h hi hk hs hw hq he
end Go.Proofs.YtklfnphkepfmaaaGreatDoor
