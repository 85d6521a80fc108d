/- One call of a script: Words, Fill and Check, of the program's arena and of the document's. -/
import Derived.Test.YtmpnniabgkhkjaaArStep
namespace Go.Proofs.Ytmpnniabgkhkjaa
open Go.ChangeShapes Go.WideShapes Go.ChangeAt Go.RowKit
attribute [local go_sem ↓] Go.wp_at_zero Go.wp_at_succ

theorem own_keep {w w' : World} {B n : Nat} {e : TypeId} {u : Value} {xs : List Value} {ks : List Nat} (h : w.ownsRow B e 1 u n xs) (hm : Mod ks w w') (hk : ∀ k ∈ ks, u.ownBlock ≠ some k) : w'.ownsRow B e 1 u n xs := by
  refine ⟨h.1, ?_⟩
  rcases h.2 with h0 | ⟨g, cap, cur, rfl, hb, hg, rest⟩
  · exact Or.inl h0
  · refine Or.inr ⟨g, cap, cur, rfl, hb, ?_, rest⟩
    rw [hm.block g (lt_of_block hg) (fun hx => hk g hx rfl)]
    exact hg
set_option maxRecDepth 100000 in
set_option maxHeartbeats 3200000 in
theorem step_words {w : World} {B pa pb : Nat} {m : Int} {va vb : Value} {l : List Int} (h : Two w B pa pb m va vb l) (hB : B ≤ w.heap.size) (n u : Int) (s : Value) (x : List Int) (hs : Rd w s x) :
    Calls Try.prog 14 #[.pointer (some ⟨pa, 0, none⟩), .pointer (some ⟨pb, 0, none⟩), .agg #[.int .i64 4, .int .i64 n, .int .u64 u, s]] w fun e w' => e = .returned (.bool true) ∧ Done w w' B pa pb m := by
  obtain ⟨sa, sc, rfl⟩ := hs.shape
  have hbW : Below w.heap.size w (w.alloc (.cells #[.int .i64 4, .int .i64 n, .int .u64 u, .slice sa x.length sc] 40)) := below_alloc _ _
  have hbox := box4_new w (.int .i64 4) (.int .i64 n) (.int .u64 u) (.slice sa x.length sc) 40
  have hT := h.below hbW
  have hs1 := hs.below hbW
  have nA := not_foot h.a (Nat.le_refl _)
  have nB := not_foot h.b (Nat.le_refl _)
  have hBs : B ≤ w.heap.size + 1 := by omega
  have hbc0 := h.b.c0
  have hbl := h.b.lt
  have hl6 : l.length ≤ 4611686018427387904 := by have := h.a.len; have := h.a.m2; omega
  have hg := h.a.rng
  obtain ⟨ab, cb, hvb, _⟩ := h.b.val
  have d1 := h.b.c1
  rw [hvb] at d1
  have HV : Hid (vb = .slice ab l.length cb) := hvb
  clear hvb
  go_enter Try.func14, Try.ntmps14
  go_wp2_with (first
    | fail)
  go_region_law
    (first
      | (go_simp; go_at_call 18; refine (words_any hT.a.drew).mono ?_; rintro e w6 ⟨rfl, ho6, hN⟩; replace hN := undr hN; have hT6 := hT.below hN; have hx : Rd w6 (.slice (some ⟨w.heap.size + 1, 0, none⟩) l.length l.length) l := (by simpa using Rd.ofOwn ho6 hg); have hy := hT6.b.rd; rw [HV.out] at hy; have d6 := hT6.b.c1; rw [HV.out] at d6; clear ho6)
      | (go_simp; go_at_call 17; refine (same_b (w := w6) hx hy hl6).mono ?_; rintro e w7 ⟨rfl, hN7⟩; have hB7 := below_next (below_next (hbW.mono hB) hB hN) hB hN7; have hT7 := hT6.below hN7))
  all_goals go_wp2
  all_goals
    go_ret
    exact ⟨rfl, hB7, _, _, _, hT7⟩
set_option maxRecDepth 100000 in
set_option maxHeartbeats 3200000 in
theorem step_check {w : World} {B pa pb : Nat} {m : Int} {va vb : Value} {l : List Int} (h : Two w B pa pb m va vb l) (hB : B ≤ w.heap.size) (n u : Int) (s : Value) (x : List Int) (hs : Rd w s x) :
    Calls Try.prog 14 #[.pointer (some ⟨pa, 0, none⟩), .pointer (some ⟨pb, 0, none⟩), .agg #[.int .i64 6, .int .i64 n, .int .u64 u, s]] w fun e w' => e = .returned (.bool true) ∧ Done w w' B pa pb m := by
  obtain ⟨sa, sc, rfl⟩ := hs.shape
  have hbW : Below w.heap.size w (w.alloc (.cells #[.int .i64 6, .int .i64 n, .int .u64 u, .slice sa x.length sc] 40)) := below_alloc _ _
  have hbox := box4_new w (.int .i64 6) (.int .i64 n) (.int .u64 u) (.slice sa x.length sc) 40
  have hT := h.below hbW
  have hs1 := hs.below hbW
  have nA := not_foot h.a (Nat.le_refl _)
  have nB := not_foot h.b (Nat.le_refl _)
  have hBs : B ≤ w.heap.size + 1 := by omega
  have hbc0 := h.b.c0
  have hbl := h.b.lt
  have hl6 : l.length ≤ 4611686018427387904 := by have := h.a.len; have := h.a.m2; omega
  have hg := h.a.rng
  obtain ⟨ab, cb, hvb, _⟩ := h.b.val
  have d1 := h.b.c1
  rw [hvb] at d1
  have HV : Hid (vb = .slice ab l.length cb) := hvb
  clear hvb
  obtain ⟨c, a, hR⟩ := checkR_ex l
  have HR : Hid (CheckR l c a) := hR
  clear hR
  go_enter Try.func14, Try.ntmps14
  go_wp2_with (first
    | fail)
  go_region_law
    (first
      | (go_simp; go_at_call 22; refine (acheck_r hT.a.drew HR.out).mono ?_; rintro e w6 ⟨er, rfl, hE, hN⟩; replace hN := undr hN; have hT6 := hT.below hN; have hy := hT6.b.rd; rw [HV.out] at hy; have d6 := hT6.b.c1; rw [HV.out] at d6)
      | (go_simp; go_at_call 33; refine (rcheck_r (w := w6) hy hl6 HR.out).mono ?_; rintro e wq ⟨rfl, hq⟩; subst hq)
      | (go_simp; go_at_call 12; refine (is_any (hE.below (below2 w6 _ _))).mono ?_; rintro e w8 ⟨rfl, hN8⟩; have hN' := (below2 w6 _ _).trans (hN8.mono (by simp; omega)); have hB8 := below_next (below_next (hbW.mono hB) hB hN) hB hN'; have hT8 := hT6.below hN'))
  all_goals go_wp2
  all_goals
    go_ret
    exact ⟨rfl, hB8, _, _, _, hT8⟩
set_option maxRecDepth 100000 in
set_option maxHeartbeats 3200000 in
theorem step_fill_none {w : World} {B pa pb : Nat} {m : Int} {va vb : Value} {l : List Int} (h : Two w B pa pb m va vb l) (hB : B ≤ w.heap.size) (n u : Int) (s : Value) (hs : Rd w s []) :
    Calls Try.prog 14 #[.pointer (some ⟨pa, 0, none⟩), .pointer (some ⟨pb, 0, none⟩), .agg #[.int .i64 5, .int .i64 n, .int .u64 u, s]] w fun e w' => e = .returned (.bool true) ∧ Done w w' B pa pb m := by
  obtain ⟨sa, sc, rfl⟩ : ∃ ao c, s = .slice ao 0 c := hs.shape
  have hbW : Below w.heap.size w (w.alloc (.cells #[.int .i64 5, .int .i64 n, .int .u64 u, .slice sa 0 sc] 40)) := below_alloc _ _
  have hbox := box4_new w (.int .i64 5) (.int .i64 n) (.int .u64 u) (.slice sa 0 sc) 40
  have hT := h.below hbW
  have hs1 := hs.below hbW
  have nA := not_foot h.a (Nat.le_refl _)
  have nB := not_foot h.b (Nat.le_refl _)
  have hBs : B ≤ w.heap.size + 1 := by omega
  have hbc0 := h.b.c0
  have hbl := h.b.lt
  obtain ⟨c, a, l', hR⟩ := fillR_ex m l []
  have HR : Hid (FillR m l [] c a l') := hR
  clear hR
  go_enter Try.func14, Try.ntmps14
  go_wp2_with (first
    | (at_builtin; refine wpList_copyRow (by rfl) _ _ (by rfl) (B := w.heap.size + 1) (g := w.heap.size + 1) (by rfl) (by rfl) (hs1.alloc _) (lit_at2 w _ _) (Nat.le_refl _) (by simp) ?_; intro v9 w9 ho9 hg9; have hN := below_lit (w := w.alloc _) (by simpa using hg9); have hrd9 := Rd.ofOwn ho9 hs.1; have hT9 := hT.below hN; have hs9 := hs1.below hN; have hbox9 := hbox.below hN; have hB9 := below_next (hbW.mono hB) hB hN; have hz9 := Nat.le_trans hB hB9.size; have hz9' := hN.size; obtain ⟨kl, k0, k1, k2, k3⟩ := hbox9; obtain ⟨s9, c9, rfl⟩ : ∃ ao c, v9 = .slice ao 0 c := hrd9.shape)
    | (go_at_call 21; refine (fill_r (w := w9) hT9.a hz9 hrd9 HR.out).mono ?_; rintro e w6 ⟨er, va', rfl, hE, hU⟩; obtain ⟨hb6, hr6⟩ := hT9.updA hU; have hbox6 := Box4.mod ⟨kl, k0, k1, k2, k3⟩ hU.mod nA; obtain ⟨kl, k0, k1, k2, k3⟩ := hbox6; have hB6 := hB9.trans (hU.below hT9.a hz9); have ha6 := hU.ar; have hne := hT9.ne; have hz6 := Nat.le_trans hB hB6.size; have hs6 := hs9.old (hU.below hT9.a hz9) (fun _ _ hn => absurd rfl hn); clear hU)
    | (go_at_call 32; refine (rfill_r (w := w6) hb6 hz6 hs6 HR.out).mono ?_; rintro e w7 ⟨vb', rfl, hU⟩; obtain ⟨ha7, hr7⟩ := two_updB ha6 hb6 hne hr6 hU; have hE7 := hE.keep hU.mod hb6.no_fault; have hB7 := hB6.trans (hU.below hb6 hz6); have hT7 : Two w7 B pa pb m _ _ l' := ⟨ha7, hU.ar, hne, hr7⟩; clear hU))
  refine wp_loop_rounds 1 ?_
  rw [rounds_succ]
  go_wp2_with (first
    | (go_at_call 12; refine (is_any (hE7.below (below_alloc w7 _))).mono ?_; rintro e w8 ⟨rfl, hN8⟩; have hN' := (below_alloc w7 _).trans (hN8.mono (by simp)); have hB8 := below_next hB7 hB hN'; have hT8 := hT7.below hN'))
  go_ret
  exact ⟨rfl, hB8, _, _, _, hT8⟩
set_option maxRecDepth 100000 in
set_option maxHeartbeats 3200000 in
theorem step_fill_some {w : World} {B pa pb : Nat} {m : Int} {va vb : Value} {l : List Int} (h : Two w B pa pb m va vb l) (hB : B ≤ w.heap.size) (n u : Int) (s : Value) (x : List Int) (hs : Rd w s x) (hx : x.length ≤ 4000) (hlow : ∀ k, Value.inBlock s = some k → x ≠ [] → k < B) (h0 : 0 < x.length) :
    Calls Try.prog 14 #[.pointer (some ⟨pa, 0, none⟩), .pointer (some ⟨pb, 0, none⟩), .agg #[.int .i64 5, .int .i64 n, .int .u64 u, s]] w fun e w' => e = .returned (.bool true) ∧ Done w w' B pa pb m := by
  obtain ⟨sa, sc, rfl⟩ := hs.shape
  have hbW : Below w.heap.size w (w.alloc (.cells #[.int .i64 5, .int .i64 n, .int .u64 u, .slice sa x.length sc] 40)) := below_alloc _ _
  have hbox := box4_new w (.int .i64 5) (.int .i64 n) (.int .u64 u) (.slice sa x.length sc) 40
  have hT := h.below hbW
  have hs1 := hs.below hbW
  have nA := not_foot h.a (Nat.le_refl _)
  have nB := not_foot h.b (Nat.le_refl _)
  have hBs : B ≤ w.heap.size + 1 := by omega
  have hbc0 := h.b.c0
  have hbl := h.b.lt
  obtain ⟨c, a, l', hR⟩ := fillR_ex m l x
  have HR : Hid (FillR m l x c a l') := hR
  clear hR
  go_enter Try.func14, Try.ntmps14
  go_wp2_with (first
    | (at_builtin; refine wpList_copyRow (by rfl) _ _ (by rfl) (B := w.heap.size + 1) (g := w.heap.size + 1) (by rfl) (by rfl) (hs1.alloc _) (lit_at2 w _ _) (Nat.le_refl _) (by omega) ?_; intro v9 w9 ho9 hg9; have hN := below_lit (w := w.alloc _) (by simpa using hg9); have hrd9 := Rd.ofOwn ho9 hs.1; have hT9 := hT.below hN; have hs9 := hs1.below hN; have hbox9 := hbox.below hN; have hB9 := below_next (hbW.mono hB) hB hN; have hz9 := Nat.le_trans hB hB9.size; have hz9' := hN.size; obtain ⟨kl, k0, k1, k2, k3⟩ := hbox9; obtain ⟨g, c9, hv9, hgB, hgl⟩ := ho9.form h0; subst hv9; have nga : g ∉ foot pa va := fun hx => absurd (h.a.foot_lt g hx) (by omega); have ngb : g ∉ foot pb vb := fun hx => absurd (h.b.foot_lt g hx) (by omega))
    | (go_at_call 21; refine (fill_r (w := w9) hT9.a hz9 hrd9 HR.out).mono ?_; rintro e w6 ⟨er, va', rfl, hE, hU⟩; obtain ⟨hb6, hr6⟩ := hT9.updA hU; have hbox6 := Box4.mod ⟨kl, k0, k1, k2, k3⟩ hU.mod nA; obtain ⟨kl, k0, k1, k2, k3⟩ := hbox6; have hB6 := hB9.trans (hU.below hT9.a hz9); have ha6 := hU.ar; have hne := hT9.ne; have hz6 := Nat.le_trans hB hB6.size; have hs6 := hs9.old (hU.below hT9.a hz9) hlow; have ho6 := own_keep ho9 hU.mod (fun k hk e => by simp [Value.ownBlock] at e; subst e; exact nga hk); have nga6 : g ∉ foot pa va' := (fun hx => by (rcases mem_foot.1 hx with e | e; exact nga (mem_foot.2 (Or.inl e)); rcases hU.nx g e with e2 | e2; exact nga (mem_foot.2 (Or.inr e2)); omega)); have hz96 := hU.mod.size; clear hU)
    | (go_at_call 32; refine (rfill_r (w := w6) hb6 hz6 hs6 HR.out).mono ?_; rintro e w7 ⟨vb', rfl, hU⟩; obtain ⟨ha7, hr7⟩ := two_updB ha6 hb6 hne hr6 hU; have hE7 := hE.keep hU.mod hb6.no_fault; have hB7 := hB6.trans (hU.below hb6 hz6); have hT7 : Two w7 B pa pb m _ _ l' := ⟨ha7, hU.ar, hne, hr7⟩; have ho7 := own_keep ho6 hU.mod (fun k hk e => by simp [Value.ownBlock] at e; subst e; exact ngb hk); have ngb7 : g ∉ foot pb vb' := (fun hx => by (rcases mem_foot.1 hx with e | e; exact ngb (mem_foot.2 (Or.inl e)); rcases hU.nx g e with e2 | e2; exact ngb (mem_foot.2 (Or.inr e2)); omega)); have hz67 := hU.mod.size; clear hU))
  have ho8 := ho7.alloc (fltObj c a)
  have hF8 := heap_alloc_new w7 (fltObj c a)
  have hE8 := hE7.below (below_alloc w7 (fltObj c a))
  have hT8 := hT7.below (below_alloc w7 (fltObj c a))
  have hB8 := below_next hB7 hB (below_alloc w7 (fltObj c a))
  obtain ⟨w8, hw8⟩ : ∃ w8, w8 = w7.alloc (fltObj c a) := ⟨_, rfl⟩
  rw [← hw8] at ho8 hF8 hE8 hT8 hB8
  have hz8 : w8.heap.size = w7.heap.size + 1 := by rw [hw8]; simp
  rw [← hw8]
  clear hw8 hE7 hT7 hB7 ho7 ho6 hE
  have hgs : (Value.slice (some ⟨g, 0, none⟩) x.length c9).ownBlock = some g := rfl
  have hgl8 := (ho8.lt g hgs).2
  have hgB8 : B ≤ g := by omega
  go_loopw [138] (fun i wr => ∃ k : Nat, k ≤ x.length ∧ i = .int .i64 k ∧ Mod [g] w8 wr ∧ ∃ ys, wr.ownsRow (w.heap.size + 1) 38 1 (.slice (some ⟨g, 0, none⟩) x.length c9) x.length ys) (fun i _ => x.length - (intOf i).toNat)
  case atStart => exact ⟨0, Nat.zero_le _, rfl, Mod.refl _ _, _, ho8⟩
  case round =>
    obtain ⟨k, hk, rfl, hM, ys, hO⟩ := hrel
    by_cases hlt : k < x.length
    · have hlt' : (k : Int) < (x.length : Int) := by omega
      have hcell := hO.cellAt k (by omega)
      have hyk : k < ys.length := by rw [hO.1]; omega
      rw [List.getElem?_eq_getElem hyk] at hcell
      have hfr := hO.frozenAt k
      have hst := hO.stored k (.int .u64 7)
      have HST : Hid ((wr.setCell ⟨g, k, none⟩ (.int .u64 7)).ownsRow (w.heap.size + 1) 38 1 (.slice (some ⟨g, 0, none⟩) x.length c9) x.length (ys.set k (.int .u64 7))) := hst.1
      clear hst hO
      obtain ⟨y, hy⟩ : ∃ y, y = ys[k] := ⟨_, rfl⟩
      rw [← hy] at hcell
      clear hy
      go_wp2
      go_roundw
      case rel => exact ⟨k + 1, by omega, by go_num, hM.setCell (p := ⟨g, k, none⟩) (Or.inl (by simp)) _, _, HST.out⟩
      case measure => simp [intOf]; omega
    · have hlt' : ¬ (k : Int) < (x.length : Int) := by omega
      have hF9 : wr.heap[w7.heap.size]? = some (fltObj c a) := by rw [hM.block w7.heap.size (by omega) (fun e => by simp at e; omega)]; exact hF8
      have hz9 := lt_of_block hF9
      obtain ⟨⟨q0, q1, q2, q3⟩, _⟩ := flt_facts hF9
      have hE9 := hE8.keep hM (fun k hk o ho c a e => by
        simp at hk
        subst hk
        subst e
        rcases ho8.2 with ⟨e1, _⟩ | ⟨g', cap', cur', e1, _, hg', _⟩
        · simp at e1
        · simp at e1
          obtain ⟨rfl, rfl⟩ := e1
          rw [ho] at hg'
          simp [faultAtObj] at hg')
      have hT9' : Two wr B pa pb m va' vb' l' := ⟨hT8.a.keep hM (fun k hk => by simp at hk; subst hk; exact nga6), hT8.b.keep hM (fun k hk => by simp at hk; subst hk; exact ngb7), hT8.ne, hT8.rows⟩
      have hB9' : Below B w wr := hB8.trans (hM.below (fun k hk => by simp at hk; omega) (Nat.le_trans hB hB8.size))
      clear hM hO
      go_wp2_with (first
        | (go_at_call 12; refine (is_any (w := wr) hE9).mono ?_; rintro e w10 ⟨rfl, hN10⟩; have hB10 := below_next hB9' hB hN10; have hT10 := hT9'.below hN10))
      go_ret
      exact ⟨rfl, hB10, _, _, _, hT10⟩
end Go.Proofs.Ytmpnniabgkhkjaa
