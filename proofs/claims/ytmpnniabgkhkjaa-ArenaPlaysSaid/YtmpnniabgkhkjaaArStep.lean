/- One call of a script, of the program's arena and of the document's: they answer the same and hold the same behind it. -/
import Derived.Test.YtmpnniabgkhkjaaArRef5
import Derived.Test.YtmpnniabgkhkjaaArScript
namespace Go.Proofs.Ytmpnniabgkhkjaa
open Go.ChangeShapes Go.WideShapes Go.ChangeAt Go.RowKit
attribute [local go_sem ↓] Go.wp_at_zero Go.wp_at_succ

/-- The program's arena and the document's, side by side, with the same words. -/
structure Two (w : World) (B pa pb : Nat) (m : Int) (va vb : Value) (l : List Int) : Prop where
  a : Ar 64 w B pa m va l
  b : Ar 31 w B pb m vb l
  ne : pa ≠ pb
  rows : ∀ k, va.ownBlock = some k → vb.ownBlock ≠ some k
section
variable {w w1 : World} {B pa pb : Nat} {m : Int} {va vb : Value} {l : List Int}
theorem Two.updA {l' : List Int} {va' : Value} (h : Two w B pa pb m va vb l) (hU : Upd 64 w w1 B pa m va l' va') : Ar 31 w1 B pb m vb l ∧ ∀ k, va'.ownBlock = some k → vb.ownBlock ≠ some k := by
  refine ⟨h.b.keep2 h.a hU h.ne.symm (fun k hk e => h.rows k e hk), fun k hk e => ?_⟩
  rcases hU.nx k hk with h1 | h1
  · exact h.rows k h1 e
  · have := (h.b.row e).2.1; omega
theorem two_updB {la lb' : List Int} {vb' : Value} (ha : Ar 64 w B pa m va la) (hb : Ar 31 w B pb m vb l) (hne : pa ≠ pb) (hr : ∀ k, va.ownBlock = some k → vb.ownBlock ≠ some k) (hU : Upd 31 w w1 B pb m vb lb' vb') : Ar 64 w1 B pa m va la ∧ ∀ k, va.ownBlock = some k → vb'.ownBlock ≠ some k := by
  refine ⟨ha.keep2 hb hU hne hr, fun k hk e => ?_⟩
  rcases hU.nx k e with h1 | h1
  · exact hr k hk h1
  · have := (ha.row hk).2.1; omega
theorem Two.below {w' : World} (h : Two w B pa pb m va vb l) (hb : Below w.heap.size w w') : Two w' B pa pb m va vb l := ⟨h.a.below hb, h.b.below hb, h.ne, h.rows⟩
theorem Ar.no_fault {T : TypeId} {p : Nat} {v : Value} (h : Ar T w B p m v l) : ∀ k ∈ foot p v, ∀ o, w.heap[k]? = some o → ∀ c a, o ≠ faultAtObj c a := fun k hk o ho c a e => by
  subst e
  rcases mem_foot.1 hk with rfl | hk
  · have := h.blk; rw [ho] at this; simp [faultAtObj] at this
  · rcases h.own.2 with ⟨rfl, _⟩ | ⟨g, cap, cur, rfl, _, hg, _⟩
    · simp [Value.ownBlock] at hk
    · simp [Value.ownBlock] at hk
      subst hk
      rw [ho] at hg
      simp [faultAtObj] at hg
theorem Box4.mod {b : Nat} {x0 x1 x2 x3 : Value} {ks : List Nat} (h : Box4 w b x0 x1 x2 x3) (hm : Mod ks w w1) (hb : b ∉ ks) : Box4 w1 b x0 x1 x2 x3 := by
  obtain ⟨h0, h1, h2, h3, h4⟩ := h
  exact ⟨Nat.lt_of_lt_of_le h0 hm.size, by rw [hm.cell h0 hb, h1], by rw [hm.cell h0 hb, h2], by rw [hm.cell h0 hb, h3], by rw [hm.cell h0 hb, h4]⟩
theorem not_foot {T : TypeId} {p q : Nat} {v : Value} (h : Ar T w B p m v l) (hq : w.heap.size ≤ q) : q ∉ foot p v := fun hx => by have := h.foot_lt q hx; omega
end
/-- What one call leaves. -/
def Done (w w' : World) (B pa pb : Nat) (m : Int) : Prop := Below B w w' ∧ ∃ va' vb' l', Two w' B pa pb m va' vb' l'
set_option maxRecDepth 100000 in
set_option maxHeartbeats 3200000 in
theorem step_alloc_cap {w : World} {B pa pb : Nat} {m : Int} {va vb : Value} {l : List Int} (h : Two w B pa pb m va vb l) (hB : B ≤ w.heap.size) (n u : Int) (s : Value) (x : List Int) (hs : Rd w s x) (hn : 3000 < n) (hm : n ≤ m) :
    Calls Try.prog 14 #[.pointer (some ⟨pa, 0, none⟩), .pointer (some ⟨pb, 0, none⟩), .agg #[.int .i64 0, .int .i64 n, .int .u64 u, s]] w fun e w' => e = .returned (.bool true) ∧ Done w w' B pa pb m := by
  obtain ⟨sa, sc, rfl⟩ := hs.shape
  have hbW : Below w.heap.size w (w.alloc (.cells #[.int .i64 0, .int .i64 n, .int .u64 u, .slice sa x.length sc] 40)) := below_alloc _ _
  have hbox := box4_new w (.int .i64 0) (.int .i64 n) (.int .u64 u) (.slice sa x.length sc) 40
  have hT := h.below hbW
  have hs1 := hs.below hbW
  have nA := not_foot h.a (Nat.le_refl _)
  have nB := not_foot h.b (Nat.le_refl _)
  have hBs : B ≤ w.heap.size + 1 := by omega
  have hbc0 := h.b.c0
  have hbl := h.b.lt
  obtain ⟨c, a, r, l', hR⟩ := allocR_ex m l 3000
  have HR : Hid (AllocR m l 3000 c a r l') := hR
  clear hR
  go_enter Try.func14, Try.ntmps14
  go_wp2_with (first
    | (go_at_call 19; refine (alloc_r hT.a (by simp; omega) HR.out).mono ?_; rintro e w6 ⟨er, va', rfl, hE, hU⟩; obtain ⟨hb6, hr6⟩ := hT.updA hU; have hbox6 := hbox.mod hU.mod nA; obtain ⟨kl, k0, k1, k2, k3⟩ := hbox6; have hB6 : Below B w w6 := (hbW.mono hB).trans (hU.below hT.a (by simp; omega)); have ha6 := hU.ar; have hs6 := hB6.size; have hne := hT.ne; clear hU)
    | (go_at_call 28; refine (ralloc_r (w := w6) hb6 (by omega) HR.out).mono ?_; rintro e w7 ⟨vb', rfl, hU⟩; obtain ⟨ha7, hr7⟩ := two_updB ha6 hb6 hne hr6 hU; have hE7 := hE.keep hU.mod hb6.no_fault; have hB7 : Below B w w7 := hB6.trans (hU.below hb6 (by omega)); have hT7 : Two w7 B pa pb m _ _ l' := ⟨ha7, hU.ar, hne, hr7⟩; clear hU)
    | (go_at_call 12; refine (is_any (hE7.below (below_alloc w7 _))).mono ?_; rintro e w8 ⟨rfl, hN⟩; have hN' := (below_alloc w7 _).trans (hN.mono (by simp)); have hB8 := below_next hB7 hB hN'; have hT8 := hT7.below hN'))
  go_ret
  exact ⟨rfl, hB8, _, _, _, hT8⟩
set_option maxRecDepth 100000 in
set_option maxHeartbeats 3200000 in
theorem step_alloc_few {w : World} {B pa pb : Nat} {m : Int} {va vb : Value} {l : List Int} (h : Two w B pa pb m va vb l) (hB : B ≤ w.heap.size) (n u : Int) (s : Value) (x : List Int) (hs : Rd w s x) (hn : n ≤ 3000) :
    Calls Try.prog 14 #[.pointer (some ⟨pa, 0, none⟩), .pointer (some ⟨pb, 0, none⟩), .agg #[.int .i64 0, .int .i64 n, .int .u64 u, s]] w fun e w' => e = .returned (.bool true) ∧ Done w w' B pa pb m := by
  obtain ⟨sa, sc, rfl⟩ := hs.shape
  have hbW : Below w.heap.size w (w.alloc (.cells #[.int .i64 0, .int .i64 n, .int .u64 u, .slice sa x.length sc] 40)) := below_alloc _ _
  have hbox := box4_new w (.int .i64 0) (.int .i64 n) (.int .u64 u) (.slice sa x.length sc) 40
  have hT := h.below hbW
  have hs1 := hs.below hbW
  have nA := not_foot h.a (Nat.le_refl _)
  have nB := not_foot h.b (Nat.le_refl _)
  have hBs : B ≤ w.heap.size + 1 := by omega
  have hbc0 := h.b.c0
  have hbl := h.b.lt
  have hn' : decide ((3000 : Int) < n) = false := by simp; omega
  obtain ⟨c, a, r, l', hR⟩ := allocR_ex m l n
  have HR : Hid (AllocR m l n c a r l') := hR
  clear hR
  go_enter Try.func14, Try.ntmps14
  go_wp2_with (first
    | (go_at_call 19; refine (alloc_r hT.a (by simp; omega) HR.out).mono ?_; rintro e w6 ⟨er, va', rfl, hE, hU⟩; obtain ⟨hb6, hr6⟩ := hT.updA hU; have hbox6 := hbox.mod hU.mod nA; obtain ⟨kl, k0, k1, k2, k3⟩ := hbox6; have hB6 : Below B w w6 := (hbW.mono hB).trans (hU.below hT.a (by simp; omega)); have ha6 := hU.ar; have hs6 := hB6.size; have hne := hT.ne; clear hU)
    | (go_at_call 28; refine (ralloc_r (w := w6) hb6 (by omega) HR.out).mono ?_; rintro e w7 ⟨vb', rfl, hU⟩; obtain ⟨ha7, hr7⟩ := two_updB ha6 hb6 hne hr6 hU; have hE7 := hE.keep hU.mod hb6.no_fault; have hB7 : Below B w w7 := hB6.trans (hU.below hb6 (by omega)); have hT7 : Two w7 B pa pb m _ _ l' := ⟨ha7, hU.ar, hne, hr7⟩; clear hU)
    | (go_at_call 12; refine (is_any (hE7.below (below_alloc w7 _))).mono ?_; rintro e w8 ⟨rfl, hN⟩; have hN' := (below_alloc w7 _).trans (hN.mono (by simp)); have hB8 := below_next hB7 hB hN'; have hT8 := hT7.below hN'))
  go_ret
  exact ⟨rfl, hB8, _, _, _, hT8⟩
set_option maxRecDepth 100000 in
set_option maxHeartbeats 3200000 in
theorem step_alloc_many {w : World} {B pa pb : Nat} {m : Int} {va vb : Value} {l : List Int} (h : Two w B pa pb m va vb l) (hB : B ≤ w.heap.size) (n u : Int) (s : Value) (x : List Int) (hs : Rd w s x) (hn : 3000 < n) (hm : m < n) :
    Calls Try.prog 14 #[.pointer (some ⟨pa, 0, none⟩), .pointer (some ⟨pb, 0, none⟩), .agg #[.int .i64 0, .int .i64 n, .int .u64 u, s]] w fun e w' => e = .returned (.bool true) ∧ Done w w' B pa pb m := by
  obtain ⟨sa, sc, rfl⟩ := hs.shape
  have hbW : Below w.heap.size w (w.alloc (.cells #[.int .i64 0, .int .i64 n, .int .u64 u, .slice sa x.length sc] 40)) := below_alloc _ _
  have hbox := box4_new w (.int .i64 0) (.int .i64 n) (.int .u64 u) (.slice sa x.length sc) 40
  have hT := h.below hbW
  have hs1 := hs.below hbW
  have nA := not_foot h.a (Nat.le_refl _)
  have nB := not_foot h.b (Nat.le_refl _)
  have hBs : B ≤ w.heap.size + 1 := by omega
  have hbc0 := h.b.c0
  have hbl := h.b.lt
  obtain ⟨c, a, r, l', hR⟩ := allocR_ex m l n
  have HR : Hid (AllocR m l n c a r l') := hR
  clear hR
  go_enter Try.func14, Try.ntmps14
  go_wp2_with (first
    | (go_at_call 19; refine (alloc_r hT.a (by simp; omega) HR.out).mono ?_; rintro e w6 ⟨er, va', rfl, hE, hU⟩; obtain ⟨hb6, hr6⟩ := hT.updA hU; have hbox6 := hbox.mod hU.mod nA; obtain ⟨kl, k0, k1, k2, k3⟩ := hbox6; have hB6 : Below B w w6 := (hbW.mono hB).trans (hU.below hT.a (by simp; omega)); have ha6 := hU.ar; have hs6 := hB6.size; have hne := hT.ne; clear hU)
    | (go_at_call 28; refine (ralloc_r (w := w6) hb6 (by omega) HR.out).mono ?_; rintro e w7 ⟨vb', rfl, hU⟩; obtain ⟨ha7, hr7⟩ := two_updB ha6 hb6 hne hr6 hU; have hE7 := hE.keep hU.mod hb6.no_fault; have hB7 : Below B w w7 := hB6.trans (hU.below hb6 (by omega)); have hT7 : Two w7 B pa pb m _ _ l' := ⟨ha7, hU.ar, hne, hr7⟩; clear hU)
    | (go_at_call 12; refine (is_any (hE7.below (below_alloc w7 _))).mono ?_; rintro e w8 ⟨rfl, hN⟩; have hN' := (below_alloc w7 _).trans (hN.mono (by simp)); have hB8 := below_next hB7 hB hN'; have hT8 := hT7.below hN'))
  go_ret
  exact ⟨rfl, hB8, _, _, _, hT8⟩
set_option maxRecDepth 100000 in
set_option maxHeartbeats 3200000 in
theorem step_load {w : World} {B pa pb : Nat} {m : Int} {va vb : Value} {l : List Int} (h : Two w B pa pb m va vb l) (hB : B ≤ w.heap.size) (n u : Int) (s : Value) (x : List Int) (hs : Rd w s x) :
    Calls Try.prog 14 #[.pointer (some ⟨pa, 0, none⟩), .pointer (some ⟨pb, 0, none⟩), .agg #[.int .i64 1, .int .i64 n, .int .u64 u, s]] w fun e w' => e = .returned (.bool true) ∧ Done w w' B pa pb m := by
  obtain ⟨sa, sc, rfl⟩ := hs.shape
  have hbW : Below w.heap.size w (w.alloc (.cells #[.int .i64 1, .int .i64 n, .int .u64 u, .slice sa x.length sc] 40)) := below_alloc _ _
  have hbox := box4_new w (.int .i64 1) (.int .i64 n) (.int .u64 u) (.slice sa x.length sc) 40
  have hT := h.below hbW
  have hs1 := hs.below hbW
  have nA := not_foot h.a (Nat.le_refl _)
  have nB := not_foot h.b (Nat.le_refl _)
  have hBs : B ≤ w.heap.size + 1 := by omega
  have hbc0 := h.b.c0
  have hbl := h.b.lt
  obtain ⟨c, a, r, hR⟩ := loadR_ex l n
  have HR : Hid (LoadR l n c a r) := hR
  clear hR
  go_enter Try.func14, Try.ntmps14
  go_wp2_with (first
    | (go_at_call 23; refine (load_r hT.a HR.out).mono ?_; rintro e w6 ⟨er, rfl, hE, hU⟩; obtain ⟨hb6, hr6⟩ := hT.updA hU; have hbox6 := hbox.mod hU.mod nA; obtain ⟨kl, k0, k1, k2, k3⟩ := hbox6; have hB6 : Below B w w6 := (hbW.mono hB).trans (hU.below hT.a (by simp; omega)); have ha6 := hU.ar; have hs6 := hB6.size; have hne := hT.ne; clear hU)
    | (go_at_call 29; refine (rload_r (w := w6) hb6 HR.out).mono ?_; rintro e w7 ⟨rfl, hU⟩; obtain ⟨ha7, hr7⟩ := two_updB ha6 hb6 hne hr6 hU; have hE7 := hE.keep hU.mod hb6.no_fault; have hB7 : Below B w w7 := hB6.trans (hU.below hb6 (by omega)); have hT7 : Two w7 B pa pb m _ _ l := ⟨ha7, hU.ar, hne, hr7⟩; clear hU)
    | (go_at_call 12; refine (is_any (hE7.below (below_alloc w7 _))).mono ?_; rintro e w8 ⟨rfl, hN⟩; have hN' := (below_alloc w7 _).trans (hN.mono (by simp)); have hB8 := below_next hB7 hB hN'; have hT8 := hT7.below hN'))
  go_ret
  exact ⟨rfl, hB8, _, _, _, hT8⟩
set_option maxRecDepth 100000 in
set_option maxHeartbeats 3200000 in
theorem step_store {w : World} {B pa pb : Nat} {m : Int} {va vb : Value} {l : List Int} (h : Two w B pa pb m va vb l) (hB : B ≤ w.heap.size) (n u : Int) (s : Value) (x : List Int) (hs : Rd w s x) (hu : 0 ≤ u ∧ u ≤ 18446744073709551615) :
    Calls Try.prog 14 #[.pointer (some ⟨pa, 0, none⟩), .pointer (some ⟨pb, 0, none⟩), .agg #[.int .i64 2, .int .i64 n, .int .u64 u, s]] w fun e w' => e = .returned (.bool true) ∧ Done w w' B pa pb m := by
  obtain ⟨sa, sc, rfl⟩ := hs.shape
  have hbW : Below w.heap.size w (w.alloc (.cells #[.int .i64 2, .int .i64 n, .int .u64 u, .slice sa x.length sc] 40)) := below_alloc _ _
  have hbox := box4_new w (.int .i64 2) (.int .i64 n) (.int .u64 u) (.slice sa x.length sc) 40
  have hT := h.below hbW
  have hs1 := hs.below hbW
  have nA := not_foot h.a (Nat.le_refl _)
  have nB := not_foot h.b (Nat.le_refl _)
  have hBs : B ≤ w.heap.size + 1 := by omega
  have hbc0 := h.b.c0
  have hbl := h.b.lt
  obtain ⟨c, a, l', hR⟩ := storeR_ex l n u
  have HR : Hid (StoreR l n u c a l') := hR
  clear hR
  go_enter Try.func14, Try.ntmps14
  go_wp2_with (first
    | (go_at_call 20; refine (store_r hT.a hu.1 hu.2 HR.out).mono ?_; rintro e w6 ⟨er, va', rfl, hE, hU⟩; obtain ⟨hb6, hr6⟩ := hT.updA hU; have hbox6 := hbox.mod hU.mod nA; obtain ⟨kl, k0, k1, k2, k3⟩ := hbox6; have hB6 : Below B w w6 := (hbW.mono hB).trans (hU.below hT.a (by simp; omega)); have ha6 := hU.ar; have hs6 := hB6.size; have hne := hT.ne; clear hU)
    | (go_at_call 30; refine (rstore_r (w := w6) hb6 hu.1 hu.2 HR.out).mono ?_; rintro e w7 ⟨vb', rfl, hU⟩; obtain ⟨ha7, hr7⟩ := two_updB ha6 hb6 hne hr6 hU; have hE7 := hE.keep hU.mod hb6.no_fault; have hB7 : Below B w w7 := hB6.trans (hU.below hb6 (by omega)); have hT7 : Two w7 B pa pb m _ _ l' := ⟨ha7, hU.ar, hne, hr7⟩; clear hU)
    | (go_at_call 12; refine (is_any (hE7.below (below_alloc w7 _))).mono ?_; rintro e w8 ⟨rfl, hN⟩; have hN' := (below_alloc w7 _).trans (hN.mono (by simp)); have hB8 := below_next hB7 hB hN'; have hT8 := hT7.below hN'))
  go_ret
  exact ⟨rfl, hB8, _, _, _, hT8⟩
set_option maxRecDepth 100000 in
set_option maxHeartbeats 3200000 in
theorem step_cut {w : World} {B pa pb : Nat} {m : Int} {va vb : Value} {l : List Int} (h : Two w B pa pb m va vb l) (hB : B ≤ w.heap.size) (n u : Int) (s : Value) (x : List Int) (hs : Rd w s x) :
    Calls Try.prog 14 #[.pointer (some ⟨pa, 0, none⟩), .pointer (some ⟨pb, 0, none⟩), .agg #[.int .i64 3, .int .i64 n, .int .u64 u, s]] w fun e w' => e = .returned (.bool true) ∧ Done w w' B pa pb m := by
  obtain ⟨sa, sc, rfl⟩ := hs.shape
  have hbW : Below w.heap.size w (w.alloc (.cells #[.int .i64 3, .int .i64 n, .int .u64 u, .slice sa x.length sc] 40)) := below_alloc _ _
  have hbox := box4_new w (.int .i64 3) (.int .i64 n) (.int .u64 u) (.slice sa x.length sc) 40
  have hT := h.below hbW
  have hs1 := hs.below hbW
  have nA := not_foot h.a (Nat.le_refl _)
  have nB := not_foot h.b (Nat.le_refl _)
  have hBs : B ≤ w.heap.size + 1 := by omega
  have hbc0 := h.b.c0
  have hbl := h.b.lt
  obtain ⟨c, a, l', hR⟩ := cutR_ex l n
  have HR : Hid (CutR l n c a l') := hR
  clear hR
  go_enter Try.func14, Try.ntmps14
  go_wp2_with (first
    | (go_at_call 24; refine (cut_r hT.a HR.out).mono ?_; rintro e w6 ⟨er, va', rfl, hE, hU⟩; obtain ⟨hb6, hr6⟩ := hT.updA hU; have hbox6 := hbox.mod hU.mod nA; obtain ⟨kl, k0, k1, k2, k3⟩ := hbox6; have hB6 : Below B w w6 := (hbW.mono hB).trans (hU.below hT.a (by simp; omega)); have ha6 := hU.ar; have hs6 := hB6.size; have hne := hT.ne; clear hU)
    | (go_at_call 31; refine (rcut_r (w := w6) hb6 (by omega) HR.out).mono ?_; rintro e w7 ⟨vb', rfl, hU⟩; obtain ⟨ha7, hr7⟩ := two_updB ha6 hb6 hne hr6 hU; have hE7 := hE.keep hU.mod hb6.no_fault; have hB7 : Below B w w7 := hB6.trans (hU.below hb6 (by omega)); have hT7 : Two w7 B pa pb m _ _ l' := ⟨ha7, hU.ar, hne, hr7⟩; clear hU)
    | (go_at_call 12; refine (is_any (hE7.below (below_alloc w7 _))).mono ?_; rintro e w8 ⟨rfl, hN⟩; have hN' := (below_alloc w7 _).trans (hN.mono (by simp)); have hB8 := below_next hB7 hB hN'; have hT8 := hT7.below hN'))
  go_ret
  exact ⟨rfl, hB8, _, _, _, hT8⟩
set_option maxRecDepth 100000 in
set_option maxHeartbeats 3200000 in
theorem step_else {w : World} {B pa pb : Nat} {m : Int} {va vb : Value} {l : List Int} (h : Two w B pa pb m va vb l) (hB : B ≤ w.heap.size) (k : Int) (n u : Int) (s : Value) (x : List Int) (hs : Rd w s x) (hk : k ≠ 0 ∧ k ≠ 1 ∧ k ≠ 2 ∧ k ≠ 3 ∧ k ≠ 4 ∧ k ≠ 5 ∧ k ≠ 6) :
    Calls Try.prog 14 #[.pointer (some ⟨pa, 0, none⟩), .pointer (some ⟨pb, 0, none⟩), .agg #[.int .i64 k, .int .i64 n, .int .u64 u, s]] w fun e w' => e = .returned (.bool true) ∧ Done w w' B pa pb m := by
  obtain ⟨sa, sc, rfl⟩ := hs.shape
  have hbW : Below w.heap.size w (w.alloc (.cells #[.int .i64 k, .int .i64 n, .int .u64 u, .slice sa x.length sc] 40)) := below_alloc _ _
  have hbox := box4_new w (.int .i64 k) (.int .i64 n) (.int .u64 u) (.slice sa x.length sc) 40
  have hT := h.below hbW
  have hs1 := hs.below hbW
  have nA := not_foot h.a (Nat.le_refl _)
  have nB := not_foot h.b (Nat.le_refl _)
  have hBs : B ≤ w.heap.size + 1 := by omega
  have hbc0 := h.b.c0
  have hbl := h.b.lt
  have b0 : (k == 0) = false := by simpa using hk.1
  have b1 : (k == 1) = false := by simpa using hk.2.1
  have b2 : (k == 2) = false := by simpa using hk.2.2.1
  have b3 : (k == 3) = false := by simpa using hk.2.2.2.1
  have b4 : (k == 4) = false := by simpa using hk.2.2.2.2.1
  have b5 : (k == 5) = false := by simpa using hk.2.2.2.2.2.1
  have b6 : (k == 6) = false := by simpa using hk.2.2.2.2.2.2
  clear hk
  go_enter Try.func14, Try.ntmps14
  go_wp2_with (first
    | fail)
  go_ret
  exact ⟨rfl, hbW.mono hB, _, _, _, hT⟩
end Go.Proofs.Ytmpnniabgkhkjaa
