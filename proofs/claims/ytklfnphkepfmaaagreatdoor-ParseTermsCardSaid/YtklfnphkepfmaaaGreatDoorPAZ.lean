/- term of package parse, where it gives up or the term is a leaf. -/
import Derived.Test.YtklfnphkepfmaaaGreatDoorPsX
import Derived.Test.YtklfnphkepfmaaaGreatDoorPsM
import Derived.Deep.RegionLaw
namespace Go.Proofs.YtklfnphkepfmaaaGreatDoor
open Go.RowKit
attribute [local go_sem] tok_kind tok_text tok_num tok_at

set_option maxRecDepth 100000 in
set_option maxHeartbeats 4000000 in
theorem term_no {w : World} {pb : Nat} {tv : Value} {ts : List Tk} {i : Nat} (h : Ps w pb tv ts i) (hi : i < ts.length) (nest : Int) (ho : opensF (tkA ts i) = false) :
    Calls Tryz.prog 101 #[.pointer (some ⟨pb, 0, none⟩), .int .i64 nest] w fun e w' => Gave w w' e (mustC (tkA ts i)) ((tkA ts i).at_ : Int) := by
  unfold tkA at *
  have hb0 := below_alloc w (.cells #[.int .i64 0, .string ⟨#[]⟩, .int .i64 0, .slice none 0 0] 40)
  have h1 := opens_any (h.below hb0) hi
  rw [ho] at h1
  have hm := fun w1 (hb : Below w.heap.size w w1) => must_no (h.below hb) hi
  unfold mustC
  clear h ho
  generalize ts.getD i tk0 = t at *
  generalize (if t.kind = 0 then (72 : Int) else 71) = c at *
  go_enter Tryz.func101, Tryz.ntmps101
  go_wp2_with (first
    | (go_at_call 124; refine h1.mono ?_; rintro e w1 ⟨rfl, hb1⟩; have hB1 := Below.next hb0 hb1)
    | (go_at_call 104; refine (hm w1 hB1).mono ?_; rintro e w2 ⟨b, rfl, h1, h2, h3⟩))
  exact ⟨rfl, b, rfl, h1, Nat.le_trans hB1.size h2, Below.next hB1 h3⟩
set_option maxRecDepth 100000 in
set_option maxHeartbeats 4000000 in
theorem term_deep {w : World} {pb : Nat} {tv : Value} {ts : List Tk} {i : Nat} (h : Ps w pb tv ts i) (hi : i < ts.length) (nest : Int) (ho : opensF (tkA ts i) = true) (hn : 4096 < nest) :
    Calls Tryz.prog 101 #[.pointer (some ⟨pb, 0, none⟩), .int .i64 nest] w fun e w' => Gave w w' e 73 ((tkA ts i).at_ : Int) := by
  unfold tkA at *
  have hb0 := below_alloc w (.cells #[.int .i64 0, .string ⟨#[]⟩, .int .i64 0, .slice none 0 0] 40)
  have h1 := opens_any (h.below hb0) hi
  rw [ho] at h1
  have hm := fun w1 (hb : Below w.heap.size w w1) => giveUp_any (h.below hb) hi 73
  clear h ho
  generalize ts.getD i tk0 = t at *
  have hn' : decide (4096 < nest) = true := decide_eq_true hn
  go_enter Tryz.func101, Tryz.ntmps101
  go_wp2_with (first
    | (go_at_call 124; refine h1.mono ?_; rintro e w1 ⟨rfl, hb1⟩; have hB1 := Below.next hb0 hb1)
    | (go_at_call 104; refine must_yes.mono ?_; rintro e w2 ⟨rfl, rfl⟩)
    | (go_at_call 117; refine (hm _ hB1).mono ?_; rintro e w2 ⟨b, rfl, h1, h2, h3⟩))
  exact ⟨rfl, b, rfl, h1, Nat.le_trans hB1.size h2, Below.next hB1 h3⟩
end Go.Proofs.YtklfnphkepfmaaaGreatDoor

/- term of package parse, where the term is a leaf. -/
namespace Go.Proofs.YtklfnphkepfmaaaGreatDoor
open Go.RowKit
attribute [local go_sem] tok_kind tok_text tok_num tok_at

theorem blk4x {w : World} {q : Nat} {u0 u1 u2 u3 : Value} {T : TypeId} (h : w.heap[q]? = some (.cells #[u0, u1, u2, u3] T)) : (w.cell? ⟨q, 0, none⟩ = some u0 ∧ w.cell? ⟨q, 1, none⟩ = some u1 ∧ w.cell? ⟨q, 2, none⟩ = some u2 ∧ w.cell? ⟨q, 3, none⟩ = some u3) ∧ w.frozen? ⟨q, 0, none⟩ = false ∧ w.frozen? ⟨q, 1, none⟩ = false ∧ w.frozen? ⟨q, 2, none⟩ = false ∧ w.frozen? ⟨q, 3, none⟩ = false := by
  refine ⟨⟨?_, ?_, ?_, ?_⟩, ?_, ?_, ?_, ?_⟩ <;> simp [World.cell?, World.frozen?, h]
/-- The world behind a term stored into its cells. -/
abbrev exEnd (w : World) (q : Nat) (v0 v1 v2 v3 : Value) : World := (((w.setCell ⟨q, 0, none⟩ v0).setCell ⟨q, 1, none⟩ v1).setCell ⟨q, 2, none⟩ v2).setCell ⟨q, 3, none⟩ v3
theorem ex_end {w : World} {q : Nat} {u0 u1 u2 u3 : Value} (v0 v1 v2 v3 : Value) {T : TypeId} (h : w.heap[q]? = some (.cells #[u0, u1, u2, u3] T)) : (exEnd w q v0 v1 v2 v3).heap[q]? = some (.cells #[v0, v1, v2, v3] T) := by
  have h0 := heap_setCell_same w q 0 _ _ v0 h
  have h1 := heap_setCell_same _ q 1 _ _ v1 h0
  have h2 := heap_setCell_same _ q 2 _ _ v2 h1
  have h3 := heap_setCell_same _ q 3 _ _ v3 h2
  rw [exEnd, h3]
  rfl
theorem exEnd_below {W w : World} {B q : Nat} {v0 v1 v2 v3 : Value} (h : Below B W w) (hq : B ≤ q) : Below B W (exEnd w q v0 v1 v2 v3) :=
  (((h.setCell (p := ⟨q, 0, none⟩) hq _).setCell (p := ⟨q, 1, none⟩) hq _).setCell (p := ⟨q, 2, none⟩) hq _).setCell (p := ⟨q, 3, none⟩) hq _
theorem ret_ex {w : World} {fn : Func} {t : Tmp} (hfn : fn.results = #[.cell t 40]) {tmps : Array Value} {q : Nat} {u0 u1 u2 u3 : Value} (h4 : tmps[t]?.getD undef = .pointer (some ⟨q, 0, none⟩)) (hq : w.heap[q]? = some (.cells #[u0, u1, u2, u3] 40)) : (results fn tmps).run Tryz.prog w = .ok (.agg #[u0, u1, u2, u3]) w := by
  obtain ⟨⟨z0, z1, z2, z3⟩, _⟩ := blk4x hq
  simp [results, hfn, go_sem, h4, z0, z1, z2, z3]
set_option maxRecDepth 100000 in
set_option maxHeartbeats 4000000 in
theorem term_var {w : World} {pb : Nat} {tv : Value} {ts : List Tk} {i : Nat} (h : Ps w pb tv ts i) (hi : i < ts.length) (hl : ts.length ≤ 10000000) (nest : Int) (hn : nest ≤ 4096) (hk : (tkA ts i).kind = 2) :
    Calls Tryz.prog 101 #[.pointer (some ⟨pb, 0, none⟩), .int .i64 nest] w fun e w' => ∃ v, e = .returned v ∧ w.grownBy w' (some pb) ∧ Ps w' pb tv ts (i + 1) ∧ Xw (w.heap.size ≤ ·) w' (.mk 1 (tkA ts i).text 0 []) v := by
  unfold tkA at *
  have zp := lt_of_block h.b
  have hb0 := below_alloc w (.cells #[.int .i64 0, .string ⟨#[]⟩, .int .i64 0, .slice none 0 0] 40)
  have h1 := opens_any (h.below hb0) hi
  have ho : opensF (ts.getD i tk0) = true := by unfold opensF; rw [hk]; rfl
  rw [ho] at h1
  have hnx := fun w1 (hb : Below w.heap.size w w1) => pnext_any (h.below hb) hi hl
  unfold tokV at hnx
  generalize ts.getD i tk0 = t at *
  obtain ⟨tk, tt, tn, ta, te⟩ := t
  dsimp only at *
  subst hk
  have hn' : decide (4096 < nest) = false := decide_eq_false (by omega)
  go_enter Tryz.func101, Tryz.ntmps101
  go_wp2_with (first
    | (go_at_call 124; refine h1.mono ?_; rintro e w1 ⟨rfl, hb1⟩; have hB1 := Below.next hb0 hb1; have hq1 : w1.heap[w.heap.size]? = some (.cells #[.int .i64 0, .string ⟨#[]⟩, .int .i64 0, .slice none 0 0] 40) := (hb1.block _ (by simp)).trans (heap_alloc_new w _))
    | (go_at_call 104; refine must_yes.mono ?_; rintro e w2 ⟨rfl, rfl⟩)
    | (go_at_call 103; refine (hnx _ hB1).mono ?_; rintro e w3 ⟨rfl, hg3, hp3⟩; have hq3 := (hg3.block _ (lt_of_block hq1) (fun e => absurd (Option.some.inj e) (by omega))).trans hq1; have zq3 := lt_of_block hq3; obtain ⟨⟨q0, q1, q2, q3⟩, r0, r1, r2, r3⟩ := blk4x hq3))
  have hb4 : Below w.heap.size w3 ((exEnd w3 w.heap.size (.int .i64 1) (.string tt) (.int .i64 0) (.slice none 0 0)).alloc (tokObj ⟨2, tt, tn, ta, te⟩)) := (exEnd_below (Below.refl _ _) (Nat.le_refl _)).alloc (by simp; omega) _
  have hg4 := grown_then (grown_trans (grown_below hB1 pb) hg3) hb4
  have hq4 : ((exEnd w3 w.heap.size (.int .i64 1) (.string tt) (.int .i64 0) (.slice none 0 0)).alloc (tokObj ⟨2, tt, tn, ta, te⟩)).heap[w.heap.size]? = _ := (Below.heap_alloc _ _ _ (by simp; omega)).trans (ex_end (.int .i64 1) (.string tt) (.int .i64 0) (.slice none 0 0) hq3)
  have hp4 := h.grown hg4 ((hb4.block pb zp).trans hp3.b)
  exact bodyPost_ret (ret_ex Tryz.results101 (by rfl) hq4) rfl ⟨_, rfl, hg4, hp4, Xw.leaf _ _ _ _ _⟩
set_option maxRecDepth 100000 in
set_option maxHeartbeats 4000000 in
theorem term_int {w : World} {pb : Nat} {tv : Value} {ts : List Tk} {i : Nat} (h : Ps w pb tv ts i) (hi : i < ts.length) (hl : ts.length ≤ 10000000) (nest : Int) (hn : nest ≤ 4096) (hk : (tkA ts i).kind = 3) :
    Calls Tryz.prog 101 #[.pointer (some ⟨pb, 0, none⟩), .int .i64 nest] w fun e w' => ∃ v, e = .returned v ∧ w.grownBy w' (some pb) ∧ Ps w' pb tv ts (i + 1) ∧ Xw (w.heap.size ≤ ·) w' (.mk 3 ⟨#[]⟩ (tkA ts i).num []) v := by
  unfold tkA at *
  have zp := lt_of_block h.b
  have hb0 := below_alloc w (.cells #[.int .i64 0, .string ⟨#[]⟩, .int .i64 0, .slice none 0 0] 40)
  have h1 := opens_any (h.below hb0) hi
  have ho : opensF (ts.getD i tk0) = true := by unfold opensF; rw [hk]; rfl
  rw [ho] at h1
  have hnx := fun w1 (hb : Below w.heap.size w w1) => pnext_any (h.below hb) hi hl
  unfold tokV at hnx
  generalize ts.getD i tk0 = t at *
  obtain ⟨tk, tt, tn, ta, te⟩ := t
  dsimp only at *
  subst hk
  have hn' : decide (4096 < nest) = false := decide_eq_false (by omega)
  go_enter Tryz.func101, Tryz.ntmps101
  go_wp2_with (first
    | (go_at_call 124; refine h1.mono ?_; rintro e w1 ⟨rfl, hb1⟩; have hB1 := Below.next hb0 hb1; have hq1 : w1.heap[w.heap.size]? = some (.cells #[.int .i64 0, .string ⟨#[]⟩, .int .i64 0, .slice none 0 0] 40) := (hb1.block _ (by simp)).trans (heap_alloc_new w _))
    | (go_at_call 104; refine must_yes.mono ?_; rintro e w2 ⟨rfl, rfl⟩)
    | (go_at_call 103; refine (hnx _ hB1).mono ?_; rintro e w3 ⟨rfl, hg3, hp3⟩; have hq3 := (hg3.block _ (lt_of_block hq1) (fun e => absurd (Option.some.inj e) (by omega))).trans hq1; have zq3 := lt_of_block hq3; obtain ⟨⟨q0, q1, q2, q3⟩, r0, r1, r2, r3⟩ := blk4x hq3))
  have hb4 : Below w.heap.size w3 ((exEnd w3 w.heap.size (.int .i64 3) (.string ⟨#[]⟩) (.int .i64 tn) (.slice none 0 0)).alloc (tokObj ⟨3, tt, tn, ta, te⟩)) := (exEnd_below (Below.refl _ _) (Nat.le_refl _)).alloc (by simp; omega) _
  have hg4 := grown_then (grown_trans (grown_below hB1 pb) hg3) hb4
  have hq4 : ((exEnd w3 w.heap.size (.int .i64 3) (.string ⟨#[]⟩) (.int .i64 tn) (.slice none 0 0)).alloc (tokObj ⟨3, tt, tn, ta, te⟩)).heap[w.heap.size]? = _ := (Below.heap_alloc _ _ _ (by simp; omega)).trans (ex_end (.int .i64 3) (.string ⟨#[]⟩) (.int .i64 tn) (.slice none 0 0) hq3)
  have hp4 := h.grown hg4 ((hb4.block pb zp).trans hp3.b)
  exact bodyPost_ret (ret_ex Tryz.results101 (by rfl) hq4) rfl ⟨_, rfl, hg4, hp4, Xw.leaf _ _ _ _ _⟩
end Go.Proofs.YtklfnphkepfmaaaGreatDoor

/- term of package parse, where the term is an atom. -/
namespace Go.Proofs.YtklfnphkepfmaaaGreatDoor
open Go.RowKit
attribute [local go_sem] tok_kind tok_text tok_num tok_at

set_option maxRecDepth 100000 in
set_option maxHeartbeats 4000000 in
theorem term_atom {w : World} {pb : Nat} {tv : Value} {ts : List Tk} {i : Nat} (h : Ps w pb tv ts i) (hi : i + 1 < ts.length) (hl : ts.length ≤ 10000000) (nest : Int) (hn : nest ≤ 4096) (hk : (tkA ts i).kind = 1) (hm : mkA ts (i + 1) 40 = false) :
    Calls Tryz.prog 101 #[.pointer (some ⟨pb, 0, none⟩), .int .i64 nest] w fun e w' => ∃ v, e = .returned v ∧ w.grownBy w' (some pb) ∧ Ps w' pb tv ts (i + 1) ∧ Xw (w.heap.size ≤ ·) w' (.mk 2 (tkA ts i).text 0 []) v := by
  have htk : Hid (∀ w1 : World, Ps w1 pb tv ts (i + 1) → Calls Tryz.prog 100 #[.pointer (some ⟨pb, 0, none⟩), .string ⟨#[40]⟩] w1 fun e w' => e = .returned (.bool false) ∧ Below w1.heap.size w1 w') := fun w1 h1 => takeMark_no h1 hi ⟨#[40]⟩ hm
  unfold tkA at *
  have zp := lt_of_block h.b
  have hb0 := below_alloc w (.cells #[.int .i64 0, .string ⟨#[]⟩, .int .i64 0, .slice none 0 0] 40)
  have h1 := opens_any (h.below hb0) (by omega)
  have ho : opensF (ts.getD i tk0) = true := by unfold opensF; rw [hk]; rfl
  rw [ho] at h1
  have hnx := fun w1 (hb : Below w.heap.size w w1) => pnext_any (h.below hb) (by omega) hl
  unfold tokV at hnx
  clear hm
  generalize ts.getD i tk0 = t at *
  obtain ⟨tk, tt, tn, ta, te⟩ := t
  dsimp only at *
  subst hk
  have hn' : decide (4096 < nest) = false := decide_eq_false (by omega)
  go_enter Tryz.func101, Tryz.ntmps101
  go_wp2_with (first
    | (go_at_call 124; refine h1.mono ?_; rintro e w1 ⟨rfl, hb1⟩; have hB1 := Below.next hb0 hb1; have hq1 : w1.heap[w.heap.size]? = some (.cells #[.int .i64 0, .string ⟨#[]⟩, .int .i64 0, .slice none 0 0] 40) := (hb1.block _ (by simp)).trans (heap_alloc_new w _))
    | (go_at_call 104; refine must_yes.mono ?_; rintro e w2 ⟨rfl, rfl⟩)
    | (go_at_call 103; refine (hnx _ hB1).mono ?_; rintro e w3 ⟨rfl, hg3, hp3⟩; have hq3 := (hg3.block _ (lt_of_block hq1) (fun e => absurd (Option.some.inj e) (by omega))).trans hq1; have zq3 := lt_of_block hq3; have hal := below_alloc w3 (tokObj ⟨1, tt, tn, ta, te⟩); have hp4 := hp3.below hal)
    | (go_at_call 100; refine (htk.out _ hp4).mono ?_; rintro e w4 ⟨rfl, hb4⟩; have hB4 := Below.next hal hb4; have hq4 := (hB4.block _ zq3).trans hq3; have hk4 := (hb4.block _ (by simp)).trans (heap_alloc_new w3 (tokObj ⟨1, tt, tn, ta, te⟩)); obtain ⟨⟨q0, q1, q2, q3⟩, r0, r1, r2, r3⟩ := blk4x hq4; obtain ⟨⟨s0, s1, s2, s3, s4⟩, _⟩ := blk5 hk4))
  have hb5 : Below w.heap.size w3 (exEnd w4 w.heap.size (.int .i64 2) (.string tt) (.int .i64 0) (.slice none 0 0)) := exEnd_below (hB4.mono (by omega)) (Nat.le_refl _)
  have hg5 := grown_then (grown_trans (grown_below hB1 pb) hg3) hb5
  have hq5 : (exEnd w4 w.heap.size (.int .i64 2) (.string tt) (.int .i64 0) (.slice none 0 0)).heap[w.heap.size]? = _ := ex_end (.int .i64 2) (.string tt) (.int .i64 0) (.slice none 0 0) hq4
  have hp5 := h.grown hg5 ((hb5.block pb zp).trans hp3.b)
  exact bodyPost_ret (ret_ex Tryz.results101 (by rfl) hq5) rfl ⟨_, rfl, hg5, hp5, Xw.leaf _ _ _ _ _⟩
end Go.Proofs.YtklfnphkepfmaaaGreatDoor

/- The parser as plain data: where it stands, and that the fuel suffices. -/
namespace Go.Proofs.YtklfnphkepfmaaaGreatDoor
open Go.RowKit

/-- Behind a token that is not the end there is a further one. -/
def EndT (ts : List Tk) : Prop := ∀ i, i < ts.length → (tkA ts i).kind ≠ 0 → i + 1 < ts.length
theorem opens_kind {t : Tk} (h : opensF t = true) : t.kind ≠ 0 := fun e => by
  unfold opensF at h
  rw [e] at h
  simp at h
theorem mk_kind {ts : List Tk} {i : Nat} {c : UInt8} (h : mkA ts i c = true) : (tkA ts i).kind = 4 := by
  unfold mkA seesF at h
  simp at h
  exact h.1
theorem mk_next {ts : List Tk} (hE : EndT ts) {i : Nat} (hi : i < ts.length) {c : UInt8} (h : mkA ts i c = true) : i + 1 < ts.length := hE i hi (by rw [mk_kind h]; decide)
theorem must_pos (t : Tk) : mustC t ≠ 0 := by
  unfold mustC
  split <;> decide
/-- What is read lies within the tokens, further on; so does a fault. -/
def wit {α : Type} (ts : List Tk) (i : Nat) : Rd1 α → Prop
  | .ok _ j => i < j ∧ j < ts.length
  | .bad _ j => i ≤ j ∧ j < ts.length
theorem wit.map {α β : Type} {ts : List Tk} {i : Nat} {r : Rd1 α} (f : α → β) (h : wit ts i r) : wit ts i (r.map f) := by
  cases r <;> exact h
theorem wit.want {α : Type} {ts : List Tk} (hE : EndT ts) {i : Nat} {r : Rd1 α} (h : wit ts i r) (c : UInt8) : wit ts i (wantF ts c r) := by
  cases r with
  | bad _ _ => exact h
  | ok v j =>
    show wit ts i (if mkA ts j c then .ok v (j + 1) else .bad (mustC (tkA ts j)) j)
    split
    · rename_i hm
      exact ⟨by have := h.1; omega, mk_next hE h.2 hm⟩
    · exact ⟨by have := h.1; omega, h.2⟩
theorem wit.from {α : Type} {ts : List Tk} {i i' : Nat} {r : Rd1 α} (h : wit ts i r) (hi : i' ≤ i) : wit ts i' r := by
  cases r with
  | ok v j => exact ⟨by have := h.1; omega, h.2⟩
  | bad c j => exact ⟨by have := h.1; omega, h.2⟩
theorem all_wit {ts : List Tk} (hE : EndT ts) : ∀ f : Nat, (∀ nest i, i < ts.length → wit ts i (termF ts f nest i)) ∧ (∀ nest i xs, i < ts.length → wit ts i (argsF ts f nest i xs)) ∧ (∀ nest i es, i < ts.length → wit ts i (elemsF ts f nest i es)) := by
  intro f
  induction f with
  | zero =>
    refine ⟨fun nest i hi => ?_, fun nest i xs hi => ?_, fun nest i es hi => ?_⟩
    · rw [termF]; exact ⟨Nat.le_refl _, hi⟩
    · rw [argsF]; exact ⟨Nat.le_refl _, hi⟩
    · rw [elemsF]; exact ⟨Nat.le_refl _, hi⟩
  | succ f ih =>
    obtain ⟨iT, iA, iE⟩ := ih
    refine ⟨fun nest i hi => ?_, fun nest i xs hi => ?_, fun nest i es hi => ?_⟩
    · rw [termF]
      split
      · exact ⟨Nat.le_refl _, hi⟩
      · rename_i ho
        have ho : opensF (tkA ts i) = true := by simpa using ho
        have h1 : i + 1 < ts.length := hE i hi (opens_kind ho)
        split
        · exact ⟨Nat.le_refl _, hi⟩
        · split
          · exact ⟨by omega, h1⟩
          · split
            · exact ⟨by omega, h1⟩
            · split
              · split
                · rename_i hm
                  exact ⟨by omega, mk_next hE h1 hm⟩
                · have he := iE nest (i + 1) [] h1
                  split
                  · rename_i c j e
                    rw [e] at he
                    exact ⟨by have := he.1; omega, he.2⟩
                  · rename_i es n j e
                    rw [e] at he
                    split
                    · rename_i hm
                      have h2 := mk_next hE he.2 hm
                      exact wit.from (wit.want hE (wit.map _ (iT n (j + 1) h2)) 93) (by have := he.1; omega)
                    · exact wit.want hE (show wit ts i (.ok (listX es nilX) j) from ⟨by have := he.1; omega, he.2⟩) 93
              · split
                · rename_i hm
                  have h2 := mk_next hE h1 hm
                  exact wit.from (wit.map _ (iA (nest + 1) (i + 2) [] h2)) (by omega)
                · exact ⟨by omega, h1⟩
    · rw [argsF]
      split
      · exact ⟨Nat.le_refl _, hi⟩
      · split
        · exact ⟨Nat.le_refl _, hi⟩
        · have ht := iT nest i hi
          split
          · rename_i c j e
            rw [e] at ht
            exact ht
          · rename_i x j e
            rw [e] at ht
            split
            · rename_i hm
              exact wit.from (iA nest (j + 1) (xs ++ [x]) (mk_next hE ht.2 hm)) (by have := ht.1; omega)
            · exact wit.want hE (show wit ts i (.ok (xs ++ [x]) j) from ht) 41
    · rw [elemsF]
      have ht := iT (nest + 1) i hi
      split
      · rename_i c j e
        rw [e] at ht
        exact ht
      · rename_i x j e
        rw [e] at ht
        split
        · rename_i hm
          exact wit.from (iE (nest + 1) (j + 1) (es ++ [x]) (mk_next hE ht.2 hm)) (by have := ht.1; omega)
        · exact ht
/-- The fuel was not spent. -/
def nof {α : Type} : Rd1 α → Prop
  | .ok _ _ => True
  | .bad c _ => c ≠ 0
theorem nof.map {α β : Type} {r : Rd1 α} (f : α → β) (h : nof r) : nof (r.map f) := by
  cases r <;> exact h
theorem nof.unmap {α β : Type} {r : Rd1 α} {f : α → β} (h : nof (r.map f)) : nof r := by
  cases r <;> exact h
theorem nof.want {α : Type} {ts : List Tk} {r : Rd1 α} (h : nof r) (c : UInt8) : nof (wantF ts c r) := by
  cases r with
  | bad _ _ => exact h
  | ok v j =>
    show nof (if mkA ts j c then .ok v (j + 1) else .bad (mustC (tkA ts j)) j)
    split
    · exact trivial
    · exact must_pos _
theorem nof.unwant {α : Type} {ts : List Tk} {r : Rd1 α} {c : UInt8} (h : nof (wantF ts c r)) : nof r := by
  cases r with
  | bad _ _ => exact h
  | ok v j => exact trivial
theorem all_nof {ts : List Tk} (hE : EndT ts) : ∀ f : Nat, (∀ nest i, i < ts.length → 2 * (ts.length - i) + 1 ≤ f → nof (termF ts f nest i)) ∧ (∀ nest i xs, i < ts.length → 2 * (ts.length - i) + 2 ≤ f → nof (argsF ts f nest i xs)) ∧ (∀ nest i es, i < ts.length → 2 * (ts.length - i) + 2 ≤ f → nof (elemsF ts f nest i es)) := by
  intro f
  induction f with
  | zero => exact ⟨fun _ _ _ h => by omega, fun _ _ _ _ h => by omega, fun _ _ _ _ h => by omega⟩
  | succ f ih =>
    obtain ⟨iT, iA, iE⟩ := ih
    obtain ⟨wT, wA, wE⟩ := all_wit hE f
    refine ⟨fun nest i hi hf => ?_, fun nest i xs hi hf => ?_, fun nest i es hi hf => ?_⟩
    · rw [termF]
      split
      · exact must_pos _
      · rename_i ho
        have ho : opensF (tkA ts i) = true := by simpa using ho
        have h1 : i + 1 < ts.length := hE i hi (opens_kind ho)
        split
        · exact (by decide : (73 : Int) ≠ 0)
        · split
          · exact trivial
          · split
            · exact trivial
            · split
              · split
                · exact trivial
                · have he := iE nest (i + 1) [] h1 (by omega)
                  have hw := wE nest (i + 1) [] h1
                  split
                  · rename_i c j e
                    rw [e] at he
                    exact he
                  · rename_i es n j e
                    rw [e] at hw
                    split
                    · rename_i hm
                      exact nof.want (nof.map _ (iT n (j + 1) (mk_next hE hw.2 hm) (by have := hw.1; omega))) 93
                    · exact nof.want (show nof (.ok (listX es nilX) j) from trivial) 93
              · split
                · rename_i hm
                  exact nof.map _ (iA (nest + 1) (i + 2) [] (mk_next hE h1 hm) (by omega))
                · exact trivial
    · rw [argsF]
      split
      · exact must_pos _
      · split
        · exact (by decide : (74 : Int) ≠ 0)
        · have ht := iT nest i hi (by omega)
          have hw := wT nest i hi
          split
          · rename_i c j e
            rw [e] at ht
            exact ht
          · rename_i x j e
            rw [e] at hw
            split
            · rename_i hm
              exact iA nest (j + 1) (xs ++ [x]) (mk_next hE hw.2 hm) (by have := hw.1; omega)
            · exact nof.want (show nof (.ok (xs ++ [x]) j) from trivial) 41
    · rw [elemsF]
      have ht := iT (nest + 1) i hi (by omega)
      have hw := wT (nest + 1) i hi
      split
      · rename_i c j e
        rw [e] at ht
        exact ht
      · rename_i x j e
        rw [e] at hw
        split
        · rename_i hm
          exact iE (nest + 1) (j + 1) (es ++ [x]) (mk_next hE hw.2 hm) (by have := hw.1; omega)
        · exact trivial
end Go.Proofs.YtklfnphkepfmaaaGreatDoor

/- term of package parse, where the term is a compound. -/
namespace Go.Proofs.YtklfnphkepfmaaaGreatDoor
open Go.RowKit
attribute [local go_sem] tok_kind tok_text tok_num tok_at

theorem Ps.drew {w : World} {pb : Nat} {tv : Value} {ts : List Tk} {i : Nat} (h : Ps w pb tv ts i) : Ps w.drew pb tv ts i := ⟨h.b, h.t, h.ap⟩
theorem takeMark_yes {w : World} {pb : Nat} {tv : Value} {ts : List Tk} {i : Nat} (h : Ps w pb tv ts i) (hi : i < ts.length) (hl : ts.length ≤ 10000000) (s : ByteArray) (hs : seesF (ts.getD i tk0) 4 s = true) :
    Calls Tryz.prog 100 #[.pointer (some ⟨pb, 0, none⟩), .string s] w fun e w' => e = .returned (.bool true) ∧ w.grownBy w' (some pb) ∧ Ps w' pb tv ts (i + 1) := by
  have ht := takeMark_any h hi hl s
  rw [hs] at ht
  exact ht
/-- What a call that reads arguments or elements answers. -/
def Am (w : World) (pb : Nat) (tv : Value) (ts : List Tk) (r : Rd1 (List Ex)) (e : Ending) (w' : World) : Prop :=
  match r with
  | .ok xs j => ∃ v, e = .returned v ∧ Mo (· = pb) w w' ∧ Ps w' pb tv ts j ∧ Xo w.heap.size w' v xs
  | .bad c j => Gv (· = pb) w w' e c ((tkA ts j).at_ : Int)
theorem Mo.grownBy {w w' : World} {pb : Nat} (h : Mo (· = pb) w w') : w.grownBy w' (some pb) := ⟨h.os, h.tape, h.output, h.size, fun k hk hn => h.block k hk (fun e => hn (by rw [e]))⟩
theorem Mo.step {w w1 w' : World} {pb : Nat} (h : Mo (· = pb) w w1) (hg : w1.grownBy w' (some pb)) : Mo (· = pb) w w' := h.grown hg (fun _ e => Or.inl (Option.some.inj e).symm)
theorem exEnd_other {w : World} {q b : Nat} {v0 v1 v2 v3 : Value} (h : b ≠ q) : (exEnd w q v0 v1 v2 v3).heap[b]? = w.heap[b]? := by
  unfold exEnd
  rw [Below.heap_setCell _ _ _ _ h, Below.heap_setCell _ _ _ _ h, Below.heap_setCell _ _ _ _ h, Below.heap_setCell _ _ _ _ h]
theorem exEnd_mo {w w1 : World} {pb q : Nat} {v0 v1 v2 v3 : Value} (h : Mo (· = pb) w w1) (hq : w.heap.size ≤ q) : Mo (· = pb) w (exEnd w1 q v0 v1 v2 v3) :=
  (((h.setCell (p := ⟨q, 0, none⟩) (Or.inr hq) _).setCell (p := ⟨q, 1, none⟩) (Or.inr hq) _).setCell (p := ⟨q, 2, none⟩) (Or.inr hq) _).setCell (p := ⟨q, 3, none⟩) (Or.inr hq) _
set_option maxRecDepth 100000 in
set_option maxHeartbeats 8000000 in
theorem term_comp {w : World} {pb : Nat} {tv : Value} {ts : List Tk} {i : Nat} (h : Ps w pb tv ts i) (hE : EndT ts) (hi : i < ts.length) (hl : ts.length ≤ 10000000) (nest : Int) (hn : nest ≤ 4096) (hn0 : -10 ≤ nest) (hk : (tkA ts i).kind = 1) (hm : mkA ts (i + 1) 40 = true) {xs : List Ex} {j : Nat}
    (hA : ∀ w1 : World, Ps w1 pb tv ts (i + 2) → Calls Tryz.prog 126 #[.pointer (some ⟨pb, 0, none⟩), .int .i64 (nest + 1)] w1 (Am w1 pb tv ts (.ok xs j))) :
    Calls Tryz.prog 101 #[.pointer (some ⟨pb, 0, none⟩), .int .i64 nest] w (Tm w pb tv ts (.ok (.mk 4 (tkA ts i).text 0 xs) j)) := by
  have hi1 : i + 1 < ts.length := hE i hi (by rw [hk]; decide)
  have htk : Hid (∀ w1 : World, Ps w1 pb tv ts (i + 1) → Calls Tryz.prog 100 #[.pointer (some ⟨pb, 0, none⟩), .string ⟨#[40]⟩] w1 fun e w' => e = .returned (.bool true) ∧ w1.grownBy w' (some pb) ∧ Ps w' pb tv ts (i + 2)) := fun w1 h1 => takeMark_yes h1 hi1 hl ⟨#[40]⟩ hm
  have HA := hid hA
  unfold tkA at *
  have zp := lt_of_block h.b
  have hb0 := below_alloc w (.cells #[.int .i64 0, .string ⟨#[]⟩, .int .i64 0, .slice none 0 0] 40)
  have h1 := opens_any (h.below hb0) hi
  have ho : opensF (ts.getD i tk0) = true := by unfold opensF; rw [hk]; rfl
  rw [ho] at h1
  have hnx := fun w1 (hb : Below w.heap.size w w1) => pnext_any (h.below hb) hi hl
  unfold tokV at hnx
  clear hm hA
  generalize ts.getD i tk0 = t at *
  obtain ⟨tk, tt, tn, ta, te⟩ := t
  dsimp only at *
  subst hk
  have hn' : decide (4096 < nest) = false := decide_eq_false (by omega)
  have hwr : IntKind.i64.wrap (nest + 1) = nest + 1 := by rw [IntKind.wrap_i64]; omega
  go_enter Tryz.func101, Tryz.ntmps101
  go_wp2_with (first
    | (go_at_call 124; refine h1.mono ?_; rintro e w1 ⟨rfl, hb1⟩; have hB1 := Below.next hb0 hb1; have hq1 : w1.heap[w.heap.size]? = some (.cells #[.int .i64 0, .string ⟨#[]⟩, .int .i64 0, .slice none 0 0] 40) := (hb1.block _ (by simp)).trans (heap_alloc_new w _))
    | (go_at_call 104; refine must_yes.mono ?_; rintro e w2 ⟨rfl, rfl⟩)
    | (go_at_call 103; refine (hnx _ hB1).mono ?_; rintro e w3 ⟨rfl, hg3, hp3⟩; have hq3 := (hg3.block _ (lt_of_block hq1) (fun e => absurd (Option.some.inj e) (by omega))).trans hq1; have zq3 := lt_of_block hq3; have hal := below_alloc w3 (tokObj ⟨1, tt, tn, ta, te⟩); have hp4 := hp3.below hal)
    | (go_at_call 100; go_must (refine (htk.out _ hp4).mono ?_; rintro e w4 ⟨rfl, hg4, hp5⟩; have hq4 := (hg4.block _ (show w.heap.size < (w3.alloc (tokObj ⟨1, tt, tn, ta, te⟩)).heap.size by simp; omega) (fun e => absurd (Option.some.inj e) (by omega))).trans ((hal.block _ zq3).trans hq3); have hk4 := (hg4.block w3.heap.size (by simp) (fun e => absurd (Option.some.inj e) (by omega))).trans (heap_alloc_new w3 (tokObj ⟨1, tt, tn, ta, te⟩)); have zk4 := lt_of_block hk4; have zq4 := lt_of_block hq4; have hmA := hid ((((Mo.ofBelow hB1 : Mo (· = pb) w _).step hg3).alloc (tokObj ⟨1, tt, tn, ta, te⟩)).step hg4); obtain ⟨⟨s0, s1, s2, s3, s4⟩, _⟩ := blk5 hk4; have hA4 := HA.out w4.drew hp5.drew)))
  have hnx5 : Hid (∀ w5, Mo (· = pb) w4.drew w5 → w5.heap[w.heap.size]? = some (.cells #[.int .i64 0, .string ⟨#[]⟩, .int .i64 0, .slice none 0 0] 40) ∧ w5.heap[w3.heap.size]? = some (tokObj ⟨1, tt, tn, ta, te⟩) ∧ Mo (· = pb) w w5) := fun w5 hm5 =>
    ⟨(hm5.block _ zq4 (by omega)).trans hq4, (hm5.block _ zk4 (by omega)).trans hk4, hmA.out.drew.trans hm5 (fun _ h => Or.inl h)⟩
  clear h1 hnx htk HA hq4 hk4 hg3 hg4 hp3 hp4 hp5 hal hq3 hq1 hb0 hb1 hB1 ho
  go_region_law (first | (go_simp; go_at_call 126; refine hA4.mono ?_; clear hA4; rintro e w5 ⟨v, rfl, hm5, hp6, hx5⟩; obtain ⟨hq5, hk5, hmB⟩ := hnx5.out w5 hm5; obtain ⟨ao, c, rfl⟩ := hx5.slice; have zk5 := lt_of_block hk5; have zq5 := lt_of_block hq5; obtain ⟨⟨y0, y1, y2, y3, y4⟩, _⟩ := blk5 hk5; obtain ⟨⟨q0, q1, q2, q3⟩, r0, r1, r2, r3⟩ := blk4x hq5))
  all_goals go_wp2
  all_goals
    have hqF : (exEnd w5 w.heap.size (.int .i64 4) (.string tt) (.int .i64 0) (.slice ao xs.length c)).heap[w.heap.size]? = _ := ex_end (.int .i64 4) (.string tt) (.int .i64 0) (.slice ao xs.length c) hq5
    have hmF : Mo (· = pb) w (exEnd w5 w.heap.size (.int .i64 4) (.string tt) (.int .i64 0) (.slice ao xs.length c)) := exEnd_mo hmB (Nat.le_refl _)
    have hpF := h.grown hmF.grownBy ((exEnd_other (by omega)).trans hp6.b)
    have hxF : Xo w.heap.size (exEnd w5 w.heap.size (.int .i64 4) (.string tt) (.int .i64 0) (.slice ao xs.length c)) (.slice ao xs.length c) xs := hx5.keep (show w.heap.size ≤ w4.heap.size by omega) (fun b hb hl => exEnd_other (by have hb' : w4.heap.size ≤ b := hb; omega))
    exact bodyPost_ret (ret_ex Tryz.results101 (by rfl) hqF) rfl ⟨_, rfl, hmF, hpF, Xw.of hxF.rxw⟩
end Go.Proofs.YtklfnphkepfmaaaGreatDoor
