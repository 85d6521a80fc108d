/- The reference's reader: its begin. -/
import Derived.Test.YtklfnphkepfmaaaGreatDoorRBZ
import Derived.Test.YtklfnphkepfmaaaGreatDoorXRZ
import Derived.Test.YtklfnphkepfmaaaGreatDoorPEZ
namespace Go.Proofs.YtklfnphkepfmaaaGreatDoor
open Go.RowKit
attribute [local go_sem] tok_kind tok_text tok_num tok_at

/-- Some of the reference, at every source. -/
theorem rsomeE_any (s : ByteArray) (w : World) : Calls Tryz.prog 66 #[.string s] w (SAns w (someT s) (someC s) (someP s)) := by
  unfold someT someC someP
  by_cases hs : s.size ≤ 4194304
  · simp only [if_pos hs]
    exact rsome_all s w hs
  · simp only [if_neg hs]
    exact rsome_long s w (by omega)
set_option maxRecDepth 100000 in
set_option maxHeartbeats 1000000 in
theorem rledE_any {W : World} (k0 k : Int) (c a : Int) (cv : Value) :
    Calls Tryz.prog 68 #[.int .i64 k0, .int .i64 k, .agg #[.int .i64 c, .int .i64 a, .string ⟨#[]⟩, cv]] W fun e w' => (∃ b, e = .returned (.agg #[.int .i64 k0, .int .i64 k, .string ⟨#[]⟩, .slice (some ⟨b, 0, none⟩) 1 1]) ∧ W.heap.size ≤ b ∧ w'.heap[b]? = some (.cells #[.int .i64 c, .int .i64 a, .string ⟨#[]⟩, cv] 34)) ∧ Below W.heap.size W w' := by
  go_enter Tryz.func68, Tryz.ntmps68
  go_wp2
  refine bodyPost_ret (v := .agg #[.int .i64 k0, .int .i64 k, .string ⟨#[]⟩, .slice (some ⟨W.heap.size + 1 + 1, 0, none⟩) 1 1]) (by simp [results, Tryz.results68, go_sem]) rfl ⟨⟨W.heap.size + 1 + 1, rfl, by omega, ?_⟩, ((below_alloc W _).alloc (by simp) _).alloc (by simp <;> omega) _⟩
  have := heap_alloc_new ((W.alloc (.cells #[.int .i64 c, .int .i64 a, .string ⟨#[]⟩, cv] 34)).alloc (.cells #[.int .i64 k0, .int .i64 k, .string ⟨#[]⟩, .slice (some ⟨W.heap.size + 1 + 1, 0, none⟩) 1 1] 34)) (.cells #[.int .i64 c, .int .i64 a, .string ⟨#[]⟩, cv] 34)
  simpa using this
set_option maxRecDepth 100000 in
set_option maxHeartbeats 1000000 in
theorem badF_no (a : Int) (w : World) : Calls Tryz.prog 67 #[.agg #[.int .i64 0, .int .i64 a, .string ⟨#[]⟩, .slice none 0 0]] w fun e w' => e = .returned (.bool false) ∧ Below w.heap.size w w' := by
  go_enter Tryz.func67, Tryz.ntmps67
  go_wp2
  go_ret
  exact ⟨rfl, below_alloc _ _⟩
set_option maxRecDepth 100000 in
set_option maxHeartbeats 1000000 in
theorem badF_yes {c : Int} (hc : (c == 0) = false) (a : Int) (w : World) : Calls Tryz.prog 67 #[.agg #[.int .i64 c, .int .i64 a, .string ⟨#[]⟩, .slice none 0 0]] w fun e w' => e = .returned (.bool true) ∧ Below w.heap.size w w' := by
  have hn : (c != 0) = true := by simp [bne, hc]
  go_enter Tryz.func67, Tryz.ntmps67
  go_wp2
  go_ret
  exact ⟨by first | rfl | rw [hn] | simp [hn], below_alloc _ _⟩
abbrev fltO (c a : Int) : Obj := .cells #[.int .i64 c, .int .i64 a, .string ⟨#[]⟩, .slice none 0 0] 34
theorem Rs.new {w : World} {B : Nat} {v : Value} {ts : List Tk} (h : Tr w B v ts) (o : Obj) : Rs ((w.alloc o).alloc (rpObj v 0 0 0)) (w.heap.size + 1) v ts 0 := by
  have hn := heap_alloc_new (w.alloc o) (rpObj v 0 0 0)
  rw [show (w.alloc o).heap.size = w.heap.size + 1 by simp] at hn
  have hb : Below w.heap.size w ((w.alloc o).alloc (rpObj v 0 0 0)) := (below_alloc w o).alloc (by simp) _
  refine ⟨hn, (Tr.rt h).below hb, fun ad n c e => ?_⟩
  subst e
  have := (h.lt ad.block rfl).2
  omega
set_option maxRecDepth 100000 in
set_option maxHeartbeats 2000000 in
/-- Begin where the source has its tokens. -/
theorem rbegin_ok (s : ByteArray) (w : World) (hc : someC s = 0) :
    Calls Tryz.prog 29 #[.string s] w fun e w' => ∃ pb tv, e = .returned (.pointer (some ⟨pb, 0, none⟩)) ∧ w.heap.size ≤ pb ∧ Rs w' pb tv (someT s) 0 ∧ Below w.heap.size w w' := by
  have hs := rsomeE_any s w
  rw [hc] at hs
  have hbd := hid (fun a w => badF_no a w)
  generalize someP s = p at *
  clear hc
  go_enter Tryz.func29, Tryz.ntmps29
  go_wp2_with (first
    | (go_at_call 66; go_must (refine hs.mono ?_; clear hs; rintro e w1 ⟨v, rfl, hT, hb1⟩; obtain ⟨va, vc, rfl, _⟩ := Tr.rt hT; have HT := hid hT; have HB := hid hb1; have hs1 := hb1.size; clear hT hb1))
    | (go_at_call 67; go_must (refine (hbd.out _ _).mono ?_; clear hbd; rintro e w2 ⟨rfl, hb2⟩)))
  have hR := (Rs.new HT.out (fltO 0 p)).below hb2
  have hB2 : Below w.heap.size w w2 := Below.next (((HB.out.alloc hs1 (fltO 0 p))).alloc (by simp; omega) (rpObj (.slice va (someT s).length vc) 0 0 0)) hb2
  go_ret
  exact ⟨w1.heap.size + 1, .slice va (someT s).length vc, rfl, by omega, hR, hB2⟩
/-- The reader of a source that has a fault. -/
abbrev rqObj (tv : Value) (a : Int) (lb : Nat) : Obj := .cells #[tv, .int .i64 0, .int .i64 70, .int .i64 a, .string ⟨#[]⟩, .slice (some ⟨lb, 0, none⟩) 1 1] 74
theorem rq_end {w : World} {q lb : Nat} {tv : Value} {a : Int} (h : w.heap[q]? = some (rpObj tv 0 0 0)) : ((((w.setCell ⟨q, 2, none⟩ (.int .i64 70)).setCell ⟨q, 3, none⟩ (.int .i64 a)).setCell ⟨q, 4, none⟩ (.string ⟨#[]⟩)).setCell ⟨q, 5, none⟩ (.slice (some ⟨lb, 0, none⟩) 1 1)).heap[q]? = some (rqObj tv a lb) := by
  have h0 := heap_setCell_same w q 2 _ _ (.int .i64 70) h
  have h1 := heap_setCell_same _ q 3 _ _ (.int .i64 a) h0
  have h2 := heap_setCell_same _ q 4 _ _ (.string ⟨#[]⟩) h1
  have h3 := heap_setCell_same _ q 5 _ _ (.slice (some ⟨lb, 0, none⟩) 1 1) h2
  rw [h3]
  rfl
set_option maxRecDepth 100000 in
set_option maxHeartbeats 2000000 in
/-- Begin where the source has a fault. -/
theorem rbegin_bad (s : ByteArray) (w : World) (hc : someC s ≠ 0) :
    Calls Tryz.prog 29 #[.string s] w fun e w' => ∃ pb tv lb, e = .returned (.pointer (some ⟨pb, 0, none⟩)) ∧ w.heap.size ≤ pb ∧ w'.heap[pb]? = some (rqObj tv (someP s) lb) ∧ w'.heap[lb]? = some (fltO (someC s) (someP s)) ∧ w.heap.size ≤ lb ∧ Below w.heap.size w w' := by
  have hs := rsomeE_any s w
  have hcb : (someC s == 0) = false := beq_eq_false_iff_ne.2 hc
  generalize someP s = p at *
  generalize someC s = c at *
  have hbd := hid (fun w => badF_yes hcb p w)
  have hld := hid (fun (W : World) => rledE_any (W := W) 70 p c p (.slice none 0 0))
  clear hc hcb
  go_enter Tryz.func29, Tryz.ntmps29
  go_wp2_with (first
    | (go_at_call 66; go_must (refine hs.mono ?_; clear hs; rintro e w1 ⟨v, rfl, hT, hb1⟩; obtain ⟨va, vc, rfl, _⟩ := Tr.rt hT; have HT := hid hT; have HB := hid hb1; have hs1 := hb1.size; clear hT hb1))
    | (go_at_call 67; go_must (refine (hbd.out _).mono ?_; clear hbd; rintro e w2 ⟨rfl, hb2⟩; have HB2 := hid hb2; have hf2 := (hb2.block w1.heap.size (by simp; omega)).trans ((Below.heap_alloc _ _ _ (by simp)).trans (heap_alloc_new w1 (fltO c p))); have zf2 := lt_of_block hf2; obtain ⟨⟨y0, y1, y2, y3⟩, _⟩ := blk4x hf2; have hR2 := hid ((Rs.new HT.out (fltO c p)).below hb2).b; clear hb2))
    | (go_at_call 68; go_must (refine (hld.out w2).mono ?_; clear hld; rintro e w3 ⟨⟨lb, rfl, hlb, hlq⟩, hb3⟩; have hq3 := (hb3.block _ (lt_of_block hR2.out)).trans hR2.out; have zq3 := lt_of_block hq3; obtain ⟨⟨u0, u1, u2, u3, u4, u5⟩, g0, g1, g2, g3, g4, g5⟩ := blk6 hq3; have HB3 := hid hb3; have hlr := hid hlq; clear hb3 hlq)))
  have hB0 : Below w.heap.size w w3 := Below.next (Below.next (((HB.out.alloc hs1 (fltO c p))).alloc (by simp; omega) (rpObj (.slice va (someT s).length vc) 0 0 0)) HB2.out) HB3.out
  have hne : lb ≠ w1.heap.size + 1 := by
    have h1 := lt_of_block hR2.out
    omega
  go_ret
  refine ⟨w1.heap.size + 1, .slice va (someT s).length vc, lb, rfl, by omega, rq_end hq3, ?_, by have := HB2.out.size; simp at this; omega, (((hB0.setCell (p := ⟨w1.heap.size + 1, 2, none⟩) (by show w.heap.size ≤ w1.heap.size + 1; omega) _).setCell (p := ⟨w1.heap.size + 1, 3, none⟩) (by show w.heap.size ≤ w1.heap.size + 1; omega) _).setCell (p := ⟨w1.heap.size + 1, 4, none⟩) (by show w.heap.size ≤ w1.heap.size + 1; omega) _).setCell (p := ⟨w1.heap.size + 1, 5, none⟩) (by show w.heap.size ≤ w1.heap.size + 1; omega) _⟩
  rw [Below.heap_setCell _ _ _ _ hne, Below.heap_setCell _ _ _ _ hne, Below.heap_setCell _ _ _ _ hne, Below.heap_setCell _ _ _ _ hne]
  exact hlr.out
set_option maxHeartbeats 1000000 in
theorem rbad_led {w : World} {pb lb : Nat} {tv : Value} {a : Int} (hb : w.heap[pb]? = some (rqObj tv a lb)) :
    Calls Tryz.prog 30 #[.pointer (some ⟨pb, 0, none⟩)] w fun e w' => e = .returned (.bool true) ∧ w' = w := by
  obtain ⟨⟨_, _, c2, _, _, _⟩, _⟩ := blk6 hb
  have zp := lt_of_block hb
  go_enter Tryz.func30, Tryz.ntmps30
  go_wp2
  go_ret
  exact ⟨by simp, rfl⟩
set_option maxRecDepth 100000 in
set_option maxHeartbeats 4000000 in
theorem rkind_quiet {w : World} {pb : Nat} {tv : Value} {ts : List Tk} {i : Nat} (h : Rs w pb tv ts i) (hi : i < ts.length) :
    Calls Tryz.prog 31 #[.pointer (some ⟨pb, 0, none⟩)] w fun e w' => e = .returned (.int .i64 (tkA ts i).kind) ∧ ∃ m, w' = w.drewN m := by
  have hp := h.b
  have zp := lt_of_block hp
  obtain ⟨⟨c0, c1, c2, c3, c4, c5⟩, f0, f1, f2, f3, f4, f5⟩ := blk6 hp
  obtain ⟨ao, c, rfl, ht⟩ := h.t
  obtain ⟨b, o, rfl, hc⟩ := ht i hi
  have t0 := hc 0 _ rfl
  rw [Nat.add_zero] at t0
  have zb := lt_of_cell t0
  have hi2 : (i : Int) < (ts.length : Int) := by omega
  unfold tkA
  generalize ts.getD i tk0 = t at *
  generalize ts.length = N at *
  clear h ht hc hi hp
  go_enter Tryz.func31, Tryz.ntmps31
  go_wp2
  go_quiet (fail)
  go_wp2
  go_ret
  exact ⟨rfl, _, rfl⟩
end Go.Proofs.YtklfnphkepfmaaaGreatDoor

/- How wide terms are that the parser reads. -/
namespace Go.Proofs.YtklfnphkepfmaaaGreatDoor
open Go.RowKit

mutual
/-- No part of a term has more than so many arguments. -/
def wdX : Ex → Prop
  | .mk _ _ _ xs => xs.length ≤ 100 ∧ wdXs xs
def wdXs : List Ex → Prop
  | [] => True
  | x :: r => wdX x ∧ wdXs r
end
theorem wdXs_mem : ∀ {xs : List Ex}, wdXs xs → ∀ x ∈ xs, wdX x
  | [], _, x, h => by cases h
  | y :: r, h, x, hx => by
    rcases List.mem_cons.1 hx with e | e
    · subst e; exact h.1
    · exact wdXs_mem h.2 x e
theorem wdXs_of : ∀ {xs : List Ex}, (∀ x ∈ xs, wdX x) → wdXs xs
  | [], _ => trivial
  | y :: r, h => ⟨h y (by simp), wdXs_of (fun x hx => h x (by simp [hx]))⟩
theorem wdX_leaf (k : Int) (n : ByteArray) (m : Int) : wdX (.mk k n m []) := ⟨by simp, trivial⟩
theorem wdX_cons {a b : Ex} (ha : wdX a) (hb : wdX b) : wdX (consX a b) := ⟨by simp, ha, hb, trivial⟩
theorem wdX_list {e : Ex} (he : wdX e) : ∀ {es : List Ex}, (∀ x ∈ es, wdX x) → wdX (listX es e)
  | [], _ => he
  | x :: r, h => wdX_cons (h x (by simp)) (wdX_list he (es := r) (fun y hy => h y (by simp [hy])))
/-- What is read has a property. -/
def Hs {α : Type} (P : α → Prop) : Rd1 α → Prop
  | .ok v _ => P v
  | .bad _ _ => True
theorem hs_leaf (k : Int) (n : ByteArray) (m : Int) (j : Nat) : Hs wdX (.ok (.mk k n m []) j) := wdX_leaf k n m
theorem Hs.map {α β : Type} {P : α → Prop} {Q : β → Prop} {g : α → β} {r : Rd1 α} (h : Hs P r) (hg : ∀ v, P v → Q (g v)) : Hs Q (r.map g) := by
  cases r with
  | ok v j => exact hg v h
  | bad c j => trivial
theorem Hs.want {α : Type} {P : α → Prop} {ts : List Tk} {c : UInt8} {r : Rd1 α} (h : Hs P r) : Hs P (wantF ts c r) := by
  cases r with
  | ok v j =>
    show Hs P (if _ then _ else _)
    split
    · exact h
    · trivial
  | bad c j => trivial
theorem snoc_all {α : Type} {P : α → Prop} {xs : List α} {x : α} (h : ∀ y ∈ xs, P y) (hx : P x) : ∀ y ∈ xs ++ [x], P y := fun y hy => by
  rcases List.mem_append.1 hy with e | e
  · exact h y e
  · have : y = x := by simpa using e
    subst this
    exact hx
theorem all_wd (ts : List Tk) : ∀ f : Nat, (∀ nest i, Hs wdX (termF ts f nest i)) ∧ (∀ nest i xs, (∀ x ∈ xs, wdX x) → xs.length ≤ 8 → Hs (fun l => (∀ x ∈ l, wdX x) ∧ l.length ≤ 8) (argsF ts f nest i xs)) ∧ (∀ nest i es, (∀ x ∈ es, wdX x) → Hs (fun l => ∀ x ∈ l.1, wdX x) (elemsF ts f nest i es)) := by
  intro f
  induction f with
  | zero =>
    refine ⟨fun nest i => ?_, fun nest i xs _ _ => ?_, fun nest i es _ => ?_⟩
    · rw [termF]; trivial
    · rw [argsF]; trivial
    · rw [elemsF]; trivial
  | succ f ih =>
    obtain ⟨iT, iA, iE⟩ := ih
    refine ⟨fun nest i => ?_, fun nest i xs hx h8 => ?_, fun nest i es hx => ?_⟩
    · rw [termF]
      split
      · trivial
      · split
        · trivial
        · split
          · exact hs_leaf _ _ _ _
          · split
            · exact hs_leaf _ _ _ _
            · split
              · split
                · exact wdX_leaf 2 ⟨#[91, 93]⟩ 0
                · have he := iE nest (i + 1) [] (by simp)
                  split
                  · trivial
                  · rename_i es n j e
                    rw [e] at he
                    split
                    · exact Hs.want (Hs.map (iT n (j + 1)) (fun v hv => wdX_list hv he))
                    · exact Hs.want (show Hs wdX (.ok (listX es nilX) j) from wdX_list (wdX_leaf 2 ⟨#[91, 93]⟩ 0) he)
              · split
                · exact Hs.map (iA (nest + 1) (i + 2) [] (by simp) (by simp)) (fun v hv => ⟨by have := hv.2; omega, wdXs_of hv.1⟩)
                · exact hs_leaf _ _ _ _
    · rw [argsF]
      split
      · trivial
      · split
        · trivial
        · have ht := iT nest i
          split
          · trivial
          · rename_i h8n x j e
            rw [e] at ht
            split
            · exact iA nest (j + 1) (xs ++ [x]) (snoc_all hx ht) (by simp; omega)
            · exact Hs.want (show Hs _ (.ok (xs ++ [x]) j) from ⟨snoc_all hx ht, by simp; omega⟩)
    · rw [elemsF]
      have ht := iT (nest + 1) i
      split
      · trivial
      · rename_i x j e
        rw [e] at ht
        split
        · exact iE (nest + 1) (j + 1) (es ++ [x]) (snoc_all hx ht)
        · exact snoc_all hx ht
theorem sev_hs {α : Type} {ts : List Tk} {P : α → Prop} {rd : Nat → Nat → Rd1 α} (hr : ∀ k i, Hs P (rd k i)) : ∀ f i xs, (∀ x ∈ xs, P x) → Hs (fun l => ∀ x ∈ l, P x) (sevF ts rd f i xs)
  | 0, i, xs, _ => by rw [sevF]; trivial
  | f + 1, i, xs, hx => by
    rw [sevF]
    have h := hr xs.length i
    cases e : rd xs.length i with
    | bad c j => trivial
    | ok x j =>
      rw [e] at h
      show Hs _ (if _ then _ else _)
      split
      · exact sev_hs hr f (j + 1) (xs ++ [x]) (snoc_all hx h)
      · exact snoc_all hx h
/-- As many things as tokens at the most. -/
theorem wsev_len {α : Type} {ts : List Tk} (hE : EndT ts) {rd : Nat → Nat → Rd1 α} (hw : ∀ k i, i < ts.length → wit ts i (rd k i)) : ∀ f i (xs : List α), i < ts.length → xs.length ≤ i → Hs (fun l => l.length ≤ ts.length) (sevF ts rd f i xs)
  | 0, i, xs, _, _ => by rw [sevF]; trivial
  | f + 1, i, xs, hi, hx => by
    rw [sevF]
    have h := hw xs.length i hi
    cases e : rd xs.length i with
    | bad c j => trivial
    | ok x j =>
      rw [e] at h
      show Hs _ (if _ then _ else _)
      obtain ⟨h1, h2⟩ := h
      split
      · rename_i hm
        exact wsev_len hE hw f (j + 1) (xs ++ [x]) (mk_next hE h2 hm) (by simp; omega)
      · show (xs ++ [x]).length ≤ _
        simp
        omega
theorem eq_wd (ts : List Tk) (f i : Nat) : Hs (fun q : ByteArray × Ex => wdX q.2) (eqF ts f i) := by
  unfold eqF
  split
  · split
    · exact Hs.map ((all_wd ts f).1 0 (i + 2)) (fun v hv => hv)
    · trivial
  · trivial
/-- What a source of terms is read as: not too many, none too wide. -/
theorem terms_wd {ts : List Tk} (hE : EndT ts) (f i : Nat) (hi : i < ts.length) : Hs (fun z : List Ex × List (ByteArray × Ex) => (∀ x ∈ z.1, wdX x) ∧ (∀ q ∈ z.2, wdX q.2) ∧ z.1.length ≤ ts.length ∧ z.2.length ≤ ts.length) (termsF ts f i) := by
  unfold termsF
  have hend : ∀ (z : List Ex × List (ByteArray × Ex)) j, ((∀ x ∈ z.1, wdX x) ∧ (∀ q ∈ z.2, wdX q.2) ∧ z.1.length ≤ ts.length ∧ z.2.length ≤ ts.length) → Hs (fun z : List Ex × List (ByteArray × Ex) => (∀ x ∈ z.1, wdX x) ∧ (∀ q ∈ z.2, wdX q.2) ∧ z.1.length ≤ ts.length ∧ z.2.length ≤ ts.length) (endF ts z j) := fun z j h => by
    unfold endF
    split
    · exact h
    · trivial
  split
  · exact hend ([], []) i ⟨by simp, by simp, by simp, by simp⟩
  · have h1 := sev_hs (ts := ts) (P := wdX) (fun _ i => (all_wd ts f).1 0 i) f i [] (by simp)
    have h2 := wsev_len hE (rootRd_wit hE f) f i [] hi (by simp)
    cases e : sevF ts (fun _ i => termF ts f 0 i) f i [] with
    | bad c j => trivial
    | ok xs j =>
      rw [e] at h1 h2
      have hj := sev_wit hE (rootRd_wit hE f) f i [] hi e
      show Hs _ (if _ then (match sevF ts (fun _ i => eqF ts f i) f (j + 1) [] with
        | .bad c j => .bad c j
        | .ok qs j => endF ts (xs, qs) j) else _)
      split
      · rename_i hw
        have hj1 : j + 1 < ts.length := hE j hj (by
          unfold seesF at hw
          simp at hw
          have e : (tkA ts j).kind = 1 := hw.1
          rw [e]
          decide)
        have k1 := sev_hs (ts := ts) (P := fun q : ByteArray × Ex => wdX q.2) (fun _ i => eq_wd ts f i) f (j + 1) [] (by simp)
        have k2 := wsev_len hE (fun _ i hi => wit_eqF hE f i hi) f (j + 1) [] hj1 (by simp)
        cases e2 : sevF ts (fun _ i => eqF ts f i) f (j + 1) [] with
        | bad c j => trivial
        | ok qs j2 =>
          rw [e2] at k1 k2
          exact hend (xs, qs) j2 ⟨h1, k1, h2, k2⟩
      · exact hend (xs, []) j ⟨h1, by simp, h2, by simp⟩
end Go.Proofs.YtklfnphkepfmaaaGreatDoor

/- The reference's Terms: what its loops keep. -/
namespace Go.Proofs.YtklfnphkepfmaaaGreatDoor
open Go.RowKit

/-- The reader's block and the block of what is read. -/
def Pbo (pb ob k : Nat) : Prop := k = pb ∨ k = ob
/-- What a loop that reads things keeps: since its start only two blocks have changed, the things lie in a row of their own. -/
structure Lp {α : Type} (E : Elt α) (pb ob : Nat) (W0 : World) (mk : Value → Obj) (W : World) (v : Value) (l : List α) : Prop where
  m : Mo (Pbo pb ob) W0 W
  o : W.heap[ob]? = some (mk v)
  x : Ro E W0.heap.size W v l
section
variable {α : Type} {E : Elt α} {pb ob : Nat} {W0 : World} {mk : Value → Obj} {v : Value} {l : List α}
theorem Lp.step {W W' : World} (hp : pb < W0.heap.size) (hne : ob ≠ pb) (h : Lp E pb ob W0 mk W v l) (hm : Mo (· = pb) W W') : Lp E pb ob W0 mk W' v l :=
  ⟨h.m.trans hm (fun _ hk => Or.inl (Or.inl hk)), (hm.block ob (lt_of_block h.o) hne).trans h.o, h.x.mo hm (fun k hk => by omega)⟩
theorem Lp.below {W W' : World} (h : Lp E pb ob W0 mk W v l) (hb : Below W.heap.size W W') : Lp E pb ob W0 mk W' v l :=
  ⟨h.m.trans (Mo.ofBelow hb : Mo (Pbo pb ob) W W') (fun _ hk => Or.inl hk), (hb.block ob (lt_of_block h.o)).trans h.o, h.x.next hb⟩
/-- The row may be put behind: what is known then. -/
theorem Lp.ready {W : World} (hp : pb < W0.heap.size) (ho : ob < W0.heap.size) (h : Lp E pb ob W0 mk W v l) (lit : Obj) : ∃ fv : Nat → List Value, (W.alloc lit).ownsRow W0.heap.size E.T E.z v l.length (flatV fv l.length) ∧
    (∀ (g7 c7 : Nat) (w7 : World) (cs : List Value), w7.ownsRow W0.heap.size E.T E.z (.slice (some ⟨g7, 0, none⟩) (l.length + 1) c7) (l.length + 1) (flatV fv l.length ++ cs) → (W.alloc lit).grownBy w7 v.ownBlock → (v.ownBlock = some g7 ∨ g7 = W.heap.size + 1) → cs.length = E.z →
      Mo (Pbo pb ob) W0 w7 ∧ w7.heap[ob]? = some (mk v) ∧ w7.heap[pb]? = W.heap[pb]? ∧ ∀ (x : α) (D : Nat), E.C (D ≤ ·) W x cs → W0.heap.size ≤ D → (∀ b, v.ownBlock = some b → b < D) → Ro E W0.heap.size w7 (.slice (some ⟨g7, 0, none⟩) (l.length + 1) c7) (l ++ [x])) := by
  have hB := h.x.blkB
  obtain ⟨fv, hf, hx, hown⟩ := h.x
  refine ⟨fv, hown.alloc _, fun g7 c7 w7 cs ho7 hg7 hat hcs => ?_⟩
  have old : ∀ q, q < W0.heap.size → w7.heap[q]? = W.heap[q]? := fun q hq => by
    have hz := h.m.size
    refine (hg7.block q (by simp; omega) (fun e => ?_)).trans (Below.heap_alloc _ _ _ (by omega))
    have := hB q e.symm
    omega
  refine ⟨(h.m.alloc lit).grown hg7 (fun k hk => Or.inr (hB k hk)), (old ob ho).trans h.o, old pb hp, fun x D hC hD hvb => ?_⟩
  exact ro_app hf hx hvb hD hcs hC ho7 hg7 hat
theorem Lp.put {w7 : World} {v' : Value} {l' : List α} {ci : Nat} (hm : Mo (Pbo pb ob) W0 w7) (hx : Ro E W0.heap.size w7 v' l') (ho : ob < W0.heap.size) (hset : (w7.setCell ⟨ob, ci, none⟩ v').heap[ob]? = some (mk v')) : Lp E pb ob W0 mk (w7.setCell ⟨ob, ci, none⟩ v') v' l' :=
  ⟨hm.setCell (p := ⟨ob, ci, none⟩) (Or.inl (Or.inr rfl)) _, hset, hx.keep (Nat.le_refl _) (fun b hb _ => Below.heap_setCell w7 ⟨ob, ci, none⟩ v' b (by show b ≠ ob; omega))⟩
end
abbrev tmZ : Obj := .cells #[.slice none 0 0, .slice none 0 0] 27
/-- What is read, in its block: roots; roots and equations. -/
def mkR (v : Value) : Obj := .cells #[v, .slice none 0 0] 27
def mkQ (rv v : Value) : Obj := .cells #[rv, v] 27
theorem setR {w : World} {q : Nat} {v : Value} (v' : Value) (h : w.heap[q]? = some (mkR v)) : (w.setCell ⟨q, 0, none⟩ v').heap[q]? = some (mkR v') := by
  rw [heap_setCell_same w q 0 _ _ v' h]
  rfl
theorem setQ {w : World} {q : Nat} {rv v : Value} (v' : Value) (h : w.heap[q]? = some (mkQ rv v)) : (w.setCell ⟨q, 1, none⟩ v').heap[q]? = some (mkQ rv v') := by
  rw [heap_setCell_same w q 1 _ _ v' h]
  rfl
/-- Where the reader stands behind an answer. -/
def EsA {α : Type} (pb : Nat) (tv : Value) (ts : List Tk) (r : Rd1 α) (w : World) : Prop :=
  match r with
  | .ok _ j => Rs w pb tv ts j
  | .bad c j => Rb w pb c ((tkA ts j).at_ : Int)
/-- What the reference's Terms answers, the source having its tokens. -/
def Rzt (w : World) (ts : List Tk) (r : Rd1 (List Ex × List (ByteArray × Ex))) (e : Ending) (w' : World) : Prop :=
  Below w.heap.size w w' ∧ match r with
  | .ok (xs, qs) _ => ∃ ro rc qo qc, e = .returned (.tuple #[.agg #[.slice ro xs.length rc, .slice qo qs.length qc], .agg #[.int .i64 0, .int .i64 0, .string ⟨#[]⟩, .slice none 0 0]]) ∧ Ro eltX w.heap.size w' (.slice ro xs.length rc) xs ∧ Ro eltQ w.heap.size w' (.slice qo qs.length qc) qs
  | .bad c j => c ≠ 0 ∧ e = .returned (.tuple #[.agg #[.slice none 0 0, .slice none 0 0], .agg #[.int .i64 c, .int .i64 ((tkA ts j).at_ : Int), .string ⟨#[]⟩, .slice none 0 0]])
theorem ret_tf {w : World} {fn : Func} {t u : Tmp} (hfn : fn.results = #[.cell t 27, .cell u 34]) {tmps : Array Value} {q p : Nat} {u0 u1 v0 v1 v2 v3 : Value} (h4 : tmps[t]?.getD undef = .pointer (some ⟨q, 0, none⟩)) (h5 : tmps[u]?.getD undef = .pointer (some ⟨p, 0, none⟩)) (hq : w.heap[q]? = some (.cells #[u0, u1] 27)) (hp : w.heap[p]? = some (.cells #[v0, v1, v2, v3] 34)) : (results fn tmps).run Tryz.prog w = .ok (.tuple #[.agg #[u0, u1], .agg #[v0, v1, v2, v3]]) w := by
  obtain ⟨⟨z0, z1⟩, _⟩ := blk2x hq
  obtain ⟨⟨y0, y1, y2, y3⟩, _⟩ := blk4x hp
  simp [results, hfn, go_sem, h4, h5, z0, z1, y0, y1, y2, y3]
/-- The world behind the stores of the two results. -/
abbrev tfEnd (w : World) (q : Nat) (u0 u1 v0 v1 v2 v3 : Value) : World := (((((w.setCell ⟨q, 0, none⟩ u0).setCell ⟨q, 1, none⟩ u1).setCell ⟨q + 1, 0, none⟩ v0).setCell ⟨q + 1, 1, none⟩ v1).setCell ⟨q + 1, 2, none⟩ v2).setCell ⟨q + 1, 3, none⟩ v3
theorem tfEnd_is {w : World} {q : Nat} {a0 a1 b0 b1 b2 b3 : Value} (u0 u1 v0 v1 v2 v3 : Value) (h : w.heap[q]? = some (.cells #[a0, a1] 27)) (h' : w.heap[q + 1]? = some (.cells #[b0, b1, b2, b3] 34)) : (tfEnd w q u0 u1 v0 v1 v2 v3).heap[q]? = some (.cells #[u0, u1] 27) ∧ (tfEnd w q u0 u1 v0 v1 v2 v3).heap[q + 1]? = some (.cells #[v0, v1, v2, v3] 34) := by
  have h0 := heap_setCell_same w q 0 _ _ u0 h
  have h1 := heap_setCell_same _ q 1 _ _ u1 h0
  have e1 : ((w.setCell ⟨q, 0, none⟩ u0).setCell ⟨q, 1, none⟩ u1).heap[q + 1]? = some (.cells #[b0, b1, b2, b3] 34) := by
    rw [Below.heap_setCell _ _ _ _ (show q + 1 ≠ q by omega), Below.heap_setCell _ _ _ _ (show q + 1 ≠ q by omega)]
    exact h'
  have k0 := heap_setCell_same _ (q + 1) 0 _ _ v0 e1
  have k1 := heap_setCell_same _ (q + 1) 1 _ _ v1 k0
  have k2 := heap_setCell_same _ (q + 1) 2 _ _ v2 k1
  have k3 := heap_setCell_same _ (q + 1) 3 _ _ v3 k2
  constructor
  · unfold tfEnd
    have hn : q ≠ q + 1 := by omega
    rw [Below.heap_setCell _ _ _ _ hn, Below.heap_setCell _ _ _ _ hn, Below.heap_setCell _ _ _ _ hn, Below.heap_setCell _ _ _ _ hn, h1]
    rfl
  · unfold tfEnd
    rw [k3]
    rfl
theorem tfEnd_below {w0 w : World} {u0 u1 v0 v1 v2 v3 : Value} (h : Below w0.heap.size w0 w) : Below w0.heap.size w0 (tfEnd w w0.heap.size u0 u1 v0 v1 v2 v3) :=
  (((((h.setCell (p := ⟨w0.heap.size, 0, none⟩) (Nat.le_refl _) _).setCell (p := ⟨w0.heap.size, 1, none⟩) (Nat.le_refl _) _).setCell (p := ⟨w0.heap.size + 1, 0, none⟩) (Nat.le_succ _) _).setCell (p := ⟨w0.heap.size + 1, 1, none⟩) (Nat.le_succ _) _).setCell (p := ⟨w0.heap.size + 1, 2, none⟩) (Nat.le_succ _) _).setCell (p := ⟨w0.heap.size + 1, 3, none⟩) (Nat.le_succ _) _
theorem tfEnd_far {w : World} {q b : Nat} {u0 u1 v0 v1 v2 v3 : Value} (h : b ≠ q) (h' : b ≠ q + 1) : (tfEnd w q u0 u1 v0 v1 v2 v3).heap[b]? = w.heap[b]? := by
  unfold tfEnd
  rw [Below.heap_setCell _ _ _ _ h', Below.heap_setCell _ _ _ _ h', Below.heap_setCell _ _ _ _ h', Below.heap_setCell _ _ _ _ h', Below.heap_setCell _ _ _ _ h, Below.heap_setCell _ _ _ _ h]
/-- The frame behind Begin: the results' blocks, the reader's, that of what is read. -/
structure Fr (w : World) (pb : Nat) (W0 : World) : Prop where
  t : W0.heap[w.heap.size]? = some tmZ
  f : W0.heap[w.heap.size + 1]? = some (fltO 0 0)
  b : Below w.heap.size w W0
  p : w.heap.size + 2 ≤ pb
  o : pb + 1 < W0.heap.size
theorem Fr.kept {w W0 W : World} {pb ob : Nat} (h : Fr w pb W0) (hm : Mo (Pbo pb ob) W0 W) (ho : w.heap.size + 2 ≤ ob) : W.heap[w.heap.size]? = some tmZ ∧ W.heap[w.heap.size + 1]? = some (fltO 0 0) ∧ Below w.heap.size w W := by
  have hp := h.p
  refine ⟨(hm.block _ (lt_of_block h.t) (fun hk => ?_)).trans h.t, (hm.block _ (lt_of_block h.f) (fun hk => ?_)).trans h.f, h.b.trans (hm.below (fun k hk => ?_) h.b.size)⟩
  · rcases hk with e | e <;> omega
  · rcases hk with e | e <;> omega
  · rcases hk with e | e <;> omega
end Go.Proofs.YtklfnphkepfmaaaGreatDoor

/- The reference's Terms where the source has a fault, or nothing. -/
namespace Go.Proofs.YtklfnphkepfmaaaGreatDoor
open Go.RowKit
attribute [local go_sem] tok_kind tok_text tok_num tok_at

theorem fr_start {w W1 : World} {pb : Nat} (hb : Below ((w.alloc tmZ).alloc (fltO 0 0)).heap.size ((w.alloc tmZ).alloc (fltO 0 0)) W1) (hp : ((w.alloc tmZ).alloc (fltO 0 0)).heap.size ≤ pb) (hq : pb < W1.heap.size) : Fr w pb (W1.alloc tmZ) := by
  have h1 := heap_alloc_new (w.alloc tmZ) (fltO 0 0)
  rw [show (w.alloc tmZ).heap.size = w.heap.size + 1 by simp] at h1
  have hs := hb.size
  simp at hs hp
  refine ⟨(Below.heap_alloc _ _ _ (by omega)).trans ((hb.block _ (by simp; omega)).trans ((Below.heap_alloc _ _ _ (by simp)).trans (heap_alloc_new w tmZ))), (Below.heap_alloc _ _ _ (by omega)).trans ((hb.block _ (by simp)).trans h1), (Below.next ((below_alloc w tmZ).alloc (by simp) _) hb).alloc (by omega) _, by omega, by simp; omega⟩
set_option maxRecDepth 100000 in
set_option maxHeartbeats 4000000 in
/-- A source with a fault. -/
theorem rterms_src (s : ByteArray) (w : World) (hc : someC s ≠ 0) :
    Calls Tryz.prog 11 #[.string s] w fun e w' => ∃ lb, e = .returned (.tuple #[.agg #[.slice none 0 0, .slice none 0 0], .agg #[.int .i64 70, .int .i64 (someP s), .string ⟨#[]⟩, .slice (some ⟨lb, 0, none⟩) 1 1]]) ∧ w'.heap[lb]? = some (fltO (someC s) (someP s)) ∧ Below w.heap.size w w' := by
  have hbg := rbegin_bad s ((w.alloc tmZ).alloc (fltO 0 0)) hc
  have hfs := hid (fun W1 pb => fr_start (w := w) (W1 := W1) (pb := pb))
  generalize someP s = p at *
  generalize someC s = c at *
  clear hc
  go_enter Tryz.func11, Tryz.ntmps11
  go_wp2_with (first
    | (go_at_call 29; go_must (refine hbg.mono ?_; clear hbg; rintro e w1 ⟨pb, tv, lb, rfl, hpb, hq, hl, hlb, hb1⟩; have HF := hid (hfs.out w1 pb hb1 hpb (lt_of_block hq)); have hq1 := (Below.heap_alloc w1 tmZ pb (lt_of_block hq)).trans hq; have hl1 := hid ((Below.heap_alloc w1 tmZ lb (lt_of_block hl)).trans hl); have hlz := hlb; clear hfs hq hl hb1 hlb))
    | (go_at_call 30; go_must (refine (rbad_led hq1).mono ?_; rintro e w2 ⟨rfl, rfl⟩)))
  obtain ⟨⟨c0, c1, c2, c3, c4, c5⟩, _⟩ := blk6 hq1
  have zp := lt_of_block hq1
  have ht := HF.out.t
  have hf := HF.out.f
  have zt := lt_of_block ht
  have zf := lt_of_block hf
  have ho := heap_alloc_new w1 tmZ
  have zo := lt_of_block ho
  obtain ⟨⟨t0, t1⟩, t2, t3⟩ := blk2x ht
  obtain ⟨⟨f0, f1, f2, f3⟩, f4, f5, f6, f7⟩ := blk4x hf
  obtain ⟨⟨o0, o1⟩, _⟩ := blk2x ho
  have hpz := HF.out.p
  have ht' := hid ht
  have hf' := hid hf
  clear ht hf ho hq1
  go_region
  go_wp2
  obtain ⟨g1, g2⟩ := tfEnd_is (.slice none 0 0) (.slice none 0 0) (.int .i64 70) (.int .i64 p) (.string ⟨#[]⟩) (.slice (some ⟨lb, 0, none⟩) 1 1) ht'.out hf'.out
  have hB := (tfEnd_below (u0 := .slice none 0 0) (u1 := .slice none 0 0) (v0 := .int .i64 70) (v1 := .int .i64 p) (v2 := .string ⟨#[]⟩) (v3 := .slice (some ⟨lb, 0, none⟩) 1 1) HF.out.b).drew
  have hl2 := (tfEnd_far (u0 := .slice none 0 0) (u1 := .slice none 0 0) (v0 := .int .i64 70) (v1 := .int .i64 p) (v2 := .string ⟨#[]⟩) (v3 := .slice (some ⟨lb, 0, none⟩) 1 1) (q := w.heap.size) (b := lb) (by simp at hlz; omega) (by simp at hlz; omega)).trans hl1.out
  exact bodyPost_ret (ret_tf Tryz.results11 (by rfl) (by rfl) (drew_at g1) (drew_at g2)) rfl ⟨lb, rfl, drew_at hl2, hB⟩
set_option maxRecDepth 100000 in
set_option maxHeartbeats 4000000 in
/-- A source of no terms. -/
theorem rterms_none (s : ByteArray) (w : World) (hc : someC s = 0) (hk : (tkA (someT s) 0).kind = 0) :
    Calls Tryz.prog 11 #[.string s] w (Rzt w (someT s) (.ok ([], []) 1)) := by
  have hbg := rbegin_ok s ((w.alloc tmZ).alloc (fltO 0 0)) hc
  have hfs := hid (fun W1 pb => fr_start (w := w) (W1 := W1) (pb := pb))
  have hl := (someT_end hc).2
  generalize someT s = ts at *
  clear hc
  go_enter Tryz.func11, Tryz.ntmps11
  go_wp2_with (first
    | (go_at_call 29; go_must (refine hbg.mono ?_; clear hbg; rintro e w1 ⟨pb, tv, rfl, hpb, hq, hb1⟩; have HF := hid (hfs.out w1 pb hb1 hpb (lt_of_block hq.b)); have hq1 := hid (hq.below (below_alloc w1 tmZ)); clear hfs hq hb1 hpb))
    | (go_at_call 30; go_must (refine (rbad_no hq1.out).mono ?_; rintro e w2 ⟨rfl, rfl⟩))
    | (go_at_call 31; go_must (have hkk := rkind_any hq1.out hl; rw [hk] at hkk; refine hkk.mono ?_; clear hkk; rintro e w3 ⟨rfl, hb3⟩)))
  have hq3 := (hq1.out.below hb3).b
  obtain ⟨⟨c0, c1, c2, c3, c4, c5⟩, _⟩ := blk6 hq3
  have zp := lt_of_block hq3
  have ht := (hb3.block _ (lt_of_block HF.out.t)).trans HF.out.t
  have hf := (hb3.block _ (lt_of_block HF.out.f)).trans HF.out.f
  have zt := lt_of_block ht
  have zf := lt_of_block hf
  have ho := (hb3.block _ (by simp)).trans (heap_alloc_new w1 tmZ)
  have zo := lt_of_block ho
  obtain ⟨⟨t0, t1⟩, t2, t3⟩ := blk2x ht
  obtain ⟨⟨f0, f1, f2, f3⟩, f4, f5, f6, f7⟩ := blk4x hf
  obtain ⟨⟨o0, o1⟩, _⟩ := blk2x ho
  have hpz := HF.out.p
  have ht' := hid ht
  have hf' := hid hf
  have hB3 := hid (Below.next HF.out.b hb3)
  clear ht hf ho hq1 hq3 hb3 HF
  go_region
  go_wp2
  obtain ⟨g1, g2⟩ := tfEnd_is (.slice none 0 0) (.slice none 0 0) (.int .i64 0) (.int .i64 0) (.string ⟨#[]⟩) (.slice none 0 0) ht'.out hf'.out
  have hB := (tfEnd_below (u0 := .slice none 0 0) (u1 := .slice none 0 0) (v0 := .int .i64 0) (v1 := .int .i64 0) (v2 := .string ⟨#[]⟩) (v3 := .slice none 0 0) hB3.out).drew
  exact bodyPost_ret (ret_tf Tryz.results11 (by rfl) (by rfl) (drew_at g1) (drew_at g2)) rfl ⟨hB, none, 0, none, 0, rfl, Ro.nil _ _, Ro.nil _ _⟩
end Go.Proofs.YtklfnphkepfmaaaGreatDoor

/- The reference's Terms: one thing more put behind a row. -/
namespace Go.Proofs.YtklfnphkepfmaaaGreatDoor
open Go.RowKit

theorem drewN_at {w : World} {q n : Nat} {o : Obj} (h : w.heap[q]? = some o) : (w.drewN n).heap[q]? = some o := h
theorem drew_hp (w : World) (q : Nat) : w.drew.heap[q]? = w.heap[q]? := rfl
theorem someT_len {s : ByteArray} : (someT s).length ≤ 10000000 := by have := someT_le s; omega
/-- The reader where a world has grown past two blocks. -/
theorem Rs.keep2 {w0 w' : World} {pb ob b o N cp : Nat} {ts : List Tk} {i j : Nat} (h0 : Rs w0 pb (.slice (some ⟨b, o, none⟩) N cp) ts i) (hm : Mo (Pbo pb ob) w0 w') (hb : b ≠ ob) (he : w'.heap[pb]? = some (rpObj (.slice (some ⟨b, o, none⟩) N cp) j 0 0)) : Rs w' pb (.slice (some ⟨b, o, none⟩) N cp) ts j :=
  h0.mo hm (fun k hk ad n c e => by
    injection e with e1 _ _
    injection e1 with e1
    subst e1
    rcases hk with e | e
    · rw [e]; exact h0.ap _ _ _ rfl
    · rw [e]; exact hb) he
theorem EsA.keep {α : Type} {w0 w w' : World} {pb ob b o N cp : Nat} {ts : List Tk} {i : Nat} {r : Rd1 α} (h0 : Rs w0 pb (.slice (some ⟨b, o, none⟩) N cp) ts i) (hm : Mo (Pbo pb ob) w0 w') (hb : b ≠ ob) (he : w'.heap[pb]? = w.heap[pb]?) (h : EsA pb (.slice (some ⟨b, o, none⟩) N cp) ts r w) : EsA pb (.slice (some ⟨b, o, none⟩) N cp) ts r w' := by
  cases r with
  | ok x j => exact h0.keep2 hm hb (he.trans (show Rs w pb _ ts j from h).b)
  | bad c j => exact (show Rb w pb c _ from h).other he
theorem EsA.below {α : Type} {w w' : World} {pb : Nat} {tv : Value} {ts : List Tk} {r : Rd1 α} (h : EsA pb tv ts r w) (hb : Below w.heap.size w w') : EsA pb tv ts r w' := by
  cases r with
  | ok x j => exact (show Rs w pb tv ts j from h).below hb
  | bad c j => exact (show Rb w pb c _ from h).below hb
/-- A term read, to be put behind the roots. -/
theorem lpx_ready {pb ob b o cp : Nat} {W0 wr w6 : World} {ts : List Tk} {i0 : Nat} {ao : Option Addr} {c : Nat} {xs : List Ex} {r : Rd1 Ex} {k : Int} {n : ByteArray} {m : Int} {aa : Option Addr} {al ac : Nat} (h0 : Rs W0 pb (.slice (some ⟨b, o, none⟩) ts.length cp) ts i0) (hb : b ≠ ob) (hp : pb < W0.heap.size) (ho : ob < W0.heap.size) (hne : ob ≠ pb) (hL : Lp eltX pb ob W0 mkR wr (.slice ao xs.length c) xs) (hm : Mo (· = pb) wr w6) (hE : Est pb (.slice (some ⟨b, o, none⟩) ts.length cp) ts r w6) (hx : ∀ x j, r = .ok x j → Xw (wr.heap.size ≤ ·) w6 x (.agg #[.int .i64 k, .string n, .int .i64 m, .slice aa al ac])) :
    ∃ fv : Nat → List Value, Hid (((w6.alloc (.cells #[.int .i64 k, .string n, .int .i64 m, .slice aa al ac] 40)).alloc (.cells #[.int .i64 k, .string n, .int .i64 m, .slice aa al ac] 40)).ownsRow W0.heap.size 40 4 (.slice ao xs.length c) xs.length (flatV fv xs.length)) ∧ Hid (((w6.alloc (.cells #[.int .i64 k, .string n, .int .i64 m, .slice aa al ac] 40)).alloc (.cells #[.int .i64 k, .string n, .int .i64 m, .slice aa al ac] 40)).heap[w6.heap.size + 1]? = some (.cells #[.int .i64 k, .string n, .int .i64 m, .slice aa al ac] 40)) ∧ w6.heap[ob]? = some (mkR (.slice ao xs.length c)) ∧ W0.heap.size ≤ w6.heap.size ∧
    Hid (∀ (g7 c7 : Nat) (w7 : World), w7.ownsRow W0.heap.size 40 4 (.slice (some ⟨g7, 0, none⟩) (xs.length + 1) c7) (xs.length + 1) (flatV fv xs.length ++ [.int .i64 k, .string n, .int .i64 m, .slice aa al ac]) → ((w6.alloc (.cells #[.int .i64 k, .string n, .int .i64 m, .slice aa al ac] 40)).alloc (.cells #[.int .i64 k, .string n, .int .i64 m, .slice aa al ac] 40)).grownBy w7 (Value.slice ao xs.length c).ownBlock → ((Value.slice ao xs.length c).ownBlock = some g7 ∨ g7 = w6.heap.size + 2) →
      w7.heap[ob]? = some (mkR (.slice ao xs.length c)) ∧ Hid (Mo (Pbo pb ob) W0 (w7.setCell ⟨ob, 0, none⟩ (.slice (some ⟨g7, 0, none⟩) (xs.length + 1) c7))) ∧ Hid ((w7.setCell ⟨ob, 0, none⟩ (.slice (some ⟨g7, 0, none⟩) (xs.length + 1) c7)).heap[ob]? = some (mkR (.slice (some ⟨g7, 0, none⟩) (xs.length + 1) c7))) ∧ Hid (Est pb (.slice (some ⟨b, o, none⟩) ts.length cp) ts r (w7.setCell ⟨ob, 0, none⟩ (.slice (some ⟨g7, 0, none⟩) (xs.length + 1) c7))) ∧ Hid (∀ x j, r = .ok x j → Lp eltX pb ob W0 mkR (w7.setCell ⟨ob, 0, none⟩ (.slice (some ⟨g7, 0, none⟩) (xs.length + 1) c7)) (.slice (some ⟨g7, 0, none⟩) (xs.length + 1) c7) (xs ++ [x]))) := by
  have hL6 := hL.step hp hne hm
  have hL5 := hL6.below (below_alloc w6 (.cells #[.int .i64 k, .string n, .int .i64 m, .slice aa al ac] 40))
  obtain ⟨fv, h1, h2⟩ := hL5.ready hp ho (.cells #[.int .i64 k, .string n, .int .i64 m, .slice aa al ac] 40)
  have hz : (w6.alloc (.cells #[.int .i64 k, .string n, .int .i64 m, .slice aa al ac] 40)).heap.size = w6.heap.size + 1 := by simp
  have hnw := heap_alloc_new (w6.alloc (.cells #[.int .i64 k, .string n, .int .i64 m, .slice aa al ac] 40)) (.cells #[.int .i64 k, .string n, .int .i64 m, .slice aa al ac] 40)
  rw [hz] at hnw
  refine ⟨fv, h1, hnw, hL6.o, hL6.m.size, fun g7 c7 w7 ho7 hg7 hat7 => ?_⟩
  obtain ⟨a1, a2, a3, a4⟩ := h2 g7 c7 w7 [.int .i64 k, .string n, .int .i64 m, .slice aa al ac] ho7 hg7 (by rw [hz]; exact hat7) rfl
  have hset := setR (.slice (some ⟨g7, 0, none⟩) (xs.length + 1) c7) a2
  have hM8 : Mo (Pbo pb ob) W0 (w7.setCell ⟨ob, 0, none⟩ (.slice (some ⟨g7, 0, none⟩) (xs.length + 1) c7)) := a1.setCell (p := ⟨ob, 0, none⟩) (Or.inl (Or.inr rfl)) _
  have hpk : (w7.setCell ⟨ob, 0, none⟩ (.slice (some ⟨g7, 0, none⟩) (xs.length + 1) c7)).heap[pb]? = w6.heap[pb]? := (Below.heap_setCell w7 ⟨ob, 0, none⟩ _ pb (Ne.symm hne)).trans (a3.trans (Below.heap_alloc _ _ _ (by have := hL6.m.size; omega)))
  refine ⟨a2, hM8, hset, ?_, fun x j e => ?_⟩
  · exact EsA.keep (r := r) h0 hM8 hb hpk (show EsA pb _ ts r w6 by cases r <;> exact hE) |> (fun h => by cases r <;> exact h)
  · have hxx := (hx x j e).next (below_alloc w6 (.cells #[.int .i64 k, .string n, .int .i64 m, .slice aa al ac] 40))
    exact Lp.put a1 (a4 x wr.heap.size ⟨k, n, m, aa, al, ac, rfl, hxx⟩ hL.m.size hL.x.blk) ho hset
theorem rsee_bad44 {w : World} {pb : Nat} {c a : Int} (h : Rb w pb c a) : Calls Tryz.prog 33 #[.pointer (some ⟨pb, 0, none⟩), .string ⟨#[44]⟩] w fun e w' => e = .returned (.bool false) ∧ Below w.heap.size w w' := rsee_bad h _
theorem ro_fin {α : Type} {E : Elt α} {w W : World} {B : Nat} {v : Value} {l : List α} {u0 u1 v0 v1 v2 v3 : Value} (hB : w.heap.size + 2 ≤ B) (hx : Ro E B W v l) : Ro E w.heap.size (tfEnd W w.heap.size u0 u1 v0 v1 v2 v3).drew v l :=
  hx.keep (by omega) (fun b hb _ => (drew_hp _ b).trans (tfEnd_far (by omega) (by omega)))
theorem sees_no {t : Tk} (h : seesF t 1 whereB = false) : t.kind ≠ 1 ∨ (t.kind = 1 ∧ (t.text.toList == [119, 104, 101, 114, 101]) = false) := by
  by_cases e : t.kind = 1
  · refine Or.inr ⟨e, ?_⟩
    unfold seesF at h
    rw [e] at h
    simpa using h
  · exact Or.inl e
theorem sees_yes {t : Tk} (h : seesF t 1 whereB = true) : t.kind = 1 ∧ (t.text.toList == [119, 104, 101, 114, 101]) = true := by
  unfold seesF at h
  rw [Bool.and_eq_true] at h
  exact ⟨by simpa using h.1, by simpa using h.2⟩
end Go.Proofs.YtklfnphkepfmaaaGreatDoor
