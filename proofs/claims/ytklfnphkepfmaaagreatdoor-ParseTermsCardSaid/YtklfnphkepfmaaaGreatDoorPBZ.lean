/- arguments of package parse. -/
import Derived.Test.YtklfnphkepfmaaaGreatDoorPAZ
import Derived.Deep.AppendLies
import Derived.Laws.OwnMore
import Derived.Test.YtklfnphkepfmaaaGreatDoorPsRange
import Derived.Shelf.Abstract
import Derived.OwnWalkIn
import Derived.TacticsInMore
import Derived.LoopNIn
import Derived.LoopIn
namespace Go.Proofs.YtklfnphkepfmaaaGreatDoor
open Go.RowKit
attribute [local go_sem] tok_kind tok_text tok_num tok_at

theorem infoEx : (Tryz.prog.info? 40).map (fun i => (i.zero, i.size, i.bytes)) = some (some (.agg #[.int .i64 0, .string ⟨#[]⟩, .int .i64 0, .slice none 0 0]), 4, 56) := by kernel_rfl
/-- Where the parser stands, read off memory. -/
def atOf (pb : Nat) (w : World) : Nat := match w.cell? ⟨pb, 1, none⟩ with
  | some (.int _ a) => a.toNat
  | _ => 0
theorem Ps.atOf {w : World} {pb : Nat} {tv : Value} {ts : List Tk} {i : Nat} (h : Ps w pb tv ts i) : atOf pb w = i := by
  unfold Proofs.YtklfnphkepfmaaaGreatDoor.atOf
  rw [h.cells.1.2]
  simp
/-- What is known of term, below some fuel. -/
def TermC (pb : Nat) (tv : Value) (ts : List Tk) (f : Nat) : Prop := ∀ f', f' < f → ∀ (nest : Int) (i : Nat) (w : World), Ps w pb tv ts i → i < ts.length → -10 ≤ nest → nest ≤ 5000 → nof (termF ts f' nest i) →
  Calls Tryz.prog 101 #[.pointer (some ⟨pb, 0, none⟩), .int .i64 nest] w (Tm w pb tv ts (termF ts f' nest i))
theorem Ps.old {w : World} {pb : Nat} {tv : Value} {ts : List Tk} {i : Nat} (h : Ps w pb tv ts i) (h0 : 0 < ts.length) : ∀ ad n c, tv = .slice (some ad) n c → ad.block < w.heap.size := by
  obtain ⟨ao, c, rfl, ht⟩ := h.t
  obtain ⟨b, o, e, hc⟩ := ht 0 h0
  subst e
  intro ad n c' e
  injection e with e _ _
  injection e with e
  subst e
  have := hc 0 _ rfl
  exact lt_of_cell this
theorem Xo.blk {B : Nat} {w : World} {v : Value} {xs : List Ex} (h : Xo B w v xs) : ∀ b, v.ownBlock = some b → b < w.heap.size := by
  obtain ⟨f, _, _, ho⟩ := h
  exact fun b hb => (ho.lt b hb).2
theorem Xo.blkB {B : Nat} {w : World} {v : Value} {xs : List Ex} (h : Xo B w v xs) : ∀ b, v.ownBlock = some b → B ≤ b := by
  obtain ⟨f, _, _, ho⟩ := h
  exact fun b hb => (ho.lt b hb).1
set_option maxRecDepth 100000 in
set_option maxHeartbeats 8000000 in
theorem args_any {ts : List Tk} (hE : EndT ts) (hl : ts.length ≤ 10000000) {pb : Nat} {tv : Value} {f : Nat} (hT : TermC pb tv ts f) {w : World} {i : Nat} (h : Ps w pb tv ts i) (hi : i < ts.length) (nest : Int) (hn0 : -10 ≤ nest) (hn1 : nest ≤ 5000) (hf : nof (argsF ts f nest i [])) :
    Calls Tryz.prog 126 #[.pointer (some ⟨pb, 0, none⟩), .int .i64 nest] w (Am w pb tv ts (argsF ts f nest i [])) := by
  obtain ⟨i4, hi4, hw0, hw1, hw2⟩ := info_parts infoEx
  obtain ⟨R, hR⟩ : ∃ R, argsF ts f nest i [] = R := ⟨_, rfl⟩
  rw [hR] at hf ⊢
  have zp := lt_of_block h.b
  have HT := hid hT
  have HS := hid h
  have hts := hid (h.old (by omega))
  clear hT
  go_enter Tryz.func126, Tryz.ntmps126
  go_wp2
  go_loopw [5, 6] (fun x m wr => ∃ (xs : List Ex) (i' f' c : Nat) (ao : Option Addr) (b : Bool), x = .slice ao xs.length c ∧ m = .bool b ∧ i' < ts.length ∧ xs.length ≤ 8 ∧ Hid (Ps wr pb tv ts i') ∧ Hid (Mo (· = pb) w wr) ∧ Hid (Xo w.heap.size wr (.slice ao xs.length c) xs) ∧ Hid (if b = true then f' ≤ f ∧ argsF ts f' nest i' xs = R else R = wantF ts 41 (.ok xs i'))) (fun _ _ wr => ts.length - atOf pb wr)
  case atStart => exact ⟨[], i, f, 0, none, true, rfl, rfl, hi, by simp, HS, Mo.refl _ _, Xo.nil _ _, ⟨Nat.le_refl _, hR⟩⟩
  case round =>
    clear h hR HS
    obtain ⟨xs, i', f', c, ao, b, rfl, rfl, hi', hx8, hP, hM, hX, hF⟩ := hrel
    cases b with
    | false =>
      have hF : R = wantF ts 41 (.ok xs i') := hF.out
      cases hm : mkA ts i' 41 with
      | true =>
        have hR : R = .ok xs (i' + 1) := by rw [hF]; show (if _ then _ else _) = _; rw [if_pos hm]
        have hw := wantMark_yes hP.out hi' hl ⟨#[41]⟩ hm
        subst hR
        clear hF
        go_wp2_with (go_at_call 96; refine hw.mono ?_; clear hw; rintro e w5 ⟨rfl, hg5, hp5⟩)
        go_ret
        exact ⟨_, rfl, hM.out.step hg5, hp5, hX.out.grown hg5 zp⟩
      | false =>
        have hR : R = .bad (mustC (tkA ts i')) i' := by rw [hF]; show (if _ then _ else _) = _; rw [if_neg (by rw [hm]; decide)]
        have hw := wantMark_no hP.out hi' ⟨#[41]⟩ hm
        subst hR
        clear hF
        go_wp2_with (go_at_call 96; refine hw.mono ?_; clear hw; rintro e w5 ⟨b5, rfl, hb5, hc5, hd5⟩)
        exact ⟨rfl, b5, rfl, hb5, Nat.le_trans hM.out.size hc5, hM.out.trans (Mo.ofBelow hd5 : Mo (· = pb) wr w5) (fun _ h => Or.inl h)⟩
    | true =>
      obtain ⟨hff, hF⟩ : f' ≤ f ∧ argsF ts f' nest i' xs = R := hF.out
      cases f' with
      | zero =>
        rw [argsF] at hF
        subst hF
        exact absurd rfl hf
      | succ f'' =>
        rw [argsF] at hF
        have hop := opens_any hP.out hi'
        by_cases ho : opensF (tkA ts i') = false
        · rw [if_pos ho] at hF
          rw [show opensF (ts.getD i' tk0) = false from ho] at hop
          have hmu : Hid (∀ w5, Below wr.heap.size wr w5 → Calls Tryz.prog 104 #[.pointer (some ⟨pb, 0, none⟩), .bool false] w5 fun e w' => Gave w5 w' e (mustC (tkA ts i')) ((tkA ts i').at_ : Int)) := fun w5 hb => must_no (hP.out.below hb) hi'
          subst hF
          go_wp2_with (first
            | (go_at_call 124; refine hop.mono ?_; clear hop; rintro e w5 ⟨rfl, hb5⟩)
            | (go_at_call 104; refine (hmu.out w5 hb5).mono ?_; rintro e w6 ⟨b6, rfl, hb6, hc6, hd6⟩))
          exact ⟨rfl, b6, rfl, hb6, Nat.le_trans hM.out.size (Nat.le_trans hb5.size hc6), hM.out.trans (Mo.ofBelow (Below.next hb5 hd6) : Mo (· = pb) wr w6) (fun _ h => Or.inl h)⟩
        · rw [if_neg ho] at hF
          have ho : opensF (ts.getD i' tk0) = true := by simpa [tkA] using ho
          rw [ho] at hop
          by_cases h8 : xs.length = 8
          · rw [if_pos h8] at hF
            have hgu : Hid (∀ w5, Below wr.heap.size wr w5 → Calls Tryz.prog 117 #[.pointer (some ⟨pb, 0, none⟩), .int .i64 74] w5 fun e w' => Gave w5 w' e 74 ((tkA ts i').at_ : Int)) := fun w5 hb => giveUp_any (hP.out.below hb) hi' 74
            subst hF
            rw [h8]
            go_wp2_with (first
              | (go_at_call 124; refine hop.mono ?_; clear hop; rintro e w5 ⟨rfl, hb5⟩)
              | (go_at_call 104; refine must_yes.mono ?_; rintro e w5 ⟨rfl, rfl⟩)
              | (go_at_call 117; refine (hgu.out _ hb5).mono ?_; rintro e w6 ⟨b6, rfl, hb6, hc6, hd6⟩))
            exact ⟨rfl, b6, rfl, hb6, Nat.le_trans hM.out.size (Nat.le_trans hb5.size hc6), hM.out.trans (Mo.ofBelow (Below.next hb5 hd6) : Mo (· = pb) wr w6) (fun _ h => Or.inl h)⟩
          · rw [if_neg h8] at hF
            have h8' : decide ((xs.length : Int) = 8) = false := decide_eq_false (by omega)
            have h8'' : ((xs.length : Int) == 8) = false := beq_eq_false_iff_ne.2 (by omega)
            have hter := hid (fun w5 (hb : Below wr.heap.size wr w5) => HT.out f'' (by omega) nest i' w5 (hP.out.below hb) hi' hn0 hn1)
            have hwi := (all_wit hE f'').1 nest i' hi'
            cases hr : termF ts f'' nest i' with
            | bad c5 j =>
              rw [hr] at hF hter
              subst hF
              go_wp2_with (first
                | (go_at_call 124; refine hop.mono ?_; clear hop; rintro e w5 ⟨rfl, hb5⟩)
                | (go_at_call 104; refine must_yes.mono ?_; rintro e w5 ⟨rfl, rfl⟩)
                | (go_at_call 101; refine (hter.out _ hb5 hf).mono ?_; rintro e w6 ⟨b6, rfl, hb6, hc6, hd6⟩))
              exact ⟨rfl, b6, rfl, hb6, Nat.le_trans hM.out.size (Nat.le_trans hb5.size hc6), (hM.out.trans (Mo.ofBelow hb5 : Mo (· = pb) wr _) (fun _ h => Or.inl h)).trans hd6 (fun _ h => Or.inl h)⟩
            | ok x j =>
              rw [hr] at hF hter hwi
              obtain ⟨hij, hj⟩ := hwi
              replace hF : (if mkA ts j 44 = true then argsF ts f'' nest (j + 1) (xs ++ [x]) else wantF ts 41 (.ok (xs ++ [x]) j)) = R := hF
              have hstep : Hid (∀ w5 w6 v, Below wr.heap.size wr w5 → Mo (· = pb) w5 w6 → Ps w6 pb tv ts j → Xw (w5.heap.size ≤ ·) w6 x v → ∃ k n m aa al ac, v = .agg #[.int .i64 k, .string n, .int .i64 m, .slice aa al ac] ∧ ∃ fv : Nat → List Value, (w6.alloc (.cells #[.int .i64 k, .string n, .int .i64 m, .slice aa al ac] 40)).ownsRow w.heap.size 40 4 (.slice ao xs.length c) xs.length (flatV fv xs.length) ∧ w.heap.size ≤ w6.heap.size ∧ ∀ g7 c7 w7, w7.ownsRow w.heap.size 40 4 (.slice (some ⟨g7, 0, none⟩) (xs.length + 1) c7) (xs.length + 1) (flatV fv xs.length ++ [.int .i64 k, .string n, .int .i64 m, .slice aa al ac]) → (w6.alloc (.cells #[.int .i64 k, .string n, .int .i64 m, .slice aa al ac] 40)).grownBy w7 (Value.slice ao xs.length c).ownBlock → ((Value.slice ao xs.length c).ownBlock = some g7 ∨ g7 = w6.heap.size + 1) → Hid (Xo w.heap.size w7 (.slice (some ⟨g7, 0, none⟩) (xs.length + 1) c7) (xs ++ [x])) ∧ Hid (Ps w7 pb tv ts j) ∧ Hid (Mo (· = pb) w w7)) := fun w5 w6 v hb5 hm6 hp6 hx6 => by
                obtain ⟨k, n, m, aa, al, ac, rfl⟩ := hx6.form
                have hz5 := hb5.size
                have hzw := hM.out.size
                have hX6 := (hX.out.next hb5).mo hm6 (fun k e => by omega)
                have hBk := hX.out.blkB
                have hDk := hX.out.blk
                obtain ⟨fv, hf4, hfx, hown⟩ := hX6
                have hM6 := (hM.out.trans (Mo.ofBelow hb5 : Mo (· = pb) wr w5) (fun _ h => Or.inl h)).trans hm6 (fun _ h => Or.inl h)
                refine ⟨k, n, m, aa, al, ac, rfl, fv, World.ownsRow.alloc hown _, hM6.size, fun g7 c7 w7 ho7 hg7 hat7 => ⟨xo_app hf4 hfx (D := w5.heap.size) (fun b hb => by have := hDk b hb; omega) (by omega) hx6 ho7 hg7 hat7, ?_, ?_⟩⟩
                · have hm7 : Mo (fun b => (Value.slice ao xs.length c).ownBlock = some b) w6 w7 := ((Mo.refl (fun b => (Value.slice ao xs.length c).ownBlock = some b) w6).alloc _).grown hg7 (fun k e => Or.inl e)
                  refine hp6.mo hm7 (fun k hk => ⟨?_, fun ad n' c' htv e => ?_⟩)
                  · have := hBk k hk
                    omega
                  · have h1 := hBk k hk
                    have h2 := hts.out ad n' c' htv
                    omega
                · exact (hM6.alloc _).grown hg7 (fun k e => Or.inr (hBk k e))
              have hxl : xs.length + 1 ≤ 8 := by omega
              have hmeas : ts.length - j < ts.length - i' := by omega
              have hat0 := hid hP.out.atOf
              cases hm : mkA ts j 44 with
              | true =>
                rw [if_pos hm] at hF
                have htk := hid (fun w7 (hp : Ps w7 pb tv ts j) => takeMark_yes hp hj hl ⟨#[44]⟩ hm)
                have hj1 := mk_next hE hj hm
                have hFF : Hid (if true = true then f'' ≤ f ∧ argsF ts f'' nest (j + 1) (xs ++ [x]) = R else R = wantF ts 41 (.ok (xs ++ [x]) (j + 1))) := show (if true = true then _ else _) from (if_pos rfl).symm ▸ ⟨by omega, hF⟩
                clear hF hr hM hX hP HT ho hm h8
                go_wp2_with (first
                  | (go_at_call 124; refine hop.mono ?_; clear hop; rintro e w5 ⟨rfl, hb5⟩)
                  | (go_at_call 104; refine must_yes.mono ?_; rintro e w5 ⟨rfl, rfl⟩)
                  | (go_at_call 101; refine (hter.out _ hb5 trivial).mono ?_; clear hter; rintro e w6 ⟨v, rfl, hm6, hp6, hx6⟩; obtain ⟨k, n, m, aa, al, ac, rfl, fv, hown6, hz6, hnx6⟩ := hstep.out _ _ _ hb5 hm6 hp6 hx6)
                  | (at_builtin; go_must (refine wpList_append_lies _ rfl _ _ 24 rfl w.heap.size 40 i4 (.agg #[.int .i64 0, .string ⟨#[]⟩, .int .i64 0, .slice none 0 0]) 4 56 Tryz.underlying24 hi4 hw0 hw1 hw2 rfl (by decide) _ xs.length (flatV fv xs.length) rfl hown6 ⟨w6.heap.size, 0, none⟩ 1 1 [.int .i64 k, .string n, .int .i64 m, .slice aa al ac] rfl rfl (World.news_of_block (cs := #[.int .i64 k, .string n, .int .i64 m, .slice aa al ac]) (t := 40) (fr := (0, 0)) (heap_alloc_new w6 _)) (by simp [Value.oneCell']) (by omega) (by unfold maxLen; omega) (by omega) (by simp; omega) (w6.heap.size + 1) (by simp) ?_; intro g7 c7 w7 hown7 hg7 hat7 hlt7; obtain ⟨hX7, hP7, hM7⟩ := hnx6 g7 c7 w7 hown7 hg7 hat7; clear hown7 hg7))
                  | (go_at_call 100; refine (htk.out _ hP7.out).mono ?_; clear htk; rintro e w8 ⟨rfl, hg8, hp8⟩))
                go_roundw
                case rel => exact ⟨xs ++ [x], j + 1, f'', c7, some ⟨g7, 0, none⟩, true, by rw [List.length_append, List.length_singleton], rfl, hj1, by simp; omega, hp8, hM7.out.step hg8, by rw [List.length_append, List.length_singleton]; exact hX7.out.grown hg8 zp, hFF⟩
                case measure => rw [hp8.atOf, hat0.out]; omega
              | false =>
                rw [if_neg (by rw [hm]; decide)] at hF
                have htk := hid (fun w7 (hp : Ps w7 pb tv ts j) => takeMark_no hp hj ⟨#[44]⟩ hm)
                have hFF : Hid (if false = true then f'' ≤ f ∧ argsF ts f'' nest j (xs ++ [x]) = R else R = wantF ts 41 (.ok (xs ++ [x]) j)) := hF.symm
                clear hF hr hM hX hP HT ho hm h8
                go_wp2_with (first
                  | (go_at_call 124; refine hop.mono ?_; clear hop; rintro e w5 ⟨rfl, hb5⟩)
                  | (go_at_call 104; refine must_yes.mono ?_; rintro e w5 ⟨rfl, rfl⟩)
                  | (go_at_call 101; refine (hter.out _ hb5 trivial).mono ?_; clear hter; rintro e w6 ⟨v, rfl, hm6, hp6, hx6⟩; obtain ⟨k, n, m, aa, al, ac, rfl, fv, hown6, hz6, hnx6⟩ := hstep.out _ _ _ hb5 hm6 hp6 hx6)
                  | (at_builtin; go_must (refine wpList_append_lies _ rfl _ _ 24 rfl w.heap.size 40 i4 (.agg #[.int .i64 0, .string ⟨#[]⟩, .int .i64 0, .slice none 0 0]) 4 56 Tryz.underlying24 hi4 hw0 hw1 hw2 rfl (by decide) _ xs.length (flatV fv xs.length) rfl hown6 ⟨w6.heap.size, 0, none⟩ 1 1 [.int .i64 k, .string n, .int .i64 m, .slice aa al ac] rfl rfl (World.news_of_block (cs := #[.int .i64 k, .string n, .int .i64 m, .slice aa al ac]) (t := 40) (fr := (0, 0)) (heap_alloc_new w6 _)) (by simp [Value.oneCell']) (by omega) (by unfold maxLen; omega) (by omega) (by simp; omega) (w6.heap.size + 1) (by simp) ?_; intro g7 c7 w7 hown7 hg7 hat7 hlt7; obtain ⟨hX7, hP7, hM7⟩ := hnx6 g7 c7 w7 hown7 hg7 hat7; clear hown7 hg7))
                  | (go_at_call 100; refine (htk.out _ hP7.out).mono ?_; clear htk; rintro e w8 ⟨rfl, hb8⟩))
                go_roundw
                case rel => exact ⟨xs ++ [x], j, f'', c7, some ⟨g7, 0, none⟩, false, by rw [List.length_append, List.length_singleton], rfl, hj, by simp; omega, hP7.out.below hb8, hM7.out.trans (Mo.ofBelow hb8 : Mo (· = pb) w7 w8) (fun _ h => Or.inl h), by rw [List.length_append, List.length_singleton]; exact hX7.out.next hb8, hFF⟩
                case measure => rw [(hP7.out.below hb8).atOf, hat0.out]; omega
end Go.Proofs.YtklfnphkepfmaaaGreatDoor

/- Rows of things that the parser makes. -/
namespace Go.Proofs.YtklfnphkepfmaaaGreatDoor
open Go.RowKit

/-- How things of a kind lie in cells. -/
structure Elt (α : Type) where
  T : TypeId
  z : Nat
  C : (Nat → Prop) → World → α → List Value → Prop
  keep : ∀ {P P' : Nat → Prop} {w w' : World} {x : α} {cs : List Value}, (∀ b, P b → b < w.heap.size → P' b ∧ w'.heap[b]? = w.heap[b]?) → C P w x cs → C P' w' x cs
/-- A row of things of its own: its block and those that they lead to from B on. -/
def Ro {α : Type} (E : Elt α) (B : Nat) (w : World) (v : Value) (xs : List α) : Prop := ∃ f : Nat → List Value, (∀ j, (f j).length = E.z) ∧ (∀ j x, xs[j]? = some x → E.C (Out B v) w x (f j)) ∧ w.ownsRow B E.T E.z v xs.length (flatV f xs.length)
section
variable {α : Type} {E : Elt α}
theorem Ro.keep {B B' : Nat} {w w' : World} (hB : B' ≤ B) (hk : ∀ b, B ≤ b → b < w.heap.size → w'.heap[b]? = w.heap[b]?) {v : Value} {xs : List α} (h : Ro E B w v xs) : Ro E B' w' v xs := by
  obtain ⟨f, h1, h2, h3⟩ := h
  refine ⟨f, h1, fun j x hj => E.keep (fun b hb hl => ⟨⟨Nat.le_trans hB hb.1, hb.2⟩, hk b hb.1 hl⟩) (h2 j x hj), ⟨h3.1, ?_⟩⟩
  rcases h3.2 with h0 | ⟨g, cap, cur, rfl, hBg, hg, rest⟩
  · exact Or.inl h0
  · exact Or.inr ⟨g, cap, cur, rfl, by omega, by rw [hk g hBg (lt_of_block hg)]; exact hg, rest⟩
theorem Ro.mo {B : Nat} {S : Nat → Prop} {w w' : World} (hm : Mo S w w') (hS : ∀ k, S k → k < B) {v : Value} {xs : List α} (h : Ro E B w v xs) : Ro E B w' v xs := h.keep (Nat.le_refl _) (fun b hB hl => hm.block b hl (fun hs => by have := hS b hs; omega))
theorem Ro.grown {B pb : Nat} {w w' : World} (hg : w.grownBy w' (some pb)) (hp : pb < B) {v : Value} {xs : List α} (h : Ro E B w v xs) : Ro E B w' v xs := h.keep (Nat.le_refl _) (fun b hB hl => hg.block b hl (fun e => by have e3 : b = pb := Option.some.inj e; omega))
theorem Ro.next {B : Nat} {w w' : World} (hb : Below w.heap.size w w') {v : Value} {xs : List α} (h : Ro E B w v xs) : Ro E B w' v xs := h.keep (Nat.le_refl _) (fun b _ hl => hb.block b hl)
theorem Ro.nil (B : Nat) (w : World) : Ro E B w (.slice none 0 0) [] := ⟨fun _ => List.replicate E.z .nilIface, fun _ => by simp, fun _ _ h => by simp at h, ⟨by simp [flatV], Or.inl ⟨rfl, rfl⟩⟩⟩
theorem Ro.slice {B : Nat} {w : World} {v : Value} {xs : List α} (h : Ro E B w v xs) : ∃ ao c, v = .slice ao xs.length c := by
  obtain ⟨f, _, _, ho⟩ := h
  rcases ho.2 with ⟨h0, h1⟩ | ⟨g, c, cur, e, _⟩
  · exact ⟨none, 0, by rw [h0, h1]⟩
  · exact ⟨_, _, e⟩
theorem Ro.blk {B : Nat} {w : World} {v : Value} {xs : List α} (h : Ro E B w v xs) : ∀ b, v.ownBlock = some b → b < w.heap.size := by
  obtain ⟨f, _, _, ho⟩ := h
  exact fun b hb => (ho.lt b hb).2
theorem Ro.blkB {B : Nat} {w : World} {v : Value} {xs : List α} (h : Ro E B w v xs) : ∀ b, v.ownBlock = some b → B ≤ b := by
  obtain ⟨f, _, _, ho⟩ := h
  exact fun b hb => (ho.lt b hb).1
/-- One thing more is put behind a row: it was read behind a world in which the row lay already. -/
theorem ro_app {B D g c6 : Nat} {w5 w6 : World} {v : Value} {xs : List α} {x : α} {cs : List Value} {o : Obj} {f : Nat → List Value} (hf : ∀ j, (f j).length = E.z) (hx : ∀ j y, xs[j]? = some y → E.C (Out B v) w5 y (f j)) (hD : ∀ b, v.ownBlock = some b → b < D) (hBD : B ≤ D) (hcs : cs.length = E.z)
    (hv : E.C (D ≤ ·) w5 x cs) (hown : w6.ownsRow B E.T E.z (.slice (some ⟨g, 0, none⟩) (xs.length + 1) c6) (xs.length + 1) (flatV f xs.length ++ cs))
    (hg : (w5.alloc o).grownBy w6 v.ownBlock) (hat : v.ownBlock = some g ∨ g = w5.heap.size + 1) : Ro E B w6 (.slice (some ⟨g, 0, none⟩) (xs.length + 1) c6) (xs ++ [x]) := by
  have key : ∀ b, b < w5.heap.size → v.ownBlock ≠ some b → (Value.slice (some ⟨g, 0, none⟩) (xs.length + 1) c6).ownBlock ≠ some b ∧ w6.heap[b]? = w5.heap[b]? := fun b hl hne => by
    refine ⟨fun e => ?_, ?_⟩
    · have e1 : g = b := by simpa [Value.ownBlock] using e
      rcases hat with h | h
      · exact hne (by rw [h, e1])
      · omega
    · rw [hg.block b (by simp; omega) (fun e => hne e.symm)]
      exact Below.heap_alloc _ _ _ hl
  have hnew : E.C (Out B (.slice (some ⟨g, 0, none⟩) (xs.length + 1) c6)) w6 x cs := E.keep (fun b hb hl => by
    have hb' : D ≤ b := hb
    obtain ⟨h1, h2⟩ := key b hl (fun e => by have := hD b e; omega)
    exact ⟨⟨by omega, h1⟩, h2⟩) hv
  refine ⟨fun j => if j < xs.length then f j else cs, fun j => ?_, fun j y hj => ?_, ?_⟩
  · show List.length (if _ then _ else _) = E.z
    split
    · exact hf j
    · exact hcs
  · by_cases e : j < xs.length
    · rw [List.getElem?_append_left e] at hj
      show E.C _ w6 _ (if _ then _ else _)
      rw [if_pos e]
      exact E.keep (fun b hb hl => by
        obtain ⟨h1, h2⟩ := key b hl hb.2
        exact ⟨⟨hb.1, h1⟩, h2⟩) (hx j y hj)
    · have hjl : j < (xs ++ [x]).length := (List.getElem?_eq_some_iff.1 hj).1
      have e2 : j = xs.length := by simp at hjl; omega
      subst e2
      have e1 : y = x := by simpa using hj.symm
      subst e1
      show E.C _ w6 _ (if _ then _ else _)
      rw [if_neg e]
      exact hnew
  · rw [List.length_append, List.length_singleton, flatV_succ]
    have e1 : flatV (fun j => if j < xs.length then f j else cs) xs.length = flatV f xs.length := flatV_congr _ (fun i hi => by simp [hi])
    rw [e1]
    simp only [Nat.lt_irrefl, if_false]
    exact hown
/-- A row of one thing, as a literal lays it. -/
theorem ro_one {B D : Nat} {w5 : World} {x : α} {cs : Array Value} (hBD : B ≤ D) (hB : B ≤ w5.heap.size) (hcs : cs.size = E.z) (hv : E.C (D ≤ ·) w5 x cs.toList) : Ro E B (w5.alloc (.cells cs E.T)) (.slice (some ⟨w5.heap.size, 0, none⟩) 1 1) [x] := by
  refine ⟨fun _ => cs.toList, fun _ => by simpa using hcs, fun j y hj => ?_, ?_⟩
  · have hjl : j < [x].length := (List.getElem?_eq_some_iff.1 hj).1
    have e : j = 0 := by simp at hjl; omega
    subst e
    have e1 : y = x := by simpa using hj.symm
    subst e1
    refine E.keep (fun b hb hl => ?_) hv
    have hb' : D ≤ b := hb
    refine ⟨⟨by omega, fun e => ?_⟩, Below.heap_alloc _ _ _ hl⟩
    have e1 : w5.heap.size = b := by simpa [Value.ownBlock] using e
    omega
  · have h := World.ownsRow_lit (base := B) (e := E.T) (size := E.z) w5 cs 1 hB (by unfold maxLen; omega) (by omega)
    have e : flatV (fun _ => cs.toList) [x].length = cs.toList := by simp [flatV]
    rw [e]
    exact h
end
/-- Terms. -/
def eltX : Elt Ex := ⟨40, 4, XwC, fun hk h => h.keep hk⟩
theorem Ro.xo {B : Nat} {w : World} {v : Value} {xs : List Ex} (h : Ro eltX B w v xs) : Xo B w v xs := by
  obtain ⟨f, h1, h2, h3⟩ := h
  exact ⟨f, h1, fun j hj => h2 j _ (by simp [List.getD, hj]), h3⟩
/-- Several things with a comma between each two, out of what reads the next one. -/
def sevF {α : Type} (ts : List Tk) (rd : Nat → Nat → Rd1 α) : Nat → Nat → List α → Rd1 (List α)
  | 0, i, _ => .bad 0 i
  | f + 1, i, xs => match rd xs.length i with
    | .bad c j => .bad c j
    | .ok x j => if mkA ts j 44 = true then sevF ts rd f (j + 1) (xs ++ [x]) else .ok (xs ++ [x]) j
end Go.Proofs.YtklfnphkepfmaaaGreatDoor

/- several of package parse, over terms. -/
namespace Go.Proofs.YtklfnphkepfmaaaGreatDoor
open Go.RowKit
attribute [local go_sem] tok_kind tok_text tok_num tok_at

/-- What a call that reads the next thing answers. -/
def Nm (S : Nat → Prop) (I : Nat → World → Prop) (w : World) (pb : Nat) (tv : Value) (ts : List Tk) (k : Nat) (r : Rd1 Ex) (e : Ending) (w' : World) : Prop :=
  match r with
  | .ok x j => ∃ v, e = .returned v ∧ Mo S w w' ∧ Ps w' pb tv ts j ∧ I (k + 1) w' ∧ Xw (w.heap.size ≤ ·) w' x v
  | .bad c j => Gv S w w' e c ((tkA ts j).at_ : Int)
/-- What several answers. -/
def Sm {α : Type} (E : Elt α) (S : Nat → Prop) (I : Nat → World → Prop) (w : World) (pb : Nat) (tv : Value) (ts : List Tk) (r : Rd1 (List α)) (e : Ending) (w' : World) : Prop :=
  match r with
  | .ok xs j => ∃ v, e = .returned v ∧ Mo S w w' ∧ Ps w' pb tv ts j ∧ I xs.length w' ∧ Ro E w.heap.size w' v xs
  | .bad c j => Gv S w w' e c ((tkA ts j).at_ : Int)
/-- The row grows: the parser and what the round keeps are as they were. -/
theorem sev_keep {w w6 w7 : World} {pb : Nat} {tv : Value} {ts : List Tk} {j k : Nat} {I : Nat → World → Prop} {ob : Option Nat} {o : Obj} {S : Nat → Prop} (hz : w.heap.size ≤ w6.heap.size) (hzp : pb < w.heap.size) (hts : ∀ ad n c, tv = .slice (some ad) n c → ad.block < w.heap.size) (hI : ∀ k a b, I k a → (∀ q, q < w.heap.size → q ≠ pb → b.heap[q]? = a.heap[q]?) → I k b)
    (hob : ∀ b, ob = some b → w.heap.size ≤ b) (hp : Ps w6 pb tv ts j) (hi : I k w6) (hM : Mo S w w6) (hg : (w6.alloc o).grownBy w7 ob) : Ps w7 pb tv ts j ∧ I k w7 ∧ Mo S w w7 := by
  have hm7 : Mo (fun b => ob = some b) w6 w7 := ((Mo.refl (fun b => ob = some b) w6).alloc _).grown hg (fun k e => Or.inl e)
  refine ⟨hp.mo hm7 (fun k hk => ⟨?_, fun ad n' c' htv e => ?_⟩), hI k w6 w7 hi (fun q hq _ => hm7.block q (by omega) (fun e => by have := hob q e; omega)), (hM.alloc _).grown hg (fun k e => Or.inr (hob k e))⟩
  · have := hob k hk
    omega
  · have h1 := hob k hk
    have h2 := hts ad n' c' htv
    omega
set_option maxRecDepth 100000 in
set_option maxHeartbeats 8000000 in
theorem sevX_any {ts : List Tk} (hE : EndT ts) (hl : ts.length ≤ 10000000) {pb : Nat} {tv : Value} {K : Nat} {fs cb : Array Value} (eg : ∀ args w, (callFunc K args).run Tryz.prog w = .ok (.enter K args) w) {S : Nat → Prop} {rd : Nat → Nat → Rd1 Ex} {I : Nat → World → Prop} {w : World} {i : Nat} (hSp : S pb) (hS : ∀ k, S k → k < w.heap.size)
    (hI : ∀ k a b, I k a → (∀ q, q < w.heap.size → q ≠ pb → b.heap[q]? = a.heap[q]?) → I k b) (hw : ∀ k i, i < ts.length → wit ts i (rd k i))
    (hc : ∀ k i w1, Ps w1 pb tv ts i → I k w1 → w.heap.size ≤ w1.heap.size → i < ts.length → nof (rd k i) → Calls Tryz.prog K (fs ++ cb) w1 (Nm S I w1 pb tv ts k (rd k i)))
    (h : Ps w pb tv ts i) (hi : i < ts.length) (h0 : I 0 w) (f : Nat) (hf : nof (sevF ts rd f i [])) :
    Calls Tryz.prog 60 #[.pointer (some ⟨pb, 0, none⟩), .func (.func K) fs cb] w (Sm eltX S I w pb tv ts (sevF ts rd f i [])) := by
  obtain ⟨i4, hi4, hw0, hw1, hw2⟩ := info_parts infoEx
  obtain ⟨R, hR⟩ : ∃ R, sevF ts rd f i [] = R := ⟨_, rfl⟩
  rw [hR] at hf ⊢
  have zp := lt_of_block h.b
  have hts := hid (h.old (by omega))
  have HC := hid hc
  have HI := hid hI
  have HW := hid hw
  have HS := hid hS
  have hcall0 := hid (hc 0 i w h h0 (Nat.le_refl _) hi)
  have hwi0 := hw 0 i hi
  clear hc hI hw hS
  cases f with
  | zero =>
    rw [sevF] at hR
    subst hR
    exact absurd rfl hf
  | succ f' =>
    rw [sevF] at hR
    cases hr : rd ([] : List Ex).length i with
    | bad c5 j =>
      rw [hr] at hR
      replace hr : rd 0 i = .bad c5 j := hr
      rw [hr] at hcall0
      subst hR
      go_enter Tryz.func60, Tryz.ntmps60
      go_wp2_with (go_at_fn K; refine (hcall0.out hf).mono ?_; rintro e w6 ⟨b6, rfl, hb6, hc6, hd6⟩)
      exact ⟨rfl, b6, rfl, hb6, hc6, hd6⟩
    | ok x j =>
      rw [hr] at hR
      replace hr : rd 0 i = .ok x j := hr
      rw [hr] at hcall0 hwi0
      replace hR : (if mkA ts j 44 = true then sevF ts rd f' (j + 1) [x] else .ok [x] j) = R := hR
      have hone : Hid (∀ w6 v, Mo S w w6 → Ps w6 pb tv ts j → I 1 w6 → Xw (w.heap.size ≤ ·) w6 x v → ∃ k n m aa al ac, v = .agg #[.int .i64 k, .string n, .int .i64 m, .slice aa al ac] ∧ Hid (Ro eltX w.heap.size (w6.alloc (.cells #[.int .i64 k, .string n, .int .i64 m, .slice aa al ac] 40)) (.slice (some ⟨w6.heap.size, 0, none⟩) 1 1) [x]) ∧ Hid (Ps (w6.alloc (.cells #[.int .i64 k, .string n, .int .i64 m, .slice aa al ac] 40)) pb tv ts j) ∧ Hid (I 1 (w6.alloc (.cells #[.int .i64 k, .string n, .int .i64 m, .slice aa al ac] 40))) ∧ Hid (Mo S w (w6.alloc (.cells #[.int .i64 k, .string n, .int .i64 m, .slice aa al ac] 40)))) := fun w6 v hm6 hp6 hi6 hx6 => by
        obtain ⟨k, n, m, aa, al, ac, rfl⟩ := hx6.form
        refine ⟨k, n, m, aa, al, ac, rfl, ro_one (E := eltX) (D := w.heap.size) (Nat.le_refl _) hm6.size rfl ⟨k, n, m, aa, al, ac, rfl, hx6⟩, hp6.below (below_alloc w6 _), HI.out 1 w6 _ hi6 (fun q hq _ => Below.heap_alloc _ _ _ (by have := hm6.size; omega)), hm6.alloc _⟩
      clear hr h h0
      go_enter Tryz.func60, Tryz.ntmps60
      go_wp2_with (go_at_fn K; refine (hcall0.out trivial).mono ?_; clear hcall0; rintro e w6 ⟨v, rfl, hm6, hp6, hi6, hx6⟩; obtain ⟨k, n, m, aa, al, ac, rfl, hX1, hP1, hI1, hM1⟩ := hone.out w6 v hm6 hp6 hi6 hx6; clear hone hm6 hp6 hi6 hx6)
      go_loopw [5] (fun y wr => ∃ (xs : List Ex) (i' f' c : Nat) (ao : Option Addr), y = .slice ao xs.length c ∧ i' < ts.length ∧ xs.length ≤ i' ∧ Hid (Ps wr pb tv ts i') ∧ Hid (I xs.length wr) ∧ Hid (Mo S w wr) ∧ Hid (Ro eltX w.heap.size wr (.slice ao xs.length c) xs) ∧ Hid ((if mkA ts i' 44 = true then sevF ts rd f' (i' + 1) xs else .ok xs i') = R)) (fun _ wr => ts.length - atOf pb wr)
      case atStart => exact ⟨[x], j, f', 1, _, rfl, hwi0.2, by have := hwi0.1; simp; omega, hP1, hI1, hM1, hX1, hR⟩
      case round =>
        clear hX1 hP1 hI1 hM1 hR hwi0
        obtain ⟨xs, i', f', c, ao, rfl, hi', hxi, hP, hII, hM, hX, hF⟩ := hrel
        cases hm : mkA ts i' 44 with
        | false =>
          have hF := hF.out
          rw [if_neg (by rw [hm]; decide)] at hF
          have htk := takeMark_no hP.out hi' ⟨#[44]⟩ hm
          subst hF
          go_wp2_with (go_at_call 100; refine htk.mono ?_; clear htk; rintro e w8 ⟨rfl, hb8⟩)
          go_ret
          exact ⟨_, rfl, hM.out.trans (Mo.ofBelow hb8 : Mo S wr w8) (fun _ h => Or.inl h), hP.out.below hb8, HI.out _ _ _ hII.out (fun q hq _ => hb8.block q (by have := hM.out.size; omega)), hX.out.next hb8⟩
        | true =>
          have hF := hF.out
          rw [if_pos hm] at hF
          have hi1 := mk_next hE hi' hm
          have htk := takeMark_yes hP.out hi' hl ⟨#[44]⟩ hm
          have hkp : Hid (∀ w8, wr.grownBy w8 (some pb) → Ps w8 pb tv ts (i' + 1) → nof (rd xs.length (i' + 1)) → Calls Tryz.prog K (fs ++ cb) w8 (Nm S I w8 pb tv ts xs.length (rd xs.length (i' + 1)))) := fun w8 hg8 hp8 hn8 =>
            HC.out xs.length (i' + 1) w8 hp8 (HI.out _ _ _ hII.out (fun q hq hne => hg8.block q (by have := hM.out.size; omega) (fun e => hne (Option.some.inj e)))) (Nat.le_trans hM.out.size hg8.size) hi1 hn8
          have hwi := HW.out xs.length (i' + 1) hi1
          cases f' with
          | zero =>
            rw [sevF] at hF
            subst hF
            exact absurd rfl hf
          | succ f'' =>
            rw [sevF] at hF
            cases hr : rd xs.length (i' + 1) with
            | bad c5 j5 =>
              rw [hr] at hF hkp
              subst hF
              go_wp2_with (first
                | (go_at_call 100; refine htk.mono ?_; clear htk; rintro e w8 ⟨rfl, hg8, hp8⟩)
                | (go_at_fn K; refine (hkp.out w8 hg8 hp8 hf).mono ?_; rintro e w9 ⟨b9, rfl, hb9, hc9, hd9⟩))
              exact ⟨rfl, b9, rfl, hb9, Nat.le_trans hM.out.size (Nat.le_trans hg8.size hc9), (hM.out.trans (Mo.ofGrown hg8 hSp : Mo S wr w8) (fun _ h => Or.inl h)).trans hd9 (fun _ h => Or.inl h)⟩
            | ok x5 j5 =>
              rw [hr] at hF hkp hwi
              replace hF : (if mkA ts j5 44 = true then sevF ts rd f'' (j5 + 1) (xs ++ [x5]) else .ok (xs ++ [x5]) j5) = R := hF
              obtain ⟨hij, hj5⟩ := hwi
              have hat0 := hid hP.out.atOf
              have hFF := hid hF
              have hstep : Hid (∀ w8 w6 v, wr.grownBy w8 (some pb) → Mo S w8 w6 → Ps w6 pb tv ts j5 → I (xs.length + 1) w6 → Xw (w8.heap.size ≤ ·) w6 x5 v → ∃ k n m aa al ac, v = .agg #[.int .i64 k, .string n, .int .i64 m, .slice aa al ac] ∧ ∃ fv : Nat → List Value, (w6.alloc (.cells #[.int .i64 k, .string n, .int .i64 m, .slice aa al ac] 40)).ownsRow w.heap.size 40 4 (.slice ao xs.length c) xs.length (flatV fv xs.length) ∧ w.heap.size ≤ w6.heap.size ∧ ∀ g7 c7 w7, w7.ownsRow w.heap.size 40 4 (.slice (some ⟨g7, 0, none⟩) (xs.length + 1) c7) (xs.length + 1) (flatV fv xs.length ++ [.int .i64 k, .string n, .int .i64 m, .slice aa al ac]) → (w6.alloc (.cells #[.int .i64 k, .string n, .int .i64 m, .slice aa al ac] 40)).grownBy w7 (Value.slice ao xs.length c).ownBlock → ((Value.slice ao xs.length c).ownBlock = some g7 ∨ g7 = w6.heap.size + 1) → Hid (Ro eltX w.heap.size w7 (.slice (some ⟨g7, 0, none⟩) (xs.length + 1) c7) (xs ++ [x5])) ∧ Hid (Ps w7 pb tv ts j5) ∧ Hid (I (xs.length + 1) w7) ∧ Hid (Mo S w w7)) := fun w8 w6 v hg8 hm6 hp6 hi6 hx6 => by
                obtain ⟨k, n, m, aa, al, ac, rfl⟩ := hx6.form
                have hz8 := hg8.size
                have hzw := hM.out.size
                have hBk := hX.out.blkB
                have hDk := hX.out.blk
                have hX6 := (hX.out.grown hg8 zp).mo hm6 HS.out
                obtain ⟨fv, hf4, hfx, hown⟩ := hX6
                have hM6 := (hM.out.trans (Mo.ofGrown hg8 hSp : Mo S wr w8) (fun _ h => Or.inl h)).trans hm6 (fun _ h => Or.inl h)
                refine ⟨k, n, m, aa, al, ac, rfl, fv, World.ownsRow.alloc hown _, hM6.size, fun g7 c7 w7 ho7 hg7 hat7 => ?_⟩
                obtain ⟨a1, a2, a3⟩ := sev_keep hM6.size zp hts.out HI.out hBk hp6 hi6 hM6 hg7
                exact ⟨ro_app (E := eltX) hf4 hfx (D := w8.heap.size) (fun b hb => by have := hDk b hb; omega) (by omega) rfl ⟨k, n, m, aa, al, ac, rfl, hx6⟩ ho7 hg7 hat7, a1, a2, a3⟩
              have hxb : xs.length ≤ 10000000 := by omega
              clear hF hr hM hX hP HC HI HW hII hm
              go_wp2_with (first
                | (go_at_call 100; refine htk.mono ?_; clear htk; rintro e w8 ⟨rfl, hg8, hp8⟩)
                | (go_at_fn K; refine (hkp.out w8 hg8 hp8 trivial).mono ?_; clear hkp; rintro e w6 ⟨v, rfl, hm6, hp6, hi6, hx6⟩; obtain ⟨k, n, m, aa, al, ac, rfl, fv, hown6, hz6, hnx6⟩ := hstep.out _ _ _ hg8 hm6 hp6 hi6 hx6)
                | (at_builtin; go_must (refine wpList_append_lies _ rfl _ _ 24 rfl w.heap.size 40 i4 (.agg #[.int .i64 0, .string ⟨#[]⟩, .int .i64 0, .slice none 0 0]) 4 56 Tryz.underlying24 hi4 hw0 hw1 hw2 rfl (by decide) _ xs.length (flatV fv xs.length) rfl hown6 ⟨w6.heap.size, 0, none⟩ 1 1 [.int .i64 k, .string n, .int .i64 m, .slice aa al ac] rfl rfl (World.news_of_block (cs := #[.int .i64 k, .string n, .int .i64 m, .slice aa al ac]) (t := 40) (fr := (0, 0)) (heap_alloc_new w6 _)) (by simp [Value.oneCell']) (by omega) (by unfold maxLen; omega) (by omega) (by simp; omega) (w6.heap.size + 1) (by simp) ?_; intro g7 c7 w7 hown7 hg7 hat7 hlt7; obtain ⟨hX7, hP7, hI7, hM7⟩ := hnx6 g7 c7 w7 hown7 hg7 hat7; clear hown7 hg7)))
              go_roundw
              case rel => exact ⟨xs ++ [x5], j5, f'', c7, some ⟨g7, 0, none⟩, by rw [List.length_append, List.length_singleton], hj5, by simp; omega, hP7, by rw [List.length_append, List.length_singleton]; exact hI7, hM7, by rw [List.length_append, List.length_singleton]; exact hX7, hFF⟩
              case measure => rw [hP7.out.atOf, hat0.out]; omega
end Go.Proofs.YtklfnphkepfmaaaGreatDoor

/- The elements of a list; a root: functions that several calls. -/
namespace Go.Proofs.YtklfnphkepfmaaaGreatDoor
open Go.RowKit
attribute [local go_sem] tok_kind tok_text tok_num tok_at

theorem termF_nest {ts : List Tk} {f : Nat} {nest : Int} {i j : Nat} {x : Ex} (h : termF ts f nest i = .ok x j) : nest ≤ 4096 := by
  cases f with
  | zero => rw [termF] at h; cases h
  | succ f =>
    rw [termF] at h
    split at h
    · cases h
    · split at h
      · cases h
      · omega
/-- The state of a list's loop: the number of compounds around the last element, and the parser's box. -/
def Il (nb xb pb : Nat) (nest : Int) (k : Nat) (w : World) : Prop := w.heap[nb]? = some (.cells #[.int .i64 (nest + k)] 3) ∧ w.heap[xb]? = some (.cells #[.pointer (some ⟨pb, 0, none⟩)] 68) ∧ nest + k ≤ 4096
theorem one_cell' {w : World} {b : Nat} {v : Value} {T : TypeId} (h : w.heap[b]? = some (.cells #[v] T)) : w.cell? ⟨b, 0, none⟩ = some v ∧ w.frozen? ⟨b, 0, none⟩ = false := by simp [World.cell?, World.frozen?, h]
theorem one_set' {w : World} {b : Nat} {v : Value} {T : TypeId} (u : Value) (h : w.heap[b]? = some (.cells #[v] T)) : (w.setCell ⟨b, 0, none⟩ u).heap[b]? = some (.cells #[u] T) := heap_setCell_same w b 0 _ _ u h
set_option maxRecDepth 100000 in
set_option maxHeartbeats 8000000 in
theorem elem_any {ts : List Tk} (hl : ts.length ≤ 10000000) {pb nb xb : Nat} {tv : Value} {f : Nat} (hT : TermC pb tv ts f) {nest : Int} (hn0 : -10 ≤ nest) (h1 : nb ≠ pb) (h2 : xb ≠ pb) (h3 : nb ≠ xb) {f' : Nat} (hf' : f' < f) {k i : Nat} {w : World} (h : Ps w pb tv ts i) (hts : ∀ ad n c, tv = .slice (some ad) n c → ad.block ≠ nb) (hI : Il nb xb pb nest k w) (hi : i < ts.length) (hn : nof (termF ts f' (nest + k + 1) i)) :
    Calls Tryz.prog 143 #[.pointer (some ⟨nb, 0, none⟩), .pointer (some ⟨xb, 0, none⟩)] w (Nm (fun b => b = pb ∨ b = nb) (Il nb xb pb nest) w pb tv ts k (termF ts f' (nest + k + 1) i)) := by
  obtain ⟨hb1, hb2, hk⟩ := hI
  have zn := lt_of_block hb1
  have zx := lt_of_block hb2
  have zp := lt_of_block h.b
  have hwr : IntKind.i64.wrap (nest + k + 1) = nest + k + 1 := by rw [IntKind.wrap_i64]; omega
  have hb0 := below_alloc w (.cells #[.int .i64 0, .string ⟨#[]⟩, .int .i64 0, .slice none 0 0] 40)
  have a1 := (hb0.block nb zn).trans hb1
  have a2 := (hb0.block xb zx).trans hb2
  obtain ⟨W1, hW1⟩ : ∃ W1, (w.alloc (.cells #[.int .i64 0, .string ⟨#[]⟩, .int .i64 0, .slice none 0 0] 40)).setCell ⟨nb, 0, none⟩ (.int .i64 (nest + k + 1)) = W1 := ⟨_, rfl⟩
  have b1 : W1.heap[nb]? = some (.cells #[.int .i64 (nest + k + 1)] 3) := by rw [← hW1]; exact one_set' _ a1
  have b2 : W1.heap[xb]? = some (.cells #[.pointer (some ⟨pb, 0, none⟩)] 68) := by rw [← hW1]; exact (Below.heap_setCell _ ⟨nb, 0, none⟩ _ xb (Ne.symm h3)).trans a2
  have b3 : W1.heap[w.heap.size]? = some (.cells #[.int .i64 0, .string ⟨#[]⟩, .int .i64 0, .slice none 0 0] 40) := by rw [← hW1]; exact (Below.heap_setCell _ ⟨nb, 0, none⟩ _ w.heap.size (by show w.heap.size ≠ nb; omega)).trans (heap_alloc_new w _)
  have hm1 : Mo (fun b => b = pb ∨ b = nb) w W1 := by rw [← hW1]; exact ((Mo.refl _ w).alloc _).setCell (p := ⟨nb, 0, none⟩) (Or.inl (Or.inr rfl)) _
  have hmn : Mo (· = nb) w W1 := by rw [← hW1]; exact ((Mo.refl (· = nb) w).alloc _).setCell (p := ⟨nb, 0, none⟩) (Or.inl rfl) _
  have hp1 : Ps W1 pb tv ts i := h.mo hmn (fun k hk => by subst hk; exact ⟨h1, hts⟩)
  have hter := hT f' hf' (nest + k + 1) i W1 hp1 hi (by omega) (by omega) hn
  have z1 : W1.heap.size = w.heap.size + 1 := by rw [← hW1]; simp
  obtain ⟨c1, c2⟩ := one_cell' a1
  obtain ⟨d1, _⟩ := one_cell' b1
  obtain ⟨d2, _⟩ := one_cell' b2
  clear hT hb1 hb2
  cases hr : termF ts f' (nest + k + 1) i with
  | bad c5 j =>
    rw [hr] at hter
    go_enter Tryz.func143, Tryz.ntmps143
    go_wp2_with (go_at_call 101; go_must (refine hter.mono ?_; rintro e w6 ⟨b6, rfl, hb6, hc6, hd6⟩))
    exact ⟨rfl, b6, rfl, hb6, by omega, hm1.trans hd6 (fun x h => Or.inl (Or.inl h))⟩
  | ok x j =>
    rw [hr] at hter
    have hle := termF_nest hr
    have hfin : Hid (∀ w2 v, Mo (· = pb) W1 w2 → Ps w2 pb tv ts j → Xw (W1.heap.size ≤ ·) w2 x v → ∃ k' n m aa al ac, v = .agg #[.int .i64 k', .string n, .int .i64 m, .slice aa al ac] ∧ w2.heap[w.heap.size]? = some (.cells #[.int .i64 0, .string ⟨#[]⟩, .int .i64 0, .slice none 0 0] 40) ∧ Mo (fun b => b = pb ∨ b = nb) w (exEnd w2 w.heap.size (.int .i64 k') (.string n) (.int .i64 m) (.slice aa al ac)) ∧ Ps (exEnd w2 w.heap.size (.int .i64 k') (.string n) (.int .i64 m) (.slice aa al ac)) pb tv ts j ∧ Il nb xb pb nest (k + 1) (exEnd w2 w.heap.size (.int .i64 k') (.string n) (.int .i64 m) (.slice aa al ac)) ∧ Xw (w.heap.size ≤ ·) (exEnd w2 w.heap.size (.int .i64 k') (.string n) (.int .i64 m) (.slice aa al ac)) x (.agg #[.int .i64 k', .string n, .int .i64 m, .slice aa al ac])) := fun w2 v hm2 hp2 hx2 => by
      obtain ⟨k', n, m, aa, al, ac, rfl⟩ := hx2.form
      have e3 := (hm2.block w.heap.size (lt_of_block b3) (by omega)).trans b3
      have e1 := (hm2.block nb (lt_of_block b1) h1).trans b1
      have e2 := (hm2.block xb (lt_of_block b2) h2).trans b2
      have hmq : Mo (· = w.heap.size) w2 (exEnd w2 w.heap.size (.int .i64 k') (.string n) (.int .i64 m) (.slice aa al ac)) := ((((Mo.refl (· = w.heap.size) w2).setCell (p := ⟨w.heap.size, 0, none⟩) (Or.inl rfl) _).setCell (p := ⟨w.heap.size, 1, none⟩) (Or.inl rfl) _).setCell (p := ⟨w.heap.size, 2, none⟩) (Or.inl rfl) _).setCell (p := ⟨w.heap.size, 3, none⟩) (Or.inl rfl) _
      refine ⟨k', n, m, aa, al, ac, rfl, e3, (hm1.trans hm2 (fun x h => Or.inl (Or.inl h))).trans hmq (fun x h => Or.inr (by rw [h]; exact Nat.le_refl _)), hp2.mo hmq (fun b hb => by subst hb; exact ⟨by omega, fun ad n' c' htv e => by have := h.old (by omega) ad n' c' htv; omega⟩), ⟨?_, ?_, by omega⟩, hx2.keep (fun b hb hl => ?_)⟩
      · rw [exEnd_other (by omega), e1]
        have : nest + (k : Int) + 1 = nest + ((k + 1 : Nat) : Int) := by omega
        rw [this]
      · rw [exEnd_other (by omega), e2]
      · have hb' : W1.heap.size ≤ b := hb
        exact ⟨by omega, exEnd_other (by omega)⟩
    go_enter Tryz.func143, Tryz.ntmps143
    go_wp2_with (go_at_call 101; go_must (refine hter.mono ?_; rintro e w2 ⟨v, rfl, hm2, hp2, hx2⟩; obtain ⟨k', n, m, aa, al, ac, rfl, e3, e4, e5, e6, e7⟩ := hfin.out w2 v hm2 hp2 hx2; have zq2 := lt_of_block e3; obtain ⟨⟨q0, q1, q2, q3⟩, r0, r1, r2, r3⟩ := blk4x e3))
    exact bodyPost_ret (ret_ex Tryz.results143 (by rfl) (ex_end (.int .i64 k') (.string n) (.int .i64 m) (.slice aa al ac) e3)) rfl ⟨_, rfl, e4, e5, e6, e7⟩
set_option maxRecDepth 100000 in
set_option maxHeartbeats 8000000 in
theorem root_any {ts : List Tk} {pb : Nat} {tv : Value} {f : Nat} (hT : TermC pb tv ts f) {f' : Nat} (hf' : f' < f) {k i : Nat} {w : World} (h : Ps w pb tv ts i) (hi : i < ts.length) (hn : nof (termF ts f' 0 i)) :
    Calls Tryz.prog 61 #[.pointer (some ⟨pb, 0, none⟩)] w (Nm (· = pb) (fun _ _ => True) w pb tv ts k (termF ts f' 0 i)) := by
  have zp := lt_of_block h.b
  have hb0 := below_alloc w (.cells #[.int .i64 0, .string ⟨#[]⟩, .int .i64 0, .slice none 0 0] 40)
  obtain ⟨W1, hW1⟩ : ∃ W1, w.alloc (.cells #[.int .i64 0, .string ⟨#[]⟩, .int .i64 0, .slice none 0 0] 40) = W1 := ⟨_, rfl⟩
  have b3 : W1.heap[w.heap.size]? = some (.cells #[.int .i64 0, .string ⟨#[]⟩, .int .i64 0, .slice none 0 0] 40) := by rw [← hW1]; exact heap_alloc_new w _
  have hm1 : Mo (· = pb) w W1 := by rw [← hW1]; exact (Mo.refl _ w).alloc _
  have hp1 : Ps W1 pb tv ts i := by rw [← hW1]; exact h.below hb0
  have hter := hT f' hf' 0 i W1 hp1 hi (by omega) (by omega) hn
  have z1 : W1.heap.size = w.heap.size + 1 := by rw [← hW1]; simp
  clear hT
  cases hr : termF ts f' 0 i with
  | bad c5 j =>
    rw [hr] at hter
    go_enter Tryz.func61, Tryz.ntmps61
    go_wp2_with (go_at_call 101; go_must (refine hter.mono ?_; rintro e w6 ⟨b6, rfl, hb6, hc6, hd6⟩))
    exact ⟨rfl, b6, rfl, hb6, by omega, hm1.trans hd6 (fun x h => Or.inl h)⟩
  | ok x j =>
    rw [hr] at hter
    have hfin : Hid (∀ w2 v, Mo (· = pb) W1 w2 → Ps w2 pb tv ts j → Xw (W1.heap.size ≤ ·) w2 x v → ∃ k' n m aa al ac, v = .agg #[.int .i64 k', .string n, .int .i64 m, .slice aa al ac] ∧ w2.heap[w.heap.size]? = some (.cells #[.int .i64 0, .string ⟨#[]⟩, .int .i64 0, .slice none 0 0] 40) ∧ Mo (· = pb) w (exEnd w2 w.heap.size (.int .i64 k') (.string n) (.int .i64 m) (.slice aa al ac)) ∧ Ps (exEnd w2 w.heap.size (.int .i64 k') (.string n) (.int .i64 m) (.slice aa al ac)) pb tv ts j ∧ Xw (w.heap.size ≤ ·) (exEnd w2 w.heap.size (.int .i64 k') (.string n) (.int .i64 m) (.slice aa al ac)) x (.agg #[.int .i64 k', .string n, .int .i64 m, .slice aa al ac])) := fun w2 v hm2 hp2 hx2 => by
      obtain ⟨k', n, m, aa, al, ac, rfl⟩ := hx2.form
      have e3 := (hm2.block w.heap.size (lt_of_block b3) (by omega)).trans b3
      have hmq : Mo (· = w.heap.size) w2 (exEnd w2 w.heap.size (.int .i64 k') (.string n) (.int .i64 m) (.slice aa al ac)) := ((((Mo.refl (· = w.heap.size) w2).setCell (p := ⟨w.heap.size, 0, none⟩) (Or.inl rfl) _).setCell (p := ⟨w.heap.size, 1, none⟩) (Or.inl rfl) _).setCell (p := ⟨w.heap.size, 2, none⟩) (Or.inl rfl) _).setCell (p := ⟨w.heap.size, 3, none⟩) (Or.inl rfl) _
      refine ⟨k', n, m, aa, al, ac, rfl, e3, (hm1.trans hm2 (fun x h => Or.inl h)).trans hmq (fun x h => Or.inr (by rw [h]; exact Nat.le_refl _)), hp2.mo hmq (fun b hb => by subst hb; exact ⟨by omega, fun ad n' c' htv e => by have := h.old (by omega) ad n' c' htv; omega⟩), hx2.keep (fun b hb hl => ?_)⟩
      have hb' : W1.heap.size ≤ b := hb
      exact ⟨by omega, exEnd_other (by omega)⟩
    go_enter Tryz.func61, Tryz.ntmps61
    go_wp2_with (go_at_call 101; go_must (refine hter.mono ?_; rintro e w2 ⟨v, rfl, hm2, hp2, hx2⟩; obtain ⟨k', n, m, aa, al, ac, rfl, e3, e4, e5, e7⟩ := hfin.out w2 v hm2 hp2 hx2; have zq2 := lt_of_block e3; obtain ⟨⟨q0, q1, q2, q3⟩, r0, r1, r2, r3⟩ := blk4x e3))
    exact bodyPost_ret (ret_ex Tryz.results61 (by rfl) (ex_end (.int .i64 k') (.string n) (.int .i64 m) (.slice aa al ac) e3)) rfl ⟨_, rfl, e4, e5, trivial, e7⟩
end Go.Proofs.YtklfnphkepfmaaaGreatDoor

/- slices.Backward over a row of terms: what its iterator tells. -/
namespace Go.Proofs.YtklfnphkepfmaaaGreatDoor
open Go.RowKit Go.Shelf

attribute [local go_sem] Oper.semAt_some

/-- What is handed over: a number and a term's cells. -/
structure Be where
  i : Int
  k : Int
  nm : ByteArray
  m : Int
  aa : Option Addr
  al : Nat
  ac : Nat
def encB (x : Be) : Array Value := #[.int .i64 x.i, .agg #[.int .i64 x.k, .string x.nm, .int .i64 x.m, .slice x.aa x.al x.ac]]
/-- The next thing that is handed over. -/
def nextB (f : Nat → List Value) (n : Nat) (pre : List Be) (x : Be) (_ : World) : Prop := pre.length < n ∧ x.i = ((n - 1 - pre.length : Nat) : Int) ∧ f (n - 1 - pre.length) = [.int .i64 x.k, .string x.nm, .int .i64 x.m, .slice x.aa x.al x.ac]
/-- The state between two rounds. -/
structure EB (f : Nat → List Value) (n g c B Bs B0 : Nat) (J : List Be → World → Prop) (r : Nat) (pre : List Be) (wr : World) : Prop where
  len : pre.length + r = n
  j : J pre wr
  box : wr.heap[Bs]? = some (.cells #[.slice (some ⟨g, 0, none⟩) n c] 24)
  row : wr.ownsRow B0 40 4 (.slice (some ⟨g, 0, none⟩) n c) n (flatV f n)
  size : B ≤ wr.heap.size
set_option maxRecDepth 100000 in
set_option maxHeartbeats 4000000 in
theorem back_tells (f : Nat → List Value) (n g c N B Bs B0 : Nat) (w : World) (hN : 2 ≤ N) (hn : n ≤ 10000000) (hf4 : ∀ j, (f j).length = 4) (hf : ∀ j, j < n → ∃ k nm m aa al ac, f j = [.int .i64 k, .string nm, .int .i64 m, .slice aa al ac]) (hBs : w.heap[Bs]? = some (.cells #[.slice (some ⟨g, 0, none⟩) n c] 24)) (hrow : w.ownsRow B0 40 4 (.slice (some ⟨g, 0, none⟩) n c) n (flatV f n)) :
    TellsP N Tryz.prog 156 #[.pointer (some ⟨Bs, 0, none⟩)] encB B (fun k => k = Bs ∨ k = g) (nextB f n) (fun xs => xs.length = n) w := by
  intro l J Jx W hW hBW hJ hJx hY h0
  have hbx : W.heap[Bs]? = some (.cells #[.slice (some ⟨g, 0, none⟩) n c] 24) := (hW.block _ (lt_of_block hBs)).trans hBs
  have hrw : W.ownsRow B0 40 4 (.slice (some ⟨g, 0, none⟩) n c) n (flatV f n) := own_keep hrow (fun k hk => hW.block k (hrow.lt k hk).2)
  obtain ⟨hcb, _⟩ := one_cell' hbx
  have h1n : 1 ≤ N := by omega
  have hwr : IntKind.i64.wrap ((n : Int) - 1) = (n : Int) - 1 := by rw [IntKind.wrap_i64]; omega
  refine callsIn_of_wp Tryz.func156 rfl trivial ?_ rfl
  simp only [Tryz.ntmps156, List.size_toArray, List.length_cons, List.length_nil, Nat.reduceAdd, Nat.reduceSub, Array.replicate_succ, Array.replicate_zero, List.push_toArray, List.append_toArray, List.nil_append, List.cons_append]
  gi_wp2
  gi_loopw [3] (fun i wr => ∃ (r : Nat) (pre : List Be), i = .int .i64 ((r : Int) - 1) ∧ EB f n g c B Bs B0 J r pre wr) (fun i _ => (intOf i + 1).toNat)
  case atStart => exact ⟨n, [], rfl, ⟨by simp, h0, hbx, hrw, hBW⟩⟩
  case round =>
    obtain ⟨r, pre, rfl, hi⟩ := hrel
    obtain ⟨hcr, _⟩ := one_cell' hi.box
    cases r with
    | zero =>
      have hS : pre.length = n := by have := hi.len; omega
      gi_wp2
      refine bodyPost_end (ret_void Tryz.results156) rfl ?_
      exact ⟨⟨_, rfl⟩, .inl ⟨_, hS, hi.j⟩⟩
    | succ jj =>
      have hjn : jj < n := by have := hi.len; omega
      have hlen := hi.len
      have e0 : (((jj + 1 : Nat) : Int) - 1) = (jj : Int) := by omega
      rw [e0]
      obtain ⟨k, nm, m, aa, al, ac, hfj⟩ := hf jj hjn
      have at' : ∀ t, t < 4 → wr.cell? ⟨g, jj * 4 + t, none⟩ = (f jj)[t]? := fun t ht => by
        rw [hi.row.cellAt _ (by omega)]
        exact flatV_at (z := 4) hf4 ht n hjn
      rw [hfj] at at'
      have c0 := at' 0 (by omega)
      rw [Nat.add_zero] at c0
      have c1 := at' 1 (by omega)
      have c2 := at' 2 (by omega)
      have c3 := at' 3 (by omega)
      simp only [List.getElem?_cons_zero, List.getElem?_cons_succ] at c0 c1 c2 c3
      have hT : nextB f n pre ⟨(jj : Int), k, nm, m, aa, al, ac⟩ wr := ⟨by omega, by show (jj : Int) = _; omega, by rw [show n - 1 - pre.length = jj by omega, hfj]⟩
      obtain ⟨fn, tmps, assign, body, hy, hR⟩ := hY pre _ wr hi.j hT
      simp only [encB] at hy
      have hwr2 : IntKind.i64.wrap ((jj : Int) - 1) = (jj : Int) - 1 := by rw [IntKind.wrap_i64]; omega
      have hj2 : (jj : Int) < (n : Int) := by omega
      have HI := hid hi
      clear at' hT hi
      gi_wp2
      refine hR.mono ?_
      rintro e W3 (⟨rfl, hJ3, hk3⟩ | ⟨rfl, hJx3⟩)
      · have hb3 : W3.heap[Bs]? = some (.cells #[.slice (some ⟨g, 0, none⟩) n c] 24) := (hk3.2 _ (Or.inl (Or.inl rfl)) (lt_of_block HI.out.box)).trans HI.out.box
        have hr3 : W3.ownsRow B0 40 4 (.slice (some ⟨g, 0, none⟩) n c) n (flatV f n) := own_keep HI.out.row (fun q hq => hk3.2 q (Or.inl (Or.inr (by simpa [Value.ownBlock] using hq.symm))) (HI.out.row.lt q hq).2)
        have hI3 : EB f n g c B Bs B0 J jj (pre ++ [⟨(jj : Int), k, nm, m, aa, al, ac⟩]) W3 := ⟨by simp; omega, hJ3, hb3, hr3, Nat.le_trans HI.out.size hk3.1⟩
        gi_wp2
        exact ⟨⟨jj, _, rfl, hI3⟩, by simp [intOf]⟩
      · gi_wp2
        refine bodyPost_ret (results_none rfl _ _ _) rfl ?_
        exact ⟨⟨_, rfl⟩, .inr ⟨_, hJx3⟩⟩
theorem backward_any (ao : Option Addr) (n c : Nat) (w : World) :
    Calls Tryz.prog 144 #[.slice ao n c] w fun e w' => e = .returned (.func (.func 156) #[] #[.pointer (some ⟨w.heap.size, 0, none⟩)]) ∧ w' = w.alloc (.cells #[.slice ao n c] 24) := by
  have hmf : ∀ (fn : Fn) (first cap : Array Value) (w : World), (Instr.makeFunc fn first cap).run Tryz.prog w = .ok (.func fn first cap) w := fun _ _ _ _ => rfl
  go_enter Tryz.func144, Tryz.ntmps144
  go_wp2
  go_ret
  exact ⟨rfl, rfl⟩
end Go.Proofs.YtklfnphkepfmaaaGreatDoor
