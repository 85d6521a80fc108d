/- scan of package parse. -/
import Derived.Test.YtklfnphkepfmaaaGreatDoorPsAsZ
import Derived.Test.YtklfnphkepfmaaaGreatDoorLxScan
import Derived.StillTailTactics
import Derived.Defers
import Derived.Recover
namespace Go.Proofs.YtklfnphkepfmaaaGreatDoor
open Go.RowKit

/-- The variable that tells the type error. -/
def ErrT (w : World) : Prop := w.cell? ⟨0, 0, none⟩ = some (.iface 177 (.agg #[.pointer (some ⟨5, 29, none⟩)]))
theorem ErrT.below {w w' : World} (h : ErrT w) (hb : Below w.heap.size w w') : ErrT w' := (hb.cell (p := ⟨0, 0, none⟩) (lt_of_cell h)).trans h
/-- errors.As at a Fault and a new variable: what it leaves. -/
theorem as_new (fb : Nat) (w0 w : World) (hb : Below w0.heap.size w0 w) (hG : ErrT w0) :
    Calls Tryz.prog 98 #[.iface 82 (.pointer (some ⟨fb, 0, none⟩)), .iface 139 (.pointer (some ⟨w.heap.size, 0, none⟩))] (w.alloc (.cells #[.pointer none] 82)) fun e w' => e = .returned (.bool true) ∧ Below w.heap.size w w' ∧ w'.heap[w.heap.size]? = some (.cells #[.pointer (some ⟨fb, 0, none⟩)] 82) := by
  have hG1 : ErrT (w.alloc (.cells #[.pointer none] 82)) := (hG.below hb).below (below_alloc w _)
  have hq := heap_alloc_new w (.cells #[.pointer none] 82)
  obtain ⟨c0, f0⟩ := one_cell' hq
  refine (as_hit ⟨fb, 0, none⟩ ⟨w.heap.size, 0, none⟩ _ (w.alloc (.cells #[.pointer none] 82)) hG1 c0 f0).mono ?_
  rintro e w' ⟨rfl, rfl⟩
  refine ⟨rfl, ?_, ?_⟩
  · refine Below.setCell ?_ (p := ⟨w.heap.size, 0, none⟩) (Nat.le_refl _) _
    exact ((((((Below.refl _ w).alloc (Nat.le_refl _) _).alloc (by simp) _).alloc (by simp; omega) _).alloc (by simp; omega) _).alloc (by simp; omega) _)
  · refine one_set' _ ((Below.heap_alloc _ _ _ (by simp; omega)).trans ((Below.heap_alloc _ _ _ (by simp; omega)).trans ((Below.heap_alloc _ _ _ (by simp; omega)).trans ((Below.heap_alloc _ _ _ (by simp)).trans hq))))
/-- A fault that wraps the scanner's. -/
def srcFault (fb : Nat) (a : Int) : Obj := .cells #[.int .i64 70, .int .i64 a, .string ⟨#[]⟩, .iface 82 (.pointer (some ⟨fb, 0, none⟩))] 86
set_option maxRecDepth 100000 in
set_option maxHeartbeats 4000000 in
theorem scan_yes' (s : ByteArray) (w : World) (hc : someC s = 0) :
    Calls Tryz.prog 58 #[.string s] w fun e w' => ∃ v, e = .returned v ∧ Below w.heap.size w w' ∧ Tr w' w.heap.size v (someT s) := by
  have hs := scan_any s w
  go_enter Tryz.func58, Tryz.ntmps58
  go_wp2_with (first
    | (go_at_call 97; go_must (refine hs.mono ?_; clear hs; rintro e w1 ⟨v, ev, rfl, hE, hT, _, hb1⟩; rw [hc] at hE; obtain rfl := hE.none_eq; have hT1 := hid (hT hc); clear hT))
    | (go_at_call 98; go_must (refine (as_nil _ _).mono ?_; rintro e w2 ⟨rfl, rfl⟩)))
  go_ret
  exact ⟨_, rfl, Below.next hb1 (below_alloc w1 _), own_below hT1.out (below_alloc w1 _)⟩
set_option maxRecDepth 100000 in
set_option maxHeartbeats 4000000 in
theorem scan_no' (s : ByteArray) (w : World) (hG : ErrT w) (hc : someC s ≠ 0) :
    Calls Tryz.prog 58 #[.string s] w fun e w' => ∃ b fb, e = .panicked [{ v := .iface 82 (.pointer (some ⟨b, 0, none⟩)), recovered := false }] ∧ w'.heap[b]? = some (srcFault fb (someP s)) ∧ w'.heap[fb]? = some (faultAtObj (someC s) (someP s)) ∧ w.heap.size ≤ b ∧ Below w.heap.size w w' := by
  have hs := scan_any s w
  go_enter Tryz.func58, Tryz.ntmps58
  go_wp2_with (first
    | (go_at_call 97; go_must (refine hs.mono ?_; clear hs; rintro e w1 ⟨v, ev, rfl, hE, _, hn, hb1⟩; obtain rfl := hn hc; obtain ⟨fb, rfl⟩ := hE.shape hc; have hE1 := hid hE; clear hE hn))
    | (go_at_call 98; go_must (refine (as_new fb w w1 hb1 hG).mono ?_; rintro e w2 ⟨rfl, hb2, hq2⟩; obtain ⟨c2, _⟩ := one_cell' hq2; have z2 := lt_of_block hq2)))
  have hfb : w2.heap[fb]? = some (faultAtObj (someC s) (someP s)) := by
    rcases hE1.out.below hb2 with ⟨h, _⟩ | ⟨_, b, e, hb⟩
    · exact absurd h hc
    · injection e with _ e
      injection e with e
      injection e with e
      injection e with e
      subst e
      exact hb
  have zf := lt_of_block hfb
  have hq3 : w2.heap[fb]? = some (.cells #[.int .i64 (someC s), .int .i64 (someP s), .string ⟨#[]⟩, .nilIface] 86) := hfb
  obtain ⟨⟨y0, y1, y2, y3⟩, _⟩ := blk4x hq3
  clear hE1
  go_still_tail 7, (by kernel_rfl)
  change wpList _ _ _ _ _ w2.drew
  go_wp2
  have hbN := below_alloc w2.drew (srcFault fb (someP s))
  exact ⟨rfl, w2.heap.size, fb, rfl, heap_alloc_new w2 _, (Below.heap_alloc _ _ _ zf).trans hfb, (Below.next hb1 hb2).size, (Below.next hb1 hb2).drew.alloc (by have := (Below.next hb1 hb2).size; exact this) _⟩
end Go.Proofs.YtklfnphkepfmaaaGreatDoor

/- read and Terms of package parse. -/
namespace Go.Proofs.YtklfnphkepfmaaaGreatDoor
open Go.RowKit

theorem asrt (q : Addr) (w : World) : (Instr.typeAssert (.iface 82 (.pointer (some q))) 20 82 false).run Tryz.prog w = .ok (.pointer (some q)) w := by kernel_rfl
theorem catch_bad (p : Addr) (q : Addr) (x : Value) (w : World) (hc : w.cell? p = some x) (hz : w.frozen? p = false) :
    CallsD Tryz.prog 57 #[.pointer (some p)] (.panicking [{ v := .iface 82 (.pointer (some q)), recovered := false }]) w fun e u' w' =>
      e = .returned (.tuple #[]) ∧ u' = .panicking [{ v := .iface 82 (.pointer (some q)), recovered := true }] ∧ w' = w.setCell p (.iface 82 (.pointer (some q))) := by
  refine callsD_of_wpS Tryz.func57 rfl fun c₀ cs hu => ?_
  apply wpS_seq
  apply wpS_region
  simp [wpOpsS, go_sem, recoverD, hu, Tryz.ntmps57, Exit.thenS]
  apply wpS_seq
  apply wpS_region
  simp [wpOpsS, go_sem, Exit.thenS, Array.replicate_succ]
  refine wpS_cond (t := true) (by simp [Act.eval]) ?_
  simp only [if_true]
  apply wpS_region
  simp [wpOpsS, go_sem, hc, hz, bodyPostS, results, Tryz.results57, asrt]
theorem catch_idle (p : Addr) (w : World) :
    CallsD Tryz.prog 57 #[.pointer (some p)] .returning w fun e u' w' => e = .returned (.tuple #[]) ∧ u' = .returning ∧ w' = w := by
  refine callsD_of_wpS Tryz.func57 rfl fun c₀ cs hu => ?_
  apply wpS_seq
  apply wpS_region
  simp [wpOpsS, go_sem, recoverD, hu, Tryz.ntmps57, Exit.thenS]
  apply wpS_seq
  apply wpS_region
  simp [wpOpsS, go_sem, Exit.thenS, Array.replicate_succ]
  refine wpS_cond (t := false) (by simp [Act.eval]) ?_
  simp only [Bool.false_eq_true, if_false]
  refine wpS_of_wp (wp_skip ?_)
  cases c₀
  simp_all [bodyPostS, results, Tryz.results57]
theorem sev_nof {α : Type} {ts : List Tk} (hE : EndT ts) {rd : Nat → Nat → Rd1 α} (hw : ∀ k i, i < ts.length → wit ts i (rd k i)) (hn : ∀ k i, i < ts.length → nof (rd k i)) : ∀ (f i : Nat) (xs : List α), i < ts.length → ts.length - i < f → nof (sevF ts rd f i xs) := by
  intro f
  induction f with
  | zero => intro i xs hi hf; omega
  | succ f ih =>
    intro i xs hi hf
    rw [sevF]
    have hwi := hw xs.length i hi
    have hni := hn xs.length i hi
    cases hr : rd xs.length i with
    | bad c5 j5 => rw [hr] at hni; exact hni
    | ok x j5 =>
      rw [hr] at hwi
      obtain ⟨h1, h2⟩ := hwi
      show nof (if mkA ts j5 44 = true then sevF ts rd f (j5 + 1) (xs ++ [x]) else .ok (xs ++ [x]) j5)
      split
      · rename_i hm
        exact ih (j5 + 1) (xs ++ [x]) (mk_next hE h2 hm) (by omega)
      · exact trivial
/-- Fuel that suffices. -/
def fuelT (ts : List Tk) : Nat := 2 * ts.length + 3
theorem nof_eqF {ts : List Tk} (hE : EndT ts) (i : Nat) (hi : i < ts.length) : nof (eqF ts (fuelT ts) i) := by
  unfold eqF
  split
  · rename_i hk
    have hi1 := hE i hi (by rw [hk]; decide)
    split
    · rename_i hm
      exact nof.map _ ((all_nof hE _).1 0 (i + 2) (mk_next hE hi1 hm) (by unfold fuelT; omega))
    · exact must_pos _
  · exact must_pos _
theorem nof_endF {α : Type} (ts : List Tk) (v : α) (j : Nat) : nof (endF ts v j) := by
  unfold endF
  split
  · exact trivial
  · exact must_pos _
theorem nof_terms {ts : List Tk} (hE : EndT ts) (i : Nat) (hi : i < ts.length) : nof (termsF ts (fuelT ts) i) := by
  unfold termsF
  split
  · exact nof_endF _ _ _
  · have h1 := sev_nof hE (rootRd_wit hE (fuelT ts)) (fun _ i hi => (all_nof hE (fuelT ts)).1 0 i hi (by unfold fuelT; omega)) (fuelT ts) i [] hi (by unfold fuelT; omega)
    cases hs : sevF ts (fun _ i => termF ts (fuelT ts) 0 i) (fuelT ts) i [] with
    | bad c j => rw [hs] at h1; exact h1
    | ok xs j =>
      have hj : j < ts.length := sev_wit hE (rootRd_wit hE _) _ i [] hi hs
      show nof (if seesF (tkA ts j) 1 whereB = true then (match sevF ts (fun _ i => eqF ts (fuelT ts) i) (fuelT ts) (j + 1) [] with
        | .bad c j => .bad c j
        | .ok qs j => endF ts (xs, qs) j) else endF ts (xs, []) j)
      split
      · rename_i hw
        have hj1 : j + 1 < ts.length := hE j hj (by
          unfold seesF at hw
          simp at hw
          rw [hw.1]
          decide)
        have h2 := sev_nof hE (fun _ i hi => wit_eqF hE (fuelT ts) i hi) (fun _ i hi => nof_eqF hE i hi) (fuelT ts) (j + 1) [] hj1 (by unfold fuelT; omega)
        cases hq : sevF ts (fun _ i => eqF ts (fuelT ts) i) (fuelT ts) (j + 1) [] with
        | bad c j => rw [hq] at h2; exact h2
        | ok qs j5 => exact nof_endF _ _ _
      · exact nof_endF _ _ _
theorem allT_last {s : ByteArray} : ∀ n a, a ≤ s.size → s.size - a < n → allC s a = 0 → ∃ pre, allT s a = pre ++ [endT s]
  | 0, _, _, h, _ => by omega
  | n + 1, a, ha, h, hc => by
    rcases nxt_ways ha with ⟨k1, _⟩ | ⟨k1, k2, k3, k4, k5, k6, k7⟩ | ⟨k1, k2, k3⟩
    · exact ⟨[], by rw [(all_end k1).1]; rfl⟩
    · have hA := all_tok ha (by omega) k3
      rw [hA.2.1] at hc
      obtain ⟨pre, e⟩ := allT_last n (nxt s a).tok.end_ k6 (by omega) hc
      exact ⟨(nxt s a).tok :: pre, by rw [hA.1, e]; rfl⟩
    · rw [(all_bad k3).2.1] at hc
      exact absurd hc k3
theorem someT_end {s : ByteArray} (hc : someC s = 0) : EndT (someT s) ∧ 0 < (someT s).length := by
  have h0 : s.size ≤ 4194304 := by
    unfold someC at hc
    split at hc
    · assumption
    · cases hc
  have e1 : someT s = allT s 0 := by simp [someT, h0]
  have e2 : someC s = allC s 0 := by simp [someC, h0]
  rw [e2] at hc
  obtain ⟨pre, e⟩ := allT_last (s.size + 1) 0 (Nat.zero_le _) (by omega) hc
  rw [e1, e]
  refine ⟨fun i hi hk => ?_, by simp⟩
  by_cases hl : i + 1 < (pre ++ [endT s]).length
  · exact hl
  · have e3 : i = pre.length := by simp at hi hl; omega
    subst e3
    exact absurd (by simp [tkA, endT]) hk
/-- A row of tokens of its own is read by a parser that is new. -/
theorem Ps.new {w : World} {B : Nat} {v : Value} {ts : List Tk} (h : Tr w B v ts) : Ps (w.alloc (.cells #[v, .int .i64 0] 113)) w.heap.size v ts 0 := by
  refine ⟨heap_alloc_new w _, ?_, fun ad n c e => ?_⟩
  · exact (Tr.rt h).below (below_alloc w _)
  · subst e
    have := (h.lt ad.block rfl).2
    omega
/-- What reading a source of terms answers. -/
def Za (w : World) (s : ByteArray) (e : Ending) (w' : World) : Prop :=
  Below w.heap.size w w' ∧ if someC s ≠ 0 then ∃ b fb, e = .returned (.tuple #[.agg #[.slice none 0 0, .slice none 0 0], .iface 82 (.pointer (some ⟨b, 0, none⟩))]) ∧ w'.heap[b]? = some (srcFault fb (someP s)) ∧ w'.heap[fb]? = some (faultAtObj (someC s) (someP s))
    else match termsF (someT s) (fuelT (someT s)) 0 with
      | .ok (xs, qs) _ => ∃ ro rc qo qc, e = .returned (.tuple #[.agg #[.slice ro xs.length rc, .slice qo qs.length qc], .nilIface]) ∧ Ro eltX w.heap.size w' (.slice ro xs.length rc) xs ∧ Ro eltQ w.heap.size w' (.slice qo qs.length qc) qs
      | .bad c j => ∃ b, e = .returned (.tuple #[.agg #[.slice none 0 0, .slice none 0 0], .iface 82 (.pointer (some ⟨b, 0, none⟩))]) ∧ w'.heap[b]? = some (pfault c ((tkA (someT s) j).at_ : Int))
set_option maxRecDepth 100000 in
set_option maxHeartbeats 8000000 in
theorem read_src (s : ByteArray) (w : World) (hG : ErrT w) (hc : someC s ≠ 0) :
    Calls Tryz.prog 27 #[.string s, .func (.func 28) #[] #[]] w (Za w s) := by
  have hmf : ∀ (fn : Fn) (first cap : Array Value) (w : World), (Instr.makeFunc fn first cap).run Tryz.prog w = .ok (.func fn first cap) w := fun _ _ _ _ => rfl
  have hb0 := below_alloc w (.cells #[.slice none 0 0, .slice none 0 0] 27)
  have hb1 := Below.next hb0 (below_alloc (w.alloc (.cells #[.slice none 0 0, .slice none 0 0] 27)) (.cells #[.nilIface] 29))
  have hsc := scan_no' s _ (hG.below hb1) hc
  have q0 := (Below.heap_alloc (w.alloc (.cells #[.slice none 0 0, .slice none 0 0] 27)) (.cells #[.nilIface] 29) w.heap.size (by simp)).trans (heap_alloc_new w (.cells #[.slice none 0 0, .slice none 0 0] 27))
  have q1 := heap_alloc_new (w.alloc (.cells #[.slice none 0 0, .slice none 0 0] 27)) (.cells #[.nilIface] 29)
  rw [World.size_alloc] at q1
  go_enter_defers Tryz.func27, Tryz.ntmps27
  go_wp2_with (go_at_call 58; go_must (refine hsc.mono ?_; rintro e w2 ⟨b, fb, rfl, h1, h2, h3, h4⟩))
  have k0 := (h4.block _ (lt_of_block q0)).trans q0
  have k1 := (h4.block _ (lt_of_block q1)).trans q1
  obtain ⟨c1, f1⟩ := one_cell' k1
  have h3' : w.heap.size + 2 ≤ b := by simpa using h3
  refine leaves_cons (f := 57) (args := #[.pointer (some ⟨w.heap.size + 1, 0, none⟩)]) (by simp) (by simp [go_sem]) ?_
  refine (catch_bad ⟨w.heap.size + 1, 0, none⟩ ⟨b, 0, none⟩ _ w2 c1 f1).mono ?_
  rintro e u' w3 ⟨rfl, rfl, rfl⟩
  have m0 := (Below.heap_setCell w2 ⟨w.heap.size + 1, 0, none⟩ (.iface 82 (.pointer (some ⟨b, 0, none⟩))) w.heap.size (by show w.heap.size ≠ w.heap.size + 1; omega)).trans k0
  have m1 := one_set' (.iface 82 (.pointer (some ⟨b, 0, none⟩))) k1
  obtain ⟨⟨a0, a1⟩, _⟩ := blk2x m0
  obtain ⟨a2, _⟩ := one_cell' m1
  have hfb : fb ≠ w.heap.size + 1 := fun e => by
    subst e
    rw [k1] at h2
    simp [faultAtObj] at h2
  have hZ : Za w s (.returned (.tuple #[.agg #[.slice none 0 0, .slice none 0 0], .iface 82 (.pointer (some ⟨b, 0, none⟩))])) (w2.setCell ⟨w.heap.size + 1, 0, none⟩ (.iface 82 (.pointer (some ⟨b, 0, none⟩)))) := by
    refine ⟨(Below.next hb1 h4).setCell (p := ⟨w.heap.size + 1, 0, none⟩) (by show w.heap.size ≤ w.heap.size + 1; omega) _, ?_⟩
    rw [if_pos hc]
    exact ⟨b, fb, rfl, (Below.heap_setCell _ _ _ _ (by show b ≠ w.heap.size + 1; omega)).trans h1, (Below.heap_setCell _ _ _ _ (by show fb ≠ w.heap.size + 1; exact hfb)).trans h2⟩
  refine ⟨.tuple #[.agg #[.slice none 0 0, .slice none 0 0], .iface 82 (.pointer (some ⟨b, 0, none⟩))], ?_, hZ⟩
  simp [results, Tryz.results27, go_sem, a0, a1, a2]
set_option maxRecDepth 100000 in
set_option maxHeartbeats 8000000 in
theorem read_terms (s : ByteArray) (w : World) (hc : someC s = 0) :
    Calls Tryz.prog 27 #[.string s, .func (.func 28) #[] #[]] w (Za w s) := by
  have hmf : ∀ (fn : Fn) (first cap : Array Value) (w : World), (Instr.makeFunc fn first cap).run Tryz.prog w = .ok (.func fn first cap) w := fun _ _ _ _ => rfl
  have eg : ∀ args w, (callFunc 28 args).run Tryz.prog w = .ok (.enter 28 args) w := enters_of Tryz.func28 (by kernel_rfl) rfl
  have hb0 := below_alloc w (.cells #[.slice none 0 0, .slice none 0 0] 27)
  have hb1 := Below.next hb0 (below_alloc (w.alloc (.cells #[.slice none 0 0, .slice none 0 0] 27)) (.cells #[.nilIface] 29))
  have hsc := scan_yes' s ((w.alloc (.cells #[.slice none 0 0, .slice none 0 0] 27)).alloc (.cells #[.nilIface] 29)) hc
  obtain ⟨hE, hl0⟩ := someT_end hc
  have hl := someT_le s
  have hte := hid (fun w2 B v (hT : Tr w2 B v (someT s)) => terms_all hE (by omega) (Ps.new hT) hl0 (fuelT (someT s)) (nof_terms hE 0 hl0))
  have q0 := (Below.heap_alloc (w.alloc (.cells #[.slice none 0 0, .slice none 0 0] 27)) (.cells #[.nilIface] 29) w.heap.size (by simp)).trans (heap_alloc_new w (.cells #[.slice none 0 0, .slice none 0 0] 27))
  have q1 := heap_alloc_new (w.alloc (.cells #[.slice none 0 0, .slice none 0 0] 27)) (.cells #[.nilIface] 29)
  rw [World.size_alloc] at q1
  have HC := hid hc
  clear hc hE hl0 hl
  cases hr : termsF (someT s) (fuelT (someT s)) 0 with
  | bad c j =>
    rw [hr] at hte
    have HR := hid hr
    clear hr
    go_enter_defers Tryz.func27, Tryz.ntmps27
    go_wp2_with (first
      | (go_at_call 58; go_must (refine hsc.mono ?_; rintro e w2 ⟨v, rfl, hb2, hT2⟩; have hte2 := hte.out w2 _ _ hT2; obtain ⟨ao, c', rfl⟩ : ∃ ao c', v = .slice ao (someT s).length c' := (by obtain ⟨ao, c', e, _⟩ := hT2.rt; exact ⟨ao, c', e⟩)))
      | (go_at_fn 28; go_must (refine hte2.mono ?_; rintro e w4 ⟨b, rfl, h1, h3, h4⟩)))
    have hb3 := below_alloc w2 (.cells #[.slice ao (someT s).length c', .int .i64 0] 113)
    have z2 : w.heap.size + 2 ≤ w2.heap.size := by have := hb2.size; simpa using this
    have k0 := (h4.block _ (by simp; omega) (by omega)).trans ((hb3.block w.heap.size (by omega)).trans ((hb2.block _ (lt_of_block q0)).trans q0))
    have k1 := (h4.block _ (by simp; omega) (by omega)).trans ((hb3.block (w.heap.size + 1) (by omega)).trans ((hb2.block _ (lt_of_block q1)).trans q1))
    obtain ⟨c1, f1⟩ := one_cell' k1
    have h3' : w.heap.size + 2 ≤ b := by simp at h3; omega
    refine leaves_cons (f := 57) (args := #[.pointer (some ⟨w.heap.size + 1, 0, none⟩)]) (by simp) (by simp [go_sem]) ?_
    refine (catch_bad ⟨w.heap.size + 1, 0, none⟩ ⟨b, 0, none⟩ _ w4 c1 f1).mono ?_
    rintro e u' w5 ⟨rfl, rfl, rfl⟩
    have m0 := (Below.heap_setCell w4 ⟨w.heap.size + 1, 0, none⟩ (.iface 82 (.pointer (some ⟨b, 0, none⟩))) w.heap.size (by show w.heap.size ≠ w.heap.size + 1; omega)).trans k0
    have m1 := one_set' (.iface 82 (.pointer (some ⟨b, 0, none⟩))) k1
    obtain ⟨⟨a0, a1⟩, _⟩ := blk2x m0
    obtain ⟨a2, _⟩ := one_cell' m1
    have hB2 := Below.next (Below.next hb1 hb2) hb3
    have hB4 : Below w.heap.size w w4 := hB2.trans (h4.below (fun k hk => by omega) (by simp; omega))
    have hZ : Za w s (.returned (.tuple #[.agg #[.slice none 0 0, .slice none 0 0], .iface 82 (.pointer (some ⟨b, 0, none⟩))])) (w4.setCell ⟨w.heap.size + 1, 0, none⟩ (.iface 82 (.pointer (some ⟨b, 0, none⟩)))) := by
      refine ⟨hB4.setCell (p := ⟨w.heap.size + 1, 0, none⟩) (by show w.heap.size ≤ w.heap.size + 1; omega) _, ?_⟩
      rw [if_neg (by simpa using HC.out), HR.out]
      exact ⟨b, rfl, (Below.heap_setCell _ _ _ _ (by show b ≠ w.heap.size + 1; omega)).trans h1⟩
    refine ⟨.tuple #[.agg #[.slice none 0 0, .slice none 0 0], .iface 82 (.pointer (some ⟨b, 0, none⟩))], ?_, hZ⟩
    simp [results, Tryz.results27, go_sem, a0, a1, a2]
  | ok xq j =>
    obtain ⟨xs, qs⟩ := xq
    rw [hr] at hte
    have HR := hid hr
    clear hr
    go_enter_defers Tryz.func27, Tryz.ntmps27
    go_wp2_with (first
      | (go_at_call 58; go_must (refine hsc.mono ?_; rintro e w2 ⟨v, rfl, hb2, hT2⟩; have hte2 := hte.out w2 _ _ hT2; obtain ⟨ao, c', rfl⟩ : ∃ ao c', v = .slice ao (someT s).length c' := (by obtain ⟨ao, c', e, _⟩ := hT2.rt; exact ⟨ao, c', e⟩)))
      | (go_at_fn 28; go_must (refine hte2.mono ?_; rintro e w4 ⟨ro, rc, qo, qc, rfl, h4, hX, hQ⟩; have hb3 := hid (below_alloc w2 (.cells #[.slice ao (someT s).length c', .int .i64 0] 113)); have z2 : w.heap.size + 2 ≤ w2.heap.size := (by have := hb2.size; simpa using this); have k0 := (h4.block w.heap.size (by simp; omega) (by omega)).trans ((hb3.out.block w.heap.size (by omega)).trans ((hb2.block _ (lt_of_block q0)).trans q0)); have k1 := (h4.block (w.heap.size + 1) (by simp; omega) (by omega)).trans ((hb3.out.block (w.heap.size + 1) (by omega)).trans ((hb2.block _ (lt_of_block q1)).trans q1)); obtain ⟨c1, f1⟩ := one_cell' k1; obtain ⟨⟨c2, c3⟩, f2, f3⟩ := blk2x k0; have z4 := lt_of_block k0; have z5 := lt_of_block k1)))
    refine leaves_cons (f := 57) (args := #[.pointer (some ⟨w.heap.size + 1, 0, none⟩)]) (by simp) (by simp [go_sem]) ?_
    refine (catch_idle ⟨w.heap.size + 1, 0, none⟩ _).mono ?_
    rintro e u' w5 ⟨rfl, rfl, rfl⟩
    obtain ⟨W5, hW5⟩ : ∃ W5, ((w4.setCell ⟨w.heap.size, 0, none⟩ (.slice ro xs.length rc)).setCell ⟨w.heap.size, 1, none⟩ (.slice qo qs.length qc)).setCell ⟨w.heap.size + 1, 0, none⟩ .nilIface = W5 := ⟨_, rfl⟩
    have g0 := heap_setCell_same w4 w.heap.size 0 _ _ (.slice ro xs.length rc) k0
    have g1 := heap_setCell_same _ w.heap.size 1 _ _ (.slice qo qs.length qc) g0
    have g2 := (Below.heap_setCell _ ⟨w.heap.size + 1, 0, none⟩ .nilIface w.heap.size (by show w.heap.size ≠ w.heap.size + 1; omega)).trans g1
    have g3 := (Below.heap_setCell _ ⟨w.heap.size, 1, none⟩ (.slice qo qs.length qc) (w.heap.size + 1) (by show w.heap.size + 1 ≠ w.heap.size; omega)).trans ((Below.heap_setCell w4 ⟨w.heap.size, 0, none⟩ (.slice ro xs.length rc) (w.heap.size + 1) (by show w.heap.size + 1 ≠ w.heap.size; omega)).trans k1)
    have g4 := one_set' .nilIface g3
    rw [hW5] at g2 g4
    have hmq : Mo (fun b => b = w.heap.size ∨ b = w.heap.size + 1) w4 W5 := by
      rw [← hW5]
      exact (((Mo.refl (fun b => b = w.heap.size ∨ b = w.heap.size + 1) w4).setCell (p := ⟨w.heap.size, 0, none⟩) (Or.inl (Or.inl rfl)) _).setCell (p := ⟨w.heap.size, 1, none⟩) (Or.inl (Or.inl rfl)) _).setCell (p := ⟨w.heap.size + 1, 0, none⟩) (Or.inl (Or.inr rfl)) _
    have g5 : W5.heap[w.heap.size]? = some (.cells #[.slice ro xs.length rc, .slice qo qs.length qc] 27) := g2
    obtain ⟨⟨a0, a1⟩, _⟩ := blk2x g5
    obtain ⟨a2, _⟩ := one_cell' g4
    have hB2 := Below.next (Below.next hb1 hb2) hb3.out
    have hB4 : Below w.heap.size w w4 := hB2.trans (h4.below (fun k hk => by omega) (by simp; omega))
    have hz3 : (w2.alloc (.cells #[.slice ao (someT s).length c', .int .i64 0] 113)).heap.size = w2.heap.size + 1 := by simp
    have hZ : Za w s (.returned (.tuple #[.agg #[.slice ro xs.length rc, .slice qo qs.length qc], .nilIface])) W5 := by
      refine ⟨hB4.trans (hmq.below (fun k hk => by omega) (by omega)), ?_⟩
      rw [if_neg (by simpa using HC.out), HR.out]
      exact ⟨ro, rc, qo, qc, rfl, hX.keep (by omega) (fun b hb hl => hmq.block b hl (by omega)), hQ.keep (by omega) (fun b hb hl => hmq.block b hl (by omega))⟩
    rw [hW5]
    refine ⟨.tuple #[.agg #[.slice ro xs.length rc, .slice qo qs.length qc], .nilIface], ?_, hZ⟩
    simp [results, Tryz.results27, go_sem, a0, a1, a2]
theorem read_any (s : ByteArray) (w : World) (hG : ErrT w) :
    Calls Tryz.prog 27 #[.string s, .func (.func 28) #[] #[]] w (Za w s) := by
  by_cases hc : someC s = 0
  · exact read_terms s w hc
  · exact read_src s w hG hc
end Go.Proofs.YtklfnphkepfmaaaGreatDoor
