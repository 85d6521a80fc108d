/- The reference's Same: two values that tell one term. -/
import Derived.Test.YtklfnphkepfmaaaGreatDoorRCZ
import Derived.StillTailTactics
import Derived.Test.YtklfnphkepfmaaaGreatDoorGrMem
import Derived.Deep.LoopGhost
import Derived.Deep.QuietTactic
import Derived.BigQuiet
import Derived.Test.YtklfnphkepfmaaaGreatDoorRDZ
import Derived.Test.YtklfnphkepfmaaaGreatDoorPFZ
namespace Go.Proofs.YtklfnphkepfmaaaGreatDoor
open Go.RowKit

abbrev exOb (k : Int) (n : ByteArray) (m : Int) (ao : Option Addr) (l c : Nat) : Obj := .cells #[.int .i64 k, .string n, .int .i64 m, .slice ao l c] 40
/-- Two boxes are kept. -/
theorem two_boxes {w wr : World} {A B : Obj} (h : Below ((w.alloc A).alloc B).heap.size ((w.alloc A).alloc B) wr) : wr.heap[w.heap.size]? = some A ∧ wr.heap[w.heap.size + 1]? = some B ∧ Below w.heap.size w wr := by
  have h1 := heap_alloc_new (w.alloc A) B
  rw [show (w.alloc A).heap.size = w.heap.size + 1 by simp] at h1
  exact ⟨(h.block _ (by simp; omega)).trans ((Below.heap_alloc _ _ _ (by simp)).trans (heap_alloc_new w A)), (h.block _ (by simp)).trans h1, Below.next ((below_alloc w A).alloc (by simp) B) h⟩
/-- Same at two values that tell the same term. -/
def SameC (x : Ex) : Prop := ∀ {w : World} {va vb : Value}, Xv w x va → Xv w x vb → Calls Tryz.prog 22 #[va, vb] w fun e w' => e = .returned (.bool true) ∧ Below w.heap.size w w'
set_option maxRecDepth 100000 in
set_option maxHeartbeats 4000000 in
theorem rsame_all (x : Ex) : wdX x → SameC x := by
  induction x using Ex.ind with
  | h k n m xs ih =>
    intro hw w va vb ha hb
    obtain ⟨av, rfl, ao, ac, rfl, hA⟩ := ha.parts
    obtain ⟨bv, rfl, bo, bc, rfl, hB⟩ := hb.parts
    have hl : xs.length ≤ 100 := hw.1
    have HA := hid hA
    have HB := hid hB
    have hih : Hid (∀ j, j < xs.length → SameC (xs.getD j x0)) := fun j hj => ih _ (xs_at hj) (wdXs_mem hw.2 _ (xs_at hj))
    clear hA hB ha hb hw ih
    go_enter Tryz.func22, Tryz.ntmps22
    go_wp2
    go_loopw [5] (fun s5 wr => ∃ j : Nat, s5 = .int .i64 (j : Int) ∧ j ≤ xs.length ∧ Hid (Below ((w.alloc (exOb k n m ao xs.length ac)).alloc (exOb k n m bo xs.length bc)).heap.size ((w.alloc (exOb k n m ao xs.length ac)).alloc (exOb k n m bo xs.length bc)) wr)) (fun s5 _ => xs.length - (intOf s5).toNat)
    case atStart => exact ⟨0, rfl, Nat.zero_le _, Below.refl _ _⟩
    case round =>
      obtain ⟨j, rfl, hj, hbr⟩ := hrel
      obtain ⟨hqa, hqb, hbw⟩ := two_boxes hbr.out
      have za := lt_of_block hqa
      have zb := lt_of_block hqb
      obtain ⟨⟨a0, a1, a2, a3⟩, _⟩ := blk4x hqa
      obtain ⟨⟨b0, b1, b2, b3⟩, _⟩ := blk4x hqb
      have HBW := hid hbw
      clear hqa hqb hbw
      by_cases hlt : j < xs.length
      · have hlt2 : (j : Int) < (xs.length : Int) := by omega
        obtain ⟨ab, ao', ak, an, am, aa, al, ac', rfl, t0, t1, t2, t3, hxa⟩ := HA.out j hlt
        obtain ⟨bb, bo', bk, bn, bm, ba, bl, bc', rfl, s0, s1, s2, s3, hxb⟩ := HB.out j hlt
        have keep : ∀ (q o : Nat) (v : Value), w.cell? ⟨q, o, none⟩ = some v → wr.cell? ⟨q, o, none⟩ = some v ∧ q < wr.heap.size := fun q o v hc => by
          have h1 := HBW.out.cell (p := ⟨q, o, none⟩) (lt_of_cell hc)
          exact ⟨h1.trans hc, by have := lt_of_cell hc; have := HBW.out.size; omega⟩
        obtain ⟨t0', z1⟩ := keep _ _ _ t0
        obtain ⟨t1', _⟩ := keep _ _ _ t1
        obtain ⟨t2', _⟩ := keep _ _ _ t2
        obtain ⟨t3', _⟩ := keep _ _ _ t3
        obtain ⟨s0', z2⟩ := keep _ _ _ s0
        obtain ⟨s1', _⟩ := keep _ _ _ s1
        obtain ⟨s2', _⟩ := keep _ _ _ s2
        obtain ⟨s3', _⟩ := keep _ _ _ s3
        have hcall := hid (hih.out j hlt (w := wr.drew) (hxa.next HBW.out.drew) (hxb.next HBW.out.drew))
        clear t0 t1 t2 t3 s0 s1 s2 s3 hxa hxb keep hih HA HB
        go_wp2
        go_still_tail 10, (by kernel_rfl)
        change wpList _ _ _ _ _ wr.drew
        go_wp2_with (go_at_call 22; go_must (refine hcall.out.mono ?_; clear hcall; rintro e w4 ⟨rfl, hb4⟩))
        go_roundw
        case rel => exact ⟨j + 1, rfl, hlt, Below.next hbr.out.drew hb4⟩
        case measure => simp [intOf]; omega
      · have e1 : ¬ (j : Int) < (xs.length : Int) := by omega
        go_wp2
        go_ret
        exact ⟨rfl, HBW.out⟩
end Go.Proofs.YtklfnphkepfmaaaGreatDoor

/- The reference's SameTerms: two values that tell the same terms with equations. -/
namespace Go.Proofs.YtklfnphkepfmaaaGreatDoor
open Go.RowKit

/-- A row of equations of its own tells them. -/
theorem Ro.rqs {B : Nat} {w : World} {v : Value} {qs : List (ByteArray × Ex)} (h : Ro eltQ B w v qs) : Rqs w v qs := by
  obtain ⟨f, hf, hx, ho⟩ := h
  have ho' := ho
  rcases ho'.2 with ⟨h0, h1⟩ | ⟨g, c, cur, e, hB, hg, _⟩
  · rw [h0]
    cases qs with
    | nil => exact Rqs.nil w
    | cons y t => simp at h1
  · subst e
    refine ⟨_, _, rfl, fun j hj => ?_⟩
    obtain ⟨k, n, m, aa, al, ac, e, hv⟩ := hx j (qs.getD j q0) (by simp [List.getD, hj])
    have at' : ∀ t, t < 5 → w.cell? ⟨g, j * 5 + t, none⟩ = (f j)[t]? := fun t ht => by
      rw [ho.cellAt _ (by show j * 5 + t < qs.length * 5; omega)]
      exact flatV_at (z := 5) hf ht qs.length hj
    rw [e] at at'
    have c0 := at' 0 (by omega)
    rw [Nat.add_zero] at c0
    exact ⟨g, 0, k, n, m, aa, al, ac, rfl, by rw [Nat.zero_add]; exact c0, by rw [Nat.zero_add]; exact at' 1 (by omega), by rw [Nat.zero_add]; exact at' 2 (by omega), by rw [Nat.zero_add]; exact at' 3 (by omega), by rw [Nat.zero_add]; exact at' 4 (by omega), hv.xv⟩
theorem Ro.rxs {B : Nat} {w : World} {v : Value} {xs : List Ex} (h : Ro eltX B w v xs) : Rxs w v xs := h.xo.rxw.rxs
abbrev tmO (ro : Option Addr) (rl rc : Nat) (qo : Option Addr) (ql qc : Nat) : Obj := .cells #[.slice ro rl rc, .slice qo ql qc] 27
set_option maxRecDepth 100000 in
set_option maxHeartbeats 8000000 in
theorem sameTerms_yes {w : World} {xs : List Ex} {qs : List (ByteArray × Ex)} {ao bo po so : Option Addr} {ac bc pc sc : Nat} (hX : Rxs w (.slice ao xs.length ac) xs) (hY : Rxs w (.slice bo xs.length bc) xs) (hQ : Rqs w (.slice po qs.length pc) qs) (hS : Rqs w (.slice so qs.length sc) qs) (hw : ∀ x ∈ xs, wdX x) (hwq : ∀ q ∈ qs, wdX q.2) (hl : xs.length ≤ 10000000) (hlq : qs.length ≤ 10000000) :
    Calls Tryz.prog 13 #[.agg #[.slice ao xs.length ac, .slice po qs.length pc], .agg #[.slice bo xs.length bc, .slice so qs.length sc]] w fun e w' => e = .returned (.bool true) ∧ Below w.heap.size w w' := by
  have HX : Hid (∀ j, j < xs.length → XAt w ao (xs.getD j x0) j) := by
    obtain ⟨a, c, e, h⟩ := hX
    injection e with e1 _ _
    rw [e1]
    exact h
  have HY : Hid (∀ j, j < xs.length → XAt w bo (xs.getD j x0) j) := by
    obtain ⟨a, c, e, h⟩ := hY
    injection e with e1 _ _
    rw [e1]
    exact h
  have HQ : Hid (∀ j, j < qs.length → ∃ b o k' n' m' aa al ac, po = some ⟨b, o, none⟩ ∧ w.cell? ⟨b, o + j * 5, none⟩ = some (.string (qs.getD j q0).1) ∧ w.cell? ⟨b, o + j * 5 + 1, none⟩ = some (.int .i64 k') ∧ w.cell? ⟨b, o + j * 5 + 2, none⟩ = some (.string n') ∧ w.cell? ⟨b, o + j * 5 + 3, none⟩ = some (.int .i64 m') ∧ w.cell? ⟨b, o + j * 5 + 4, none⟩ = some (.slice aa al ac) ∧ Xv w (qs.getD j q0).2 (.agg #[.int .i64 k', .string n', .int .i64 m', .slice aa al ac])) := by
    obtain ⟨a, c, e, h⟩ := hQ
    injection e with e1 _ _
    rw [e1]
    exact h
  have HS : Hid (∀ j, j < qs.length → ∃ b o k' n' m' aa al ac, so = some ⟨b, o, none⟩ ∧ w.cell? ⟨b, o + j * 5, none⟩ = some (.string (qs.getD j q0).1) ∧ w.cell? ⟨b, o + j * 5 + 1, none⟩ = some (.int .i64 k') ∧ w.cell? ⟨b, o + j * 5 + 2, none⟩ = some (.string n') ∧ w.cell? ⟨b, o + j * 5 + 3, none⟩ = some (.int .i64 m') ∧ w.cell? ⟨b, o + j * 5 + 4, none⟩ = some (.slice aa al ac) ∧ Xv w (qs.getD j q0).2 (.agg #[.int .i64 k', .string n', .int .i64 m', .slice aa al ac])) := by
    obtain ⟨a, c, e, h⟩ := hS
    injection e with e1 _ _
    rw [e1]
    exact h
  have hsx : Hid (∀ j, j < xs.length → SameC (xs.getD j x0)) := fun j hj => rsame_all _ (hw _ (xs_at hj))
  have hsq : Hid (∀ j, j < qs.length → SameC (qs.getD j q0).2) := fun j hj => rsame_all _ (hwq _ (by simp [List.getD, hj]))
  clear hX hY hQ hS hw hwq
  have hkeep : Hid (∀ wr : World, Below w.heap.size w wr → ∀ (q o : Nat) (v : Value), w.cell? ⟨q, o, none⟩ = some v → wr.cell? ⟨q, o, none⟩ = some v ∧ q < wr.heap.size) := fun wr hb q o v hc => by
    have h1 := hb.cell (p := ⟨q, o, none⟩) (lt_of_cell hc)
    exact ⟨h1.trans hc, by have := lt_of_cell hc; have := hb.size; omega⟩
  go_enter Tryz.func13, Tryz.ntmps13
  go_wp2
  go_loopw [5] (fun s5 wr => ∃ j : Nat, s5 = .int .i64 (j : Int) ∧ j ≤ xs.length ∧ Hid (Below ((w.alloc (tmO ao xs.length ac po qs.length pc)).alloc (tmO bo xs.length bc so qs.length sc)).heap.size ((w.alloc (tmO ao xs.length ac po qs.length pc)).alloc (tmO bo xs.length bc so qs.length sc)) wr)) (fun s5 _ => xs.length - (intOf s5).toNat)
  case atStart => exact ⟨0, rfl, Nat.zero_le _, Below.refl _ _⟩
  case round =>
    obtain ⟨j, rfl, hj, hbr⟩ := hrel
    obtain ⟨hqa, hqb, hbw⟩ := two_boxes hbr.out
    have za := lt_of_block hqa
    have zb := lt_of_block hqb
    obtain ⟨⟨a0, a1⟩, _⟩ := blk2x hqa
    obtain ⟨⟨b0, b1⟩, _⟩ := blk2x hqb
    have HBW := hid hbw
    clear hqa hqb hbw
    by_cases hlt : j < xs.length
    · have hlt2 : (j : Int) < (xs.length : Int) := by omega
      obtain ⟨ab, ao', ak, an, am, aa, al, ac', rfl, t0, t1, t2, t3, hxa⟩ := HX.out j hlt
      obtain ⟨bb, bo', bk, bn, bm, ba, bl, bc', rfl, s0, s1, s2, s3, hxb⟩ := HY.out j hlt
      obtain ⟨t0', z1⟩ := hkeep.out wr HBW.out _ _ _ t0
      obtain ⟨t1', _⟩ := hkeep.out wr HBW.out _ _ _ t1
      obtain ⟨t2', _⟩ := hkeep.out wr HBW.out _ _ _ t2
      obtain ⟨t3', _⟩ := hkeep.out wr HBW.out _ _ _ t3
      obtain ⟨s0', z2⟩ := hkeep.out wr HBW.out _ _ _ s0
      obtain ⟨s1', _⟩ := hkeep.out wr HBW.out _ _ _ s1
      obtain ⟨s2', _⟩ := hkeep.out wr HBW.out _ _ _ s2
      obtain ⟨s3', _⟩ := hkeep.out wr HBW.out _ _ _ s3
      have hcall := hid (hsx.out j hlt (w := wr.drew) (hxa.next HBW.out.drew) (hxb.next HBW.out.drew))
      clear t0 t1 t2 t3 s0 s1 s2 s3 hxa hxb hkeep hsx HX HY HQ HS hsq
      go_wp2
      go_still_tail 10, (by kernel_rfl)
      change wpList _ _ _ _ _ wr.drew
      go_wp2_with (go_at_call 22; go_must (refine hcall.out.mono ?_; clear hcall; rintro e w4 ⟨rfl, hb4⟩))
      go_roundw
      case rel => exact ⟨j + 1, rfl, hlt, Below.next hbr.out.drew hb4⟩
      case measure => simp [intOf]; omega
    · have e1 : ¬ (j : Int) < (xs.length : Int) := by omega
      clear HX HY hsx
      go_wp2
      obtain ⟨w5, hw5⟩ : ∃ w5, w5 = wr := ⟨_, rfl⟩
      subst hw5
      go_loopw [6] (fun s6 wr => ∃ j : Nat, s6 = .int .i64 (j : Int) ∧ j ≤ qs.length ∧ Hid (Below ((w.alloc (tmO ao xs.length ac po qs.length pc)).alloc (tmO bo xs.length bc so qs.length sc)).heap.size ((w.alloc (tmO ao xs.length ac po qs.length pc)).alloc (tmO bo xs.length bc so qs.length sc)) wr)) (fun s6 _ => qs.length - (intOf s6).toNat)
      case atStart => exact ⟨0, rfl, Nat.zero_le _, hbr.out⟩
      case round =>
        clear hbr HBW a0 a1 b0 b1 za zb
        obtain ⟨i, rfl, hi, hbr⟩ := hrel
        obtain ⟨hqa, hqb, hbw⟩ := two_boxes hbr.out
        have za := lt_of_block hqa
        have zb := lt_of_block hqb
        obtain ⟨⟨a0, a1⟩, _⟩ := blk2x hqa
        obtain ⟨⟨b0, b1⟩, _⟩ := blk2x hqb
        have HBW := hid hbw
        clear hqa hqb hbw
        by_cases hlt : i < qs.length
        · have hlt2 : (i : Int) < (qs.length : Int) := by omega
          obtain ⟨ab, ao', ak, an, am, aa, al, ac', rfl, t9, t0, t1, t2, t3, hxa⟩ := HQ.out i hlt
          obtain ⟨bb, bo', bk, bn, bm, ba, bl, bc', rfl, s9, s0, s1, s2, s3, hxb⟩ := HS.out i hlt
          obtain ⟨t0', z1⟩ := hkeep.out wr HBW.out _ _ _ t0
          obtain ⟨t1', _⟩ := hkeep.out wr HBW.out _ _ _ t1
          obtain ⟨t2', _⟩ := hkeep.out wr HBW.out _ _ _ t2
          obtain ⟨t3', _⟩ := hkeep.out wr HBW.out _ _ _ t3
          obtain ⟨t9', _⟩ := hkeep.out wr HBW.out _ _ _ t9
          obtain ⟨s0', z2⟩ := hkeep.out wr HBW.out _ _ _ s0
          obtain ⟨s1', _⟩ := hkeep.out wr HBW.out _ _ _ s1
          obtain ⟨s2', _⟩ := hkeep.out wr HBW.out _ _ _ s2
          obtain ⟨s3', _⟩ := hkeep.out wr HBW.out _ _ _ s3
          obtain ⟨s9', _⟩ := hkeep.out wr HBW.out _ _ _ s9
          have hcall := hid (hsq.out i hlt (w := wr.drew) (hxa.next HBW.out.drew) (hxb.next HBW.out.drew))
          clear t0 t1 t2 t3 t9 s0 s1 s2 s3 s9 hxa hxb hkeep hsq HQ HS
          generalize (qs.getD i q0).1 = nm at *
          go_wp2
          go_still_tail 26, (by kernel_rfl)
          change wpList _ _ _ _ _ wr.drew
          go_wp2_with (go_at_call 22; go_must (refine hcall.out.mono ?_; clear hcall; rintro e w4 ⟨rfl, hb4⟩))
          go_roundw
          case rel => exact ⟨i + 1, rfl, hlt, Below.next hbr.out.drew hb4⟩
          case measure => simp [intOf]; omega
        · have e1 : ¬ (i : Int) < (qs.length : Int) := by omega
          go_wp2
          go_ret
          exact ⟨rfl, HBW.out⟩
end Go.Proofs.YtklfnphkepfmaaaGreatDoor

/- An error is just a chain of faults: the question of the references. -/
namespace Go.Proofs.YtklfnphkepfmaaaGreatDoor
open Go.RowKit

/-- A fault of the reference: its code, place and cause tell this chain. -/
def Fl (w : World) : Int → Int → Value → Fs → Prop
  | c, _, _, [] => c = 0
  | c, a, cv, [x] => c = x.1 ∧ a = x.2 ∧ c ≠ 0 ∧ cv = .slice none 0 0
  | c, a, cv, x :: y :: r => c = x.1 ∧ a = x.2 ∧ c ≠ 0 ∧ ∃ b cap c' a' ao n k, cv = .slice (some ⟨b, 0, none⟩) 1 cap ∧ w.cell? ⟨b, 0, none⟩ = some (.int .i64 c') ∧ w.cell? ⟨b, 1, none⟩ = some (.int .i64 a') ∧ w.cell? ⟨b, 2, none⟩ = some (.string ⟨#[]⟩) ∧ w.cell? ⟨b, 3, none⟩ = some (.slice ao n k) ∧ Fl w c' a' (.slice ao n k) (y :: r)
theorem fl_one (w : World) (x : Int × Int) : Fl w x.1 x.2 (.slice none 0 0) (one x) := by
  unfold one
  split
  · assumption
  · exact ⟨rfl, rfl, by assumption, rfl⟩
/-- An error asked for the very pointer type that it has. -/
theorem assert_ptr {P : Program} (w : World) (t xT e : TypeId) (v : Value) (h : P.underlying t = some (.pointer e)) : (Instr.typeAssert (.iface t v) xT t true).run P w = .ok (.tuple #[v, .bool true]) w := by
  simp [Instr.typeAssert, run_underlying h, go_sem, Result.andThen]
theorem box_set {w : World} {q : Nat} {u0 u1 u2 u3 v0 v1 v2 v3 : Value} {T : TypeId} (h : w.heap[q]? = some (.cells #[u0, u1, u2, u3] T)) (n : Nat) :
    (((((w.drewN n).setCell ⟨q, 0, none⟩ v0).setCell ⟨q, 1, none⟩ v1).setCell ⟨q, 2, none⟩ v2).setCell ⟨q, 3, none⟩ v3).heap[q]? = some (.cells #[v0, v1, v2, v3] T) := by
  have h0 := heap_setCell_same (w.drewN n) q 0 _ _ v0 h
  have h1 := heap_setCell_same _ q 1 _ _ v1 h0
  have h2 := heap_setCell_same _ q 2 _ _ v2 h1
  have h3 := heap_setCell_same _ q 3 _ _ v3 h2
  exact h3
theorem box_below {W w : World} {v0 v1 v2 v3 : Value} (h : Below W.heap.size W w) (n : Nat) :
    Below W.heap.size W (((((w.drewN n).setCell ⟨W.heap.size, 0, none⟩ v0).setCell ⟨W.heap.size, 1, none⟩ v1).setCell ⟨W.heap.size, 2, none⟩ v2).setCell ⟨W.heap.size, 3, none⟩ v3) :=
  ((((below_drewN h n).setCell (Nat.le_refl _) _).setCell (Nat.le_refl _) _).setCell (Nat.le_refl _) _).setCell (Nat.le_refl _) _
set_option maxRecDepth 100000 in
set_option maxHeartbeats 2000000 in
theorem is_any {W : World} {ev : Value} {c a : Int} {cv : Value} {fs : Fs} (hE : Er W ev fs) (hF : Fl W c a cv fs) :
    Calls Tryz.prog 12 #[ev, .agg #[.int .i64 c, .int .i64 a, .string ⟨#[]⟩, cv]] W fun e w' => e = .returned (.bool true) ∧ Below W.heap.size W w' := by
  have hta := fun (w : World) (v : Value) => assert_ptr (P := Tryz.prog) w 82 29 86 v Tryz.underlying82
  go_enter Tryz.func12, Tryz.ntmps12
  go_wp2
  go_loopg [0] fs.length (fun gk x wr => ∃ (ev : Value) (fs : Fs) (c a : Int) (cv : Value), x = ev ∧ fs.length ≤ gk ∧ Hid (Er W ev fs) ∧ Hid (Fl W c a cv fs) ∧ Hid (wr.heap[W.heap.size]? = some (.cells #[.int .i64 c, .int .i64 a, .string ⟨#[]⟩, cv] 34)) ∧ Hid (Below W.heap.size W wr))
  case atStart => exact ⟨ev, fs, c, a, cv, rfl, Nat.le_refl _, hE, hF, heap_alloc_new _ _, below_alloc _ _⟩
  case round =>
    clear hE hF
    obtain ⟨ev, fs, c, a, cv, rfl, hle, hE, hF, hB, hb⟩ := hrel
    have b0 : wr.cell? ⟨W.heap.size, 0, none⟩ = some (.int .i64 c) := by simp [World.cell?, hB.out]
    have b1 : wr.cell? ⟨W.heap.size, 1, none⟩ = some (.int .i64 a) := by simp [World.cell?, hB.out]
    have b2 : wr.cell? ⟨W.heap.size, 2, none⟩ = some (.string ⟨#[]⟩) := by simp [World.cell?, hB.out]
    have b3 : wr.cell? ⟨W.heap.size, 3, none⟩ = some cv := by simp [World.cell?, hB.out]
    match fs, hle, hE, hF with
    | [], _, hE, hF =>
      have e1 := hE.out
      have e2 := hF.out
      simp only [Er] at e1
      simp only [Fl] at e2
      subst e1 e2
      go_wp2
      go_ret
      exact ⟨rfl, hb.out⟩
    | [x], _, hE, hF =>
      obtain ⟨hx0, q, cause, rfl, hq, hc⟩ := hE.out
      obtain ⟨rfl, rfl, hx1, rfl⟩ := hF.out
      have hc' : cause = .nilIface := hc
      subst hc'
      have hx : (x.1 == 0) = false := by simpa using hx0
      have hq' : wr.heap[q]? = some (faultObj x.1 x.2 .nilIface) := by rw [hb.out.block q (lt_of_block hq)]; exact hq
      have h0 : wr.cell? ⟨q, 0, none⟩ = some (.int .i64 x.1) := by simp [World.cell?, hq', faultObj]
      have h1 : wr.cell? ⟨q, 1, none⟩ = some (.int .i64 x.2) := by simp [World.cell?, hq', faultObj]
      have h2 : wr.cell? ⟨q, 2, none⟩ = some (.string ⟨#[]⟩) := by simp [World.cell?, hq', faultObj]
      have h3 : wr.cell? ⟨q, 3, none⟩ = some .nilIface := by simp [World.cell?, hq', faultObj]
      clear hq hq' hc hx0 hx1
      obtain ⟨c, a⟩ := x
      dsimp only at hx h0 h1 b0 b1
      clear hE hF hB
      go_wp2
      go_quiet (fail)
      go_wp2
      go_ret
      exact ⟨rfl, below_drewN hb.out _⟩
    | x :: y :: r, hle, hE, hF =>
      obtain ⟨hx0, q, cause, rfl, hq, hc⟩ := hE.out
      obtain ⟨rfl, rfl, hx1, fb, cap, c', a', ao, nn, kk, rfl, f0, f1, f2, f3, hF'⟩ := hF.out
      have hx : (x.1 == 0) = false := by simpa using hx0
      have hq' : wr.heap[q]? = some (faultObj x.1 x.2 cause) := by rw [hb.out.block q (lt_of_block hq)]; exact hq
      have h0 : wr.cell? ⟨q, 0, none⟩ = some (.int .i64 x.1) := by simp [World.cell?, hq', faultObj]
      have h1 : wr.cell? ⟨q, 1, none⟩ = some (.int .i64 x.2) := by simp [World.cell?, hq', faultObj]
      have h2 : wr.cell? ⟨q, 2, none⟩ = some (.string ⟨#[]⟩) := by simp [World.cell?, hq', faultObj]
      have h3 : wr.cell? ⟨q, 3, none⟩ = some cause := by simp [World.cell?, hq', faultObj]
      have g0 : wr.cell? ⟨fb, 0, none⟩ = some (.int .i64 c') := by rw [hb.out.cell (p := ⟨fb, 0, none⟩) (lt_of_cell f0)]; exact f0
      have g1 : wr.cell? ⟨fb, 1, none⟩ = some (.int .i64 a') := by rw [hb.out.cell (p := ⟨fb, 1, none⟩) (lt_of_cell f1)]; exact f1
      have g2 : wr.cell? ⟨fb, 2, none⟩ = some (.string ⟨#[]⟩) := by rw [hb.out.cell (p := ⟨fb, 2, none⟩) (lt_of_cell f2)]; exact f2
      have g3 : wr.cell? ⟨fb, 3, none⟩ = some (.slice ao nn kk) := by rw [hb.out.cell (p := ⟨fb, 3, none⟩) (lt_of_cell f3)]; exact f3
      have i0 : wr.frozen? ⟨W.heap.size, 0, none⟩ = false := by simp [World.frozen?, hB.out]
      have i1 : wr.frozen? ⟨W.heap.size, 1, none⟩ = false := by simp [World.frozen?, hB.out]
      have i2 : wr.frozen? ⟨W.heap.size, 2, none⟩ = false := by simp [World.frozen?, hB.out]
      have i3 : wr.frozen? ⟨W.heap.size, 3, none⟩ = false := by simp [World.frozen?, hB.out]
      clear hq hq' hx0 hx1 f0 f1 f2 f3
      have hc' := hid hc
      have hF'' := hid hF'
      have hle' : (y :: r).length + 1 ≤ gk := by simpa using hle
      obtain ⟨c, a⟩ := x
      dsimp only at hx h0 h1 b0 b1 hB
      clear hE hF hc hF' hle
      go_wp2
      go_quiet (fail)
      go_wp2
      go_roundg (y :: r).length
      case measure => omega
      case rel => exact ⟨cause, y :: r, c', a', _, rfl, Nat.le_refl _, hc', hF'', box_set hB.out nq, box_below hb.out nq⟩
end Go.Proofs.YtklfnphkepfmaaaGreatDoor

/- ParseTerms: its walk. -/
namespace Go.Proofs.YtklfnphkepfmaaaGreatDoor
open Go.RowKit

set_option maxHeartbeats 400000 in
theorem plong_any (s : ByteArray) (w : World) (hz : s.size ≤ 281474976710656) : Calls Tryz.prog 9 #[.string s] w fun e w' => e = .returned (.bool (decide (20000 < s.size))) ∧ w' = w := by
  have h : decide ((20000 : Int) < (s.size : Int)) = decide (20000 < s.size) := decide_eq_decide.2 (by omega)
  go_enter Tryz.func9, Tryz.ntmps9
  go_wp2
  go_ret
  exact ⟨by first | rw [h] | rfl | simp, rfl⟩
/-- What the two calls of a law answer: an error and a fault that are one, terms that are the same. -/
structure Tsm (W : World) (ro : Option Addr) (rn rc : Nat) (qo : Option Addr) (qn qc : Nat) (ev : Value) (so : Option Addr) (sn sc : Nat) (po : Option Addr) (pn pc : Nat) (c a : Int) (co : Option Addr) (cn cc : Nat) : Prop where
  fs : ∃ fs, Er W ev fs ∧ Fl W c a (.slice co cn cc) fs
  tm : ∃ xs qs, rn = xs.length ∧ sn = xs.length ∧ qn = qs.length ∧ pn = qs.length ∧ Rxs W (.slice ro xs.length rc) xs ∧ Rxs W (.slice so xs.length sc) xs ∧ Rqs W (.slice qo qs.length qc) qs ∧ Rqs W (.slice po qs.length pc) qs ∧ (∀ x ∈ xs, wdX x) ∧ (∀ q ∈ qs, wdX q.2) ∧ xs.length ≤ 10000000 ∧ qs.length ≤ 10000000
theorem tsm_same {W : World} {ro : Option Addr} {rn rc : Nat} {qo : Option Addr} {qn qc : Nat} {ev : Value} {so : Option Addr} {sn sc : Nat} {po : Option Addr} {pn pc : Nat} {c a : Int} {co : Option Addr} {cn cc : Nat} (h : Tsm W ro rn rc qo qn qc ev so sn sc po pn pc c a co cn cc) {w : World} (hb : Below W.heap.size W w) :
    Calls Tryz.prog 13 #[.agg #[.slice ro rn rc, .slice qo qn qc], .agg #[.slice so sn sc, .slice po pn pc]] w fun e w' => e = .returned (.bool true) ∧ Below w.heap.size w w' := by
  obtain ⟨xs, qs, rfl, rfl, rfl, rfl, h1, h2, h3, h4, h5, h6, h7, h8⟩ := h.tm
  exact sameTerms_yes (h1.next hb) (h2.next hb) (h3.next hb) (h4.next hb) h5 h6 h7 h8
theorem Fl.belowE {w w' : World} (hb : Below w.heap.size w w') : ∀ {fs : Fs} {c a : Int} {cv : Value}, Fl w c a cv fs → Fl w' c a cv fs
  | [], _, _, _, h => h
  | [_], _, _, _, h => h
  | _ :: _ :: _, _, _, _, ⟨h1, h2, h3, b, cap, c', a', ao, n, k, h4, h5, h6, h7, h8, h9⟩ => ⟨h1, h2, h3, b, cap, c', a', ao, n, k, h4, (hb.cell (p := ⟨b, 0, none⟩) (lt_of_cell h5)).trans h5, (hb.cell (p := ⟨b, 1, none⟩) (lt_of_cell h6)).trans h6, (hb.cell (p := ⟨b, 2, none⟩) (lt_of_cell h7)).trans h7, (hb.cell (p := ⟨b, 3, none⟩) (lt_of_cell h8)).trans h8, h9.belowE hb⟩
theorem tsm_is {W : World} {ro : Option Addr} {rn rc : Nat} {qo : Option Addr} {qn qc : Nat} {ev : Value} {so : Option Addr} {sn sc : Nat} {po : Option Addr} {pn pc : Nat} {c a : Int} {co : Option Addr} {cn cc : Nat} (h : Tsm W ro rn rc qo qn qc ev so sn sc po pn pc c a co cn cc) {w : World} (hb : Below W.heap.size W w) :
    Calls Tryz.prog 12 #[ev, .agg #[.int .i64 c, .int .i64 a, .string ⟨#[]⟩, .slice co cn cc]] w fun e w' => e = .returned (.bool true) ∧ Below w.heap.size w w' := by
  obtain ⟨fs, h1, h2⟩ := h.fs
  exact is_any (h1.below hb) (h2.belowE hb)
/-- The program's Terms, then the reference's. -/
theorem both_terms (s : ByteArray) {w : World} (hG : ErrT w) : Calls Tryz.prog 10 #[.string s] w fun e w1 => Below w.heap.size w w1 ∧ ∃ ro rn rc qo qn qc ev, e = .returned (.tuple #[.agg #[.slice ro rn rc, .slice qo qn qc], ev]) ∧ (ev = .nilIface ∨ ∃ b, ev = .iface 82 (.pointer (some ⟨b, 0, none⟩))) ∧
    ∀ w2, Below w1.heap.size w1 w2 → Calls Tryz.prog 11 #[.string s] w2 fun e w3 => Below w2.heap.size w2 w3 ∧ ∃ so sn sc po pn pc c a co cn cc, e = .returned (.tuple #[.agg #[.slice so sn sc, .slice po pn pc], .agg #[.int .i64 c, .int .i64 a, .string ⟨#[]⟩, .slice co cn cc]]) ∧ Tsm w3 ro rn rc qo qn qc ev so sn sc po pn pc c a co cn cc := by
  have hlen := someT_len (s := s)
  refine (termsE_any s w hG).mono ?_
  intro e w1 hZ
  obtain ⟨hB, hZ⟩ := hZ
  refine ⟨hB, ?_⟩
  by_cases hc : someC s = 0
  · rw [if_neg (fun h => h hc)] at hZ
    obtain ⟨hE, hl⟩ := someT_end hc
    have hwd := terms_wd hE (fuelT (someT s)) 0 hl
    have hR := fun w2 => rtermsE_any s w2 hc
    cases hr : termsF (someT s) (fuelT (someT s)) 0 with
    | ok z j =>
      obtain ⟨xs, qs⟩ := z
      rw [hr] at hZ hwd hR
      obtain ⟨ro, rc, qo, qc, rfl, hx, hq⟩ := hZ
      obtain ⟨d1, d2, d3, d4⟩ := hwd
      refine ⟨ro, _, rc, qo, _, qc, _, rfl, Or.inl rfl, fun w2 hb2 => (hR w2).mono ?_⟩
      rintro e w3 ⟨hb3, so, sc, po, pc, rfl, hx3, hq3⟩
      have hb13 := Below.next hb2 hb3
      exact ⟨hb3, so, _, sc, po, _, pc, 0, 0, none, 0, 0, rfl, ⟨[], rfl, rfl⟩, xs, qs, rfl, rfl, rfl, rfl, hx.rxs.next hb13, hx3.rxs, hq.rqs.next hb13, hq3.rqs, d1, d2, by show xs.length ≤ _; have : xs.length ≤ (someT s).length := d3; omega, by have : qs.length ≤ (someT s).length := d4; omega⟩
    | bad c j =>
      rw [hr] at hZ hR
      obtain ⟨b, rfl, hb⟩ := hZ
      refine ⟨none, 0, 0, none, 0, 0, _, rfl, Or.inr ⟨b, rfl⟩, fun w2 hb2 => (hR w2).mono ?_⟩
      rintro e w3 ⟨hb3, hc0, rfl⟩
      have hb13 := Below.next hb2 hb3
      refine ⟨hb3, none, 0, 0, none, 0, 0, c, _, none, 0, 0, rfl, ⟨[(c, ((tkA (someT s) j).at_ : Int))], ⟨hc0, b, .nilIface, rfl, (hb13.block b (lt_of_block hb)).trans hb, rfl⟩, rfl, rfl, hc0, rfl⟩, [], [], rfl, rfl, rfl, rfl, Rxs.nil _, Rxs.nil _, Rqs.nil _, Rqs.nil _, by simp, by simp, by simp, by simp⟩
  · rw [if_pos hc] at hZ
    obtain ⟨b, fb, rfl, hb, hfb⟩ := hZ
    refine ⟨none, 0, 0, none, 0, 0, _, rfl, Or.inr ⟨b, rfl⟩, fun w2 hb2 => (rterms_src s w2 hc).mono ?_⟩
    rintro e w3 ⟨lb, rfl, hlb, hb3⟩
    have hb13 := Below.next hb2 hb3
    obtain ⟨⟨y0, y1, y2, y3⟩, _⟩ := blk4x hlb
    refine ⟨hb3, none, 0, 0, none, 0, 0, 70, someP s, some ⟨lb, 0, none⟩, 1, 1, rfl, ⟨[(70, someP s), (someC s, someP s)], ⟨show (70 : Int) ≠ 0 by decide, b, _, rfl, (hb13.block b (lt_of_block hb)).trans hb, hc, fb, .nilIface, rfl, (hb13.block fb (lt_of_block hfb)).trans hfb, rfl⟩, rfl, rfl, by decide, lb, 1, someC s, someP s, none, 0, 0, rfl, y0, y1, y2, y3, rfl, rfl, hc, rfl⟩, [], [], rfl, rfl, rfl, rfl, Rxs.nil _, Rxs.nil _, Rqs.nil _, Rqs.nil _, by simp, by simp, by simp, by simp⟩
set_option maxRecDepth 100000 in
set_option maxHeartbeats 8000000 in
theorem parseTerms_walk (s : ByteArray) (W : World) (hz : s.size ≤ 281474976710656) (hL : ErrT W ∧ PowT W) :
    Calls Tryz.prog 3 #[.string s] W fun e w' => e = .returned (.bool true) ∧ Below W.heap.size W w' := by
  have hlv := plives_any W hL.1 hL.2
  have hlv2 := hid (fun w1 (hb : Below W.heap.size W w1) => plives_any w1 (hL.1.below hb) (hL.2.below hb))
  have hlo := hid (fun w1 => plong_any s w1 hz)
  have hbt := hid (fun w1 (hb : Below W.heap.size W w1) => both_terms s (hL.1.below hb))
  clear hL
  by_cases hlong : 20000 < s.size
  · rw [decide_eq_true hlong] at hlo
    have m1 : True := trivial
    go_enter Tryz.func3, Tryz.ntmps3
    go_wp2_with (first
      | (have _m := m1; go_at_call 8; go_must (refine hlv.mono ?_; clear m1 _m; rintro e w1 ⟨rfl, hb1⟩))
      | (go_at_call 9; go_must (refine (hlo.out _).mono ?_; rintro e w2 ⟨rfl, rfl⟩))
      | (go_at_call 8; go_must (refine (hlv2.out _ hb1).mono ?_; rintro e w3 ⟨rfl, hb3⟩)))
    go_ret
    exact ⟨rfl, Below.next hb1 hb3⟩
  · rw [decide_eq_false hlong] at hlo
    go_enter Tryz.func3, Tryz.ntmps3
    go_wp2_with (first
      | (go_at_call 8; go_must (refine hlv.mono ?_; rintro e w1 ⟨rfl, hb1⟩))
      | (go_at_call 9; go_must (refine (hlo.out _).mono ?_; rintro e w2 ⟨rfl, rfl⟩))
      | (go_at_call 10; go_must (refine (hbt.out _ hb1).mono ?_; clear hbt; rintro e w3 ⟨hb3, ro, rn, rc, qo, qn, qc, ev, rfl, hev, hN⟩; have hN' := hid (hN _ (below_alloc w3 (.cells #[.slice ro rn rc, .slice qo qn qc] 27))); have hq3 := hid (heap_alloc_new w3 (.cells #[.slice ro rn rc, .slice qo qn qc] 27)); have hB3 := hid ((Below.next hb1 hb3).alloc (by have := hb1.size; have := hb3.size; omega) (.cells #[.slice ro rn rc, .slice qo qn qc] 27)); clear hN hev hb3))
      | (go_at_call 11; go_must (refine hN'.out.mono ?_; clear hN'; rintro e w4 ⟨hb4, so, sn, sc, po, pn, pc, c, a, co, cn, cc, rfl, hT⟩; have hT' := hid hT; have hB4 := hid (Below.next hB3.out hb4); have hq4 := hid ((hb4.block _ (by simp)).trans hq3.out); clear hT hb4))
      | (go_at_call 12; go_must (refine (tsm_is hT'.out (((below_alloc w4 (.cells #[.slice so sn sc, .slice po pn pc] 27))).alloc (by simp) (.cells #[.int .i64 c, .int .i64 a, .string ⟨#[]⟩, .slice co cn cc] 34))).mono ?_; rintro e w5 ⟨rfl, hb5⟩; have hB5 := hid (Below.next (((below_alloc w4 (.cells #[.slice so sn sc, .slice po pn pc] 27))).alloc (by simp) (.cells #[.int .i64 c, .int .i64 a, .string ⟨#[]⟩, .slice co cn cc] 34)) hb5); have hq5 := (hB5.out.block _ (lt_of_block hq4.out)).trans hq4.out; have hq6 := (hb5.block w4.heap.size (by simp; omega)).trans ((Below.heap_alloc _ _ _ (by simp)).trans (heap_alloc_new w4 (.cells #[.slice so sn sc, .slice po pn pc] 27))); have z5 := lt_of_block hq5; have z6 := lt_of_block hq6; obtain ⟨⟨a0, a1⟩, _⟩ := blk2x hq5; obtain ⟨⟨b0, b1⟩, _⟩ := blk2x hq6; clear hq5 hq6 hb5))
      | (go_at_call 13; go_must (refine (tsm_same hT'.out hB5.out).mono ?_; rintro e w6 ⟨rfl, hb6⟩)))
    go_ret
    exact ⟨rfl, Below.next (Below.next hB4.out hB5.out) hb6⟩
end Go.Proofs.YtklfnphkepfmaaaGreatDoor
