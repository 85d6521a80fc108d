/- An error is just a chain of faults: the question of the references. -/
import Derived.Test.YtnoggmeffindbabGreatDoorGrMem
import Derived.Deep.LoopGhost
import Derived.Deep.QuietTactic
import Derived.BigQuiet
namespace Go.Proofs.YtnoggmeffindbabGreatDoor
open Go.RowKit

/-- A fault of the reference: its code, place and cause tell this chain. -/
def Fl (w : World) : Int → Int → Value → Fs → Prop
  | c, _, _, [] => c = 0
  | c, a, cv, [x] => c = x.1 ∧ a = x.2 ∧ c ≠ 0 ∧ cv = .slice none 0 0
  | c, a, cv, x :: y :: r => c = x.1 ∧ a = x.2 ∧ c ≠ 0 ∧ ∃ b cap c' a' ao n k, cv = .slice (some ⟨b, 0, none⟩) 1 cap ∧ w.cell? ⟨b, 0, none⟩ = some (.int .i64 c') ∧ w.cell? ⟨b, 1, none⟩ = some (.int .i64 a') ∧ w.cell? ⟨b, 2, none⟩ = some (.string ⟨#[]⟩) ∧ w.cell? ⟨b, 3, none⟩ = some (.slice ao n k) ∧ Fl w c' a' (.slice ao n k) (y :: r)
theorem fl_one (w : World) (x : Int × Int) : Fl w x.1 x.2 (.slice none 0 0) (one x) := by
  unfold one
  split
  · assumption
  · exact ⟨rfl, rfl, by assumption, rfl⟩
/-- An error asked for the very pointer type that it has. -/
theorem assert_ptr {P : Program} (w : World) (t xT e : TypeId) (v : Value) (h : P.underlying t = some (.pointer e)) : (Instr.typeAssert (.iface t v) xT t true).run P w = .ok (.tuple #[v, .bool true]) w := by
  simp [Instr.typeAssert, run_underlying h, go_sem, Result.andThen]
theorem box_set {w : World} {q : Nat} {u0 u1 u2 u3 v0 v1 v2 v3 : Value} {T : TypeId} (h : w.heap[q]? = some (.cells #[u0, u1, u2, u3] T)) (n : Nat) :
    (((((w.drewN n).setCell ⟨q, 0, none⟩ v0).setCell ⟨q, 1, none⟩ v1).setCell ⟨q, 2, none⟩ v2).setCell ⟨q, 3, none⟩ v3).heap[q]? = some (.cells #[v0, v1, v2, v3] T) := by
  have h0 := heap_setCell_same (w.drewN n) q 0 _ _ v0 h
  have h1 := heap_setCell_same _ q 1 _ _ v1 h0
  have h2 := heap_setCell_same _ q 2 _ _ v2 h1
  have h3 := heap_setCell_same _ q 3 _ _ v3 h2
  exact h3
theorem box_below {W w : World} {v0 v1 v2 v3 : Value} (h : Below W.heap.size W w) (n : Nat) :
    Below W.heap.size W (((((w.drewN n).setCell ⟨W.heap.size, 0, none⟩ v0).setCell ⟨W.heap.size, 1, none⟩ v1).setCell ⟨W.heap.size, 2, none⟩ v2).setCell ⟨W.heap.size, 3, none⟩ v3) :=
  ((((below_drewN h n).setCell (Nat.le_refl _) _).setCell (Nat.le_refl _) _).setCell (Nat.le_refl _) _).setCell (Nat.le_refl _) _
set_option maxRecDepth 100000 in
set_option maxHeartbeats 2000000 in
theorem is_any {W : World} {ev : Value} {c a : Int} {cv : Value} {fs : Fs} (hE : Er W ev fs) (hF : Fl W c a cv fs) :
    Calls Tryz.prog 25 #[ev, .agg #[.int .i64 c, .int .i64 a, .string ⟨#[]⟩, cv]] W fun e w' => e = .returned (.bool true) ∧ Below W.heap.size W w' := by
  have hta := fun (w : World) (v : Value) => assert_ptr (P := Tryz.prog) w 126 37 129 v Tryz.underlying126
  go_enter Tryz.func25, Tryz.ntmps25
  go_wp2
  go_loopg [0] fs.length (fun gk x wr => ∃ (ev : Value) (fs : Fs) (c a : Int) (cv : Value), x = ev ∧ fs.length ≤ gk ∧ Hid (Er W ev fs) ∧ Hid (Fl W c a cv fs) ∧ Hid (wr.heap[W.heap.size]? = some (.cells #[.int .i64 c, .int .i64 a, .string ⟨#[]⟩, cv] 70)) ∧ Hid (Below W.heap.size W wr))
  case atStart => exact ⟨ev, fs, c, a, cv, rfl, Nat.le_refl _, hE, hF, heap_alloc_new _ _, below_alloc _ _⟩
  case round =>
    clear hE hF
    obtain ⟨ev, fs, c, a, cv, rfl, hle, hE, hF, hB, hb⟩ := hrel
    have b0 : wr.cell? ⟨W.heap.size, 0, none⟩ = some (.int .i64 c) := by simp [World.cell?, hB.out]
    have b1 : wr.cell? ⟨W.heap.size, 1, none⟩ = some (.int .i64 a) := by simp [World.cell?, hB.out]
    have b2 : wr.cell? ⟨W.heap.size, 2, none⟩ = some (.string ⟨#[]⟩) := by simp [World.cell?, hB.out]
    have b3 : wr.cell? ⟨W.heap.size, 3, none⟩ = some cv := by simp [World.cell?, hB.out]
    match fs, hle, hE, hF with
    | [], _, hE, hF =>
      have e1 := hE.out
      have e2 := hF.out
      simp only [Er] at e1
      simp only [Fl] at e2
      subst e1 e2
      go_wp2
      go_ret
      exact ⟨rfl, hb.out⟩
    | [x], _, hE, hF =>
      obtain ⟨hx0, q, cause, rfl, hq, hc⟩ := hE.out
      obtain ⟨rfl, rfl, hx1, rfl⟩ := hF.out
      have hc' : cause = .nilIface := hc
      subst hc'
      have hx : (x.1 == 0) = false := by simpa using hx0
      have hq' : wr.heap[q]? = some (faultObj x.1 x.2 .nilIface) := by rw [hb.out.block q (lt_of_block hq)]; exact hq
      have h0 : wr.cell? ⟨q, 0, none⟩ = some (.int .i64 x.1) := by simp [World.cell?, hq', faultObj]
      have h1 : wr.cell? ⟨q, 1, none⟩ = some (.int .i64 x.2) := by simp [World.cell?, hq', faultObj]
      have h2 : wr.cell? ⟨q, 2, none⟩ = some (.string ⟨#[]⟩) := by simp [World.cell?, hq', faultObj]
      have h3 : wr.cell? ⟨q, 3, none⟩ = some .nilIface := by simp [World.cell?, hq', faultObj]
      clear hq hq' hc hx0 hx1
      obtain ⟨c, a⟩ := x
      dsimp only at hx h0 h1 b0 b1
      clear hE hF hB
      go_wp2
      go_quiet (fail)
      go_wp2
      go_ret
      exact ⟨rfl, below_drewN hb.out _⟩
    | x :: y :: r, hle, hE, hF =>
      obtain ⟨hx0, q, cause, rfl, hq, hc⟩ := hE.out
      obtain ⟨rfl, rfl, hx1, fb, cap, c', a', ao, nn, kk, rfl, f0, f1, f2, f3, hF'⟩ := hF.out
      have hx : (x.1 == 0) = false := by simpa using hx0
      have hq' : wr.heap[q]? = some (faultObj x.1 x.2 cause) := by rw [hb.out.block q (lt_of_block hq)]; exact hq
      have h0 : wr.cell? ⟨q, 0, none⟩ = some (.int .i64 x.1) := by simp [World.cell?, hq', faultObj]
      have h1 : wr.cell? ⟨q, 1, none⟩ = some (.int .i64 x.2) := by simp [World.cell?, hq', faultObj]
      have h2 : wr.cell? ⟨q, 2, none⟩ = some (.string ⟨#[]⟩) := by simp [World.cell?, hq', faultObj]
      have h3 : wr.cell? ⟨q, 3, none⟩ = some cause := by simp [World.cell?, hq', faultObj]
      have g0 : wr.cell? ⟨fb, 0, none⟩ = some (.int .i64 c') := by rw [hb.out.cell (p := ⟨fb, 0, none⟩) (lt_of_cell f0)]; exact f0
      have g1 : wr.cell? ⟨fb, 1, none⟩ = some (.int .i64 a') := by rw [hb.out.cell (p := ⟨fb, 1, none⟩) (lt_of_cell f1)]; exact f1
      have g2 : wr.cell? ⟨fb, 2, none⟩ = some (.string ⟨#[]⟩) := by rw [hb.out.cell (p := ⟨fb, 2, none⟩) (lt_of_cell f2)]; exact f2
      have g3 : wr.cell? ⟨fb, 3, none⟩ = some (.slice ao nn kk) := by rw [hb.out.cell (p := ⟨fb, 3, none⟩) (lt_of_cell f3)]; exact f3
      have i0 : wr.frozen? ⟨W.heap.size, 0, none⟩ = false := by simp [World.frozen?, hB.out]
      have i1 : wr.frozen? ⟨W.heap.size, 1, none⟩ = false := by simp [World.frozen?, hB.out]
      have i2 : wr.frozen? ⟨W.heap.size, 2, none⟩ = false := by simp [World.frozen?, hB.out]
      have i3 : wr.frozen? ⟨W.heap.size, 3, none⟩ = false := by simp [World.frozen?, hB.out]
      clear hq hq' hx0 hx1 f0 f1 f2 f3
      have hc' := hid hc
      have hF'' := hid hF'
      have hle' : (y :: r).length + 1 ≤ gk := by simpa using hle
      obtain ⟨c, a⟩ := x
      dsimp only at hx h0 h1 b0 b1 hB
      clear hE hF hc hF' hle
      go_wp2
      go_quiet (fail)
      go_wp2
      go_roundg (y :: r).length
      case measure => omega
      case rel => exact ⟨cause, y :: r, c', a', _, rfl, Nat.le_refl _, hc', hF'', box_set hB.out nq, box_below hb.out nq⟩
end Go.Proofs.YtnoggmeffindbabGreatDoor
