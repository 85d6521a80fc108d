/- An error is just a chain of faults: the question of the references. -/
import Derived.Deep.LoopGhost
import Derived.Deep.QuietTactic
import Derived.BigQuiet
import Derived.Test.YtlibjdilicfcdaaGreatDoornu01Z
namespace Go.Proofs.YtlibjdilicfcdaaGreatDoor
set_option maxRecDepth 100000
open Go.RowKit
def Fl (w : World) : Int → Int → Value → Fs → Prop
  | c, _, _, [] => c = 0
  | c, a, cv, [x] => c = x.1 ∧ a = x.2 ∧ c ≠ 0 ∧ cv = .slice none 0 0
  | c, a, cv, x :: y :: r => c = x.1 ∧ a = x.2 ∧ c ≠ 0 ∧ ∃ b cap c' a' ao n k, cv = .slice (some ⟨b, 0, none⟩) 1 cap ∧ w.cell? ⟨b, 0, none⟩ = some (.int .i64 c') ∧ w.cell? ⟨b, 1, none⟩ = some (.int .i64 a') ∧ w.cell? ⟨b, 2, none⟩ = some (.string ⟨#[]⟩) ∧ w.cell? ⟨b, 3, none⟩ = some (.slice ao n k) ∧ Fl w c' a' (.slice ao n k) (y :: r)
theorem assert_ptr {P : Program} (w : World) (t xT e : TypeId) (v : Value) (h : P.underlying t = some (.pointer e)) : (Instr.typeAssert (.iface t v) xT t true).run P w = .ok (.tuple #[v, .bool true]) w := by
  simp [Instr.typeAssert, run_underlying h, go_sem, Result.andThen]
theorem box_set {w : World} {q : Nat} {u0 u1 u2 u3 v0 v1 v2 v3 : Value} {T : TypeId} (h : w.heap[q]? = some (.cells #[u0, u1, u2, u3] T)) (n : Nat) :
    (((((w.drewN n).setCell ⟨q, 0, none⟩ v0).setCell ⟨q, 1, none⟩ v1).setCell ⟨q, 2, none⟩ v2).setCell ⟨q, 3, none⟩ v3).heap[q]? = some (.cells #[v0, v1, v2, v3] T) := by
  have h0 := heap_setCell_same (w.drewN n) q 0 _ _ v0 h
  have h1 := heap_setCell_same _ q 1 _ _ v1 h0
  have h2 := heap_setCell_same _ q 2 _ _ v2 h1
  have h3 := heap_setCell_same _ q 3 _ _ v3 h2
  exact h3
theorem box_below {W w : World} {v0 v1 v2 v3 : Value} (h : Below W.heap.size W w) (n : Nat) :
    Below W.heap.size W (((((w.drewN n).setCell ⟨W.heap.size, 0, none⟩ v0).setCell ⟨W.heap.size, 1, none⟩ v1).setCell ⟨W.heap.size, 2, none⟩ v2).setCell ⟨W.heap.size, 3, none⟩ v3) :=
  ((((below_drewN h n).setCell (Nat.le_refl _) _).setCell (Nat.le_refl _) _).setCell (Nat.le_refl _) _).setCell (Nat.le_refl _) _
set_option maxHeartbeats 2000000 in
theorem is_any {W : World} {ev : Value} {c a : Int} {cv : Value} {fs : Fs} (hE : Er W ev fs) (hF : Fl W c a cv fs) :
    Calls Tryz.prog 19 #[ev, .agg #[.int .i64 c, .int .i64 a, .string ⟨#[]⟩, cv]] W fun e w' => e = .returned (.bool true) ∧ Below W.heap.size W w' := by
  have hta := fun (w : World) (v : Value) => assert_ptr (P := Tryz.prog) w 84 29 88 v Tryz.underlying84
  go_enter Tryz.func19, Tryz.ntmps19
  go_wp2
  go_loopg [0] fs.length (fun gk x wr => ∃ (ev : Value) (fs : Fs) (c a : Int) (cv : Value), x = ev ∧ fs.length ≤ gk ∧ Hid (Er W ev fs) ∧ Hid (Fl W c a cv fs) ∧ Hid (wr.heap[W.heap.size]? = some (.cells #[.int .i64 c, .int .i64 a, .string ⟨#[]⟩, cv] 53)) ∧ Hid (Below W.heap.size W wr))
  case atStart => exact ⟨ev, fs, c, a, cv, rfl, Nat.le_refl _, hE, hF, heap_alloc_new _ _, below_alloc _ _⟩
  case round =>
    clear hE hF
    obtain ⟨ev, fs, c, a, cv, rfl, hle, hE, hF, hB, hb⟩ := hrel
    have b0 : wr.cell? ⟨W.heap.size, 0, none⟩ = some (.int .i64 c) := by simp [World.cell?, hB.out]
    have b1 : wr.cell? ⟨W.heap.size, 1, none⟩ = some (.int .i64 a) := by simp [World.cell?, hB.out]
    have b2 : wr.cell? ⟨W.heap.size, 2, none⟩ = some (.string ⟨#[]⟩) := by simp [World.cell?, hB.out]
    have b3 : wr.cell? ⟨W.heap.size, 3, none⟩ = some cv := by simp [World.cell?, hB.out]
    match fs, hle, hE, hF with
    | [], _, hE, hF =>
      have e1 := hE.out
      have e2 := hF.out
      simp only [Er] at e1
      simp only [Fl] at e2
      subst e1 e2
      go_wp2
      go_ret
      exact ⟨rfl, hb.out⟩
    | [x], _, hE, hF =>
      obtain ⟨hx0, q, cause, rfl, hq, hc⟩ := hE.out
      obtain ⟨rfl, rfl, hx1, rfl⟩ := hF.out
      have hc' : cause = .nilIface := hc
      subst hc'
      have hx : (x.1 == 0) = false := by simpa using hx0
      have hq' : wr.heap[q]? = some (faultObj x.1 x.2 .nilIface) := by rw [hb.out.block q (lt_of_block hq)]; exact hq
      have h0 : wr.cell? ⟨q, 0, none⟩ = some (.int .i64 x.1) := by simp [World.cell?, hq', faultObj]
      have h1 : wr.cell? ⟨q, 1, none⟩ = some (.int .i64 x.2) := by simp [World.cell?, hq', faultObj]
      have h2 : wr.cell? ⟨q, 2, none⟩ = some (.string ⟨#[]⟩) := by simp [World.cell?, hq', faultObj]
      have h3 : wr.cell? ⟨q, 3, none⟩ = some .nilIface := by simp [World.cell?, hq', faultObj]
      clear hq hq' hc hx0 hx1
      obtain ⟨c, a⟩ := x
      dsimp only at hx h0 h1 b0 b1
      clear hE hF hB
      go_wp2
      go_quiet (fail)
      go_wp2
      go_ret
      exact ⟨rfl, below_drewN hb.out _⟩
    | x :: y :: r, hle, hE, hF =>
      obtain ⟨hx0, q, cause, rfl, hq, hc⟩ := hE.out
      obtain ⟨rfl, rfl, hx1, fb, cap, c', a', ao, nn, kk, rfl, f0, f1, f2, f3, hF'⟩ := hF.out
      have hx : (x.1 == 0) = false := by simpa using hx0
      have hq' : wr.heap[q]? = some (faultObj x.1 x.2 cause) := by rw [hb.out.block q (lt_of_block hq)]; exact hq
      have h0 : wr.cell? ⟨q, 0, none⟩ = some (.int .i64 x.1) := by simp [World.cell?, hq', faultObj]
      have h1 : wr.cell? ⟨q, 1, none⟩ = some (.int .i64 x.2) := by simp [World.cell?, hq', faultObj]
      have h2 : wr.cell? ⟨q, 2, none⟩ = some (.string ⟨#[]⟩) := by simp [World.cell?, hq', faultObj]
      have h3 : wr.cell? ⟨q, 3, none⟩ = some cause := by simp [World.cell?, hq', faultObj]
      have g0 : wr.cell? ⟨fb, 0, none⟩ = some (.int .i64 c') := by rw [hb.out.cell (p := ⟨fb, 0, none⟩) (lt_of_cell f0)]; exact f0
      have g1 : wr.cell? ⟨fb, 1, none⟩ = some (.int .i64 a') := by rw [hb.out.cell (p := ⟨fb, 1, none⟩) (lt_of_cell f1)]; exact f1
      have g2 : wr.cell? ⟨fb, 2, none⟩ = some (.string ⟨#[]⟩) := by rw [hb.out.cell (p := ⟨fb, 2, none⟩) (lt_of_cell f2)]; exact f2
      have g3 : wr.cell? ⟨fb, 3, none⟩ = some (.slice ao nn kk) := by rw [hb.out.cell (p := ⟨fb, 3, none⟩) (lt_of_cell f3)]; exact f3
      have i0 : wr.frozen? ⟨W.heap.size, 0, none⟩ = false := by simp [World.frozen?, hB.out]
      have i1 : wr.frozen? ⟨W.heap.size, 1, none⟩ = false := by simp [World.frozen?, hB.out]
      have i2 : wr.frozen? ⟨W.heap.size, 2, none⟩ = false := by simp [World.frozen?, hB.out]
      have i3 : wr.frozen? ⟨W.heap.size, 3, none⟩ = false := by simp [World.frozen?, hB.out]
      clear hq hq' hx0 hx1 f0 f1 f2 f3
      have hc' := hid hc
      have hF'' := hid hF'
      have hle' : (y :: r).length + 1 ≤ gk := by simpa using hle
      obtain ⟨c, a⟩ := x
      dsimp only at hx h0 h1 b0 b1 hB
      clear hE hF hc hF' hle
      go_wp2
      go_quiet (fail)
      go_wp2
      go_roundg (y :: r).length
      case measure => omega
      case rel => exact ⟨cause, y :: r, c', a', _, rfl, Nat.le_refl _, hc', hF'', box_set hB.out nq, box_below hb.out nq⟩
end Go.Proofs.YtlibjdilicfcdaaGreatDoor

namespace Go.Proofs.YtlibjdilicfcdaaGreatDoor
set_option maxRecDepth 100000
open Go.RowKit
theorem row_keep {w w' : World} {B z : Nat} {e : TypeId} {v : Value} {n : Nat} {xs : List Value} (h : w.ownsRow B e z v n xs) (hm : ∀ k, v.ownBlock = some k → w'.heap[k]? = w.heap[k]?) : w'.ownsRow B e z v n xs := by
  refine ⟨h.1, ?_⟩
  rcases h.2 with h0 | ⟨g, cap, cur, rfl, hb, hg, rest⟩
  · exact Or.inl h0
  · exact Or.inr ⟨g, cap, cur, rfl, hb, by rw [hm g rfl]; exact hg, rest⟩
theorem row_obj {w : World} {B z : Nat} {e : TypeId} {v : Value} {n : Nat} {xs : List Value} (h : w.ownsRow B e z v n xs) {k : Nat} (hk : v.ownBlock = some k) : ∃ cur, w.heap[k]? = some (.cells cur e (0, 0)) := by
  rcases h.2 with ⟨rfl, _⟩ | ⟨g, cap, cur, rfl, _, hg, _⟩
  · cases hk
  · have : g = k := by simpa [Value.ownBlock] using hk
    subst this
    exact ⟨cur, hg⟩
theorem obj_ne {w : World} {k j : Nat} {c c' : Array Value} {e e' : TypeId} {x x' : Nat × Nat} (h : w.heap[k]? = some (.cells c e x)) (h' : w.heap[j]? = some (.cells c' e' x')) (hne : e ≠ e') : k ≠ j := fun ek => by
  subst ek
  rw [h] at h'
  injection h' with h'
  injection h' with _ h'
  exact hne h'
end Go.Proofs.YtlibjdilicfcdaaGreatDoor

namespace Go.Proofs.YtlibjdilicfcdaaGreatDoor
set_option maxRecDepth 100000
open Go.RowKit
structure Mo (S : Nat → Prop) (w w' : World) : Prop where
  os : w'.os = w.os
  tape : w'.tape = w.tape
  output : w'.output = w.output
  size : w.heap.size ≤ w'.heap.size
  block : ∀ k, k < w.heap.size → ¬ S k → w'.heap[k]? = w.heap[k]?
theorem Mo.refl (S : Nat → Prop) (w : World) : Mo S w w := ⟨rfl, rfl, rfl, Nat.le_refl _, fun _ _ _ => rfl⟩
theorem Mo.trans {S S' : Nat → Prop} {a b c : World} (h : Mo S a b) (k : Mo S' b c) (hs : ∀ x, S' x → S x ∨ a.heap.size ≤ x) : Mo S a c :=
  ⟨k.os.trans h.os, k.tape.trans h.tape, k.output.trans h.output, Nat.le_trans h.size k.size, fun i hi hn =>
    (k.block i (Nat.lt_of_lt_of_le hi h.size) (fun hx => by rcases hs i hx with h1 | h1; exact hn h1; omega)).trans (h.block i hi hn)⟩
theorem Mo.below {S : Nat → Prop} {w w' : World} {B : Nat} (h : Mo S w w') (hk : ∀ k, S k → B ≤ k) (hB : B ≤ w.heap.size) : Below B w w' :=
  ⟨h.os, h.tape, h.output, h.size, fun k hkB => h.block k (by omega) (fun hx => by have := hk k hx; omega)⟩
theorem Mo.ofBelow {S : Nat → Prop} {w w' : World} (h : Below w.heap.size w w') : Mo S w w' := ⟨h.os, h.tape, h.output, h.size, fun k hk _ => h.block k hk⟩
theorem Mo.grown {S : Nat → Prop} {a w w' : World} {row : Option Nat} (h : Mo S a w) (hg : w.grownBy w' row) (hr : ∀ k, row = some k → S k ∨ a.heap.size ≤ k) : Mo S a w' :=
  ⟨hg.os.trans h.os, hg.tape.trans h.tape, hg.output.trans h.output, Nat.le_trans h.size hg.size, fun k hk hn =>
    (hg.block k (Nat.lt_of_lt_of_le hk h.size) (fun e => by rcases hr k e.symm with h1 | h1; exact hn h1; omega)).trans (h.block k hk hn)⟩
theorem Mo.alloc {S : Nat → Prop} {a w : World} (h : Mo S a w) (o : Obj) : Mo S a (w.alloc o) := h.grown (World.grownBy_alloc w o none) (fun _ e => by cases e)
theorem Mo.setCell {S : Nat → Prop} {a w : World} (h : Mo S a w) {p : Addr} (hp : S p.block ∨ a.heap.size ≤ p.block) (u : Value) : Mo S a (w.setCell p u) :=
  ⟨h.os, h.tape, h.output, by simpa using h.size, fun k hk hn =>
    (Below.heap_setCell w p u k (fun e => by subst e; rcases hp with h1 | h1; exact hn h1; omega)).trans (h.block k hk hn)⟩
theorem Mo.drew {S : Nat → Prop} {a w : World} (h : Mo S a w) : Mo S a w.drew := ⟨h.os, h.tape, h.output, h.size, h.block⟩
theorem Mo.weak {S S' : Nat → Prop} {w w' : World} (h : Mo S w w') (hs : ∀ x, S x → S' x ∨ w.heap.size ≤ x) : Mo S' w w' := (Mo.refl S' w).trans h hs
end Go.Proofs.YtlibjdilicfcdaaGreatDoor
