/- Package cells: the region of 'read' that draws its order, by one property that each operation keeps. -/
import Derived.Test.YtnoggmeffindbabGreatDoorQREZ
import Derived.Test.YtnoggmeffindbabGreatDoorQRAZ
import Derived.Test.YtnoggmeffindbabGreatDoorQAFZ
namespace Go.Proofs.YtnoggmeffindbabGreatDoor
open Go.RowKit

/-- What stands where, by which operations have been. -/
structure G7 (wd : World) (gb cb rb : Nat) (OLD vK vS vN vD : Value) (N5 A6 : Value → World → Prop) (lit : Value → Obj) (b0 b1 b2 b3 b4 b5 b6 b7 b8 b9 b10 b11 b12 b13 b14 b15 b16 : Bool) (x35 x36 x37 x38 x39 x40 x41 x42 x43 x44 x45 x46 x47 x48 x49 x50 : Value) (w : World) : Prop where
  e0 : b0 = true → x35 = .pointer (some ⟨gb, 0, none⟩)
  e1 : b1 = true → x36 = OLD
  e2 : b2 = true → x37 = .pointer (some ⟨cb, 0, none⟩)
  e3 : b3 = true → x38 = vK
  e4 : b4 = true → x39 = .pointer (some ⟨cb, 2, none⟩)
  e5 : b5 = true → x40 = vS
  e6 : b6 = true → x41 = .pointer (some ⟨cb, 3, none⟩)
  e7 : b7 = true → x42 = vN
  e8 : b8 = true → x43 = .pointer (some ⟨rb, 0, none⟩)
  e9 : b9 = true → x44 = .pointer (some ⟨cb, 4, none⟩)
  e10 : b10 = true → x45 = vD
  e12 : b12 = true → x47 = .agg #[vK, vS, vN, x46]
  c11 : b11 = true → b10 = true
  c12 : b12 = true → b3 = true ∧ b5 = true ∧ b7 = true ∧ b11 = true
  c13 : b13 = true → b12 = true
  c14 : b14 = true → b1 = true ∧ b13 = true
  c15 : b15 = true → b14 = true
  e15 : b15 = true → x50 = .pointer (some ⟨gb, 0, none⟩)
  c16 : b16 = true → b15 = true
  s0 : b11 = false → w = wd
  s1 : b11 = true → b13 = false → N5 x46 w
  s2 : b13 = true → b14 = false → ∃ w5, N5 x46 w5 ∧ x48 = .slice (some ⟨w5.heap.size, 0, none⟩) 1 1 ∧ w = w5.alloc (lit x46)
  s3 : b14 = true → b16 = false → A6 x49 w
  s4 : b16 = true → ∃ w6, A6 x49 w6 ∧ w = w6.setCell ⟨gb, 0, none⟩ x49
section
variable {wd w w' : World} {gb cb rb : Nat} {OLD vK vS vN vD : Value} {N5 A6 : Value → World → Prop} {lit : Value → Obj} {b0 b1 b2 b3 b4 b5 b6 b7 b8 b9 b10 b11 b12 b13 b14 b15 b16 : Bool} {x35 x36 x37 x38 x39 x40 x41 x42 x43 x44 x45 x46 x47 x48 x49 x50 : Value}
theorem G7.t0 (h : G7 wd gb cb rb OLD vK vS vN vD N5 A6 lit false b1 b2 b3 b4 b5 b6 b7 b8 b9 b10 b11 b12 b13 b14 b15 b16 x35 x36 x37 x38 x39 x40 x41 x42 x43 x44 x45 x46 x47 x48 x49 x50 w) : G7 wd gb cb rb OLD vK vS vN vD N5 A6 lit true b1 b2 b3 b4 b5 b6 b7 b8 b9 b10 b11 b12 b13 b14 b15 b16 (.pointer (some ⟨gb, 0, none⟩)) x36 x37 x38 x39 x40 x41 x42 x43 x44 x45 x46 x47 x48 x49 x50 w :=
  ⟨fun _ => rfl, h.e1, h.e2, h.e3, h.e4, h.e5, h.e6, h.e7, h.e8, h.e9, h.e10, h.e12, h.c11, h.c12, h.c13, h.c14, h.c15, h.e15, h.c16, h.s0, h.s1, h.s2, h.s3, h.s4⟩
theorem G7.t1 (h : G7 wd gb cb rb OLD vK vS vN vD N5 A6 lit b0 false b2 b3 b4 b5 b6 b7 b8 b9 b10 b11 b12 b13 b14 b15 b16 x35 x36 x37 x38 x39 x40 x41 x42 x43 x44 x45 x46 x47 x48 x49 x50 w) : G7 wd gb cb rb OLD vK vS vN vD N5 A6 lit b0 true b2 b3 b4 b5 b6 b7 b8 b9 b10 b11 b12 b13 b14 b15 b16 x35 (OLD) x37 x38 x39 x40 x41 x42 x43 x44 x45 x46 x47 x48 x49 x50 w :=
  ⟨h.e0, fun _ => rfl, h.e2, h.e3, h.e4, h.e5, h.e6, h.e7, h.e8, h.e9, h.e10, h.e12, h.c11, h.c12, h.c13, fun e => ⟨rfl, (h.c14 e).2⟩, h.c15, h.e15, h.c16, h.s0, h.s1, h.s2, h.s3, h.s4⟩
theorem G7.t2 (h : G7 wd gb cb rb OLD vK vS vN vD N5 A6 lit b0 b1 false b3 b4 b5 b6 b7 b8 b9 b10 b11 b12 b13 b14 b15 b16 x35 x36 x37 x38 x39 x40 x41 x42 x43 x44 x45 x46 x47 x48 x49 x50 w) : G7 wd gb cb rb OLD vK vS vN vD N5 A6 lit b0 b1 true b3 b4 b5 b6 b7 b8 b9 b10 b11 b12 b13 b14 b15 b16 x35 x36 (.pointer (some ⟨cb, 0, none⟩)) x38 x39 x40 x41 x42 x43 x44 x45 x46 x47 x48 x49 x50 w :=
  ⟨h.e0, h.e1, fun _ => rfl, h.e3, h.e4, h.e5, h.e6, h.e7, h.e8, h.e9, h.e10, h.e12, h.c11, h.c12, h.c13, h.c14, h.c15, h.e15, h.c16, h.s0, h.s1, h.s2, h.s3, h.s4⟩
theorem G7.t3 (h : G7 wd gb cb rb OLD vK vS vN vD N5 A6 lit b0 b1 b2 false b4 b5 b6 b7 b8 b9 b10 b11 b12 b13 b14 b15 b16 x35 x36 x37 x38 x39 x40 x41 x42 x43 x44 x45 x46 x47 x48 x49 x50 w) : G7 wd gb cb rb OLD vK vS vN vD N5 A6 lit b0 b1 b2 true b4 b5 b6 b7 b8 b9 b10 b11 b12 b13 b14 b15 b16 x35 x36 x37 (vK) x39 x40 x41 x42 x43 x44 x45 x46 x47 x48 x49 x50 w :=
  ⟨h.e0, h.e1, h.e2, fun _ => rfl, h.e4, h.e5, h.e6, h.e7, h.e8, h.e9, h.e10, h.e12, h.c11, fun e => ⟨rfl, (h.c12 e).2.1, (h.c12 e).2.2.1, (h.c12 e).2.2.2⟩, h.c13, h.c14, h.c15, h.e15, h.c16, h.s0, h.s1, h.s2, h.s3, h.s4⟩
theorem G7.t4 (h : G7 wd gb cb rb OLD vK vS vN vD N5 A6 lit b0 b1 b2 b3 false b5 b6 b7 b8 b9 b10 b11 b12 b13 b14 b15 b16 x35 x36 x37 x38 x39 x40 x41 x42 x43 x44 x45 x46 x47 x48 x49 x50 w) : G7 wd gb cb rb OLD vK vS vN vD N5 A6 lit b0 b1 b2 b3 true b5 b6 b7 b8 b9 b10 b11 b12 b13 b14 b15 b16 x35 x36 x37 x38 (.pointer (some ⟨cb, 2, none⟩)) x40 x41 x42 x43 x44 x45 x46 x47 x48 x49 x50 w :=
  ⟨h.e0, h.e1, h.e2, h.e3, fun _ => rfl, h.e5, h.e6, h.e7, h.e8, h.e9, h.e10, h.e12, h.c11, h.c12, h.c13, h.c14, h.c15, h.e15, h.c16, h.s0, h.s1, h.s2, h.s3, h.s4⟩
theorem G7.t5 (h : G7 wd gb cb rb OLD vK vS vN vD N5 A6 lit b0 b1 b2 b3 b4 false b6 b7 b8 b9 b10 b11 b12 b13 b14 b15 b16 x35 x36 x37 x38 x39 x40 x41 x42 x43 x44 x45 x46 x47 x48 x49 x50 w) : G7 wd gb cb rb OLD vK vS vN vD N5 A6 lit b0 b1 b2 b3 b4 true b6 b7 b8 b9 b10 b11 b12 b13 b14 b15 b16 x35 x36 x37 x38 x39 (vS) x41 x42 x43 x44 x45 x46 x47 x48 x49 x50 w :=
  ⟨h.e0, h.e1, h.e2, h.e3, h.e4, fun _ => rfl, h.e6, h.e7, h.e8, h.e9, h.e10, h.e12, h.c11, fun e => ⟨(h.c12 e).1, rfl, (h.c12 e).2.2.1, (h.c12 e).2.2.2⟩, h.c13, h.c14, h.c15, h.e15, h.c16, h.s0, h.s1, h.s2, h.s3, h.s4⟩
theorem G7.t6 (h : G7 wd gb cb rb OLD vK vS vN vD N5 A6 lit b0 b1 b2 b3 b4 b5 false b7 b8 b9 b10 b11 b12 b13 b14 b15 b16 x35 x36 x37 x38 x39 x40 x41 x42 x43 x44 x45 x46 x47 x48 x49 x50 w) : G7 wd gb cb rb OLD vK vS vN vD N5 A6 lit b0 b1 b2 b3 b4 b5 true b7 b8 b9 b10 b11 b12 b13 b14 b15 b16 x35 x36 x37 x38 x39 x40 (.pointer (some ⟨cb, 3, none⟩)) x42 x43 x44 x45 x46 x47 x48 x49 x50 w :=
  ⟨h.e0, h.e1, h.e2, h.e3, h.e4, h.e5, fun _ => rfl, h.e7, h.e8, h.e9, h.e10, h.e12, h.c11, h.c12, h.c13, h.c14, h.c15, h.e15, h.c16, h.s0, h.s1, h.s2, h.s3, h.s4⟩
theorem G7.t7 (h : G7 wd gb cb rb OLD vK vS vN vD N5 A6 lit b0 b1 b2 b3 b4 b5 b6 false b8 b9 b10 b11 b12 b13 b14 b15 b16 x35 x36 x37 x38 x39 x40 x41 x42 x43 x44 x45 x46 x47 x48 x49 x50 w) : G7 wd gb cb rb OLD vK vS vN vD N5 A6 lit b0 b1 b2 b3 b4 b5 b6 true b8 b9 b10 b11 b12 b13 b14 b15 b16 x35 x36 x37 x38 x39 x40 x41 (vN) x43 x44 x45 x46 x47 x48 x49 x50 w :=
  ⟨h.e0, h.e1, h.e2, h.e3, h.e4, h.e5, h.e6, fun _ => rfl, h.e8, h.e9, h.e10, h.e12, h.c11, fun e => ⟨(h.c12 e).1, (h.c12 e).2.1, rfl, (h.c12 e).2.2.2⟩, h.c13, h.c14, h.c15, h.e15, h.c16, h.s0, h.s1, h.s2, h.s3, h.s4⟩
theorem G7.t8 (h : G7 wd gb cb rb OLD vK vS vN vD N5 A6 lit b0 b1 b2 b3 b4 b5 b6 b7 false b9 b10 b11 b12 b13 b14 b15 b16 x35 x36 x37 x38 x39 x40 x41 x42 x43 x44 x45 x46 x47 x48 x49 x50 w) : G7 wd gb cb rb OLD vK vS vN vD N5 A6 lit b0 b1 b2 b3 b4 b5 b6 b7 true b9 b10 b11 b12 b13 b14 b15 b16 x35 x36 x37 x38 x39 x40 x41 x42 (.pointer (some ⟨rb, 0, none⟩)) x44 x45 x46 x47 x48 x49 x50 w :=
  ⟨h.e0, h.e1, h.e2, h.e3, h.e4, h.e5, h.e6, h.e7, fun _ => rfl, h.e9, h.e10, h.e12, h.c11, h.c12, h.c13, h.c14, h.c15, h.e15, h.c16, h.s0, h.s1, h.s2, h.s3, h.s4⟩
theorem G7.t9 (h : G7 wd gb cb rb OLD vK vS vN vD N5 A6 lit b0 b1 b2 b3 b4 b5 b6 b7 b8 false b10 b11 b12 b13 b14 b15 b16 x35 x36 x37 x38 x39 x40 x41 x42 x43 x44 x45 x46 x47 x48 x49 x50 w) : G7 wd gb cb rb OLD vK vS vN vD N5 A6 lit b0 b1 b2 b3 b4 b5 b6 b7 b8 true b10 b11 b12 b13 b14 b15 b16 x35 x36 x37 x38 x39 x40 x41 x42 x43 (.pointer (some ⟨cb, 4, none⟩)) x45 x46 x47 x48 x49 x50 w :=
  ⟨h.e0, h.e1, h.e2, h.e3, h.e4, h.e5, h.e6, h.e7, h.e8, fun _ => rfl, h.e10, h.e12, h.c11, h.c12, h.c13, h.c14, h.c15, h.e15, h.c16, h.s0, h.s1, h.s2, h.s3, h.s4⟩
theorem G7.t10 (h : G7 wd gb cb rb OLD vK vS vN vD N5 A6 lit b0 b1 b2 b3 b4 b5 b6 b7 b8 b9 false b11 b12 b13 b14 b15 b16 x35 x36 x37 x38 x39 x40 x41 x42 x43 x44 x45 x46 x47 x48 x49 x50 w) : G7 wd gb cb rb OLD vK vS vN vD N5 A6 lit b0 b1 b2 b3 b4 b5 b6 b7 b8 b9 true b11 b12 b13 b14 b15 b16 x35 x36 x37 x38 x39 x40 x41 x42 x43 x44 (vD) x46 x47 x48 x49 x50 w :=
  ⟨h.e0, h.e1, h.e2, h.e3, h.e4, h.e5, h.e6, h.e7, h.e8, h.e9, fun _ => rfl, h.e12, fun _ => rfl, h.c12, h.c13, h.c14, h.c15, h.e15, h.c16, h.s0, h.s1, h.s2, h.s3, h.s4⟩
theorem G7.no12 (h : G7 wd gb cb rb OLD vK vS vN vD N5 A6 lit b0 b1 b2 b3 b4 b5 b6 b7 b8 b9 b10 false b12 b13 b14 b15 b16 x35 x36 x37 x38 x39 x40 x41 x42 x43 x44 x45 x46 x47 x48 x49 x50 w) : b12 = false ∧ b13 = false ∧ b14 = false ∧ b15 = false ∧ b16 = false := by
  have k2 : b12 = false := by cases e : b12 with | false => rfl | true => exact absurd (h.c12 e).2.2.2 (by simp)
  have k3 : b13 = false := by cases e : b13 with | false => rfl | true => rw [h.c13 e] at k2; cases k2
  have k4 : b14 = false := by cases e : b14 with | false => rfl | true => rw [(h.c14 e).2] at k3; cases k3
  have k5 : b15 = false := by cases e : b15 with | false => rfl | true => rw [h.c15 e] at k4; cases k4
  exact ⟨k2, k3, k4, k5, by cases e : b16 with | false => rfl | true => rw [h.c16 e] at k5; cases k5⟩
theorem G7.t11 (h : G7 wd gb cb rb OLD vK vS vN vD N5 A6 lit b0 b1 b2 b3 b4 b5 b6 b7 b8 b9 true false b12 b13 b14 b15 b16 x35 x36 x37 x38 x39 x40 x41 x42 x43 x44 x45 x46 x47 x48 x49 x50 w) {x : Value} (hN : N5 x w') : G7 wd gb cb rb OLD vK vS vN vD N5 A6 lit b0 b1 b2 b3 b4 b5 b6 b7 b8 b9 true true b12 b13 b14 b15 b16 x35 x36 x37 x38 x39 x40 x41 x42 x43 x44 x45 x x47 x48 x49 x50 w' := by
  obtain ⟨rfl, rfl, rfl, rfl, rfl⟩ := h.no12
  exact ⟨h.e0, h.e1, h.e2, h.e3, h.e4, h.e5, h.e6, h.e7, h.e8, h.e9, h.e10, nofun, fun _ => rfl, nofun, nofun, nofun, nofun, nofun, nofun, nofun, fun _ _ => hN, nofun, nofun, nofun⟩
theorem G7.no13 (h : G7 wd gb cb rb OLD vK vS vN vD N5 A6 lit b0 b1 b2 b3 b4 b5 b6 b7 b8 b9 b10 b11 false b13 b14 b15 b16 x35 x36 x37 x38 x39 x40 x41 x42 x43 x44 x45 x46 x47 x48 x49 x50 w) : b13 = false ∧ b14 = false ∧ b15 = false ∧ b16 = false := by
  have k3 : b13 = false := by cases e : b13 with | false => rfl | true => exact absurd (h.c13 e) (by simp)
  have k4 : b14 = false := by cases e : b14 with | false => rfl | true => rw [(h.c14 e).2] at k3; cases k3
  have k5 : b15 = false := by cases e : b15 with | false => rfl | true => rw [h.c15 e] at k4; cases k4
  exact ⟨k3, k4, k5, by cases e : b16 with | false => rfl | true => rw [h.c16 e] at k5; cases k5⟩
theorem G7.t12 (h : G7 wd gb cb rb OLD vK vS vN vD N5 A6 lit b0 b1 b2 true b4 true b6 true b8 b9 b10 true false b13 b14 b15 b16 x35 x36 x37 x38 x39 x40 x41 x42 x43 x44 x45 x46 x47 x48 x49 x50 w) : G7 wd gb cb rb OLD vK vS vN vD N5 A6 lit b0 b1 b2 true b4 true b6 true b8 b9 b10 true true b13 b14 b15 b16 x35 x36 x37 x38 x39 x40 x41 x42 x43 x44 x45 x46 (.agg #[vK, vS, vN, x46]) x48 x49 x50 w := by
  obtain ⟨rfl, rfl, rfl, rfl⟩ := h.no13
  exact ⟨h.e0, h.e1, h.e2, h.e3, h.e4, h.e5, h.e6, h.e7, h.e8, h.e9, h.e10, fun _ => rfl, h.c11, fun _ => ⟨rfl, rfl, rfl, rfl⟩, nofun, nofun, nofun, nofun, nofun, nofun, fun _ _ => h.s1 rfl rfl, nofun, nofun, nofun⟩
theorem G7.t13 (h : G7 wd gb cb rb OLD vK vS vN vD N5 A6 lit b0 b1 b2 b3 b4 b5 b6 b7 b8 b9 b10 b11 true false b14 b15 b16 x35 x36 x37 x38 x39 x40 x41 x42 x43 x44 x45 x46 x47 x48 x49 x50 w) : G7 wd gb cb rb OLD vK vS vN vD N5 A6 lit b0 b1 b2 b3 b4 b5 b6 b7 b8 b9 b10 b11 true true b14 b15 b16 x35 x36 x37 x38 x39 x40 x41 x42 x43 x44 x45 x46 x47 (.slice (some ⟨w.heap.size, 0, none⟩) 1 1) x49 x50 (w.alloc (lit x46)) := by
  have k4 : b14 = false := by cases e : b14 with | false => rfl | true => exact absurd (h.c14 e).2 (by simp)
  have k5 : b15 = false := by cases e : b15 with | false => rfl | true => rw [h.c15 e] at k4; cases k4
  have k6 : b16 = false := by cases e : b16 with | false => rfl | true => rw [h.c16 e] at k5; cases k5
  have k1 := (h.c12 rfl).2.2.2
  subst k4 k5 k6 k1
  exact ⟨h.e0, h.e1, h.e2, h.e3, h.e4, h.e5, h.e6, h.e7, h.e8, h.e9, h.e10, h.e12, h.c11, h.c12, fun _ => rfl, nofun, nofun, nofun, nofun, nofun, nofun, fun _ _ => ⟨w, h.s1 rfl rfl, rfl, rfl⟩, nofun, nofun⟩
theorem G7.t14 (h : G7 wd gb cb rb OLD vK vS vN vD N5 A6 lit b0 true b2 b3 b4 b5 b6 b7 b8 b9 b10 b11 b12 true false b15 b16 x35 x36 x37 x38 x39 x40 x41 x42 x43 x44 x45 x46 x47 x48 x49 x50 w) {v : Value} (hA : A6 v w') : G7 wd gb cb rb OLD vK vS vN vD N5 A6 lit b0 true b2 b3 b4 b5 b6 b7 b8 b9 b10 b11 b12 true true b15 b16 x35 x36 x37 x38 x39 x40 x41 x42 x43 x44 x45 x46 x47 x48 v x50 w' := by
  have k5 : b15 = false := by cases e : b15 with | false => rfl | true => exact absurd (h.c15 e) (by simp)
  have k6 : b16 = false := by cases e : b16 with | false => rfl | true => rw [h.c16 e] at k5; cases k5
  have k2 := h.c13 rfl
  have k1 := (h.c12 k2).2.2.2
  subst k5 k6 k1
  exact ⟨h.e0, h.e1, h.e2, h.e3, h.e4, h.e5, h.e6, h.e7, h.e8, h.e9, h.e10, h.e12, h.c11, h.c12, h.c13, fun _ => ⟨rfl, rfl⟩, nofun, nofun, nofun, nofun, nofun, nofun, fun _ _ => hA, nofun⟩
theorem G7.t15 (h : G7 wd gb cb rb OLD vK vS vN vD N5 A6 lit b0 b1 b2 b3 b4 b5 b6 b7 b8 b9 b10 b11 b12 b13 true false b16 x35 x36 x37 x38 x39 x40 x41 x42 x43 x44 x45 x46 x47 x48 x49 x50 w) : G7 wd gb cb rb OLD vK vS vN vD N5 A6 lit b0 b1 b2 b3 b4 b5 b6 b7 b8 b9 b10 b11 b12 b13 true true b16 x35 x36 x37 x38 x39 x40 x41 x42 x43 x44 x45 x46 x47 x48 x49 (.pointer (some ⟨gb, 0, none⟩)) w := by
  exact ⟨h.e0, h.e1, h.e2, h.e3, h.e4, h.e5, h.e6, h.e7, h.e8, h.e9, h.e10, h.e12, h.c11, h.c12, h.c13, h.c14, fun _ => rfl, fun _ => rfl, fun _ => rfl, h.s0, h.s1, h.s2, h.s3, h.s4⟩
theorem G7.t16 (h : G7 wd gb cb rb OLD vK vS vN vD N5 A6 lit b0 b1 b2 b3 b4 b5 b6 b7 b8 b9 b10 b11 b12 b13 true true false x35 x36 x37 x38 x39 x40 x41 x42 x43 x44 x45 x46 x47 x48 x49 x50 w) : G7 wd gb cb rb OLD vK vS vN vD N5 A6 lit b0 b1 b2 b3 b4 b5 b6 b7 b8 b9 b10 b11 b12 b13 true true true x35 x36 x37 x38 x39 x40 x41 x42 x43 x44 x45 x46 x47 x48 x49 x50 (w.setCell ⟨gb, 0, none⟩ x49) := by
  have k3 := (h.c14 rfl).2
  have k2 := h.c13 k3
  have k1 := (h.c12 k2).2.2.2
  subst k3 k1
  exact ⟨h.e0, h.e1, h.e2, h.e3, h.e4, h.e5, h.e6, h.e7, h.e8, h.e9, h.e10, h.e12, h.c11, h.c12, h.c13, h.c14, fun _ => rfl, h.e15, fun _ => rfl, nofun, nofun, nofun, nofun, fun _ => ⟨w, h.s3 rfl rfl, rfl⟩⟩
end
section
variable {wd w : World} {gb cb rb : Nat} {OLD vK vS vN vD : Value} {N5 A6 : Value → World → Prop} {lit : Value → Obj} {b0 b1 b2 b3 b4 b5 b6 b7 b8 b9 b10 b11 b12 b13 b14 b15 b16 : Bool} {x35 x36 x37 x38 x39 x40 x41 x42 x43 x44 x45 x46 x47 x48 x49 x50 : Value}
/-- What a load reads, while the answer has not been appended. -/
theorem G7.old (h : G7 wd gb cb rb OLD vK vS vN vD N5 A6 lit b0 false b2 b3 b4 b5 b6 b7 b8 b9 b10 b11 b12 b13 b14 b15 b16 x35 x36 x37 x38 x39 x40 x41 x42 x43 x44 x45 x46 x47 x48 x49 x50 w) {p : Addr} {v : Value} (h0 : wd.cell? p = some v) (h1 : ∀ x w, N5 x w → w.cell? p = some v) : w.cell? p = some v := by
  have k4 : b14 = false := by cases e : b14 with | false => rfl | true => exact absurd (h.c14 e).1 (by simp)
  cases e1 : b11 with
  | false => rw [h.s0 e1]; exact h0
  | true =>
    cases e3 : b13 with
    | false => exact h1 _ _ (h.s1 e1 e3)
    | true =>
      obtain ⟨w5, hN, _, rfl⟩ := h.s2 e3 k4
      have h2 := h1 _ _ hN
      rw [World.cell?_alloc_lt _ _ _ (World.block_lt_of_cell? w5 p h2)]
      exact h2
theorem G7.loc (h : G7 wd gb cb rb OLD vK vS vN vD N5 A6 lit b0 b1 b2 b3 b4 b5 b6 b7 b8 b9 b10 b11 false b13 b14 b15 b16 x35 x36 x37 x38 x39 x40 x41 x42 x43 x44 x45 x46 x47 x48 x49 x50 w) {p : Addr} {v : Value} (h0 : wd.cell? p = some v) (h1 : ∀ x w, N5 x w → w.cell? p = some v) : w.cell? p = some v := by
  obtain ⟨k3, _⟩ := h.no13
  cases e1 : b11 with
  | false => rw [h.s0 e1]; exact h0
  | true => exact h1 _ _ (h.s1 e1 k3)
end
theorem gset7 (l : Array Bool) (i j : Nat) (hl : l.size = 17) (hi : i < 17) : (l.setIfInBounds i true).getD j false = if i = j then true else l.getD j false := by
  simp only [Array.getD_eq_getD_getElem?, Array.getElem?_setIfInBounds]
  split
  · rename_i e
    rw [if_pos (by omega)]
    rfl
  · rfl
theorem gopp7 {l : Array Bool} {i : Nat} (hl : l.size = 17) (hi : i < 17) : l.getD i false = l.getD i true := by
  have h : i < l.size := by omega
  simp [Array.getD_eq_getD_getElem?, h]
theorem none7 {md : Region.Mode} {ops : Array Oper} {l : Array Bool} (h : Region.ready md ops l = []) {i : Nat} (hi : i < ops.size) (hd : ((ops[i]?).map (·.after.all fun e => !Region.binds md e || l.getD e.on false)).getD false = true) : l.getD i true = true := by
  cases e : l.getD i true with
  | true => rfl
  | false =>
    have : i ∈ Region.ready md ops l := by
      unfold Region.ready
      refine List.mem_filter.2 ⟨List.mem_range.2 hi, ?_⟩
      rw [Bool.and_eq_true, e]
      exact ⟨rfl, hd⟩
    rw [h] at this
    cases this
end Go.Proofs.YtnoggmeffindbabGreatDoor

/- Package cells: 'read'. -/
namespace Go.Proofs.YtnoggmeffindbabGreatDoor
open Go.RowKit Go.Maps

theorem rg_form {w : World} {B rb hb mq : Nat} {tv : Value} {TS : List Int} (h : Rg w B rb hb tv mq TS) : ∃ ta tc, tv = .slice ta TS.length tc := by
  rcases h.own.2 with ⟨e, hn0⟩ | ⟨g, cap, cur, e, _⟩
  · exact ⟨none, 0, by rw [e, hn0]⟩
  · exact ⟨_, cap, e⟩
/-- A term, where it lies. -/
theorem rg_at {w : World} {B rb hb mq : Nat} {ta : Option Addr} {tc : Nat} {TS : List Int} (h : Rg w B rb hb (.slice ta TS.length tc) mq TS) {k : Nat} (hk : k < TS.length) : ∃ q, ta = some ⟨q, 0, none⟩ ∧ w.cell? ⟨q, k, none⟩ = some (.int .u64 (TS.getD k 0)) := by
  rcases h.own.2 with ⟨_, hn0⟩ | ⟨g, cap, cur, e, _⟩
  · omega
  · injection e with e _ _
    subst e
    refine ⟨g, rfl, ?_⟩
    rw [h.own.cellAt k (by omega)]
    simp [List.getD, hk]
section
variable {W wq : World} {Bh hb ab tb rb mq gb : Nat} {m : Int} {av : Value} {l : List Int} {htv : Value} {tq : Nat} {ns : List ByteArray} {trv ptv : Value} {n : Int} {V : Nat → Bool} {tv nv rv : Value} {TS : List Int} {avs : List Value} {nds : List Nd} {rts : List Int}
theorem nodes_rx (hX : Rx W wq hb rb mq gb tv nv rv TS avs nds rts) (hH : Hp W Bh hb ab tb m av l htv tq ns trv ptv n) (hs : Snd l V) {ao : Option Addr} {c B' : Nat} {ds : List Int} (hd : wq.ownsRow B' 3 1 (.slice ao ds.length c) ds.length (ds.map (Value.int .i64))) (hds : ∀ x ∈ ds, 0 ≤ x ∧ x < (l.length : Int)) (hl : ds.length ≤ 5000) (hTl : TS.length ≤ 70000) :
    Calls Tryz.prog 96 #[.pointer (some ⟨rb, 0, none⟩), .slice ao ds.length c] wq fun e w' => ∃ ao' c' ta' tc', e = .returned (.slice ao' ds.length c') ∧ w'.ownsRow wq.heap.size 3 1 (.slice ao' ds.length c') ds.length ((ds.map (fun c => posF (addsJ l ds TS ds.length) (tmC l c))).map (Value.int .i64)) ∧ Rg w' (W.heap.size + 1) rb hb (.slice ta' (addsJ l ds TS ds.length).length tc') mq (addsJ l ds TS ds.length) ∧ a_Mod (r_foot rb tv mq) wq w' := by
  have hf : ∀ k ∈ r_foot rb tv mq, W.heap.size ≤ k := fun k hk => by
    rcases r_mem_foot.1 hk with e | e | e
    · have := hX.r.base
      omega
    · have := hX.r.mb
      omega
    · have := (hX.r.own.lt k e).1
      omega
  have hz := lt_of_block hX.x
  refine (nodes_any hX.r (by omega) (fun w' h => hH.below (hX.b.trans (h.below hf (by omega)))) hs (fun w' h => ri_own (row_keep hd (fun k hk => h.block k (hd.lt k hk).2 (rg_out hX.r hd k hk)))) hds hl hTl).mono ?_
  rintro e w' ⟨ao', c', tv', rfl, h1, h2, h3, _⟩
  obtain ⟨ta', tc', rfl⟩ := rg_form h2
  exact ⟨ao', c', ta', tc', rfl, h1, h2, h3⟩
end
theorem set_farC (w : World) (v : Value) {q i k o : Nat} (h : k ≠ q) : (w.setCell ⟨q, i, none⟩ v).cell? ⟨k, o, none⟩ = w.cell? ⟨k, o, none⟩ := World.cell?_of_block (w := w) (a := ⟨k, o, none⟩) (Below.heap_setCell _ _ _ _ h)
theorem on_far {w w6 : World} {B k : Nat} {nv : Value} {avs : List Value} {nds : List Nd} {o : Obj} {cur : Array Value} {T : TypeId} (hon : On w B nv avs nds) (hk : w.heap[k]? = some (.cells cur T (0, 0))) (hT : T ≠ 88) (hg : (w.alloc o).grownBy w6 nv.ownBlock) : w6.heap[k]? = some (.cells cur T (0, 0)) := by
  rw [hg.block k (by have := lt_of_block hk; simp; omega) (fun e => ?_), Below.heap_alloc _ _ _ (lt_of_block hk)]
  · exact hk
  · obtain ⟨c2, h2⟩ := row_obj hon.n e.symm
    rw [hk] at h2
    injection h2 with h2
    injection h2 with _ h2
    exact hT h2
theorem on_row {w : World} {B k : Nat} {nv : Value} {avs : List Value} {nds : List Nd} (hk : nds.length = k) (h : On w B nv avs nds) : w.ownsRow B 88 4 nv k (ncells nds avs) := by
  rw [← hk]
  exact h.n
theorem rx_step {W w wc w6 : World} {hb rb mq gb k len : Nat} {tv tv' nv rv : Value} {TS TS' : List Int} {avs : List Value} {nds : List Nd} {rts : List Int} {n : Nd} {aa : Option Addr} {ac g cap : Nat} {o : Obj} (hk : nds.length = k) (h : Rx W wc hb rb mq gb tv nv rv TS avs nds rts) (hm : a_Mod (r_foot rb tv mq) wc w) (hR : Rg w (W.heap.size + 1) rb hb tv' mq TS')
    (hlen : n.args.length = len) (ha : w.ownsRow wc.heap.size 3 1 (.slice aa len ac) len (n.args.map (Value.int .i64))) (hg : (w.alloc o).grownBy w6 nv.ownBlock) (hown : w6.ownsRow (W.heap.size + 1) 88 4 (.slice (some ⟨g, 0, none⟩) (k + 1) cap) (k + 1) (ncells nds avs ++ [.int .i64 n.kind, .string n.name, .int .i64 n.num, .slice aa len ac])) (hat : nv.ownBlock = some g ∨ g = w.heap.size + 1) :
    w6.heap[gb]? = some (.cells #[nv, rv] 25) ∧ Rx W (w6.setCell ⟨gb, 0, none⟩ (.slice (some ⟨g, 0, none⟩) (k + 1) cap)) hb rb mq gb tv' (.slice (some ⟨g, 0, none⟩) (k + 1) cap) rv TS' (avs ++ [.slice aa len ac]) (nds ++ [n]) rts := by
  subst hk hlen
  exact Rx.step h hm hR ha hg hown hat
theorem ret_gr1 {w : World} {fn : Func} {t : Tmp} (hfn : fn.results = #[.cell t 25]) {tmps : Array Value} {q : Nat} {u0 u1 : Value} (h4 : tmps[t]?.getD undef = .pointer (some ⟨q, 0, none⟩)) (hq : w.heap[q]? = some (.cells #[u0, u1] 25)) : (results fn tmps).run Tryz.prog w = .ok (.agg #[u0, u1]) w := by
  obtain ⟨⟨z0, z1⟩, _⟩ := cblk2 hq
  simp [results, hfn, go_sem, h4, z0, z1]
theorem rx_gr {W w : World} {hb rb mq gb nc rc : Nat} {tv : Value} {na ro : Option Addr} {l : List Int} {ns : List ByteArray} {cs TS RT : List Int} {avs : List Value} (h : Rx W w hb rb mq gb tv (.slice na TS.length nc) (.slice ro cs.length rc) TS avs (rdN l ns TS TS.length) RT) (hRT : RT = cs.map (fun c => posF TS (tmC l c))) {v0 v1 : Value} :
    Gr ((w.setCell ⟨W.heap.size, 0, none⟩ v0).setCell ⟨W.heap.size, 1, none⟩ v1) (.slice na TS.length nc) (.slice ro cs.length rc) (rdG l ns cs TS) := by
  have hk : ∀ k, W.heap.size + 1 ≤ k → ((w.setCell ⟨W.heap.size, 0, none⟩ v0).setCell ⟨W.heap.size, 1, none⟩ v1).heap[k]? = w.heap[k]? := fun k hk => by
    rw [Below.heap_setCell _ _ _ _ (by show k ≠ W.heap.size; omega), Below.heap_setCell _ _ _ _ (by show k ≠ W.heap.size; omega)]
  have hon := h.on.keep (w' := (w.setCell ⟨W.heap.size, 0, none⟩ v0).setCell ⟨W.heap.size, 1, none⟩ v1) (fun k hk2 => hk k (h.on.lt k hk2).1)
  have hro := row_keep (w' := (w.setCell ⟨W.heap.size, 0, none⟩ v0).setCell ⟨W.heap.size, 1, none⟩ v1) h.ro (fun k hk2 => hk k (h.ro.lt k hk2).1)
  have hl : (rdN l ns TS TS.length).length = TS.length := by simp [rdN]
  have hlr : RT.length = cs.length := by rw [hRT]; simp
  refine ⟨?_, ?_⟩
  · have h1 := On.rn (ao := na) (c := nc) (by rw [hl]; exact hon)
    rw [hl] at h1
    exact h1
  · have h2 := ri_own (ao := ro) (c := rc) (L := RT) (by rw [hlr] at hro ⊢; exact hro)
    rw [hlr, hRT] at h2
    exact h2
section
variable {W : World} {Bh hb ab tb : Nat} {m : Int} {av : Value} {l : List Int} {htv : Value} {tq : Nat} {ns : List ByteArray} {trv ptv : Value} {n : Int} {V : Nat → Bool}
set_option maxRecDepth 100000 in
set_option maxHeartbeats 16000000 in
theorem read_any (hH : Hp W Bh hb ab tb m av l htv tq ns trv ptv n) (hs : Snd l V) (hn : NsB l ns.length) {cv : Value} {cs : List Int} (hC : Ri W cv cs) (hcs : ∀ x ∈ cs, 0 ≤ x ∧ x < (l.length : Int)) (hl : cs.length ≤ 5000) :
    Calls Tryz.prog 50 #[.pointer (some ⟨hb, 0, none⟩), cv] W fun e w' => (∃ nv rv TS, e = .returned (.agg #[nv, rv]) ∧ Gr w' nv rv (rdG l ns cs TS) ∧ Rfi l cs TS) ∧ Below W.heap.size W w' := by
  obtain ⟨i1, hi1, hy0, hy1, hy2⟩ := info_parts infoN
  have hl6 : l.length ≤ 65536 := by
    have h1 := hH.ar.len
    have h2 := hH.ar.m2
    omega
  have hmm := @run_makeMap Tryz.prog
  have hb0 := below_alloc W (.cells #[.slice none 0 0, .slice none 0 0] 25)
  have hb1 := Below.next hb0 (below_alloc _ (.map #[] 0))
  have hb2 := Below.next hb1 (below_alloc _ (.cells #[.pointer (some ⟨hb, 0, none⟩), .slice none 0 0, .map (some (W.heap.size + 1))] 157))
  obtain ⟨x0, x1, x2⟩ := alloc3 W (.cells #[.slice none 0 0, .slice none 0 0] 25) (.map #[] 0) (.cells #[.pointer (some ⟨hb, 0, none⟩), .slice none 0 0, .map (some (W.heap.size + 1))] 157)
  have hom := (World.ownsMap_made (W.alloc (.cells #[.slice none 0 0, .slice none 0 0] 25)) Tryz.prog 57 (plainElem (H := Unit) Tryz.prog 3)).alloc (.cells #[.pointer (some ⟨hb, 0, none⟩), .slice none 0 0, .map (some (W.heap.size + 1))] 157)
  rw [show (W.alloc (.cells #[.slice none 0 0, .slice none 0 0] 25)).heap.size = W.heap.size + 1 by simp] at hom
  have hR0 : Rg (((W.alloc (.cells #[.slice none 0 0, .slice none 0 0] 25)).alloc (.map #[] 0)).alloc (.cells #[.pointer (some ⟨hb, 0, none⟩), .slice none 0 0, .map (some (W.heap.size + 1))] 157)) (W.heap.size + 1) (W.heap.size + 2) hb (.slice none 0 0) (W.heap.size + 1) [] :=
    ⟨x2, by omega, World.ownsRow_nil _ _ _ _, Nat.le_refl _, ⟨_, hom, mapT_nil⟩, List.nodup_nil, fun _ hx => by cases hx⟩
  have hfo : ∀ k ∈ r_foot (W.heap.size + 2) (.slice none 0 0) (W.heap.size + 1), W.heap.size ≤ k := fun k hk => by
    rcases r_mem_foot.1 hk with e | e | e
    · omega
    · omega
    · cases e
  have hnd := hid (nodes_any hR0 (by first | (simp; done) | (simp; omega)) (fun w' h => hH.below (hb2.trans (h.below hfo (by first | (simp; done) | (simp; omega))))) hs (cv := cv) (fun w' h => hC.below (hb2.trans (h.below hfo (by first | (simp; done) | (simp; omega))))) hcs hl (by simp))
  have HH := hid hH
  have HS := hid hs
  have Hn := hid hn
  have Hcs := hid hcs
  have hRz : Hid (∀ w1 : World, a_Mod (r_foot (W.heap.size + 2) (.slice none 0 0) (W.heap.size + 1)) (((W.alloc (.cells #[.slice none 0 0, .slice none 0 0] 25)).alloc (.map #[] 0)).alloc (.cells #[.pointer (some ⟨hb, 0, none⟩), .slice none 0 0, .map (some (W.heap.size + 1))] 157)) w1 → Below W.heap.size W w1 ∧ w1.heap[W.heap.size]? = some (.cells #[.slice none 0 0, .slice none 0 0] 25)) := fun w1 h => by
    have h1 := h.below hfo (by first | (simp; done) | (simp; omega))
    have h2 : Below (W.heap.size + 1) _ w1 := h.below (fun k hk => by
      rcases r_mem_foot.1 hk with e | e | e
      · omega
      · omega
      · cases e) (by first | (simp; done) | (simp; omega))
    exact ⟨hb2.trans h1, (h2.block _ (by omega)).trans x0⟩
  clear hH hs hn hcs hC hb0 hb1 hb2 x0 x1 x2 hom hR0 hfo
  go_enter Tryz.func50, Tryz.ntmps50
  go_wp2_with (go_at_call 96; refine hnd.out.mono ?_; rintro e w1 ⟨ro, rc, tv1, rfl, ho1, hR1, hm1, _⟩; have HO1 := hid ho1; have HR1 := hid hR1; have HZ1 := hid (hRz.out w1 hm1); clear ho1 hR1 hm1)
  obtain ⟨ta0, tc0, e0⟩ := rg_form HR1.out
  subst e0
  have hT1 := hid (Rfi.start HS.out Hcs.out)
  have hX1 : Hid (Rx W (w1.alloc (.cells #[.slice none 0 0, .slice ro cs.length rc] 25)) hb (W.heap.size + 2) (W.heap.size + 1) w1.heap.size (.slice ta0 (addsJ l cs [] cs.length).length tc0) (.slice none 0 0) (.slice ro cs.length rc) (addsJ l cs [] cs.length) [] (rdN l ns (addsJ l cs [] cs.length) 0) (cs.map (fun c => posF (addsJ l cs [] cs.length) (tmC l c)))) := by
    have hbl := below_alloc w1 (.cells #[.slice none 0 0, .slice ro cs.length rc] 25)
    have hz1 := lt_of_block HZ1.out.2
    refine ⟨Below.next HZ1.out.1 hbl, (hbl.block _ hz1).trans HZ1.out.2, HR1.out.below hbl, heap_alloc_new _ _, by omega, On.nil _ _, ?_⟩
    rw [List.length_map]
    exact own_base (row_keep HO1.out (fun k hk => hbl.block k (HO1.out.lt k hk).2)) (by first | (simp; done) | (simp; omega))
  obtain ⟨T0, hT0⟩ : ∃ T0, T0 = addsJ l cs [] cs.length := ⟨_, rfl⟩
  rw [← hT0] at hX1 hT1
  obtain ⟨RT, hRT⟩ : ∃ RT, RT = cs.map (fun c => posF T0 (tmC l c)) := ⟨_, rfl⟩
  rw [← hRT] at hX1
  have HRT := hid hRT
  clear hRT hT0 hnd HR1 HO1 hRz
  go_loopw [7, 8] (fun i _ wr => ∃ (k : Nat) (ta : Option Addr) (tc : Nat) (na : Option Addr) (nc : Nat) (TS : List Int) (avs : List Value), i = .int .i64 (k : Int) ∧ k ≤ TS.length ∧ Hid (Rx W wr hb (W.heap.size + 2) (W.heap.size + 1) w1.heap.size (.slice ta TS.length tc) (.slice na k nc) (.slice ro cs.length rc) TS avs (rdN l ns TS k) RT) ∧ Hid (Rmi l cs TS k) ∧ Hid (RT = cs.map (fun c => posF TS (tmC l c)))) (fun i _ _ => l.length - (intOf i).toNat)
  case atStart => exact ⟨0, ta0, tc0, none, 0, T0, [], rfl, Nat.zero_le _, hX1, hT1, HRT⟩
  case round =>
    clear hX1 hT1 HRT HZ1
    obtain ⟨k, ta, tc, na, nc, TS, avs, rfl, hk, hX, hM, hRT⟩ := hrel
    obtain ⟨⟨r0, r1, r2⟩, _⟩ := hX.out.r.cells
    have zr := hX.out.r.lt.1
    obtain ⟨⟨g0, g1⟩, gf, _⟩ := cblk2 hX.out.g
    have zg := lt_of_block hX.out.g
    have hTl := inT_len hM.out.inT hM.out.nodup
    by_cases hlt : k < TS.length
    · have hki : (k : Int) < (TS.length : Int) := by omega
      obtain ⟨q, hq, t0⟩ := rg_at hX.out.r hlt
      subst hq
      have zt := lt_of_cell t0
      have hin := hM.out.inT _ (getD_mem hlt)
      have hMs := hid (Rmi.step HS.out Hn.out hl6 hM.out hlt)
      have hst := hid (rd_step (ns := ns) hM.out.cl hlt)
      have hnl : (rdN l ns TS k).length = k := by simp [rdN]; omega
      have hTw : Hid (Tw l ns (TS.getD k 0)) := by
        obtain ⟨j, hj, e⟩ := hin
        rw [e]
        exact trm_tw HS.out Hn.out hl6 hj
      generalize TS.getD k 0 = t at *
      have htd := hid (fun w2 (hbb : Below wr.heap.size wr w2) => ctold_any (HH.out.below (Below.next hX.out.b hbb)) t hTw.out)
      have hds := hid (args_ok HS.out hTw.out)
      have hd8 := args_eight hTw.out
      have hndt : Hid (ndT l ns (addsJ l (tdL l t) TS (tdL l t).length) t = ⟨tdK t, tdS l ns t, tdN t, (tdL l t).map (fun c => posF (addsJ l (tdL l t) TS (tdL l t).length) (tmC l c))⟩) := rfl
      generalize tdL l t = DS at *
      generalize tdK t = tK at *
      generalize tdA t = tA at *
      generalize tdS l ns t = tS at *
      generalize tdN t = tN at *
      have hpre : Hid (TS <+: addsJ l DS TS DS.length) := adds_le (Nat.zero_le _)
      generalize hTSe : addsJ l DS TS DS.length = TS' at *
      clear hin
      go_wp2_with (go_at_call 51; refine (htd.out _ (Below.refl _ _)).mono ?_; rintro e w2 ⟨⟨da, dc, rfl, hd⟩, hb2⟩; have HD := hid hd; have HX2 := hid (hX.out.next hb2); clear hd hb2)
      have hbc := below_alloc w2 (.cells #[.int .i64 tK, .int .i64 tA, .string tS, .int .i64 tN, .slice da DS.length dc] 45)
      have HXc := hid ((HX2.out.next hbc).next (Below.refl _ _).drew)
      have HCc := hid (show (w2.alloc (.cells #[.int .i64 tK, .int .i64 tA, .string tS, .int .i64 tN, .slice da DS.length dc] 45)).drew.heap[w2.heap.size]? = some (.cells #[.int .i64 tK, .int .i64 tA, .string tS, .int .i64 tN, .slice da DS.length dc] 45) from heap_alloc_new w2 _)
      have hrow := hid (show (w2.alloc (.cells #[.int .i64 tK, .int .i64 tA, .string tS, .int .i64 tN, .slice da DS.length dc] 45)).drew.ownsRow _ 3 1 (.slice da DS.length dc) DS.length (DS.map (Value.int .i64)) from row_keep HD.out (fun q hq => hbc.block q (HD.out.lt q hq).2))
      refine wp_region_any (by kernel_rfl) ?_
      change wpAny _ _ _ _ _ _ _ (w2.alloc (.cells #[.int .i64 tK, .int .i64 tA, .string tS, .int .i64 tN, .slice da DS.length dc] 45)).drew
      generalize (w2.alloc (.cells #[.int .i64 tK, .int .i64 tA, .string tS, .int .i64 tN, .slice da DS.length dc] 45)).drew = wd at *
      obtain ⟨⟨c0, _, c2, c3, c4⟩, _, cz⟩ := cel_cells HCc.out
      obtain ⟨⟨G0, _⟩, GF, _⟩ := cblk2 HXc.out.g
      have hnr := hid (nodes_rx HXc.out HH.out HS.out hrow.out hds.out (by omega) (by omega))
      rw [hTSe] at hnr
      have n5g : ∀ x w5, (fun (x : Value) (w5 : World) => ∃ oa oc ta' tc', x = .slice oa DS.length oc ∧ w5.ownsRow wd.heap.size 3 1 (.slice oa DS.length oc) DS.length ((DS.map (fun c => posF TS' (tmC l c))).map (Value.int .i64)) ∧ Rg w5 (W.heap.size + 1) (W.heap.size + 2) hb (.slice ta' TS'.length tc') (W.heap.size + 1) TS' ∧ a_Mod (r_foot (W.heap.size + 2) (.slice (some ⟨q, 0, none⟩) TS.length tc) (W.heap.size + 1)) wd w5) x w5 → w5.cell? ⟨w1.heap.size, 0, none⟩ = some (.slice na k nc) := fun x w5 hN => by
        obtain ⟨oa, oc, ta', tc', _, _, h2, h3⟩ := hN
        exact (cblk2 (HXc.out.terms h3 h2).g).1.1
      have n5c : ∀ x w5, (fun (x : Value) (w5 : World) => ∃ oa oc ta' tc', x = .slice oa DS.length oc ∧ w5.ownsRow wd.heap.size 3 1 (.slice oa DS.length oc) DS.length ((DS.map (fun c => posF TS' (tmC l c))).map (Value.int .i64)) ∧ Rg w5 (W.heap.size + 1) (W.heap.size + 2) hb (.slice ta' TS'.length tc') (W.heap.size + 1) TS' ∧ a_Mod (r_foot (W.heap.size + 2) (.slice (some ⟨q, 0, none⟩) TS.length tc) (W.heap.size + 1)) wd w5) x w5 → w5.heap[w2.heap.size]? = some (.cells #[.int .i64 tK, .int .i64 tA, .string tS, .int .i64 tN, .slice da DS.length dc] 45) := fun x w5 hN => by
        obtain ⟨oa, oc, ta', tc', _, _, h2, h3⟩ := hN
        exact (h3.block _ cz (rg_not HXc.out.r HCc.out (by decide) (by decide))).trans HCc.out
      refine wpAny_inv (fun la a w => la.size = 17 ∧ ∃ x35 x36 x37 x38 x39 x40 x41 x42 x43 x44 x45 x46 x47 x48 x49 x50, a = (⟨#[.pointer (some ⟨hb, 0, none⟩), cv, undef, undef, .pointer (some ⟨W.heap.size, 0, none⟩), .pointer (some ⟨W.heap.size + 1 + 1, 0, none⟩), .pointer (some ⟨w1.heap.size, 0, none⟩), .int .i64 (k : Int), .pointer (some ⟨w2.heap.size, 0, none⟩), .pointer (some ⟨hb, 0, none⟩), .map (some (W.heap.size + 1)), .agg #[.pointer (some ⟨hb, 0, none⟩), .slice none 0 0, .map (some (W.heap.size + 1))], .pointer (some ⟨W.heap.size + 1 + 1, 0, none⟩), .pointer (some ⟨W.heap.size + 1 + 1, 0, none⟩), cv, .slice ro cs.length rc, .agg #[.slice none 0 0, .slice ro cs.length rc], .int .i64 (k : Int), .pointer (some ⟨W.heap.size + 1 + 1, 0, none⟩), .pointer (some ⟨W.heap.size + 1 + 1, 0, none⟩), .pointer (some ⟨W.heap.size + 1 + 1, 1, none⟩), .slice (some ⟨q, 0, none⟩) TS.length tc, .int .i64 (TS.length : Int), .bool true, u24, u25, .pointer (some ⟨hb, 0, none⟩), .pointer (some ⟨W.heap.size + 1 + 1, 0, none⟩), .pointer (some ⟨W.heap.size + 1 + 1, 0, none⟩), .pointer (some ⟨W.heap.size + 1 + 1, 1, none⟩), .slice (some ⟨q, 0, none⟩) TS.length tc, .int .i64 (k : Int), .pointer (some ⟨q, k, none⟩), .int .u64 t, .agg #[.int .i64 tK, .int .i64 tA, .string tS, .int .i64 tN, .slice da DS.length dc], x35, x36, x37, x38, x39, x40, x41, x42, x43, x44, x45, x46, x47, x48, x49, x50, undef], []⟩ : Act) ∧ G7 wd w1.heap.size w2.heap.size (W.heap.size + 1 + 1) (.slice na k nc) (.int .i64 tK) (.string tS) (.int .i64 tN) (.slice da DS.length dc) (fun (x : Value) (w5 : World) => ∃ oa oc ta' tc', x = .slice oa DS.length oc ∧ w5.ownsRow wd.heap.size 3 1 (.slice oa DS.length oc) DS.length ((DS.map (fun c => posF TS' (tmC l c))).map (Value.int .i64)) ∧ Rg w5 (W.heap.size + 1) (W.heap.size + 2) hb (.slice ta' TS'.length tc') (W.heap.size + 1) TS' ∧ a_Mod (r_foot (W.heap.size + 2) (.slice (some ⟨q, 0, none⟩) TS.length tc) (W.heap.size + 1)) wd w5) (fun (v : Value) (w6 : World) => ∃ g6 cap6 ta' tc' avs', v = .slice (some ⟨g6, 0, none⟩) (k + 1) cap6 ∧ w6.heap[w1.heap.size]? = some (.cells #[.slice na k nc, .slice ro cs.length rc] 25) ∧ Rx W (w6.setCell ⟨w1.heap.size, 0, none⟩ (.slice (some ⟨g6, 0, none⟩) (k + 1) cap6)) hb (W.heap.size + 2) (W.heap.size + 1) w1.heap.size (.slice ta' TS'.length tc') (.slice (some ⟨g6, 0, none⟩) (k + 1) cap6) (.slice ro cs.length rc) TS' avs' (rdN l ns TS k ++ [⟨tK, tS, tN, DS.map (fun c => posF TS' (tmC l c))⟩]) RT) (fun x => .cells #[.int .i64 tK, .string tS, .int .i64 tN, x] 88) (la.getD 0 false) (la.getD 1 false) (la.getD 2 false) (la.getD 3 false) (la.getD 4 false) (la.getD 5 false) (la.getD 6 false) (la.getD 7 false) (la.getD 8 false) (la.getD 9 false) (la.getD 10 false) (la.getD 11 false) (la.getD 12 false) (la.getD 13 false) (la.getD 14 false) (la.getD 15 false) (la.getD 16 false) x35 x36 x37 x38 x39 x40 x41 x42 x43 x44 x45 x46 x47 x48 x49 x50 w) ?_ ?_ _ _ _ _ (by decide) ?_
      case refine_3 =>
        refine ⟨by simp, u35, u36, u37, u38, u39, u40, u41, u42, u43, u44, u45, u46, u47, u48, u49, u50, rfl, ?_⟩
        exact ⟨nofun, nofun, nofun, nofun, nofun, nofun, nofun, nofun, nofun, nofun, nofun, nofun, nofun, nofun, nofun, nofun, nofun, nofun, nofun, fun _ => rfl, nofun, nofun, nofun, nofun⟩
      case refine_1 =>
        rintro la a w ⟨hl, x35, x36, x37, x38, x39, x40, x41, x42, x43, x44, x45, x46, x47, x48, x49, x50, rfl, hsp⟩ i hi
        obtain ⟨i1, i2, i3⟩ := ready_spec hi
        have hi17 : i < 17 := i1
        rw [← gopp7 hl hi17] at i2
        clear hi i1
        have hcs : i = 0 ∨ i = 1 ∨ i = 2 ∨ i = 3 ∨ i = 4 ∨ i = 5 ∨ i = 6 ∨ i = 7 ∨ i = 8 ∨ i = 9 ∨ i = 10 ∨ i = 11 ∨ i = 12 ∨ i = 13 ∨ i = 14 ∨ i = 15 ∨ i = 16 := by omega
        rcases hcs with rfl | rfl | rfl | rfl | rfl | rfl | rfl | rfl | rfl | rfl | rfl | rfl | rfl | rfl | rfl | rfl | rfl
        · rw [i2] at hsp
          refine wpOp_step rfl (fun K hK => ?_)
          go_simp
          refine hK _ _ ⟨by simpa using hl, _, _, _, _, _, _, _, _, _, _, _, _, _, _, _, _, rfl, ?_⟩
          simp only [gset7 la 0 _ hl (by decide)]
          exact hsp.t0
        · have i4 : la.getD 0 false = true := by simpa [Region.binds] using i3
          have e1 := hsp.e0 i4
          subst e1
          rw [i2] at hsp
          have y0 := G7.old hsp G0 n5g
          refine wpOp_step rfl (fun K hK => ?_)
          go_simp
          refine hK _ _ ⟨by simpa using hl, _, _, _, _, _, _, _, _, _, _, _, _, _, _, _, _, rfl, ?_⟩
          simp only [gset7 la 1 _ hl (by decide)]
          exact hsp.t1
        · rw [i2] at hsp
          refine wpOp_step rfl (fun K hK => ?_)
          go_simp
          refine hK _ _ ⟨by simpa using hl, _, _, _, _, _, _, _, _, _, _, _, _, _, _, _, _, rfl, ?_⟩
          simp only [gset7 la 2 _ hl (by decide)]
          exact hsp.t2
        · have i4 : la.getD 2 false = true := by simpa [Region.binds] using i3
          have e1 := hsp.e2 i4
          subst e1
          have b12 : la.getD 12 false = false := by cases e : la.getD 12 false with | false => rfl | true => exact absurd i2 (by rw [(hsp.c12 e).1]; simp)
          rw [i2] at hsp
          have hq := hsp
          rw [b12] at hq
          have y0 := G7.loc hq c0 (fun x w5 hN => (cel_cells (n5c x w5 hN)).1.1)
          clear hq
          refine wpOp_step rfl (fun K hK => ?_)
          go_simp
          refine hK _ _ ⟨by simpa using hl, _, _, _, _, _, _, _, _, _, _, _, _, _, _, _, _, rfl, ?_⟩
          simp only [gset7 la 3 _ hl (by decide)]
          exact hsp.t3
        · rw [i2] at hsp
          refine wpOp_step rfl (fun K hK => ?_)
          go_simp
          refine hK _ _ ⟨by simpa using hl, _, _, _, _, _, _, _, _, _, _, _, _, _, _, _, _, rfl, ?_⟩
          simp only [gset7 la 4 _ hl (by decide)]
          exact hsp.t4
        · have i4 : la.getD 4 false = true := by simpa [Region.binds] using i3
          have e1 := hsp.e4 i4
          subst e1
          have b12 : la.getD 12 false = false := by cases e : la.getD 12 false with | false => rfl | true => exact absurd i2 (by rw [(hsp.c12 e).2.1]; simp)
          rw [i2] at hsp
          have hq := hsp
          rw [b12] at hq
          have y0 := G7.loc hq c2 (fun x w5 hN => (cel_cells (n5c x w5 hN)).1.2.2.1)
          clear hq
          refine wpOp_step rfl (fun K hK => ?_)
          go_simp
          refine hK _ _ ⟨by simpa using hl, _, _, _, _, _, _, _, _, _, _, _, _, _, _, _, _, rfl, ?_⟩
          simp only [gset7 la 5 _ hl (by decide)]
          exact hsp.t5
        · rw [i2] at hsp
          refine wpOp_step rfl (fun K hK => ?_)
          go_simp
          refine hK _ _ ⟨by simpa using hl, _, _, _, _, _, _, _, _, _, _, _, _, _, _, _, _, rfl, ?_⟩
          simp only [gset7 la 6 _ hl (by decide)]
          exact hsp.t6
        · have i4 : la.getD 6 false = true := by simpa [Region.binds] using i3
          have e1 := hsp.e6 i4
          subst e1
          have b12 : la.getD 12 false = false := by cases e : la.getD 12 false with | false => rfl | true => exact absurd i2 (by rw [(hsp.c12 e).2.2.1]; simp)
          rw [i2] at hsp
          have hq := hsp
          rw [b12] at hq
          have y0 := G7.loc hq c3 (fun x w5 hN => (cel_cells (n5c x w5 hN)).1.2.2.2.1)
          clear hq
          refine wpOp_step rfl (fun K hK => ?_)
          go_simp
          refine hK _ _ ⟨by simpa using hl, _, _, _, _, _, _, _, _, _, _, _, _, _, _, _, _, rfl, ?_⟩
          simp only [gset7 la 7 _ hl (by decide)]
          exact hsp.t7
        · rw [i2] at hsp
          refine wpOp_step rfl (fun K hK => ?_)
          go_simp
          refine hK _ _ ⟨by simpa using hl, _, _, _, _, _, _, _, _, _, _, _, _, _, _, _, _, rfl, ?_⟩
          simp only [gset7 la 8 _ hl (by decide)]
          exact hsp.t8
        · rw [i2] at hsp
          refine wpOp_step rfl (fun K hK => ?_)
          go_simp
          refine hK _ _ ⟨by simpa using hl, _, _, _, _, _, _, _, _, _, _, _, _, _, _, _, _, rfl, ?_⟩
          simp only [gset7 la 9 _ hl (by decide)]
          exact hsp.t9
        · have i4 : la.getD 9 false = true := by simpa [Region.binds] using i3
          have e1 := hsp.e9 i4
          subst e1
          have b11 : la.getD 11 false = false := by cases e : la.getD 11 false with | false => rfl | true => exact absurd i2 (by rw [hsp.c11 e]; simp)
          have e2 := (hsp.s0 b11).symm
          subst e2
          rw [i2] at hsp
          refine wpOp_step rfl (fun K hK => ?_)
          go_simp
          refine hK _ _ ⟨by simpa using hl, _, _, _, _, _, _, _, _, _, _, _, _, _, _, _, _, rfl, ?_⟩
          simp only [gset7 la 10 _ hl (by decide)]
          exact hsp.t10
        · have i4 : la.getD 8 false = true ∧ la.getD 10 false = true := by simpa [Region.binds] using i3
          have e1 := hsp.e8 i4.1
          have e2 := hsp.e10 i4.2
          subst e1 e2
          rw [i2, i4.2] at hsp
          have e3 := (hsp.s0 rfl).symm
          subst e3
          refine wpOp_step rfl (fun K hK => ?_)
          go_simp
          go_at_call 96
          refine hnr.out.mono ?_
          rintro e w5 ⟨oa, oc, ta', tc', rfl, hA5, hR5, hm5⟩
          have hN5 : (fun (x : Value) (w5 : World) => ∃ oa oc ta' tc', x = .slice oa DS.length oc ∧ w5.ownsRow wd.heap.size 3 1 (.slice oa DS.length oc) DS.length ((DS.map (fun c => posF TS' (tmC l c))).map (Value.int .i64)) ∧ Rg w5 (W.heap.size + 1) (W.heap.size + 2) hb (.slice ta' TS'.length tc') (W.heap.size + 1) TS' ∧ a_Mod (r_foot (W.heap.size + 2) (.slice (some ⟨q, 0, none⟩) TS.length tc) (W.heap.size + 1)) wd w5) (.slice oa DS.length oc) w5 := ⟨oa, oc, ta', tc', rfl, hA5, hR5, hm5⟩
          refine hK _ _ ⟨by simpa using hl, _, _, _, _, _, _, _, _, _, _, _, _, _, _, _, _, rfl, ?_⟩
          simp only [gset7 la 11 _ hl (by decide), i4.2]
          exact hsp.t11 hN5
        · have i4 : la.getD 3 false = true ∧ la.getD 5 false = true ∧ la.getD 7 false = true ∧ la.getD 11 false = true := by simpa [Region.binds] using i3
          have e1 := hsp.e3 i4.1
          have e2 := hsp.e5 i4.2.1
          have e3 := hsp.e7 i4.2.2.1
          subst e1 e2 e3
          rw [i2, i4.1, i4.2.1, i4.2.2.1, i4.2.2.2] at hsp
          obtain ⟨oa, oc, ta', tc', rfl, _⟩ := hsp.s1 rfl hsp.no13.1
          refine wpOp_step rfl (fun K hK => ?_)
          go_simp
          refine hK _ _ ⟨by simpa using hl, _, _, _, _, _, _, _, _, _, _, _, _, _, _, _, _, rfl, ?_⟩
          simp only [gset7 la 12 _ hl (by decide), i4.1, i4.2.1, i4.2.2.1, i4.2.2.2]
          exact hsp.t12
        · have i4 : la.getD 12 false = true := by simpa [Region.binds] using i3
          have e1 := hsp.e12 i4
          subst e1
          have b11 := (hsp.c12 i4).2.2.2
          rw [i2, i4] at hsp
          obtain ⟨oa, oc, ta', tc', rfl, _⟩ := hsp.s1 b11 rfl
          refine wpOp_step rfl (fun K hK => ?_)
          go_simp
          refine hK _ _ ⟨by simpa using hl, _, _, _, _, _, _, _, _, _, _, _, _, _, _, _, _, rfl, ?_⟩
          simp only [gset7 la 13 _ hl (by decide), i4]
          exact hsp.t13
        · have i4 : la.getD 1 false = true ∧ la.getD 13 false = true := by
              simp [Region.binds] at i3
              exact ⟨by simpa using i3.1, by simpa using i3.2.1⟩
          have e1 := hsp.e1 i4.1
          subst e1
          rw [i2, i4.1, i4.2] at hsp
          obtain ⟨w5, ⟨oa, oc, ta', tc', rfl, hA5, hR5, hm5⟩, rfl, rfl⟩ := hsp.s2 rfl rfl
          have HX5 := HXc.out.terms hm5 hR5
          have hon5 := World.ownsRow.alloc (on_row hnl HX5.on) (.cells #[.int .i64 tK, .string tS, .int .i64 tN, .slice oa DS.length oc] 88)
          have hz5 := lt_of_block HX5.x
          refine wpOp_step rfl (fun K hK => ?_)
          refine step_append_lies _ (by rfl) _ _ _ (by rfl) (W.heap.size + 1) 88 i1 (.agg #[.int .i64 0, .string ⟨#[]⟩, .int .i64 0, .slice none 0 0]) 4 56 Tryz.underlying22 hi1 hy0 hy1 hy2 rfl (by omega) _ k (ncells (rdN l ns TS k) avs) (by rfl) hon5 ⟨w5.heap.size, 0, none⟩ 1 1 [.int .i64 tK, .string tS, .int .i64 tN, .slice oa DS.length oc] (by rfl) (by rfl) (World.news_of_block (cs := #[.int .i64 tK, .string tS, .int .i64 tN, .slice oa DS.length oc]) (t := 88) (fr := (0, 0)) (heap_alloc_new w5 _)) (by simp [Value.oneCell']) (by omega) (by unfold maxLen; omega) (by omega) (by simp; omega) (w5.heap.size + 1) (by simp) ?_
          intro g6 cap6 w6 hown6 hg6 hat6 hlt6
          obtain ⟨pb, pX⟩ := rx_step hnl (n := ⟨tK, tS, tN, DS.map (fun c => posF TS' (tmC l c))⟩) HXc.out hm5 hR5 (len := DS.length) (by simp) hA5 hg6 hown6 hat6
          refine hK _ _ ⟨by simpa using hl, _, _, _, _, _, _, _, _, _, _, _, _, _, _, _, _, rfl, ?_⟩
          simp only [gset7 la 14 _ hl (by decide), i4.1, i4.2]
          exact hsp.t14 ⟨g6, cap6, ta', tc', _, rfl, pb, pX⟩
        · have i4 : la.getD 14 false = true := by
              simp [Region.binds] at i3
              simpa using i3.2.2.2.2.2.2.2.2.2.2.2.2.2.2
          rw [i2, i4] at hsp
          refine wpOp_step rfl (fun K hK => ?_)
          go_simp
          refine hK _ _ ⟨by simpa using hl, _, _, _, _, _, _, _, _, _, _, _, _, _, _, _, _, rfl, ?_⟩
          simp only [gset7 la 15 _ hl (by decide), i4]
          exact hsp.t15
        · have i4 : la.getD 15 false = true ∧ la.getD 14 false = true := by
              simp [Region.binds] at i3
              exact ⟨by simpa using i3.1, by simpa using i3.2.1⟩
          have e1 := hsp.e15 i4.1
          subst e1
          rw [i2, i4.1, i4.2] at hsp
          obtain ⟨g6, cap6, ta', tc', avs', rfl, pb, pX⟩ := hsp.s3 rfl rfl
          obtain ⟨⟨y0, _⟩, yf, _⟩ := cblk2 pb
          refine wpOp_step rfl (fun K hK => ?_)
          go_simp
          refine hK _ _ ⟨by simpa using hl, _, _, _, _, _, _, _, _, _, _, _, _, _, _, _, _, rfl, ?_⟩
          simp only [gset7 la 16 _ hl (by decide), i4.1, i4.2]
          exact hsp.t16
      case refine_2 =>
        rintro la a w ⟨hl, x35, x36, x37, x38, x39, x40, x41, x42, x43, x44, x45, x46, x47, x48, x49, x50, rfl, hsp⟩ hr
        have n0 : la.getD 0 false = true := by
          rw [gopp7 hl (by omega)]
          exact none7 hr (i := 0) (by decide) (by simp [Region.binds])
        have m0 : la[0]?.getD false = true := by simpa using n0
        have n1 : la.getD 1 false = true := by
          rw [gopp7 hl (by omega)]
          exact none7 hr (i := 1) (by decide) (by simp [Region.binds, m0])
        have m1 : la[1]?.getD false = true := by simpa using n1
        have n2 : la.getD 2 false = true := by
          rw [gopp7 hl (by omega)]
          exact none7 hr (i := 2) (by decide) (by simp [Region.binds])
        have m2 : la[2]?.getD false = true := by simpa using n2
        have n3 : la.getD 3 false = true := by
          rw [gopp7 hl (by omega)]
          exact none7 hr (i := 3) (by decide) (by simp [Region.binds, m2])
        have m3 : la[3]?.getD false = true := by simpa using n3
        have n4 : la.getD 4 false = true := by
          rw [gopp7 hl (by omega)]
          exact none7 hr (i := 4) (by decide) (by simp [Region.binds])
        have m4 : la[4]?.getD false = true := by simpa using n4
        have n5 : la.getD 5 false = true := by
          rw [gopp7 hl (by omega)]
          exact none7 hr (i := 5) (by decide) (by simp [Region.binds, m4])
        have m5 : la[5]?.getD false = true := by simpa using n5
        have n6 : la.getD 6 false = true := by
          rw [gopp7 hl (by omega)]
          exact none7 hr (i := 6) (by decide) (by simp [Region.binds])
        have m6 : la[6]?.getD false = true := by simpa using n6
        have n7 : la.getD 7 false = true := by
          rw [gopp7 hl (by omega)]
          exact none7 hr (i := 7) (by decide) (by simp [Region.binds, m6])
        have m7 : la[7]?.getD false = true := by simpa using n7
        have n8 : la.getD 8 false = true := by
          rw [gopp7 hl (by omega)]
          exact none7 hr (i := 8) (by decide) (by simp [Region.binds])
        have m8 : la[8]?.getD false = true := by simpa using n8
        have n9 : la.getD 9 false = true := by
          rw [gopp7 hl (by omega)]
          exact none7 hr (i := 9) (by decide) (by simp [Region.binds])
        have m9 : la[9]?.getD false = true := by simpa using n9
        have n10 : la.getD 10 false = true := by
          rw [gopp7 hl (by omega)]
          exact none7 hr (i := 10) (by decide) (by simp [Region.binds, m9])
        have m10 : la[10]?.getD false = true := by simpa using n10
        have n11 : la.getD 11 false = true := by
          rw [gopp7 hl (by omega)]
          exact none7 hr (i := 11) (by decide) (by simp [Region.binds, m8, m10])
        have m11 : la[11]?.getD false = true := by simpa using n11
        have n12 : la.getD 12 false = true := by
          rw [gopp7 hl (by omega)]
          exact none7 hr (i := 12) (by decide) (by simp [Region.binds, m3, m5, m7, m11])
        have m12 : la[12]?.getD false = true := by simpa using n12
        have n13 : la.getD 13 false = true := by
          rw [gopp7 hl (by omega)]
          exact none7 hr (i := 13) (by decide) (by simp [Region.binds, m12])
        have m13 : la[13]?.getD false = true := by simpa using n13
        have n14 : la.getD 14 false = true := by
          rw [gopp7 hl (by omega)]
          exact none7 hr (i := 14) (by decide) (by simp [Region.binds, m1, m13, m11])
        have m14 : la[14]?.getD false = true := by simpa using n14
        have n15 : la.getD 15 false = true := by
          rw [gopp7 hl (by omega)]
          exact none7 hr (i := 15) (by decide) (by simp [Region.binds, m0, m1, m2, m3, m4, m5, m6, m7, m8, m9, m10, m11, m12, m13, m14])
        have m15 : la[15]?.getD false = true := by simpa using n15
        have n16 : la.getD 16 false = true := by
          rw [gopp7 hl (by omega)]
          exact none7 hr (i := 16) (by decide) (by simp [Region.binds, m0, m1, m2, m3, m4, m5, m6, m7, m8, m9, m10, m11, m12, m13, m14, m15])
        have m16 : la[16]?.getD false = true := by simpa using n16
        obtain ⟨w6, ⟨g6, cap6, ta', tc', avs', rfl, pb, pX⟩, rfl⟩ := hsp.s4 n16
        have HX7 := hid pX
        clear n0 m0 n1 m1 n2 m2 n3 m3 n4 m4 n5 m5 n6 m6 n7 m7 n8 m8 n9 m9 n10 m10 n11 m11 n12 m12 n13 m13 n14 m14 n15 m15 n16 m16 pb pX hsp hr
        go_wp2
        go_roundw
        case rel =>
          have hple := hpre.out.length_le
          refine ⟨k + 1, ta', tc', some ⟨g6, 0, none⟩, cap6, TS', avs', by go_num, by omega, ?_, hMs, hid (hRT.out.trans (rts_pre hpre.out hM.out.root))⟩
          rw [hst.out.1, hndt.out]
          exact HX7
        case measure => simp [intOf]; omega
    · obtain rfl : k = TS.length := by omega
      have hx := hid hX.out.x
      have hE : Hid (Gr ((wr.setCell ⟨W.heap.size, 0, none⟩ (.slice na TS.length nc)).setCell ⟨W.heap.size, 1, none⟩ (.slice ro cs.length rc)) (.slice na TS.length nc) (.slice ro cs.length rc) (rdG l ns cs TS)) := rx_gr hX.out hRT.out
      have hbE := hid ((hX.out.b.setCell (p := ⟨W.heap.size, 0, none⟩) (Nat.le_refl _) (.slice na TS.length nc)).setCell (p := ⟨W.heap.size, 1, none⟩) (Nat.le_refl _) (.slice ro cs.length rc))
      obtain ⟨⟨y0, y1⟩, yf0, yf1⟩ := cblk2 hx.out
      have hxe := heap_setCell_same _ W.heap.size 1 _ _ (.slice ro cs.length rc) (heap_setCell_same wr W.heap.size 0 _ _ (.slice na TS.length nc) hx.out)
      have zx := lt_of_block hx.out
      go_wp2
      exact bodyPost_ret (ret_gr1 Tryz.results50 (by rfl) hxe) rfl ⟨⟨_, _, TS, rfl, hE.out, hM.out.fin⟩, hbE.out⟩
end
end Go.Proofs.YtnoggmeffindbabGreatDoor

/- Quotient of package bisim, at every good graph. -/
namespace Go.Proofs.YtnoggmeffindbabGreatDoor
open Go.RowKit

/-- The loop over the least nodes: the nodes so far, the roots beside them. -/
structure Tq (w3 w : World) (rv : Value) (ns : List Nd) (ao : Option Addr) (c : Nat) (avs : List Value) : Prop where
  b : Below w3.heap.size w3 w
  out : w.heap[w3.heap.size]? = some (.cells #[.slice ao ns.length c, rv] 25 (0, 0))
  on : On w (w3.heap.size + 1) (.slice ao ns.length c) avs ns
theorem Tq.step {w3 wr w4 w5 : World} {rv : Value} {NS : List Nd} {n : Nd} {F : Int → Int} {ao aa : Option Addr} {c ac j g cap : Nat} {avs : List Value} (hT : Tq w3 wr rv NS ao c avs) (hL : NS.length = j) (hb : Below wr.heap.size wr w4)
    (ha : w4.ownsRow wr.heap.size 3 1 (.slice aa n.args.length ac) n.args.length ((n.args.map F).map (Value.int .i64))) (o : Obj)
    (hg : (w4.alloc o).grownBy w5 (Value.ownBlock (.slice ao j c))) (hown : w5.ownsRow (w3.heap.size + 1) 88 4 (.slice (some ⟨g, 0, none⟩) (j + 1) cap) (j + 1) (ncells NS avs ++ [.int .i64 n.kind, .string n.name, .int .i64 n.num, .slice aa n.args.length ac]))
    (hat : Value.ownBlock (.slice ao j c) = some g ∨ g = w4.heap.size + 1) :
    Tq w3 (w5.setCell ⟨w3.heap.size, 0, none⟩ (.slice (some ⟨g, 0, none⟩) (j + 1) cap)) rv (NS ++ [renum F n]) (some ⟨g, 0, none⟩) cap (avs ++ [.slice aa n.args.length ac]) := by
  subst hL
  have hl : (renum F n).args.length = n.args.length := by simp [renum]
  have hz := lt_of_block hT.out
  have hz4 := hb.size
  have hnv : ∀ k, Value.ownBlock (.slice ao NS.length c) = some k → w3.heap.size + 1 ≤ k := fun k e => (hT.on.n.lt k e).1
  have hP : On w5 (w3.heap.size + 1) (.slice (some ⟨g, 0, none⟩) (NS.length + 1) cap) (avs ++ [.slice aa n.args.length ac]) (NS ++ [renum F n]) := by
    have hP := On.push (n := renum F n) (ao := aa) (c := ac) (g := g) (cap := cap) hT.on (hb.alloc hz4 o) (by rw [hl]; exact ha.alloc o) (by omega) hg (by rw [hl]; exact hown) (by
      rcases hat with e | e
      · exact Or.inl e
      · exact Or.inr (by simp; omega))
    rw [hl] at hP
    exact hP
  have hgb : w3.heap.size < g := by
    rcases hat with e | e
    · have := hnv g e
      omega
    · omega
  have h5 : w5.heap[w3.heap.size]? = some (.cells #[.slice ao NS.length c, rv] 25) := by
    rw [hg.block _ (by simp; omega) (fun e => by have := hnv _ e.symm; omega), Below.heap_alloc _ _ _ (by omega), hb.block _ hz]
    exact hT.out
  refine ⟨?_, ?_, ?_⟩
  · have h1 : Below w3.heap.size w3 (w4.alloc o) := (Below.next hT.b hb).alloc (by have := hT.b.size; omega) o
    exact (h1.grown hg (by simp; omega) (fun k e => by have := hnv k e; omega)).setCell (Nat.le_refl _) _
  · rw [blk2_set0 h5]
    simp
  · rw [List.length_append, List.length_singleton]
    exact hP.keep (fun k hk => Below.heap_setCell _ _ _ _ (by have := (hP.lt k hk).1; show k ≠ w3.heap.size; omega))
theorem og_far {w : World} {B q i : Nat} {nv rv v : Value} {avs : List Value} {g : Gf} (h : Og w B nv rv avs g) (hq : q < B) : Og (w.setCell ⟨q, i, none⟩ v) B nv rv avs g := by
  have hk : ∀ k, B ≤ k → (w.setCell ⟨q, i, none⟩ v).heap[k]? = w.heap[k]? := fun k hk => Below.heap_setCell _ _ _ _ (by show k ≠ q; omega)
  obtain ⟨ao, c, e, ho⟩ := h.r
  exact ⟨h.on.keep (fun k hk' => hk k (h.on.lt k hk').1), h.nsl, ⟨ao, c, e, own_block ho (fun k ek => hk k (ho.lt k ek).1)⟩, h.ap⟩
theorem og_base {w : World} {B B' : Nat} {nv rv : Value} {avs : List Value} {g : Gf} (h : Og w B nv rv avs g) (hB : B' ≤ B) : Og w B' nv rv avs g := by
  obtain ⟨ao, c, e, ho⟩ := h.r
  exact ⟨⟨own_base h.on.n hB, h.on.len, fun j hj => by
    obtain ⟨a, b, e1, e2⟩ := h.on.a j hj
    exact ⟨a, b, e1, own_base e2 hB⟩, h.on.nd⟩, h.nsl, ⟨ao, c, e, own_base ho hB⟩, h.ap⟩
theorem good_sized {g : Gf} (hg : Good g) : Sized g := fun n hn => by
  have := good_name (hg.node n hn)
  omega
theorem ansC0 (e : Nat → Nat → Bool) (N : Nat) : ansC e N 0 = ints (csF e N) := rfl
theorem ansC1 (e : Nat → Nat → Bool) (N : Nat) : ansC e N 1 = ints (lsF e N) := rfl
theorem Fm.two {w : World} {B : Nat} {t2 t3 : Value} {e : Nat → Nat → Bool} {N : Nat} (h : Fm w B [t2, t3] (ansC e N)) : Ri w t2 (ints (csF e N)) ∧ Ri w t3 (ints (lsF e N)) := by
  have h0 := h.own 0 (by simp)
  have h1 := h.own 1 (by simp)
  rw [ansC0] at h0
  rw [ansC1] at h1
  obtain ⟨a0, c0, e0⟩ := own_sl h0
  obtain ⟨a1, c1, e1⟩ := own_sl h1
  have e0' : t2 = .slice a0 (ints (csF e N)).length c0 := e0
  have e1' : t3 = .slice a1 (ints (lsF e N)).length c1 := e1
  subst e0' e1'
  exact ⟨Ri.ofOwn h0, Ri.ofOwn h1⟩
set_option maxRecDepth 100000 in
set_option maxHeartbeats 8000000 in
theorem quot_good {W : World} {nv rv : Value} {g : Gf} (hG : Gr W nv rv g) (hS : Sized g) (hb : one (chk g) = []) (ee : Nat → Nat → Bool) (he : ∀ x y : Nat, (ee x y = true ↔ Al g (x : Int) (y : Int))) :
    Calls Tryz.prog 17 #[.agg #[nv, rv]] W fun r w' => (∃ nv' rv' avs, r = .returned (.tuple #[.agg #[nv', rv'], .nilIface]) ∧ Og w' W.heap.size nv' rv' avs (trimF (quoF ee g))) ∧ Below W.heap.size W w' := by
  obtain ⟨i1, hi1, hy0, hy1, hy2⟩ := info_parts infoN
  have hg := chk_good hb
  have hev := al_eqv hg he
  have hq := quo_good hg hev
  have hgn := hg.nodes
  have hgr := hg.roots
  have hll := lsF_le ee g.nodes.length
  have hllt := lsF_lt ee g.nodes.length
  have hcl := csF_len ee g.nodes.length
  have hb2 : Below W.heap.size W ((W.alloc (.cells #[nv, rv] 25)).alloc (.cells #[.slice none 0 0, .slice none 0 0] 25)) := (below_alloc W _).alloc (by simp) _
  have hal := alike_good (hG.below hb2) hS hb ee (fun x y _ _ => he x y)
  obtain ⟨na, nc, rfl, hNc⟩ := hG.1
  obtain ⟨ra, rc, rfl, _⟩ := hG.2
  have hC : ∀ w1 : World, Below ((W.alloc (.cells #[.slice na g.nodes.length nc, .slice ra g.roots.length rc] 25)).alloc (.cells #[.slice none 0 0, .slice none 0 0] 25)).heap.size ((W.alloc (.cells #[.slice na g.nodes.length nc, .slice ra g.roots.length rc] 25)).alloc (.cells #[.slice none 0 0, .slice none 0 0] 25)) w1 →
      w1.heap[W.heap.size + 1]? = some (.cells #[.slice none 0 0, .slice none 0 0] 25) ∧ w1.heap[W.heap.size]? = some (.cells #[.slice na g.nodes.length nc, .slice ra g.roots.length rc] 25) ∧ W.heap.size + 1 < w1.heap.size := fun w1 hb => by
    refine ⟨?_, ?_, ?_⟩
    · rw [hb.block _ (by simp)]
      simpa using heap_alloc_new (W.alloc (.cells #[.slice na g.nodes.length nc, .slice ra g.roots.length rc] 25)) (.cells #[.slice none 0 0, .slice none 0 0] 25)
    · rw [hb.block _ (by simp <;> omega), Below.heap_alloc _ _ _ (by simp)]
      exact heap_alloc_new W _
    · have := hb.size
      simp at this
      omega
  have hcr : Hid (∀ (w1 : World) (t2 : Value), Below W.heap.size W w1 → Ri w1 t2 (ints (csF ee g.nodes.length)) → Calls Tryz.prog 59 #[.slice ra g.roots.length rc, t2] w1 fun e w' => (∃ ao c, e = .returned (.slice ao g.roots.length c) ∧ w'.ownsRow w1.heap.size 3 1 (.slice ao g.roots.length c) g.roots.length ((g.roots.map (clsI ee g.nodes.length)).map (Value.int .i64))) ∧ Below w1.heap.size w1 w') := fun w1 t2 h1 h2 => classesOf_any (hG.2.below h1) h2 (fun x hx => by rw [ints_len, hcl]; exact hg.root x hx) (by omega)
  have hHG := hid hG
  clear hG
  go_enter Tryz.func17, Tryz.ntmps17
  have hlL := ints_len (lsF ee g.nodes.length)
  obtain ⟨L, hLd⟩ : ∃ L, L = (lsF ee g.nodes.length).length := ⟨_, rfl⟩
  rw [← hLd] at hlL hll
  have HLd := hid hLd
  clear hLd
  go_wp2_with (first
    | (go_at_call 58; refine hal.mono ?_; rintro e w1 ⟨⟨t2, t3, rfl, hF⟩, hb1⟩; obtain ⟨k1, k0, k2⟩ := hC w1 hb1; obtain ⟨⟨c0, c1⟩, _⟩ := blk2 k0; have hbw := Below.next hb2 hb1; obtain ⟨hR2, la, lc, rfl, hR3⟩ := hF.two; rw [hlL] at hR3 ⊢; clear hal hC hF)
    | (go_at_call 59; refine (hcr.out w1 t2 hbw hR2).mono ?_; rintro e w2 ⟨⟨ro, rcc, rfl, hro⟩, hb3⟩; clear c0 c1))
  have hT0 : Hid (Tq w2 (w2.alloc (.cells #[.slice none 0 0, .slice ro g.roots.length rcc] 25)) (.slice ro g.roots.length rcc) [] none 0 []) := ⟨below_alloc _ _, heap_alloc_new w2 _, On.nil _ _⟩
  have hbW2 := Below.next hbw hb3
  have hz2 := hb3.size
  have k0' : w2.heap[W.heap.size]? = some (.cells #[.slice na g.nodes.length nc, .slice ra g.roots.length rc] 25) := by rw [hb3.block _ (by omega)]; exact k0
  have k1' : w2.heap[W.heap.size + 1]? = some (.cells #[.slice none 0 0, .slice none 0 0] 25) := by rw [hb3.block _ k2]; exact k1
  have hHR2 := hid (hR2.below hb3)
  have hHR3 : Hid (∀ j, j < L → ∃ b o, la = some ⟨b, o, none⟩ ∧ w2.cell? ⟨b, o + j, none⟩ = some (.int .i64 ((ints (lsF ee g.nodes.length)).getD j 0))) := fun j hj => by
    obtain ⟨b, o, h1, h2⟩ := hR3 j hj
    exact ⟨b, o, h1, by rw [hb3.cell (p := ⟨b, o + j, none⟩) (lt_of_cell h2)]; exact h2⟩
  have Hro := hid hro
  have hHN := hid hNc
  clear hcr hR2 hR3 hro k0 k1 hb2 hNc
  go_wp2
  go_loopw [28] (fun i wr => ∃ (k : Nat) (ao : Option Addr) (c : Nat) (avs : List Value), k ≤ L ∧ i = .int .i64 k ∧ Hid (Tq w2 wr (.slice ro g.roots.length rcc) (((lsF ee g.nodes.length).take k).map (fun n => renum (clsI ee g.nodes.length) (g.nodes.getD n nd0))) ao c avs)) (fun i _ => L - (intOf i).toNat)
  case atStart => exact ⟨0, none, 0, [], Nat.zero_le _, rfl, by simpa [Hid] using hT0⟩
  case round =>
    clear hT0
    obtain ⟨j, ao, c, avs, hj, rfl, hT⟩ := hrel
    by_cases hjl : j < L
    · have hjl' : j < (lsF ee g.nodes.length).length := by rw [← HLd.out]; exact hjl
      have hts := ntake_snoc hjl'
      have hnN := hllt _ (nget_mem hjl')
      obtain ⟨lb, lo, hla, hlc⟩ := hHR3.out j hjl
      subst hla
      rw [ints_get hjl'] at hlc
      have hlc' : wr.cell? ⟨lb, lo + j, none⟩ = some (.int .i64 (((lsF ee g.nodes.length).getD j 0 : Nat) : Int)) := by rw [hT.out.b.cell (p := ⟨lb, lo + j, none⟩) (lt_of_cell hlc)]; exact hlc
      generalize (lsF ee g.nodes.length).getD j 0 = n at hts hnN hlc'
      have hbe := Below.next hbW2 hT.out.b
      obtain ⟨nb, no, av, rfl, hnd⟩ := hHN.out n hnN
      obtain ⟨n0, n1, n2, n3, hA⟩ := hnd.below hbe
      have hga := good_args (hg.node (g.nodes.getD n nd0) (by simp [List.getD, hnN]))
      have hNS : Hid (((lsF ee g.nodes.length).take (j + 1)).map (fun n => renum (clsI ee g.nodes.length) (g.nodes.getD n nd0)) = ((lsF ee g.nodes.length).take j).map (fun n => renum (clsI ee g.nodes.length) (g.nodes.getD n nd0)) ++ [renum (clsI ee g.nodes.length) (g.nodes.getD n nd0)]) := by
        show _ = _
        rw [hts]
        simp
      have hL : (((lsF ee g.nodes.length).take j).map (fun n => renum (clsI ee g.nodes.length) (g.nodes.getD n nd0))).length = j := by simp; omega
      generalize ((lsF ee g.nodes.length).take j).map (fun n => renum (clsI ee g.nodes.length) (g.nodes.getD n nd0)) = NS at hT hNS hL
      have hcp : ∀ w : World, Below wr.heap.size wr w → Calls Tryz.prog 59 #[av, t2] w fun e w' => (∃ ao c, e = .returned (.slice ao (g.nodes.getD n nd0).args.length c) ∧ w'.ownsRow w.heap.size 3 1 (.slice ao (g.nodes.getD n nd0).args.length c) (g.nodes.getD n nd0).args.length (((g.nodes.getD n nd0).args.map (clsI ee g.nodes.length)).map (Value.int .i64))) ∧ Below w.heap.size w w' := fun w hb => classesOf_any (hA.below hb) (hHR2.out.below (Below.next hT.out.b hb)) (fun x hx => by rw [ints_len, hcl]; exact hga.1 x hx) (by omega)
      have e0 : wr.heap[W.heap.size]? = some (.cells #[.slice (some ⟨nb, no, none⟩) g.nodes.length nc, .slice ra g.roots.length rc] 25) := by rw [hT.out.b.block _ (by omega)]; exact k0'
      obtain ⟨⟨c0, _⟩, _⟩ := blk2 e0
      have hon := hT.out.on
      rw [hL] at hon
      have honn := hon.n
      rw [hL] at honn
      have hz4 := hT.out.b.size
      have hzo := lt_of_block hT.out.out
      have hout := hT.out.out
      rw [hL] at hout
      have hnv : ∀ k, Value.ownBlock (.slice ao j c) = some k → w2.heap.size + 1 ≤ k := fun k e => (hon.n.lt k e).1
      have hstep := hid (fun (w4 w5 : World) (aa : Option Addr) (ac gg cap : Nat) => Tq.step (w4 := w4) (w5 := w5) (aa := aa) (ac := ac) (g := gg) (cap := cap) (F := clsI ee g.nodes.length) (n := g.nodes.getD n nd0) hT.out hL)
      have hal := hga.2
      generalize g.nodes.getD n nd0 = x at n0 n1 n2 n3 hcp hNS hstep hA hal
      obtain ⟨kind, name, num, args⟩ := x
      dsimp only at n0 n1 n2 n3 hcp hstep hA hal
      obtain ⟨aa0, ac0, rfl, _⟩ := hA
      have hbd : Below wr.heap.size wr (wr.alloc (.cells #[.int .i64 kind, .string name, .int .i64 num, .slice aa0 args.length ac0] 88)) := below_alloc wr _
      have hnw := heap_alloc_new wr (.cells #[.int .i64 kind, .string name, .int .i64 num, .slice aa0 args.length ac0] 88)
      have hcall := hcp _ hbd
      have hzd := lt_of_block hnw
      have hfacts := hid (fun (w4 : World) (aa : Option Addr) (ac : Nat) (hb4 : Below (wr.alloc (.cells #[.int .i64 kind, .string name, .int .i64 num, .slice aa0 args.length ac0] 88)).heap.size (wr.alloc (.cells #[.int .i64 kind, .string name, .int .i64 num, .slice aa0 args.length ac0] 88)) w4) (hao : w4.ownsRow (wr.alloc (.cells #[.int .i64 kind, .string name, .int .i64 num, .slice aa0 args.length ac0] 88)).heap.size 3 1 (.slice aa args.length ac) args.length ((args.map (clsI ee g.nodes.length)).map (Value.int .i64))) => (show (w4.heap[wr.heap.size]? = some (.cells #[.int .i64 kind, .string name, .int .i64 num, .slice aa0 args.length ac0] 88)) ∧ Below wr.heap.size wr (w4.setCell ⟨wr.heap.size, 3, none⟩ (.slice aa args.length ac)) ∧ (w4.setCell ⟨wr.heap.size, 3, none⟩ (.slice aa args.length ac)).ownsRow wr.heap.size 3 1 (.slice aa args.length ac) args.length ((args.map (clsI ee g.nodes.length)).map (Value.int .i64)) from
        ⟨by rw [hb4.block _ hzd]; exact hnw, (Below.next hbd hb4).setCell (Nat.le_refl _) _, own_base (own_block hao (fun k e => Below.heap_setCell _ _ _ _ (by have := (hao.lt k e).1; simp at this; show k ≠ wr.heap.size; omega))) (by simp)⟩))
      clear hcp hnd hga hT hlc hts e0 k0' k1' k2
      go_wp2_with (first
        | (go_at_call 59; refine hcall.mono ?_; rintro e w4 ⟨⟨aa, ac, rfl, hao⟩, hb4⟩; obtain ⟨f0, hb4s, haos⟩ := hfacts.out w4 aa ac hb4 hao; obtain ⟨⟨f1, f2, f3, f4⟩, f5, f6, f7, f8⟩ := blk4 f0; have hon4 := World.ownsRow.alloc (own_below honn hb4s) (.cells #[.int .i64 kind, .string name, .int .i64 num, .slice aa args.length ac] 88); have d4 : (w4.setCell ⟨wr.heap.size, 3, none⟩ (.slice aa args.length ac)).heap[w2.heap.size]? = some (.cells #[.slice ao j c, .slice ro g.roots.length rcc] 25) := (by rw [hb4s.block _ hzo]; exact hout); obtain ⟨⟨g0, _⟩, g1, _⟩ := blk2 d4; obtain ⟨⟨gg0, _⟩, gg1, _⟩ := blk2 (((Below.next hbd hb4).block _ hzo).trans hout); have hsz4 : (w4.setCell ⟨wr.heap.size, 3, none⟩ (.slice aa args.length ac)).heap.size = w4.heap.size := (by simp); have hz5 := hb4s.size; rw [hsz4] at hz5; have hnews := heap_alloc_new (w4.setCell ⟨wr.heap.size, 3, none⟩ (.slice aa args.length ac)) (.cells #[.int .i64 kind, .string name, .int .i64 num, .slice aa args.length ac] 88); rw [hsz4] at hnews; clear hao hb4 hfacts hcall)
        | (at_builtin; refine wpList_append_lies _ rfl _ _ _ rfl (w2.heap.size + 1) 88 i1 (.agg #[.int .i64 0, .string ⟨#[]⟩, .int .i64 0, .slice none 0 0]) 4 56 Tryz.underlying22 hi1 hy0 hy1 hy2 rfl (by omega) _ j (ncells NS avs) rfl hon4 ⟨w4.heap.size, 0, none⟩ 1 1 [.int .i64 kind, .string name, .int .i64 num, .slice aa args.length ac] rfl rfl (World.news_of_block (cs := #[.int .i64 kind, .string name, .int .i64 num, .slice aa args.length ac]) (t := 88) (fr := (0, 0)) hnews) (by simp [Value.oneCell']) (by omega) (by unfold maxLen; omega) (by omega) (by simp; omega) (w4.heap.size + 1) (by simp) ?_; intro gg cap w5 hown5 hgr5 hat hlt5; have d5 : w5.heap[w2.heap.size]? = some (.cells #[.slice ao j c, .slice ro g.roots.length rcc] 25) := (by rw [hgr5.block _ (by simp; omega) (fun e => by have := hnv _ e.symm; omega), Below.heap_alloc _ _ _ (by simp; omega)]; exact d4); obtain ⟨⟨d0', _⟩, d1', _⟩ := blk2 d5))
      go_roundw
      case rel =>
        refine ⟨j + 1, some ⟨gg, 0, none⟩, cap, avs ++ [.slice aa args.length ac], by omega, congrArg (Value.int .i64) (by omega), ?_⟩
        show Tq _ _ _ _ _ _ _
        rw [hNS.out]
        exact hstep.out _ w5 aa ac gg cap hb4s haos _ hgr5 hown5 (by rw [hsz4]; exact hat)
      case measure => simp [intOf]; omega
    · have hTe : Hid (Tq w2 wr (.slice ro g.roots.length rcc) ((lsF ee g.nodes.length).map (fun n => renum (clsI ee g.nodes.length) (g.nodes.getD n nd0))) ao c avs) := by
        have := hT.out
        rw [List.take_of_length_le (by rw [← HLd.out]; omega)] at this
        exact this
      clear hT
      have hOut := hTe.out.out
      have hlm : ((lsF ee g.nodes.length).map (fun n => renum (clsI ee g.nodes.length) (g.nodes.getD n nd0))).length = L := by rw [List.length_map]; exact HLd.out.symm
      have hOn := hTe.out.on
      rw [hlm] at hOut
      obtain ⟨⟨o0, o1⟩, _⟩ := blk2 hOut
      have hGq : Gr wr (.slice ao L c) (.slice ro g.roots.length rcc) (quoF ee g) := by
        refine ⟨?_, ?_⟩
        · have := hOn.rn
          rw [hlm] at this
          exact this
        · have h1 := Ri.ofOwn (l := g.roots.map (clsI ee g.nodes.length)) (by rw [List.length_map]; exact Hro.out)
          rw [List.length_map] at h1
          exact h1.below hTe.out.b
      have htr := trim_good hGq (good_sized hq) (chk_of_good hq)
      have hbe := Below.next hbW2 hTe.out.b
      have e1 : wr.heap[W.heap.size + 1]? = some (.cells #[.slice none 0 0, .slice none 0 0] 25) := by rw [hTe.out.b.block _ (by omega)]; exact k1'
      have hze := lt_of_block e1
      have hF : Hid (∀ w5 : World, Below wr.heap.size wr w5 → w5.heap[W.heap.size + 1]? = some (.cells #[.slice none 0 0, .slice none 0 0] 25)) := fun w5 hb => by rw [hb.block _ hze]; exact e1
      clear hGq hOn hOut e1 k0' k1' hTe
      go_wp2_with (go_at_call 60; refine htr.mono ?_; rintro e w5 ⟨⟨nv5, rv5, avs5, rfl, hO5⟩, hb5⟩; obtain ⟨n5a, n5c, rfl⟩ := hO5.nsl; obtain ⟨r5a, r5c, rfl, _⟩ := hO5.r; have j1 := hF.out w5 hb5; obtain ⟨⟨r0, r1⟩, s0, s1⟩ := blk2 j1)
      refine bodyPost_ret (ret_gr Tryz.results17 (by rfl) (by rfl) (blk2_set j1)) rfl ⟨⟨_, _, avs5, rfl, ?_⟩, ?_⟩
      · exact og_base (og_far (og_far hO5 (by omega)) (by omega)) (by omega)
      · exact ((Below.next hbe hb5).setCell (by simp) _).setCell (by simp) _
end Go.Proofs.YtnoggmeffindbabGreatDoor

/- Package cells: the graph that is read is good. -/
namespace Go.Proofs.YtnoggmeffindbabGreatDoor
open Go.RowKit

section
variable {l : List Int} {ns : List ByteArray} {cs TS : List Int} {V : Nat → Bool}
theorem trm_int (h : Snd l V) (hl : l.length ≤ 65536) {k : Nat} (hk : k < l.length) (h2 : trmW l k % 8 = 2) : -1125899906842624 ≤ valOf (trmW l k) ∧ valOf (trmW l k) ≤ 1125899906842624 := by
  obtain ⟨j, hj, e, e2⟩ := trm_ends h _ k hk (Nat.le_refl _)
  rw [e2] at h2 ⊢
  unfold endW at h2 ⊢
  split at h2
  · obtain ⟨s1, _⟩ := word_str (j := j) (by omega)
    omega
  · rename_i h4
    rw [if_neg h4]
    have hg := h.good j hj
    unfold goodB at hg
    rw [h2] at hg
    simp [fitsB] at hg
    exact hg
theorem posF_in {x : Int} (h : x ∈ TS) : 0 ≤ posF TS x ∧ posF TS x < (TS.length : Int) := by
  unfold posF
  rw [if_pos h]
  have := pos_lt h
  omega
theorem rd_nodes (_h : Rfi l cs TS) : (rdG l ns cs TS).nodes.length = TS.length := by simp [rdG, rdN]
theorem rd_good (hs : Snd l V) (hn : NsB l ns.length) (hl : l.length ≤ 65536) (hg : ∀ s ∈ ns, n_goodS s = true) (h : Rfi l cs TS) (h1 : TS.length ≤ 4096) (h2 : cs.length ≤ 4096) : Good (rdG l ns cs TS) := by
  refine ⟨by rw [rd_nodes h]; exact h1, by simp [rdG]; exact h2, fun nd hnd => ?_, fun x hx => ?_⟩
  · rw [rd_nodes h]
    have hnd' : nd ∈ (TS.take TS.length).map (ndT l ns TS) := hnd
    rw [List.take_length] at hnd'
    obtain ⟨t, ht, rfl⟩ := List.mem_map.1 hnd'
    obtain ⟨k, hk, hte⟩ := h.inT t ht
    have hTw : Tw l ns t := by rw [hte]; exact trm_tw hs hn hl hk
    have hcl : ∀ c ∈ tdL l t, tmC l c ∈ TS := by
      obtain ⟨i, hi, rfl⟩ := list_mem_getD ht
      exact h.cl i hi
    have hgD : ∀ i, i < ns.length → goodS (ns.getD i ⟨#[]⟩) = true := fun i hi => hg _ (by simp [List.getD, hi])
    have he : (⟨#[]⟩ : ByteArray).toList = [] := by rw [ByteArray.toList_eq]
    unfold goodNd ndT
    dsimp only
    rcases hTw.tag with e | e | e | e
    · have k1 : tdK t = 1 := by simp [tdK, e]
      rw [if_pos k1]
      simp [tdS, tdN, tdL, e, he]
    · have k1 : tdK t = 2 := by simp [tdK, e]
      rw [if_neg (by omega), if_pos k1]
      have hs1 : tdS l ns t = ns.getD (valOf t).toNat ⟨#[]⟩ := by simp [tdS, e]
      rw [hs1, hgD _ (hTw.atom e).2]
      simp [tdN, tdL, e]
    · have k1 : tdK t = 3 := by simp [tdK, e]
      rw [if_neg (by omega), if_neg (by omega), if_pos k1]
      have hi := trm_int hs hl hk (by rw [← hte]; exact e)
      rw [← hte] at hi
      simp [tdS, tdN, tdL, e, he, hi]
    · have k1 : tdK t = 4 := by simp [tdK, e]
      rw [if_neg (by omega), if_neg (by omega), if_neg (by omega), if_pos k1]
      obtain ⟨_, hy, h4, hgw, hnm⟩ := hTw.str e
      have hs1 : tdS l ns t = ns.getD (valOf (wdN l (valOf t).toNat) / 16).toNat ⟨#[]⟩ := by simp [tdS, e]
      rw [hs1, hgD _ hnm]
      have h4' : wdN l (valOf t).toNat % 8 = 4 := h4
      have hfv := fun_val (wdN l (valOf t).toNat) hgw h4'
      have hln : (tdL l t).length = (valOf (wdN l (valOf t).toNat) % 16).toNat := by
        unfold tdL rchL
        rw [if_pos e, if_neg (by omega), if_pos h4']
        simp
      have hst : ((tdL l t).map (fun c => posF TS (tmC l c))).any (strange TS.length) = false := by
        rw [List.any_eq_false]
        intro x hx
        obtain ⟨c, hc, rfl⟩ := List.mem_map.1 hx
        have := posF_in (hcl c hc)
        simp [strange]
        omega
      rw [hst, List.length_map, hln]
      have hn0 : tdN t = 0 := by simp [tdN, e]
      rw [hn0]
      simp
      omega
  · rw [rd_nodes h]
    have hx' : x ∈ cs.map (fun c => posF TS (tmC l c)) := hx
    obtain ⟨c, hc, rfl⟩ := List.mem_map.1 hx'
    exact posF_in (h.root c hc)
end
end Go.Proofs.YtnoggmeffindbabGreatDoor

/- Package cells: Get. -/
namespace Go.Proofs.YtnoggmeffindbabGreatDoor
open Go.RowKit

theorem ret_grE {w : World} {fn : Func} {t s : Tmp} (hfn : fn.results = #[.cell t 25, .tmp s]) {tmps : Array Value} {q : Nat} {u0 u1 v1 : Value} (h4 : tmps[t]?.getD undef = .pointer (some ⟨q, 0, none⟩)) (h5 : tmps[s]?.getD undef = v1) (hq : w.heap[q]? = some (.cells #[u0, u1] 25)) : (results fn tmps).run Tryz.prog w = .ok (.tuple #[.agg #[u0, u1], v1]) w := by
  obtain ⟨⟨z0, z1⟩, _⟩ := cblk2 hq
  simp [results, hfn, go_sem, h4, h5, z0, z1]
abbrev gr0 : Obj := .cells #[.slice none 0 0, .slice none 0 0] 25
section
variable {W : World} {Bh hb ab tb : Nat} {m : Int} {av : Value} {l : List Int} {htv : Value} {tq : Nat} {ns : List ByteArray} {trv ptv : Value} {n : Int} {V : Nat → Bool}
set_option maxRecDepth 100000 in
set_option maxHeartbeats 4000000 in
/-- Get at cells whose terms have no more than 4096 nodes. -/
theorem get_ok (hH : Hp W Bh hb ab tb m av l htv tq ns trv ptv n) (hs : Snd l V) (hn : NsB l ns.length) {cv : Value} {cs : List Int} (hC : Ri W cv cs) (hcs : ∀ x ∈ cs, cellB l x = true) (hl : cs.length ≤ 4096) (hT : ∀ TS, Rfi l cs TS → TS.length ≤ 4096) :
    Calls Tryz.prog 14 #[.pointer (some ⟨hb, 0, none⟩), cv] W fun e w' => (∃ nv rv avs TS ee, e = .returned (.tuple #[.agg #[nv, rv], .nilIface]) ∧ Rfi l cs TS ∧ Good (rdG l ns cs TS) ∧ (∀ x y : Nat, (ee x y = true ↔ Al (rdG l ns cs TS) (x : Int) (y : Int))) ∧ Og w' W.heap.size nv rv avs (trimF (quoF ee (rdG l ns cs TS)))) ∧ Below W.heap.size W w' := by
  have hl6 : l.length ≤ 65536 := by
    have h1 := hH.ar.len
    have h2 := hH.ar.m2
    omega
  have hb0 := below_alloc W gr0
  have hx0 := hid (heap_alloc_new W gr0)
  have hck := hid (checkedC_any (hH.below hb0).ar (hC.below hb0) (by omega))
  have hbf : badF l cs = [] := by
    unfold badF badC
    rw [if_neg (by rw [ixOf_miss 0 (fun x => !cellB l x) cs (fun j hj => by simp only [hcs _ (getD_mem hj), Bool.not_true])]; omega)]
  rw [hbf] at hck
  have hrg : ∀ x ∈ cs, 0 ≤ x ∧ x < (l.length : Int) := fun x hx => by
    have h1 := hcs x hx
    unfold cellB at h1
    simp only [Bool.and_eq_true] at h1
    simpa [inB] using h1.1.1
  have hrd := hid (fun w1 (hbb : Below W.heap.size W w1) => read_any (hH.below hbb) hs hn (hC.below hbb) hrg (by omega))
  have hgd := hid (fun TS (h : Rfi l cs TS) => rd_good hs hn hl6 hH.tb.good h (hT TS h) hl)
  have hTl := hid hT
  have HH := hid hH
  have Hb0 := hid hb0
  obtain ⟨⟨c0, _⟩, c5⟩ := (hH.below hb0).cells
  obtain ⟨ca, cc, rfl, _⟩ := hC
  clear hH hs hn hcs hT hb0 hbf hrg
  go_enter Tryz.func14, Tryz.ntmps14
  go_wp2_with (first
    | (go_at_call 48; refine (self_some _ _).mono ?_; rintro e w2 ⟨rfl, hw⟩; replace hw := hw.symm; subst hw)
    | (go_at_call 49; refine hck.out.mono ?_; rintro e w1 ⟨⟨ev, rfl, hev⟩, hb1⟩; have hev1 : ev = .nilIface := hev; subst hev1; have Hb1 := hid (Below.next Hb0.out hb1); have HX1 := hid ((hb1.block _ (by simp)).trans hx0.out); clear hev hb1)
    | (go_at_call 50; refine (hrd.out _ Hb1.out).mono ?_; rintro e w2 ⟨⟨nv, rv, TS, rfl, hG2, hF2⟩, hb2⟩; have HG2 := hid hG2; have HF2 := hid hF2; have hT2 := hTl.out TS hF2; have hnn : (rdG l ns cs TS).nodes.length = TS.length := rd_nodes hF2; obtain ⟨na, nc, rfl, _⟩ := hG2.1; obtain ⟨ra, rc, rfl, _⟩ := hG2.2; rw [hnn]; have Hb2 := hid (Below.next Hb1.out hb2); have HX2 := hid ((hb2.block _ (lt_of_block HX1.out)).trans HX1.out); have Hbx := hid (below_alloc w2 (.cells #[.slice na TS.length nc, .slice ra (rdG l ns cs TS).roots.length rc] 25)); have Hnx := hid (heap_alloc_new w2 (.cells #[.slice na TS.length nc, .slice ra (rdG l ns cs TS).roots.length rc] 25)); clear hG2 hF2 hb2))
  have hgq := hgd.out TS HF2.out
  obtain ⟨ee, hee⟩ := al_dec (rdG l ns cs TS)
  rw [hnn] at HG2
  refine (quot_good (HG2.out.below Hbx.out) (good_sized hgq) (chk_of_good hgq) ee hee).mono ?_
  rintro e w4 ⟨⟨nv', rv', avs, rfl, hO4⟩, hb4⟩
  have Hgq := hid hgq
  have Hee := hid hee
  have HO4 := hid hO4
  obtain ⟨na4, nc4, rfl⟩ := hO4.nsl
  obtain ⟨ra4, rc4, rfl, _⟩ := hO4.r
  have Hbf := hid (Below.next Hb2.out (Below.next Hbx.out hb4))
  have HX4 := hid ((hb4.block _ (by have := lt_of_block HX2.out; simp; omega)).trans ((Hbx.out.block _ (lt_of_block HX2.out)).trans HX2.out))
  obtain ⟨⟨y0, y1⟩, yf0, yf1⟩ := cblk2 HX4.out
  have zx := lt_of_block HX4.out
  have hz2 := lt_of_block HX2.out
  have hxe := heap_setCell_same _ W.heap.size 1 _ _ (.slice ra4 (trimF (quoF ee (rdG l ns cs TS))).roots.length rc4) (heap_setCell_same w4 W.heap.size 0 _ _ (.slice na4 (trimF (quoF ee (rdG l ns cs TS))).nodes.length nc4) HX4.out)
  have Hxe := hid hxe
  clear hO4 hb4 hgq hee hxe HG2 hnn
  have hqz : W.heap.size < (w2.alloc (.cells #[.slice na TS.length nc, .slice ra (rdG l ns cs TS).roots.length rc] 25)).heap.size := by simp; omega
  have HOf := hid (og_base (og_far (i := 1) (v := .slice ra4 (trimF (quoF ee (rdG l ns cs TS))).roots.length rc4) (og_far (i := 0) (v := .slice na4 (trimF (quoF ee (rdG l ns cs TS))).nodes.length nc4) HO4.out hqz) hqz) (Nat.le_of_lt hqz))
  clear HO4
  go_wp2
  exact bodyPost_ret (ret_grE Tryz.results14 (by rfl) (by rfl) Hxe.out) rfl ⟨⟨_, _, avs, TS, ee, rfl, HF2.out, Hgq.out, Hee.out, HOf.out⟩, (Hbf.out.setCell (p := ⟨W.heap.size, 0, none⟩) (Nat.le_refl _) _).setCell (p := ⟨W.heap.size, 1, none⟩) (Nat.le_refl _) _⟩
end
end Go.Proofs.YtnoggmeffindbabGreatDoor
