/- What the references' faults do: none, one with a code alone, and the question whether an error is just such a fault. -/
import Derived.Test.YtpmpdbdblfgpcaaDoorPacks
import Derived.Deep.QuietTactic
import Derived.BigQuiet
namespace Go.Proofs.YtpmpdbdblfgpcaaDoor
open Go.RowKit

/-- A reference's fault with a code alone, as a value. -/
abbrev ofV (c : Int) : Value := .agg #[.int .i64 c, .int .i64 (-1), .string ⟨#[]⟩, .slice none 0 0]
/-- No fault, as a value. -/
abbrev noV : Value := .agg #[.int .i64 0, .int .i64 0, .string ⟨#[]⟩, .slice none 0 0]
theorem bcell {W w1 : World} (hb : Below W.heap.size W w1) : (∀ b o, b < W.heap.size → w1.cell? ⟨b, o, none⟩ = W.cell? ⟨b, o, none⟩) ∧ (∀ b o, b < W.heap.size → w1.frozen? ⟨b, o, none⟩ = W.frozen? ⟨b, o, none⟩) :=
  ⟨fun b o h => hb.cell (p := ⟨b, o, none⟩) h, fun b o h => hb.frozen (p := ⟨b, o, none⟩) h⟩
set_option maxHeartbeats 400000 in
theorem of_any (c : Int) (w : World) :
    Calls Tryd.prog 31 #[.int .i64 c] w fun e w' => e = .returned (ofV c) ∧ Below w.heap.size w w' := by
  go_enter Tryd.func31, Tryd.ntmps31
  go_wp2
  exact bodyPost_ret (v := ofV c) (by simp [results, Tryd.results31, go_sem, ofV]) rfl ⟨rfl, (Below.refl _ _).alloc (Nat.le_refl _) _⟩
set_option maxHeartbeats 400000 in
theorem no_any (w : World) :
    Calls Tryd.prog 33 #[] w fun e w' => e = .returned noV ∧ Below w.heap.size w w' := by
  go_enter Tryd.func33, Tryd.ntmps33
  go_wp2
  exact bodyPost_ret (v := noV) (by simp [results, Tryd.results33, go_sem, noV]) rfl ⟨rfl, (Below.refl _ _).alloc (Nat.le_refl _) _⟩
set_option maxHeartbeats 400000 in
theorem is_no (w : World) :
    Calls Tryd.prog 12 #[.nilIface, noV] w fun e w' => e = .returned (.bool true) ∧ Below w.heap.size w w' := by
  unfold noV
  go_enter Tryd.func12, Tryd.ntmps12
  go_wp2
  go_loop [0] (fun e => e = .nilIface) (fun _ => 0)
  case atStart => rfl
  case round =>
    subst hrel
    go_wp2
    go_ret
    exact ⟨rfl, (Below.refl _ _).alloc (Nat.le_refl _) _⟩
/-- An error asked for the very pointer type that it has. -/
theorem assert_ptr {P : Program} (w : World) (t xT e : TypeId) (v : Value) (h : P.underlying t = some (.pointer e)) : (Instr.typeAssert (.iface t v) xT t true).run P w = .ok (.tuple #[v, .bool true]) w := by
  simp [Instr.typeAssert, run_underlying h, go_sem, Result.andThen]
set_option maxRecDepth 100000 in
set_option maxHeartbeats 1000000 in
theorem is_of (c : Int) (b : Nat) (w : World) (hc : (c == 0) = false) (hb : b < w.heap.size) (h0 : w.cell? ⟨b, 0, none⟩ = some (.int .i64 c)) (h1 : w.cell? ⟨b, 1, none⟩ = some (.int .i64 (-1)))
    (h2 : w.cell? ⟨b, 2, none⟩ = some (.string ⟨#[]⟩)) (h3 : w.cell? ⟨b, 3, none⟩ = some .nilIface) :
    Calls Tryd.prog 12 #[.iface 51 (.pointer (some ⟨b, 0, none⟩)), ofV c] w fun e w' => e = .returned (.bool true) ∧ Below w.heap.size w w' := by
  unfold ofV
  have hta := fun (w : World) (v : Value) => assert_ptr (P := Tryd.prog) w 51 25 54 v Tryd.underlying51
  go_enter Tryd.func12, Tryd.ntmps12
  go_wp2
  go_loop [0] (fun e => e = .iface 51 (.pointer (some ⟨b, 0, none⟩))) (fun _ => 0)
  case atStart => rfl
  case round =>
    subst hrel
    go_wp2
    go_quiet (fail)
    go_wp2
    go_ret
    exact ⟨rfl, below_drewN ((Below.refl _ _).alloc (Nat.le_refl _) _) _⟩
/-- A fault with a code alone lies at a block. -/
def FaultAt (w : World) (b : Nat) (c : Int) : Prop :=
  b < w.heap.size ∧ w.cell? ⟨b, 0, none⟩ = some (.int .i64 c) ∧ w.cell? ⟨b, 1, none⟩ = some (.int .i64 (-1)) ∧ w.cell? ⟨b, 2, none⟩ = some (.string ⟨#[]⟩) ∧ w.cell? ⟨b, 3, none⟩ = some .nilIface
theorem faultAt_new (w : World) (c : Int) : FaultAt (w.alloc (faultObj c)) w.heap.size c := by
  refine ⟨by simp, ?_, ?_, ?_, ?_⟩ <;> simp [faultObj, go_sem]
theorem FaultAt.below {w w' : World} {b : Nat} {c : Int} {n : Nat} (h : FaultAt w b c) (hq : Below n w w') (hn : b < n) : FaultAt w' b c := by
  obtain ⟨h0, h1, h2, h3, h4⟩ := h
  have hc : ∀ o, w'.cell? ⟨b, o, none⟩ = w.cell? ⟨b, o, none⟩ := fun o => hq.cell (p := ⟨b, o, none⟩) hn
  exact ⟨Nat.lt_of_lt_of_le h0 hq.size, by rw [hc, h1], by rw [hc, h2], by rw [hc, h3], by rw [hc, h4]⟩
theorem FaultAt.alloc {w : World} {b : Nat} {c : Int} (h : FaultAt w b c) (o : Obj) : FaultAt (w.alloc o) b c :=
  h.below ((Below.refl w.heap.size w).alloc (Nat.le_refl _) o) h.1
theorem FaultAt.setCell {w : World} {b : Nat} {c : Int} (h : FaultAt w b c) {p : Addr} (hp : b < p.block ∨ p.block < b) (v : Value) : FaultAt (w.setCell p v) b c := by
  obtain ⟨h0, h1, h2, h3, h4⟩ := h
  have hc : ∀ o, (w.setCell p v).cell? ⟨b, o, none⟩ = w.cell? ⟨b, o, none⟩ := fun o => World.cell?_setCell_other w p ⟨b, o, none⟩ v (by intro e; subst e; simp at hp)
  exact ⟨by simpa using h0, by rw [hc, h1], by rw [hc, h2], by rw [hc, h3], by rw [hc, h4]⟩
/-- A variable of four cells lies at a block and may be written. -/
def BoxAt (w : World) (b : Nat) (x0 x1 x2 x3 : Value) : Prop :=
  b < w.heap.size ∧ w.cell? ⟨b, 0, none⟩ = some x0 ∧ w.cell? ⟨b, 1, none⟩ = some x1 ∧ w.cell? ⟨b, 2, none⟩ = some x2 ∧ w.cell? ⟨b, 3, none⟩ = some x3 ∧
    w.frozen? ⟨b, 0, none⟩ = false ∧ w.frozen? ⟨b, 1, none⟩ = false ∧ w.frozen? ⟨b, 2, none⟩ = false ∧ w.frozen? ⟨b, 3, none⟩ = false
theorem boxAt_new (w : World) (x0 x1 x2 x3 : Value) (t : TypeId) : BoxAt (w.alloc (.cells #[x0, x1, x2, x3] t)) w.heap.size x0 x1 x2 x3 := by
  refine ⟨by simp, ?_, ?_, ?_, ?_, ?_, ?_, ?_, ?_⟩ <;> simp [go_sem]
theorem BoxAt.below {w w' : World} {b : Nat} {x0 x1 x2 x3 : Value} {n : Nat} (h : BoxAt w b x0 x1 x2 x3) (hq : Below n w w') (hn : b < n) : BoxAt w' b x0 x1 x2 x3 := by
  obtain ⟨h0, h1, h2, h3, h4, f1, f2, f3, f4⟩ := h
  have hc : ∀ o, w'.cell? ⟨b, o, none⟩ = w.cell? ⟨b, o, none⟩ := fun o => hq.cell (p := ⟨b, o, none⟩) hn
  have hf : ∀ o, w'.frozen? ⟨b, o, none⟩ = w.frozen? ⟨b, o, none⟩ := fun o => hq.frozen (p := ⟨b, o, none⟩) hn
  exact ⟨Nat.lt_of_lt_of_le h0 hq.size, by rw [hc, h1], by rw [hc, h2], by rw [hc, h3], by rw [hc, h4], by rw [hf, f1], by rw [hf, f2], by rw [hf, f3], by rw [hf, f4]⟩
theorem BoxAt.alloc {w : World} {b : Nat} {x0 x1 x2 x3 : Value} (h : BoxAt w b x0 x1 x2 x3) (o : Obj) : BoxAt (w.alloc o) b x0 x1 x2 x3 :=
  h.below ((Below.refl w.heap.size w).alloc (Nat.le_refl _) o) h.1
theorem is_fault (c : Int) (b : Nat) (w : World) (hc : (c == 0) = false) (h : FaultAt w b c) :
    Calls Tryd.prog 12 #[.iface 51 (.pointer (some ⟨b, 0, none⟩)), ofV c] w fun e w' => e = .returned (.bool true) ∧ Below w.heap.size w w' :=
  is_of c b w hc h.1 h.2.1 h.2.2.1 h.2.2.2.1 h.2.2.2.2
end Go.Proofs.YtpmpdbdblfgpcaaDoor
