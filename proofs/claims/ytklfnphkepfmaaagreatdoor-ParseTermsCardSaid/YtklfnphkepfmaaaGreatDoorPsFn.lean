/- The parser's small functions: the token that stands here, giving up. -/
import Derived.Test.YtklfnphkepfmaaaGreatDoorLxRow
import Derived.WalkLawsBesides
import Derived.Deep.AppendLies
namespace Go.Proofs.YtklfnphkepfmaaaGreatDoor
open Go.RowKit

/-- The parser at block pb: its tokens and how many were passed. -/
structure Ps (w : World) (pb : Nat) (tv : Value) (ts : List Tk) (i : Nat) : Prop where
  b : w.heap[pb]? = some (.cells #[tv, .int .i64 (i : Int)] 113)
  t : Rt w tv ts
  ap : ∀ ad n c, tv = .slice (some ad) n c → ad.block ≠ pb
theorem Ps.cells {w : World} {pb : Nat} {tv : Value} {ts : List Tk} {i : Nat} (h : Ps w pb tv ts i) : (w.cell? ⟨pb, 0, none⟩ = some tv ∧ w.cell? ⟨pb, 1, none⟩ = some (.int .i64 (i : Int))) ∧ w.frozen? ⟨pb, 1, none⟩ = false := by
  have := h.b
  refine ⟨⟨?_, ?_⟩, ?_⟩ <;> simp [World.cell?, World.frozen?, this]
theorem Ps.below {w w' : World} {pb : Nat} {tv : Value} {ts : List Tk} {i : Nat} (h : Ps w pb tv ts i) (hb : Below w.heap.size w w') : Ps w' pb tv ts i := by
  refine ⟨(hb.block pb (lt_of_block h.b)).trans h.b, ?_, h.ap⟩
  obtain ⟨ao, c, rfl, ht⟩ := h.t
  refine ⟨ao, c, rfl, fun j hj => ?_⟩
  obtain ⟨b, o, e, hc⟩ := ht j hj
  refine ⟨b, o, e, fun k u hu => ?_⟩
  have := hc k u hu
  rw [hb.cell (p := ⟨b, o + j * 5 + k, none⟩) (lt_of_cell this)]
  exact this
/-- The parser went on. -/
theorem Ps.grown {w w' : World} {pb : Nat} {tv : Value} {ts : List Tk} {i i' : Nat} (h : Ps w pb tv ts i) (hg : w.grownBy w' (some pb)) (hb : w'.heap[pb]? = some (.cells #[tv, .int .i64 (i' : Int)] 113)) : Ps w' pb tv ts i' := by
  refine ⟨hb, ?_, h.ap⟩
  have hap := h.ap
  obtain ⟨ao, c, rfl, ht⟩ := h.t
  refine ⟨ao, c, rfl, fun j hj => ?_⟩
  obtain ⟨b, o, e, hc⟩ := ht j hj
  subst e
  have hne : b ≠ pb := hap _ _ _ rfl
  refine ⟨b, o, rfl, fun k u hu => ?_⟩
  have := hc k u hu
  rw [hg.cell_far ⟨b, o + j * 5 + k, none⟩ (lt_of_cell this) (fun e => hne (by injection e))]
  exact this
/-- The block of a parser's fault. -/
def pfault (c a : Int) : Obj := .cells #[.int .i64 c, .int .i64 a, .string ⟨#[]⟩, .nilIface] 86
theorem blk5 {w : World} {q : Nat} {u0 u1 u2 u3 u4 : Value} {T : TypeId} (h : w.heap[q]? = some (.cells #[u0, u1, u2, u3, u4] T)) : (w.cell? ⟨q, 0, none⟩ = some u0 ∧ w.cell? ⟨q, 1, none⟩ = some u1 ∧ w.cell? ⟨q, 2, none⟩ = some u2 ∧ w.cell? ⟨q, 3, none⟩ = some u3 ∧ w.cell? ⟨q, 4, none⟩ = some u4) ∧ w.frozen? ⟨q, 0, none⟩ = false ∧ w.frozen? ⟨q, 1, none⟩ = false ∧ w.frozen? ⟨q, 2, none⟩ = false ∧ w.frozen? ⟨q, 3, none⟩ = false ∧ w.frozen? ⟨q, 4, none⟩ = false := by
  refine ⟨⟨?_, ?_, ?_, ?_, ?_⟩, ?_, ?_, ?_, ?_, ?_⟩ <;> simp [World.cell?, World.frozen?, h]
set_option maxRecDepth 100000 in
set_option maxHeartbeats 4000000 in
theorem token_any {w : World} {pb : Nat} {tv : Value} {ts : List Tk} {i : Nat} (h : Ps w pb tv ts i) (hi : i < ts.length) :
    Calls Tryz.prog 99 #[.pointer (some ⟨pb, 0, none⟩)] w fun e w' => e = .returned (tokV (ts.getD i tk0)) ∧ Below w.heap.size w w' := by
  obtain ⟨⟨c0, c1⟩, _⟩ := h.cells
  obtain ⟨ao, c, rfl, ht⟩ := h.t
  obtain ⟨b, o, rfl, hc⟩ := ht i hi
  have t0 := hc 0 _ rfl
  rw [Nat.add_zero] at t0
  have t1 := hc 1 _ rfl
  have t2 := hc 2 _ rfl
  have t3 := hc 3 _ rfl
  have t4 := hc 4 _ rfl
  have zb := lt_of_cell t0
  have zp := lt_of_cell c0
  have hi2 : (i : Int) < (ts.length : Int) := by omega
  unfold tokV
  generalize ts.getD i tk0 = t at *
  generalize ts.length = N at *
  clear h ht hc
  go_enter Tryz.func99, Tryz.ntmps99
  go_wp2
  go_region
  go_wp2
  refine bodyPost_ret (ret_tok1 (x := t) Tryz.results99 (by rfl) (by exact heap_alloc_new w _)) rfl ⟨rfl, (below_alloc w _).drew⟩
theorem tok_kind {w : World} (a b c d e : Value) : (Instr.field 77 (.agg #[a, b, c, d, e]) 0).run Tryz.prog w = .ok a w := by
  simp [Instr.field, go_sem, asAgg]
theorem tok_text {w : World} (a b c d e : Value) : (Instr.field 77 (.agg #[a, b, c, d, e]) 1).run Tryz.prog w = .ok b w := by
  simp [Instr.field, go_sem, asAgg]
theorem tok_num {w : World} (a b c d e : Value) : (Instr.field 77 (.agg #[a, b, c, d, e]) 2).run Tryz.prog w = .ok c w := by
  simp [Instr.field, go_sem, asAgg]
theorem tok_at {w : World} (a b c d e : Value) : (Instr.field 77 (.agg #[a, b, c, d, e]) 3).run Tryz.prog w = .ok d w := by
  simp [Instr.field, go_sem, asAgg]
attribute [local go_sem] tok_kind tok_text tok_num tok_at
/-- Giving up: a panic with a fault at the token that stands here. -/
def Gave (w w' : World) (e : Ending) (c : Int) (a : Int) : Prop := ∃ b, e = .panicked [{ v := .iface 82 (.pointer (some ⟨b, 0, none⟩)), recovered := false }] ∧ w'.heap[b]? = some (pfault c a) ∧ w.heap.size ≤ b ∧ Below w.heap.size w w'
set_option maxRecDepth 100000 in
set_option maxHeartbeats 4000000 in
theorem giveUp_any {w : World} {pb : Nat} {tv : Value} {ts : List Tk} {i : Nat} (h : Ps w pb tv ts i) (hi : i < ts.length) (c : Int) :
    Calls Tryz.prog 117 #[.pointer (some ⟨pb, 0, none⟩), .int .i64 c] w fun e w' => Gave w w' e c ((ts.getD i tk0).at_ : Int) := by
  have ht := token_any h hi
  unfold tokV at ht
  generalize ts.getD i tk0 = t at *
  clear h
  go_enter Tryz.func117, Tryz.ntmps117
  go_wp2_with (go_at_call 99; refine ht.mono ?_; rintro e w1 ⟨rfl, hb1⟩)
  exact ⟨rfl, w1.heap.size, rfl, heap_alloc_new w1 _, hb1.size, Below.next hb1 (below_alloc w1 _)⟩
/-- The kind of the token that stands here. -/
theorem kind_any {w : World} {pb : Nat} {tv : Value} {ts : List Tk} {i : Nat} (h : Ps w pb tv ts i) (hi : i < ts.length) :
    Calls Tryz.prog 59 #[.pointer (some ⟨pb, 0, none⟩)] w fun e w' => e = .returned (.int .i64 (ts.getD i tk0).kind) ∧ Below w.heap.size w w' := by
  have ht := token_any h hi
  unfold tokV at ht
  generalize ts.getD i tk0 = t at *
  clear h
  go_enter Tryz.func59, Tryz.ntmps59
  go_wp2_with (go_at_call 99; refine ht.mono ?_; rintro e w1 ⟨rfl, hb1⟩)
  go_ret
  exact ⟨rfl, hb1⟩
end Go.Proofs.YtklfnphkepfmaaaGreatDoor
