/- What the laws of layer 2 share: arguments that are rows of words, a row copied by 'append([]uint64{}, words...)', two arenas side by side. -/
import Derived.Test.YtmpnniabgkhkjaaRows
import Derived.Test.YtmpnniabgkhkjaaArNil
import Derived.ProofKit
import Derived.SizedLaws
import Derived.OpenShut
namespace Go.Proofs.Ytmpnniabgkhkjaa
open Go.ChangeShapes Go.WideShapes Go.ChangeAt Go.RowKit

theorem own : ownKnob Try.prog.godebug = none := by kernel_rfl
theorem laidOut : laidOutB Try.prog = true := by kernel_rfl
theorem bytesU : Try.prog.bytesOf 38 = 8 := by kernel_rfl
theorem cellsU : Try.prog.cellsOf 38 = 1 := by kernel_rfl
theorem wf_u64 {n : Int} (h : (Lit.int .u64 n).wf = true) : 0 ≤ n ∧ n ≤ 18446744073709551615 := by
  have h1 : IntKind.u64.min = 0 := rfl
  have h2 : IntKind.u64.max = 18446744073709551615 := rfl
  simp only [Lit.wf, Bool.and_eq_true, decide_eq_true_eq] at h
  omega
theorem wf_i64 {n : Int} (h : (Lit.int .i64 n).wf = true) : -9223372036854775808 ≤ n ∧ n ≤ 9223372036854775807 := by
  have h1 : IntKind.i64.min = -9223372036854775808 := rfl
  have h2 : IntKind.i64.max = 9223372036854775807 := rfl
  simp only [Lit.wf, Bool.and_eq_true, decide_eq_true_eq] at h
  omega
/-- A row of words among what came in, read off its cells. -/
theorem rd_of_cells {H : Type} {enc : TypeId × Value → H} {W : World} {fuel : Nat} {u : Value} {x : DataW H × List MemPlace} (h : DataW.trod enc Try.prog W 0 (fun _ => true) true fuel 29 [u] = some x) :
    ∃ l, Rd W u l ∧ ((x.1 = .nil ∧ l = []) ∨ ∃ el sp, x.1 = .slice el sp ∧ el.length = l.length) := by
  rcases open_ints Try.underlying29 Try.underlying38 cellsU h with ⟨hcs, hx⟩ | ⟨a, len, cap, zs, hcs, _, hl, hm, hz, hx, hcell, hwz⟩
  · simp at hcs
    subst hcs
    exact ⟨[], ⟨by simp, Or.inl ⟨rfl, rfl⟩⟩, Or.inl ⟨by rw [hx], rfl⟩⟩
  · simp at hcs
    subst hcs
    simp only [if_true] at hz
    have hlen : (zs.take len).length = len := by simp; omega
    refine ⟨zs.take len, ⟨fun n hn => wf_u64 (hwz n (List.mem_of_mem_take hn)), ?_⟩, Or.inr ⟨lits .u64 (zs.take len), lits .u64 (zs.drop len), by rw [hx], by simp [lits]⟩⟩
    by_cases h0 : len = 0
    · subst h0
      exact Or.inr (Or.inl ⟨a, cap, rfl, by simp⟩)
    · obtain ⟨b, off, spot⟩ := a
      have hspot : spot = none := by simpa [Addr.add] using World.cell?_spot (hcell 0 (by omega))
      subst hspot
      refine Or.inr (Or.inr ⟨b, off, cap, by rw [hlen], fun j hj => ?_⟩)
      rw [hlen] at hj
      have := hcell j (by omega)
      rw [add_plain] at this
      rw [this]
      simp [List.getD, hj]
theorem rd_of {H : Type} {enc : TypeId × Value → H} {W : World} {base : Nat} {u : Value} {d : DataW H} {p : List MemPlace} (hv : Value.okWide Try.prog W .any base 29 u) (h : DataW.Trod enc Try.prog W 0 (fun _ => true) true 29 u d p) :
    ∃ l, Rd W u l ∧ ((d = .nil ∧ l = []) ∨ ∃ el sp, d = .slice el sp ∧ el.length = l.length) := by
  obtain ⟨a, len, cap, rfl⟩ := okWide_slice Try.underlying29 hv
  obtain ⟨fuel, hf⟩ := h
  have hf' : DataW.trod enc Try.prog W 0 (fun _ => true) true fuel 29 [.slice a len cap] = some (d, p) := by simpa [Value.cells] using hf
  exact rd_of_cells hf'
/-- 'append([]uint64{}, words...)'. -/
theorem wp_copyRow {w : World} {o : Oper} {a : Act} {K : Act → World → Prop} {Q : Exit → Act → World → Prop} (s x : Operand) (ho : o.op = .call { callee := .builtin .append, args := #[s, x], argTypes := #[29, 29] })
    {B g : Nat} {u : Value} {l : List Int} (hs : a.eval s = .slice (some ⟨g, 0, none⟩) 0 0) (hx : a.eval x = u) (hu : Rd w u l) (hg : w.heap[g]? = some (.cells #[] 38 (0, 0))) (hB : B ≤ g) (hl : l.length * 8 ≤ 140737488351232)
    (h : ∀ v' w', w'.ownsRow B 38 1 v' l.length (l.map (Value.int .u64)) → w.grownBy w' (some g) → K (a.put o.dst v') w') : o.wp Try.prog a w K Q := by
  obtain ⟨i0, hi, hz0, hz1, hz2⟩ := info_parts Try.infoU
  have hown : w.ownsRow B 38 1 (.slice (some ⟨g, 0, none⟩) 0 0) 0 [] := ⟨rfl, Or.inr ⟨g, 0, #[], rfl, hB, hg, Nat.le_refl _, Nat.zero_le _, rfl, rfl⟩⟩
  have hgl := lt_of_block hg
  rcases hu.src with ⟨rfl, rfl⟩ | ⟨ad, c, rfl, hn⟩
  · have hrun := run_append_owned_none (P := Try.prog) (w := w) B 29 o.type 38 i0 1 Try.underlying29 hi _ 0 [] hown
    unfold Oper.wp
    simp [execOp, ho, resolve, invoke, builtin, hs, hx, hrun, Result.andThen]
    exact h _ _ (by simpa using hown) (World.grownBy.refl _ _)
  · refine wp_append_own w s x 29 ho B 38 i0 (.int .u64 0) 1 8 Try.underlying29 hi hz0 hz1 hz2 rfl (by decide) _ 0 [] hs hown ad l.length c (l.map (Value.int .u64)) hx (by simp) hn (words_one l) (by unfold maxLen; omega) (by omega) (by omega) (fun v' w' h1 h2 _ => h v' w' (by simpa using h1) (by simpa [Value.ownBlock] using h2))
theorem Ar.row_ne {T T' : TypeId} {w : World} {B B' p p' : Nat} {m m' : Int} {v v' : Value} {l l' : List Int} (h : Ar T w B p m v l) (h' : Ar T' w B' p' m' v' l') : v.ownBlock ≠ some p' := fun e => by
  have hb := h'.blk
  rcases h.own.2 with ⟨rfl, hn⟩ | ⟨g, cap, cur, rfl, _, hg, _⟩
  · simp [Value.ownBlock] at e
  · simp [Value.ownBlock] at e
    subst e
    rw [hg] at hb
    simp at hb
    exact h'.ty hb.2.symm
theorem Ar.keep2 {T T' : TypeId} {w w1 : World} {B B' p p' : Nat} {m m' : Int} {v v' v1 : Value} {l l' l1 : List Int} (h : Ar T w B p m v l) (h' : Ar T' w B' p' m' v' l') (hU : Upd T' w w1 B' p' m' v' l1 v1) (hp : p ≠ p') (hr : ∀ k, v.ownBlock = some k → v'.ownBlock ≠ some k) : Ar T w1 B p m v l :=
  h.keep hU.mod (fun k hk hf => by
    rcases mem_foot.1 hk with rfl | hk
    · rcases mem_foot.1 hf with e | e
      · exact hp e.symm
      · exact h.row_ne h' e
    · rcases mem_foot.1 hf with rfl | e
      · exact h'.row_ne h hk
      · exact hr k e hk)
/-- A row that came in keeps what it tells: it lies below. -/
theorem Rd.old {w w' : World} {u : Value} {l : List Int} {B : Nat} (h : Rd w u l) (hb : Below B w w') (hu : ∀ k, Value.inBlock u = some k → l ≠ [] → k < B) : Rd w' u l := by
  refine ⟨h.1, ?_⟩
  rcases h.2 with h0 | h0 | ⟨b, o, c, rfl, hc⟩
  · exact Or.inl h0
  · exact Or.inr (Or.inl h0)
  · refine Or.inr (Or.inr ⟨b, o, c, rfl, fun j hj => ?_⟩)
    rw [hb.cell (p := ⟨b, o + j, none⟩) (hu b rfl (fun e => by rw [e] at hj; simp at hj))]
    exact hc j hj
theorem Rd.low {w : World} {u : Value} {l : List Int} (h : Rd w u l) : ∀ k, Value.inBlock u = some k → l ≠ [] → k < w.heap.size := fun k hk hl => by
  rcases h.2 with ⟨_, h0⟩ | ⟨_, _, _, h0⟩ | ⟨b, o, c, rfl, hc⟩
  · exact absurd h0 hl
  · exact absurd h0 hl
  · simp [Value.inBlock] at hk
    subst hk
    exact lt_of_cell (hc 0 (by cases l with | nil => exact absurd rfl hl | cons a r => simp))
/-- A variable of four cells lies at a block. -/
def Box4 (w : World) (b : Nat) (x0 x1 x2 x3 : Value) : Prop :=
  b < w.heap.size ∧ w.cell? ⟨b, 0, none⟩ = some x0 ∧ w.cell? ⟨b, 1, none⟩ = some x1 ∧ w.cell? ⟨b, 2, none⟩ = some x2 ∧ w.cell? ⟨b, 3, none⟩ = some x3
theorem box4_new (w : World) (x0 x1 x2 x3 : Value) (t : TypeId) : Box4 (w.alloc (.cells #[x0, x1, x2, x3] t)) w.heap.size x0 x1 x2 x3 := by
  refine ⟨by simp, ?_, ?_, ?_, ?_⟩ <;> simp [go_sem]
theorem Box4.below {w w' : World} {b : Nat} {x0 x1 x2 x3 : Value} (h : Box4 w b x0 x1 x2 x3) (hq : Below w.heap.size w w') : Box4 w' b x0 x1 x2 x3 := by
  obtain ⟨h0, h1, h2, h3, h4⟩ := h
  have hc : ∀ o, w'.cell? ⟨b, o, none⟩ = w.cell? ⟨b, o, none⟩ := fun o => hq.cell (p := ⟨b, o, none⟩) h0
  exact ⟨Nat.lt_of_lt_of_le h0 hq.size, by rw [hc, h1], by rw [hc, h2], by rw [hc, h3], by rw [hc, h4]⟩
theorem below_next {W w w' : World} {B : Nat} (h : Below B W w) (hB : B ≤ W.heap.size) (hN : Below w.heap.size w w') : Below B W w' := h.trans (hN.mono (Nat.le_trans hB h.size))
/-- What a row copied out of a literal leaves of the world. -/
theorem below_lit {w w' : World} {o : Obj} (h : (w.alloc o).grownBy w' (some w.heap.size)) : Below w.heap.size w w' :=
  (below_alloc w o).trans ((Below.refl _ _).grown h (by simp) (fun k e => by simp at e; omega))
end Go.Proofs.Ytmpnniabgkhkjaa
