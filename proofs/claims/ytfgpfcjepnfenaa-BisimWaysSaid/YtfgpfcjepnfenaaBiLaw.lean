/- Arguments of layer 5's laws: ways. -/
import Derived.Test.YtfgpfcjepnfenaaGrLaw
namespace Go.Proofs.Ytfgpfcjepnfenaa
open Go.ChangeShapes Go.WideShapes Go.ChangeAt Go.RowKit Go.Deep

theorem cellsWay : Try.prog.cellsOf 51 = 5 := by kernel_rfl
set_option maxRecDepth 100000 in
theorem way_of {H : Type} {enc : TypeId × Value → H} {W : World} {base : Nat} {u : Value} {d : DataW H} {p : List MemPlace} (hv : Value.okWide Try.prog W .any base 51 u) (h : DataW.Trod enc Try.prog W 0 (fun _ => true) true 51 u d p) :
    ∃ (nv rv : Value) (g : Gf) (i j : Int) (pv : Value) (l : List Int), u = .agg #[nv, rv, .int .i64 i, .int .i64 j, pv] ∧ Gr W nv rv g ∧ Sized g ∧ Ri W pv l ∧ l.length ≤ 9223372036854775807 := by
  obtain ⟨cs, rfl, hsz⟩ := okWide_struct Try.underlying51 hv
  obtain ⟨fuel, hf⟩ := h
  have hf' : DataW.trod enc Try.prog W 0 (fun _ => true) true fuel 51 cs.toList = some (d, p) := by simpa [Value.cells] using hf
  obtain ⟨xs, n, _, hx, hl, hlen, hF⟩ := DataW.trod_struct Try.underlying51 hf'
  rw [cellsWay] at hl
  generalize hcs : cs.toList = cl at hl hF
  match cl, hl with
  | [c0, c1, c2, c3, c4], _ =>
    match xs, hlen with
    | [y0, y1, y2, y3], _ =>
      have h0 := hF 0 _ rfl
      have h1 := hF 1 _ rfl
      have h2 := hF 2 _ rfl
      have h3 := hF 3 _ rfl
      simp [cellsG] at h0
      simp [cellsI] at h1 h2
      simp [cellsIs] at h3
      obtain ⟨nv, rv, g, e0, hg, hs⟩ := graph_of_cells h0
      obtain ⟨a1, e1, _, w1⟩ := DataW.trod_int Try.underlying3 h1
      obtain ⟨a2, e2, _, w2⟩ := DataW.trod_int Try.underlying3 h2
      obtain ⟨l, hr, hll⟩ := ints_of_cells h3
      simp at e0 e1 e2
      obtain ⟨rfl, rfl⟩ := e0
      subst e1 e2
      refine ⟨_, _, g, a1, a2, _, l, ?_, hg, hs, hr, hll⟩
      congr 1
      exact Array.toList_inj.1 (by simpa using hcs)
end Go.Proofs.Ytfgpfcjepnfenaa
