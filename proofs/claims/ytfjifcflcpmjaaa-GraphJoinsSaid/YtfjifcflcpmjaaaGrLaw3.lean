/- Arguments that are rows of graphs. -/
import Derived.Test.YtfjifcflcpmjaaaGrLaw
import Derived.Test.YtfjifcflcpmjaaaGrJoin
namespace Go.Proofs.Ytfjifcflcpmjaaa
open Go.ChangeShapes Go.WideShapes Go.ChangeAt Go.RowKit Go.Deep

theorem graphs_of_cells {H : Type} {enc : TypeId × Value → H} {W : World} {fuel : Nat} {u : Value} {x : DataW H × List MemPlace} (h : DataW.trod enc Try.prog W 0 (fun _ => true) true fuel 53 [u] = some x) :
    ∃ l : List Gf, Rg W u l ∧ (∀ g ∈ l, Sized g) ∧ l.length ≤ 9223372036854775807 := by
  rcases Go.Deep.open_slice Try.underlying53 h with ⟨hcs, _⟩ | ⟨ad, len, cap, m, n, D, Pl, hcs, _, hl, hm, hmm, _, hel⟩
  · simp at hcs
    subst hcs
    exact ⟨[], ⟨none, 0, rfl, fun _ h => absurd h (Nat.not_lt_zero _)⟩, by simp, by simp⟩
  · simp at hcs
    subst hcs
    simp only [if_true] at hmm
    rw [cellsG] at hel
    have each : ∀ i, ∃ (g : Gf) (nv rv : Value), i < len → (Gr W nv rv g ∧ Sized g) ∧ W.cells? 0 (ad.add (i * 2)) 2 = some [nv, rv] := fun i => by
      by_cases hi : i < len
      · obtain ⟨cs', hc, ht⟩ := hel i (by omega)
        obtain ⟨nv, rv, g, rfl, h1, h2⟩ := graph_of_cells ht
        exact ⟨g, nv, rv, fun _ => ⟨⟨h1, h2⟩, hc⟩⟩
      · exact ⟨gf0, .nilIface, .nilIface, fun h => absurd h hi⟩
    obtain ⟨ns, hns⟩ : ∃ ns : Nat → Gf, ∀ i, ∃ nv rv : Value, i < len → (Gr W nv rv (ns i) ∧ Sized (ns i)) ∧ W.cells? 0 (ad.add (i * 2)) 2 = some [nv, rv] :=
      ⟨fun i => Classical.choose (each i), fun i => Classical.choose_spec (each i)⟩
    refine ⟨(List.range len).map ns, ⟨some ad, cap, by simp, fun j hj => ?_⟩, fun n hn => ?_, by simp; unfold maxLen at hm; omega⟩
    · have hj' : j < len := by simpa using hj
      obtain ⟨b, off, spot⟩ := ad
      obtain ⟨nv, rv, hav⟩ := hns j
      obtain ⟨⟨h1, h2⟩, h3⟩ := hav hj'
      have hcj := (World.cells?_some h3).2.2
      have hspot : spot = none := by
        obtain ⟨nv0, rv0, hav0⟩ := hns 0
        have := (World.cells?_some (hav0 (by omega)).2).2.2 0 (by omega)
        simp at this
        simpa [Addr.add] using World.cell?_spot this
      subst hspot
      have e : ∀ i, ((⟨b, off, none⟩ : Addr).add (j * 2)).add i = ⟨b, off + j * 2 + i, none⟩ := fun i => by rw [add_plain, add_plain]
      have hg : ((List.range len).map ns).getD j gf0 = ns j := by simp [List.getD, hj']
      refine ⟨b, off, nv, rv, rfl, ?_, ?_, ?_⟩
      · have := hcj 0 (by omega); rw [e] at this; simpa using this
      · have := hcj 1 (by omega); rw [e] at this; simpa using this
      · rw [hg]; exact h1
    · obtain ⟨i, hi, rfl⟩ := List.mem_map.1 hn
      obtain ⟨nv, rv, hav⟩ := hns i
      exact (hav (List.mem_range.1 hi)).1.2
theorem graphs_of {H : Type} {enc : TypeId × Value → H} {W : World} {base : Nat} {u : Value} {d : DataW H} {p : List MemPlace} (hv : Value.okWide Try.prog W .any base 53 u) (h : DataW.Trod enc Try.prog W 0 (fun _ => true) true 53 u d p) :
    ∃ l : List Gf, Rg W u l ∧ (∀ g ∈ l, Sized g) ∧ l.length ≤ 9223372036854775807 := by
  obtain ⟨a, len, cap, rfl⟩ := okWide_slice Try.underlying53 hv
  obtain ⟨fuel, hf⟩ := h
  have hf' : DataW.trod enc Try.prog W 0 (fun _ => true) true fuel 53 [.slice a len cap] = some (d, p) := by simpa [Value.cells] using hf
  exact graphs_of_cells hf'
end Go.Proofs.Ytfjifcflcpmjaaa
