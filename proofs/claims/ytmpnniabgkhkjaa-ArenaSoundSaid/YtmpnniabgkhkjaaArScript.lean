/- A script of calls among what came in; words that may stand stay so where nothing is cut. -/
import Derived.Test.YtmpnniabgkhkjaaArRes
import Derived.Deep.Slices
namespace Go.Proofs.Ytmpnniabgkhkjaa
open Go.ChangeShapes Go.WideShapes Go.ChangeAt Go.RowKit

/-- One call of a script. -/
structure OpV where
  k : Int
  n : Int
  u : Int
  s : Value
  x : List Int
def OpV.ok (W : World) (o : OpV) : Prop :=
  (-9223372036854775808 ≤ o.k ∧ o.k ≤ 9223372036854775807) ∧ (-9223372036854775808 ≤ o.n ∧ o.n ≤ 9223372036854775807) ∧ (0 ≤ o.u ∧ o.u ≤ 18446744073709551615) ∧ Rd W o.s o.x
/-- The four cells of one call. -/
def Ops.w4 (W : World) (b o : Nat) (x : OpV) : Prop :=
  W.cell? ⟨b, o, none⟩ = some (.int .i64 x.k) ∧ W.cell? ⟨b, o + 1, none⟩ = some (.int .i64 x.n) ∧ W.cell? ⟨b, o + 2, none⟩ = some (.int .u64 x.u) ∧ W.cell? ⟨b, o + 3, none⟩ = some x.s
/-- A script: a slice of calls, each of four cells. -/
def Ops (W : World) (v : Value) (os : Nat → OpV) (len : Nat) : Prop :=
  (∃ ao c, v = .slice ao 0 c ∧ len = 0) ∨ ∃ b o c, v = .slice (some ⟨b, o, none⟩) len c ∧ len ≤ 9223372036854775807 ∧ ∀ j, j < len → (os j).ok W ∧ Ops.w4 W b (o + j * 4) (os j)
theorem ops_of {H : Type} {enc : TypeId × Value → H} {W : World} {base : Nat} {u : Value} {d : DataW H} {p : List MemPlace} (hv : Value.okWide Try.prog W .any base 22 u) (h : DataW.Trod enc Try.prog W 0 (fun _ => true) true 22 u d p) :
    ∃ os len, Ops W u os len := by
  obtain ⟨a, len, cap, rfl⟩ := okWide_slice Try.underlying22 hv
  obtain ⟨fuel, hf⟩ := h
  have hf' : DataW.trod enc Try.prog W 0 (fun _ => true) true fuel 22 [.slice a len cap] = some (d, p) := by simpa [Value.cells] using hf
  rcases Go.Deep.open_slice Try.underlying22 hf' with ⟨hcs, _⟩ | ⟨ad, len', cap', m, n, D, Pl, hcs, _, hl, hm, hmm, _, hel⟩
  · simp at hcs
    obtain ⟨rfl, rfl, rfl⟩ := hcs
    exact ⟨fun _ => ⟨0, 0, 0, .nilIface, []⟩, 0, Or.inl ⟨_, _, rfl, rfl⟩⟩
  · simp at hcs
    obtain ⟨rfl, rfl, rfl⟩ := hcs
    simp only [if_true] at hmm
    rw [cellsOp] at hel
    by_cases h0 : len = 0
    · subst h0
      exact ⟨fun _ => ⟨0, 0, 0, .nilIface, []⟩, 0, Or.inl ⟨_, _, rfl, rfl⟩⟩
    have each : ∀ i, ∃ o : OpV, i < len → o.ok W ∧ W.cells? 0 (ad.add (i * 4)) 4 = some [.int .i64 o.k, .int .i64 o.n, .int .u64 o.u, o.s] := fun i => by
      by_cases hi : i < len
      · obtain ⟨cs', hc, ht⟩ := hel i (by omega)
        obtain ⟨k, n, u, s, l, rfl, h1, h2, h3, h4⟩ := op_of_cells ht
        exact ⟨⟨k, n, u, s, l⟩, fun _ => ⟨⟨h1, h2, h3, h4⟩, hc⟩⟩
      · exact ⟨⟨0, 0, 0, .nilIface, []⟩, fun h => absurd h hi⟩
    obtain ⟨os, hos⟩ : ∃ os : Nat → OpV, ∀ i, i < len → (os i).ok W ∧ W.cells? 0 (ad.add (i * 4)) 4 = some [.int .i64 (os i).k, .int .i64 (os i).n, .int .u64 (os i).u, (os i).s] :=
      ⟨fun i => Classical.choose (each i), fun i => Classical.choose_spec (each i)⟩
    obtain ⟨b, off, spot⟩ := ad
    have hc0 := World.cells?_some (hos 0 (by omega)).2
    have hspot : spot = none := by
      have := hc0.2.2 0 (by omega)
      simp at this
      simpa [Addr.add] using World.cell?_spot this
    subst hspot
    refine ⟨os, len, Or.inr ⟨b, off, cap, rfl, by unfold maxLen at hm; omega, fun j hj => ⟨(hos j hj).1, ?_⟩⟩⟩
    have hcj := (World.cells?_some (hos j hj).2).2.2
    have e : ∀ i, ((⟨b, off, none⟩ : Addr).add (j * 4)).add i = ⟨b, off + j * 4 + i, none⟩ := fun i => by rw [add_plain, add_plain]
    refine ⟨?_, ?_, ?_, ?_⟩
    · have := hcj 0 (by omega); rw [e] at this; simpa using this
    · have := hcj 1 (by omega); rw [e] at this; simpa using this
    · have := hcj 2 (by omega); rw [e] at this; simpa using this
    · have := hcj 3 (by omega); rw [e] at this; simpa using this
theorem mayB_mono {x t t' : Int} (h : mayB x t = true) (ht : t ≤ t') : mayB x t' = true := by
  simp [mayB] at h ⊢
  refine ⟨h.1, ?_⟩
  rcases h.2 with h2 | h2
  · exact Or.inl h2
  · exact Or.inr (by omega)
theorem mayB_self (j : Nat) (t : Int) (hj : (j : Int) < t) (h6 : j < 65536) : mayB (8 * (j : Int)) t = true := by
  have hv : valOf (8 * (j : Int)) = j := by unfold valOf wrap64; omega
  have hm : (8 * (j : Int)) % 8 = 0 := by omega
  have hg : goodB (8 * (j : Int)) = true := by unfold goodB; rw [hm, hv]; simp [fitsB]; omega
  simp [mayB, hg, hv]
  exact Or.inr hj
theorem allMay_nil : AllMay [] (([] : List Int).length : Int) := fun j hj => by simp at hj
theorem allMay_alloc {l : List Int} {k : Nat} (h : AllMay l l.length) (hk : l.length + k ≤ 65536) : AllMay (l ++ frsh l.length k) ((l ++ frsh l.length k).length : Int) := fun j hj => by
  have hl : (l ++ frsh l.length k).length = l.length + k := by simp [frsh_len]
  rw [hl] at hj ⊢
  by_cases h1 : j < l.length
  · have e : (l ++ frsh l.length k).getD j 0 = l.getD j 0 := by simp [List.getD, List.getElem?_append_left h1]
    rw [e]
    exact mayB_mono (h j h1) (by omega)
  · have e : (l ++ frsh l.length k).getD j 0 = 8 * (j : Int) := by
      have h4 : j - l.length < k := by omega
      simp [List.getD, List.getElem?_append_right (show l.length ≤ j by omega), frsh, h4]
      omega
    rw [e]
    exact mayB_self j _ (by omega) (by omega)
theorem allMay_set {l : List Int} {k : Nat} {u : Int} (h : AllMay l l.length) (hu : mayB u l.length = true) : AllMay (l.set k u) ((l.set k u).length : Int) := fun j hj => by
  rw [List.length_set] at hj ⊢
  by_cases e : k = j
  · subst e
    have : (l.set k u).getD k 0 = u := by simp [List.getD, hj]
    rw [this]
    exact hu
  · have : (l.set k u).getD j 0 = l.getD j 0 := by simp [List.getD, List.getElem?_set_ne e]
    rw [this]
    exact h j hj
theorem allocR_may {m : Int} {l l' : List Int} {n c a r : Int} (h : AllocR m l n c a r l') (hm : m ≤ 65536) (ha : AllMay l l.length) : AllMay l' l'.length := by
  rcases h with ⟨_, _, _, _, rfl⟩ | ⟨_, _, _, _, _, rfl⟩ | ⟨k, _, _, hk, _, _, _, rfl⟩
  · exact ha
  · exact ha
  · exact allMay_alloc ha (by omega)
theorem storeR_may {l l' : List Int} {n u c a : Int} (h : StoreR l n u c a l') (ha : AllMay l l.length) : AllMay l' l'.length := by
  rcases h with ⟨_, _, _, rfl⟩ | ⟨_, _, _, _, rfl⟩ | ⟨k, _, _, hu, _, _, rfl⟩
  · exact ha
  · exact ha
  · exact allMay_set ha hu
theorem fillR_may {m : Int} {l x l' : List Int} {c a : Int} (h : FillR m l x c a l') (ha : AllMay l l.length) : AllMay l' l'.length := by
  rcases h with ⟨_, _, _, rfl⟩ | ⟨_, _, _, _, _, rfl⟩ | ⟨_, hx, _, _, rfl⟩
  · exact ha
  · exact ha
  · exact hx
/-- A script keeps its cells where nothing below has changed. -/
theorem Ops.cells {W w : World} {b o : Nat} {x : OpV} (h : Ops.w4 W b o x) (hb : Below W.heap.size W w) : Ops.w4 w b o x := by
  have hlt : b < W.heap.size := lt_of_cell h.1
  have hc : ∀ i, w.cell? ⟨b, i, none⟩ = W.cell? ⟨b, i, none⟩ := fun i => hb.cell (p := ⟨b, i, none⟩) hlt
  exact ⟨by rw [hc, h.1], by rw [hc, h.2.1], by rw [hc, h.2.2.1], by rw [hc, h.2.2.2]⟩
end Go.Proofs.Ytmpnniabgkhkjaa
