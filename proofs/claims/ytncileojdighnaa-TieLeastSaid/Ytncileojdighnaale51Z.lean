/- A row of terms as cells: to be put behind a row of one's own. -/
import Derived.Test.Ytncileojdighnaale50Z
import Derived.Test.Ytncileojdighnaale04Z
namespace Go.Proofs.Ytncileojdighnaa
set_option maxRecDepth 100000
open Go.RowKit
def XC (w : World) (x : Ex) (cs : List Value) : Prop := ∃ (k : Int) (n : ByteArray) (m : Int) (aa : Option Addr) (al ac : Nat), cs = [.int .i64 k, .string n, .int .i64 m, .slice aa al ac] ∧ Xv w x (.agg #[.int .i64 k, .string n, .int .i64 m, .slice aa al ac])
theorem XC.next {w w' : World} (hb : Below w.heap.size w w') {x : Ex} {cs : List Value} (h : XC w x cs) : XC w' x cs := by
  obtain ⟨k, n, m, aa, al, ac, e, hx⟩ := h
  exact ⟨k, n, m, aa, al, ac, e, hx.next hb⟩
theorem own_rxs {w : World} {S g c : Nat} {xs : List Ex} {f : Nat → List Value} (hf : ∀ j, (f j).length = 4) (h : w.ownsRow S 48 4 (.slice (some ⟨g, 0, none⟩) xs.length c) xs.length (flatV f xs.length)) (hx : ∀ j, j < xs.length → XC w (xs.getD j x0) (f j)) : Rxs w (.slice (some ⟨g, 0, none⟩) xs.length c) xs := by
  refine ⟨_, _, rfl, fun j hj => ?_⟩
  obtain ⟨k, n, m, aa, al, ac, e, hv⟩ := hx j hj
  have at' : ∀ t, t < 4 → w.cell? ⟨g, j * 4 + t, none⟩ = (f j)[t]? := fun t ht => by
    rw [h.cellAt _ (by omega)]
    exact flatV_at (z := 4) hf ht xs.length hj
  rw [e] at at'
  have c0 := at' 0 (by omega)
  rw [Nat.add_zero] at c0
  exact ⟨g, 0, k, n, m, aa, al, ac, rfl, by rw [Nat.zero_add]; exact c0, by rw [Nat.zero_add]; exact at' 1 (by omega), by rw [Nat.zero_add]; exact at' 2 (by omega), by rw [Nat.zero_add]; exact at' 3 (by omega), hv⟩
theorem flatV_mem {f : Nat → List Value} {u : Value} : ∀ {n : Nat}, u ∈ flatV f n → ∃ j, j < n ∧ u ∈ f j
  | 0, h => by simp [flatV] at h
  | n + 1, h => by
    rw [flatV_succ] at h
    rcases List.mem_append.1 h with h | h
    · obtain ⟨j, h1, h2⟩ := flatV_mem h
      exact ⟨j, by omega, h2⟩
    · exact ⟨n, by omega, h⟩
theorem rxs_cells {w : World} {ad : Addr} {c : Nat} {xs : List Ex} (h : Rxs w (.slice (some ad) xs.length c) xs) : ∃ f : Nat → List Value, (∀ j, (f j).length = 4) ∧ (∀ j, j < xs.length → XC w (xs.getD j x0) (f j)) ∧ (∀ t u, (flatV f xs.length)[t]? = some u → w.cell? (ad.add t) = some u) ∧ ∀ u ∈ flatV f xs.length, u.oneCell' = true := by
  obtain ⟨ao, c', e, hat⟩ := h
  injection e with e
  subst e
  have each : ∀ j, ∃ cs : List Value, cs.length = 4 ∧ (j < xs.length → XC w (xs.getD j x0) cs ∧ ∀ t, t < 4 → w.cell? (ad.add (j * 4 + t)) = cs[t]?) := fun j => by
    by_cases hj : j < xs.length
    · obtain ⟨b, o, k, n, m, aa, al, ac, e1, c0, c1, c2, c3, hx⟩ := hat j hj
      injection e1 with e1
      subst e1
      refine ⟨_, rfl, fun _ => ⟨⟨k, n, m, aa, al, ac, rfl, hx⟩, fun t ht => ?_⟩⟩
      have hadd : (⟨b, o, none⟩ : Addr).add (j * 4 + t) = ⟨b, o + j * 4 + t, none⟩ := by
        unfold Addr.add
        split <;> simp_all [Nat.add_assoc]
      rw [hadd]
      have ht' : t = 0 ∨ t = 1 ∨ t = 2 ∨ t = 3 := by omega
      rcases ht' with rfl | rfl | rfl | rfl
      · exact c0
      · exact c1
      · exact c2
      · exact c3
    · exact ⟨[.nilIface, .nilIface, .nilIface, .nilIface], rfl, fun h => absurd h hj⟩
  obtain ⟨f, hf⟩ : ∃ f : Nat → List Value, ∀ j, (f j).length = 4 ∧ (j < xs.length → XC w (xs.getD j x0) (f j) ∧ ∀ t, t < 4 → w.cell? (ad.add (j * 4 + t)) = (f j)[t]?) := ⟨fun j => Classical.choose (each j), fun j => Classical.choose_spec (each j)⟩
  have hl := flatV_len (f := f) (z := 4) (fun j => (hf j).1) xs.length
  refine ⟨f, fun j => (hf j).1, fun j hj => ((hf j).2 hj).1, fun t u ht => ?_, fun u hu => ?_⟩
  · have hlt : t < xs.length * 4 := by
      rw [← hl]
      exact (List.getElem?_eq_some_iff.1 ht).1
    have hd : t / 4 * 4 + t % 4 = t := by omega
    have hj : t / 4 < xs.length := by omega
    have h1 := ((hf (t / 4)).2 hj).2 (t % 4) (by omega)
    rw [hd] at h1
    rw [h1, ← flatV_at (z := 4) (fun j => (hf j).1) (by omega) xs.length hj, hd]
    exact ht
  · obtain ⟨j, hj, hm⟩ := flatV_mem hu
    obtain ⟨k, n, m, aa, al, ac, e, _⟩ := ((hf j).2 hj).1
    rw [e] at hm
    simp at hm
    rcases hm with rfl | rfl | rfl | rfl <;> rfl
end Go.Proofs.Ytncileojdighnaa
