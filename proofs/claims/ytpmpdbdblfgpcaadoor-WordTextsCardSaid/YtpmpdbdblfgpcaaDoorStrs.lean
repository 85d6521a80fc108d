/- A table of texts that a row lists, read cell for cell; of whatever program. -/
import Derived.OpenShut
import Derived.ChangeArms
import Derived.LaidLaws
import Derived.MakeChecks
namespace Go.Proofs.YtpmpdbdblfgpcaaDoor

theorem strs_of_tab {H : Type} {enc : TypeId × Value → H} {P : Program} {w : World} {base : Nat} {sp : Nat → Bool} {held : Bool} {fuel : Nat} {t e : TypeId} {n : Nat} {cs : List Value} {zs : List (List UInt8)} {p : List MemPlace}
    (ht : P.underlying t = some (.array n e)) (he : P.underlying e = some .string) (hce : P.cellsOf e = 1) (hct : P.cellsOf t = n)
    (h : DataW.trod enc P w base sp held fuel t cs = some (.agg (zs.map fun z => .lit (.string z)), p)) : cs = zs.map fun z => Value.string ⟨z.toArray⟩ := by
  obtain ⟨xs, m, rfl, hx, hl, hn, hel⟩ := DataW.trod_array ht h
  have hxs : xs.map (·.1) = zs.map fun z => (DataW.lit (.string z) : DataW H) := by simpa using (congrArg Prod.fst hx).symm
  have hzl : zs.length = n := by simpa [hn] using (congrArg List.length hxs).symm
  refine List.ext_getElem? fun i => ?_
  by_cases hi : i < n
  · have he1 := hel i hi
    rw [List.getElem?_eq_getElem (by omega), hce] at he1
    obtain ⟨s, hc, hx1, _⟩ := DataW.trod_string he he1
    have h1 : cs[i]? = some (.string s) := by
      have h0 := congrArg (·[0]?) hc
      simp only [Nat.mul_one, List.getElem?_take, List.getElem?_drop] at h0
      simpa using h0
    have h2 := congrArg (·[i]?) hxs
    rw [List.getElem?_map, List.getElem?_eq_getElem (by omega), hx1] at h2
    obtain ⟨z, hz, hzs⟩ := Option.map_eq_some_iff.1 ((List.getElem?_map (l := zs)).symm.trans h2.symm)
    simp only [DataW.lit.injEq, Lit.string.injEq] at hzs
    rw [h1, List.getElem?_map, hz, hzs]
    rfl
  · rw [List.getElem?_eq_none (by omega), List.getElem?_eq_none (by simp; omega)]

/-- From the row's condition to the variable's cells: the table stands first on the list. -/
theorem strs_of_head {P : Program} {W : World} {name : String} {zs : List (List UInt8)} {rest : List (String × DataW Unit)} {g : Nat} {t e : TypeId} {n : Nat}
    (hg : P.globalNamed name = some g) (hty : (P.globals[g]?).map (·.type) = some t) (ht : P.underlying t = some (.array n e)) (he : P.underlying e = some .string) (hce : P.cellsOf e = 1) (hct : P.cellsOf t = n)
    (h : laidMet P ((name, .agg (zs.map fun z => .lit (.string z))) :: rest) W) : W.var? P name = some (zs.map fun z => Value.string ⟨z.toArray⟩).toArray := by
  obtain ⟨ps, ⟨g', t', cs, fuel, p, q, hg', ht', hvar, hd, _, _⟩, _⟩ := h
  obtain rfl := Option.some.inj (hg.symm.trans hg')
  obtain rfl := Option.some.inj (hty.symm.trans ht')
  rw [hvar, ← strs_of_tab ht he hce hct hd]
theorem tail_of_laid {P : Program} {W : World} {x : String × DataW Unit} {rest : List (String × DataW Unit)} (h : laidMet P (x :: rest) W) : laidMet P rest W := by
  obtain ⟨ps, ⟨g', t', cs, fuel, p, q, hg', ht', hvar, hd, hr, rfl⟩, hnd, hall⟩ := h
  refine ⟨q, hr, (List.nodup_append.1 hnd).2.1, fun b off hm => hall b off (List.mem_append.2 (Or.inr hm))⟩
end Go.Proofs.YtpmpdbdblfgpcaaDoor
