/- What Copy of package names does: a table of its own with the same names and numbers. -/
import Derived.Test.YtobimnfjfinphaaNmTold
import Derived.Test.YtobimnfjfinphaaNmTwo
import Derived.Shelf.SlMaps.Clone
import Derived.Deep.RegionHeld3
import Derived.Deep.DrawnRows
namespace Go.Proofs.Ytobimnfjfinphaa
open Go.RowKit Go.Maps

/-- The shelf's numbers for maps.Clone, at this program. -/
def mcRen : Go.Shelf.Ren := ⟨fun n => if n = 5 then 29 else 32, fun n => if n = 23 then 54 else if n = 25 then 9 else n, fun n => n⟩
theorem mcLays : SlLaysW.n5 Try.prog mcRen :=
  ⟨(by kernel_rfl), ⟨Try.f29.name, (by kernel_rfl), (by kernel_rfl)⟩, (by kernel_rfl), (by kernel_rfl), (fun _ => by kernel_rfl), (fun _ => by kernel_rfl), (fun _ => by kernel_rfl), (by kernel_rfl), (fun _ => by kernel_rfl), (fun _ => by kernel_rfl),
    (fun _ => by kernel_rfl), (by kernel_rfl), (fun _ => by kernel_rfl), (fun _ => by kernel_rfl), (fun _ => by kernel_rfl)⟩
theorem mclone_any {w : World} {q n : Nat} {D : DataW Unit} (h : w.ownsMap Try.prog 9 (plainElem Try.prog 3) q n D) :
    Calls Try.prog 29 #[.map (some q)] w fun e w' => e = .returned (.map (some w.heap.size)) ∧ w'.ownsMap Try.prog 9 (plainElem Try.prog 3) w.heap.size n D ∧ Below w.heap.size w w' :=
  (AnyW.maps_Clone_owns mcLays 9 (plainElem Try.prog 3) q n D w h).mono fun _ _ ⟨h1, h2, _, h4⟩ => ⟨h1, h2, h4⟩
theorem strs_one (l : List ByteArray) : ∀ u ∈ l.map Value.string, u.oneCell' = true := fun u hu => by
  obtain ⟨s, _, rfl⟩ := List.mem_map.1 hu
  simp [Value.oneCell']
/-- A slice held against nil. -/
theorem slice_nil_in {P : Program} (w : World) (d : Nat) (t : TypeId) {e : TypeId} (h : P.underlying t = some (.slice e)) (ao : Option Addr) (n c : Nat) : (Op.equalIn (d + 1) t (.slice ao n c) (.slice none 0 0)).run P w = .ok ao.isNone w := by
  cases ao <;> simp [Op.equalIn, run_underlying h]
theorem slice_nil (w : World) (ao : Option Addr) (n c : Nat) : (binOp .eql 22 (.slice ao n c) (.slice none 0 0)).run Try.prog w = .ok (.bool ao.isNone) w := by
  simp only [binOp]
  simp [show Op.equal 22 (.slice ao n c) (.slice none 0 0) = Op.equalIn (9999 + 1) 22 (.slice ao n c) (.slice none 0 0) from rfl, slice_nil_in w 9999 22 Try.underlying22]
set_option maxHeartbeats 1000000 in
theorem slclone_any {w : World} {B : Nat} {v : Value} {l : List ByteArray} (h : w.ownsRow B 9 1 v l.length (l.map Value.string)) (hl : l.length ≤ 1024) :
    Calls Try.prog 28 #[v] w fun e w' => ∃ v', e = .returned v' ∧ w'.ownsRow w.heap.size 9 1 v' l.length (l.map Value.string) ∧ Below w.heap.size w w' := by
  obtain ⟨i0, hi, hz0, hz1, hz2⟩ := info_parts infoS
  have h0 := h
  rcases h.2 with ⟨rfl, hn⟩ | ⟨g, cap, cur, rfl, _⟩
  · have hl0 : l = [] := List.eq_nil_of_length_eq_zero hn
    subst hl0
    have hsn := fun w : World => slice_nil w none 0 0
    go_enter Try.func28, Try.ntmps28
    go_wp2
    go_ret
    exact ⟨_, rfl, World.ownsRow_nil _ _ _ _, Below.refl _ _⟩
  · have hnews : ∀ j u, (l.map Value.string)[j]? = some u → (w.alloc (.cells #[] 9)).cell? ((⟨g, 0, none⟩ : Addr).add j) = some u := fun j u hj => by
      exact ((h0.alloc (.cells #[] 9)).cells (g := g) rfl) j u hj
    have hown : (w.alloc (.cells #[] 9)).ownsRow w.heap.size 9 1 (.slice (some ⟨w.heap.size, 0, none⟩) 0 0) 0 [] := ⟨rfl, Or.inr ⟨w.heap.size, 0, #[], rfl, Nat.le_refl _, heap_alloc_new w _, Nat.le_refl _, Nat.zero_le _, rfl, rfl⟩⟩
    have hsn := fun w : World => slice_nil w (some ⟨g, 0, none⟩) l.length cap
    clear h h0
    go_enter Try.func28, Try.ntmps28
    go_wp2_with (at_builtin; refine wpList_append_own _ rfl _ _ 22 rfl w.heap.size 9 i0 (.string ⟨#[]⟩) 1 16 Try.underlying22 hi hz0 hz1 hz2 rfl (by decide) (.slice (some ⟨w.heap.size, 0, none⟩) 0 0) 0 [] rfl hown ⟨g, 0, none⟩ l.length cap (l.map Value.string) rfl (by simp) hnews (strs_one l) (by unfold maxLen; omega) (by omega) (by simp) ?_; intro v' w1 hown' hgrow _)
    go_ret
    refine ⟨v', rfl, by simpa using hown', ?_⟩
    exact (below_alloc w _).grown hgrow (by simp) (fun k e => by
      have e' : k = w.heap.size := by simpa [Value.ownBlock] using e.symm
      omega)
theorem map_below {w w' : World} {q n : Nat} {D : DataW Unit} (h : w.ownsMap Try.prog 9 (plainElem Try.prog 3) q n D) (hm : Below w.heap.size w w') : w'.ownsMap Try.prog 9 (plainElem Try.prog 3) q n D := map_keep (ks := []) h (Mod.ofBelow hm) (by simp)
theorem undr {w w' : World} (h : Below w.drew.heap.size w.drew w') : Below w.heap.size w w' := ⟨h.os, h.tape, h.output, h.size, h.block⟩
/-- The copy. -/
theorem copy_tb {w w3 : World} {B B1 B2 p q q' : Nat} {v v' : Value} {l : List ByteArray} {D : DataW Unit} (h : Tb w B p v q l) (ho : w3.ownsRow B1 9 1 v' l.length (l.map Value.string)) (hm : w3.ownsMap Try.prog 9 (plainElem Try.prog 3) q' l.length D) (hO : MapOf l D) (h1 : B2 ≤ B1) (h2 : B2 ≤ q') (h3 : B2 ≤ w3.heap.size) :
    Tb (w3.alloc (.cells #[v', .map (some q')] 56)) B2 w3.heap.size v' q' l :=
  ⟨heap_alloc_new w3 _, h3, own_base (own_below ho (below_alloc _ _)) h1, h2, ⟨D, hm.alloc _, hO⟩, h.len, h.good, h.nodup⟩
set_option maxRecDepth 100000 in
set_option maxHeartbeats 2000000 in
theorem copy_any {w : World} {B p q : Nat} {v : Value} {l : List ByteArray} (h : Tb w B p v q l) :
    Calls Try.prog 22 #[.pointer (some ⟨p, 0, none⟩)] w fun e w' => ∃ p' v' q', e = .returned (.pointer (some ⟨p', 0, none⟩)) ∧ Tb w' w.heap.size p' v' q' l ∧ Below w.heap.size w w' := by
  have c0 := h.c0
  have c1 := h.c1
  have hlen := h.len
  obtain ⟨D, hD, hO⟩ := h.map
  have hown := h.own
  obtain ⟨ao, c, rfl⟩ := own_shape hown
  have hp := h.lt
  have hb : Below w.heap.size w w := Below.refl _ _
  go_enter Try.func22, Try.ntmps22
  go_wp2
  go_region_held3 (fun w' => w'.cell? ⟨p, 0, none⟩ = some (.slice ao l.length c) ∧ w'.cell? ⟨p, 1, none⟩ = some (.map (some q))) (first | exact ⟨c0, c1⟩ | go_keep)
    (first
      | (go_at_call 28; refine Calls.mono (slclone_any (B := B) (by exact hown) hlen) ?_; rintro e w4 ⟨v', rfl, ho, hN⟩; (try replace hN := undr hN); replace c0 := (hN.cell (p := ⟨p, 0, none⟩) (Nat.lt_of_lt_of_le hp hb.size)).trans c0; replace c1 := (hN.cell (p := ⟨p, 1, none⟩) (Nat.lt_of_lt_of_le hp hb.size)).trans c1; have z4 := hb.size; replace hb := hb.trans (hN.mono z4); (try replace hD := map_below hD hN); (try replace hm := map_below hm hN); obtain ⟨ao', c', rfl⟩ := own_shape ho)
      | (go_at_call 29; refine Calls.mono (mclone_any (n := l.length) (D := D) (by exact hD)) ?_; rintro e w5 ⟨rfl, hm, hN⟩; (try replace hN := undr hN); replace c0 := (hN.cell (p := ⟨p, 0, none⟩) (Nat.lt_of_lt_of_le hp hb.size)).trans c0; replace c1 := (hN.cell (p := ⟨p, 1, none⟩) (Nat.lt_of_lt_of_le hp hb.size)).trans c1; have z5 := hb.size; replace hb := hb.trans (hN.mono z5); (try replace hown := own_below hown hN); (try replace ho := own_below ho hN)))
  all_goals go_wp2
  all_goals go_ret
  all_goals exact ⟨_, _, _, rfl, copy_tb h ho hm hO (by first | omega | (simp; done) | (simp; omega)) (by first | omega | (simp; done) | (simp; omega)) hb.size, hb.alloc hb.size _⟩
end Go.Proofs.Ytobimnfjfinphaa
