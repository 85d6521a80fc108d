/- Memory of a census and of a knot. -/
import Derived.Maps.OwnSet
import Derived.Deep.AppendLies
import Derived.Deep.RegionHeld3
import Derived.StillTailTactics
import Derived.Test.Ytncileojdighnaaow30Z
import Derived.Test.Ytncileojdighnaaow03Z
namespace Go.Proofs.Ytncileojdighnaa
set_option maxRecDepth 100000
open Go.RowKit Go.Maps
theorem mapI_keep {w w' : World} {k : TypeId} {q n : Nat} {D : DataW Unit} (h : w.ownsMap Try.prog k (plainElem Try.prog 3) q n D) (hm : w'.heap[q]? = w.heap[q]?) : w'.ownsMap Try.prog k (plainElem Try.prog 3) q n D := by
  obtain ⟨es, clock, hb, rest⟩ := h
  exact ⟨es, clock, by rw [hm]; exact hb, rest⟩
theorem obj_map {w : World} {k j n : Nat} {c : Array Value} {e t : TypeId} {x : Nat × Nat} {R : Value → Option (DataW Unit × List MemPlace)} {D : DataW Unit} (h : w.heap[k]? = some (.cells c e x)) (h' : w.ownsMap Try.prog t R j n D) : k ≠ j := fun ek => by
  subst ek
  obtain ⟨es, clock, hb, _⟩ := h'
  rw [h] at hb
  cases hb
def MapN (l : List ByteArray) (D : DataW Unit) : Prop :=
  Maps.IsMap D ∧ (∀ s : ByteArray, Maps.has D (.string s.data.toList) = inN l s) ∧ ∀ s : ByteArray, inN l s = true → D.atKey (.string s.data.toList) (.lit (.int .i64 0)) = .lit (.int .i64 (ixN l s : Int))
theorem MapN.nil : MapN [] (.map []) := ⟨⟨[], rfl⟩, fun s => by simp [Maps.has, inN], fun s h => by simp [inN] at h⟩
theorem MapN.put {l : List ByteArray} {s : ByteArray} {D : DataW Unit} (h : MapN l D) (hD : Maps.IsMap (D.put (.string s.data.toList) (.lit (.int .i64 (l.length : Int))))) (hs : inN l s = false) : MapN (l ++ [s]) (D.put (.string s.data.toList) (.lit (.int .i64 (l.length : Int)))) := by
  refine ⟨hD, fun x => ?_, fun x hx => ?_⟩
  · rw [inN_snoc]
    by_cases e : x = s
    · subst e
      rw [Maps.has_put_same h.1 (skey_is x)]
      simp
    · rw [Maps.has_put_other (skey_ne e), h.2.1, decide_eq_false (fun h : s = x => e h.symm), Bool.or_false]
  · by_cases e : x = s
    · subst e
      rw [Maps.atKey_put_same h.1 (skey_is x), ixN_new hs]
    · rw [inN_snoc, decide_eq_false (fun h : s = x => e h.symm), Bool.or_false] at hx
      rw [Maps.atKey_put_other (skey_ne e), h.2.2 x hx, ixN_old hx]
structure Cs (w : World) (B cb : Nat) (v : Value) (q : Nat) (l : List ByteArray) (oth : Nat) : Prop where
  blk : w.heap[cb]? = some (.cells #[v, .map (some q), .int .i64 (oth : Int)] 71)
  base : B ≤ cb
  mb : B ≤ q
  own : w.ownsRow B 9 1 v l.length (l.map Value.string)
  map : ∃ D, w.ownsMap Try.prog 9 (plainElem Try.prog 3) q l.length D ∧ MapN l D
section
variable {w w' : World} {B cb q oth : Nat} {v : Value} {l : List ByteArray}
def CsF (cb : Nat) (v : Value) (q : Nat) : Nat → Prop := fun k => k = cb ∨ k = q ∨ v.ownBlock = some k
theorem Cs.lt (h : Cs w B cb v q l oth) {k : Nat} (hk : CsF cb v q k) : B ≤ k ∧ k < w.heap.size := by
  rcases hk with rfl | rfl | hk
  · exact ⟨h.base, lt_of_block h.blk⟩
  · obtain ⟨D, hD, _⟩ := h.map
    exact ⟨h.mb, hD.lt⟩
  · exact h.own.lt k hk
theorem Cs.keep (h : Cs w B cb v q l oth) (hm : ∀ k, CsF cb v q k → w'.heap[k]? = w.heap[k]?) : Cs w' B cb v q l oth := by
  obtain ⟨D, hD, hM⟩ := h.map
  exact ⟨(hm cb (Or.inl rfl)).trans h.blk, h.base, h.mb, row_keep h.own (fun k hk => hm k (Or.inr (Or.inr hk))), D, mapI_keep hD (hm q (Or.inr (Or.inl rfl))), hM⟩
theorem Cs.next (h : Cs w B cb v q l oth) (hb : Below w.heap.size w w') : Cs w' B cb v q l oth := h.keep fun k hk => hb.block k (h.lt hk).2
theorem Cs.cells (h : Cs w B cb v q l oth) : (w.cell? ⟨cb, 0, none⟩ = some v ∧ w.cell? ⟨cb, 1, none⟩ = some (.map (some q)) ∧ w.cell? ⟨cb, 2, none⟩ = some (.int .i64 (oth : Int))) ∧ w.frozen? ⟨cb, 0, none⟩ = false ∧ w.frozen? ⟨cb, 1, none⟩ = false ∧ w.frozen? ⟨cb, 2, none⟩ = false := by
  have := h.blk
  refine ⟨⟨?_, ?_, ?_⟩, ?_, ?_, ?_⟩ <;> simp [World.cell?, World.frozen?, this]
theorem Cs.ne (h : Cs w B cb v q l oth) : cb ≠ q ∧ (∀ k, v.ownBlock = some k → k ≠ cb ∧ k ≠ q) := by
  obtain ⟨D, hD, _⟩ := h.map
  refine ⟨obj_map h.blk hD, fun k hk => ?_⟩
  obtain ⟨cur, hc⟩ := row_obj h.own hk
  exact ⟨obj_ne hc h.blk (by decide), obj_map hc hD⟩
end
def Nx (w : World) (v v' : Value) : Prop := ∀ k, v'.ownBlock = some k → v.ownBlock = some k ∨ w.heap.size ≤ k
theorem Nx.refl (w : World) (v : Value) : Nx w v v := fun _ h => Or.inl h
theorem Nx.trans {w w1 : World} {v v1 v2 : Value} (h : Nx w v v1) (k : Nx w1 v1 v2) (hs : w.heap.size ≤ w1.heap.size) : Nx w v v2 := fun x hx => by
  rcases k x hx with h1 | h1
  · exact h x h1
  · exact Or.inr (Nat.le_trans hs h1)
def CsU (w w' : World) (B cb q : Nat) (v : Value) (l : List ByteArray) (oth : Nat) : Prop := ∃ v', Cs w' B cb v' q l oth ∧ Mo (CsF cb v q) w w' ∧ Nx w v v'
theorem CsU.trans {w w1 w2 : World} {B cb q : Nat} {v v1 : Value} {l' : List ByteArray} {oth' : Nat} (h1 : Mo (CsF cb v q) w w1) (hn : Nx w v v1) (h : CsU w1 w2 B cb q v1 l' oth') : CsU w w2 B cb q v l' oth' := by
  obtain ⟨v2, hc, hm, hn2⟩ := h
  refine ⟨v2, hc, h1.trans hm (fun x hx => ?_), hn.trans hn2 h1.size⟩
  rcases hx with e | e | e
  · exact Or.inl (Or.inl e)
  · exact Or.inl (Or.inr (Or.inl e))
  · rcases hn x e with h2 | h2
    · exact Or.inl (Or.inr (Or.inr h2))
    · exact Or.inr h2
end Go.Proofs.Ytncileojdighnaa

namespace Go.Proofs.Ytncileojdighnaa
set_option maxRecDepth 100000
open Go.RowKit Go.Maps
theorem tret_void {w : World} {fn : Func} (hfn : fn.results = #[]) {tmps : Array Value} : (results fn tmps).run Try.prog w = .ok (.tuple #[]) w := by
  unfold results
  simp [hfn]
theorem infoStr : (Try.prog.info? 9).map (fun i => (i.zero, i.size, i.bytes)) = some (some (.string ⟨#[]⟩), 1, 16) := by kernel_rfl
theorem zeroI (w : World) : (zeroValue 3).run Try.prog w = .ok (.int .i64 0) w := by kernel_rfl
theorem wfNat {n : Nat} (h : n ≤ 1000000) : (Lit.int .i64 (n : Int)).wf = true := by
  have h1 : IntKind.i64.min = -9223372036854775808 := rfl
  have h2 : IntKind.i64.max = 9223372036854775807 := rfl
  simp only [Lit.wf, Bool.and_eq_true, decide_eq_true_eq]
  omega
set_option maxHeartbeats 1000000 in
theorem name_old {w : World} {B cb q oth : Nat} {v : Value} {l : List ByteArray} (h : Cs w B cb v q l oth) (s : ByteArray) (hs : s.size ≤ 281474976710656) (hin : inN l s = true) :
    Calls Try.prog 48 #[.pointer (some ⟨cb, 0, none⟩), .string s] w fun e w' => e = .returned (.tuple #[]) ∧ w' = w := by
  obtain ⟨⟨c0, c1, c2⟩, _⟩ := h.cells
  obtain ⟨D, hD, hM⟩ := h.map
  have hk := WideMaps.keyOf_string_mk (P := Try.prog) (k := 9) Try.underlying9 (s := s) (by unfold maxLen; omega)
  have hh := hM.2.1 s
  rw [hin] at hh
  have zc := lt_of_cell c0
  clear h hin hM
  go_enter Try.func48, Try.ntmps48
  go_wp2_with (at_lookup; refine wpList_lookup_own_ok_int _ rfl _ _ 69 rfl 9 3 .i64 (string_keyed Try.underlying9) Try.underlying69 Try.underlying3 (zeroI _) q l.length D rfl hD _ _ rfl hk ?_; intro c hat hwc)
  exact bodyPost_end (tret_void Try.results48) rfl ⟨rfl, rfl⟩
theorem cs_blk0 {w : World} {cb q oth : Nat} {v : Value} (v' : Value) (h : w.heap[cb]? = some (.cells #[v, .map (some q), .int .i64 (oth : Int)] 71)) : (w.setCell ⟨cb, 0, none⟩ v').heap[cb]? = some (.cells #[v', .map (some q), .int .i64 (oth : Int)] 71) := heap_setCell_same w cb 0 _ _ v' h
theorem cs_blk2 {w : World} {cb q oth : Nat} {v : Value} (u : Value) (h : w.heap[cb]? = some (.cells #[v, .map (some q), .int .i64 (oth : Int)] 71)) : (w.setCell ⟨cb, 2, none⟩ u).heap[cb]? = some (.cells #[v, .map (some q), u] 71) := heap_setCell_same w cb 2 _ _ u h
theorem name_upd {w w1 w2 : World} {B cb q oth g cap : Nat} {v : Value} {l : List ByteArray} {s : ByteArray} {D : DataW Unit} {o : Obj} (h : Cs w B cb v q l oth) (hin : inN l s = false) (hM : MapN l D)
    (hm : w1.ownsMap Try.prog 9 (plainElem Try.prog 3) q (l.length + 1) (D.put (.string s.data.toList) (.lit (.int .i64 (l.length : Int))))) (hg1 : w.grownBy w1 (some q))
    (hown : w2.ownsRow B 9 1 (.slice (some ⟨g, 0, none⟩) (l.length + 1) cap) (l.length + 1) ((l ++ [s]).map Value.string)) (hg2 : (w1.alloc o).grownBy w2 v.ownBlock) (hat : v.ownBlock = some g ∨ (w1.alloc o).heap.size ≤ g) :
    CsU w (w2.setCell ⟨cb, 0, none⟩ (.slice (some ⟨g, 0, none⟩) (l.length + 1) cap)) B cb q v (l ++ [s]) oth := by
  have hne := h.ne
  have hc := h.lt (Or.inl rfl)
  have hq := h.lt (k := q) (Or.inr (Or.inl rfl))
  have hs1 := hg1.size
  have e1 : w1.heap[cb]? = w.heap[cb]? := hg1.block cb hc.2 (fun e => hne.1 (by injection e))
  have e2 : w2.heap[cb]? = w.heap[cb]? := by
    rw [hg2.block cb (by simp; omega) (fun e => (hne.2 cb e.symm).1 rfl), Below.heap_alloc _ _ _ (by omega), e1]
  have q2 : w2.heap[q]? = w1.heap[q]? := by
    rw [hg2.block q (by simp; omega) (fun e => (hne.2 q e.symm).2 rfl), Below.heap_alloc _ _ _ (by omega)]
  have hsg : g ≠ cb ∧ g ≠ q := by
    rcases hat with e | e
    · exact ⟨(hne.2 g e).1, (hne.2 g e).2⟩
    · simp at e
      omega
  have hM1 : Mo (CsF cb v q) w w1 := (Mo.refl _ w).grown hg1 (fun k e => by cases e; exact Or.inl (Or.inr (Or.inl rfl)))
  have hM2 : Mo (CsF cb v q) w w2 := (hM1.alloc o).grown hg2 (fun k e => Or.inl (Or.inr (Or.inr e)))
  have hM3 : Mo (CsF cb v q) w (w2.setCell ⟨cb, 0, none⟩ (.slice (some ⟨g, 0, none⟩) (l.length + 1) cap)) := hM2.setCell (p := ⟨cb, 0, none⟩) (Or.inl (Or.inl rfl)) _
  have far : ∀ k, k ≠ cb → (w2.setCell ⟨cb, 0, none⟩ (.slice (some ⟨g, 0, none⟩) (l.length + 1) cap)).heap[k]? = w2.heap[k]? := fun k hk => Below.heap_setCell w2 ⟨cb, 0, none⟩ _ k hk
  refine ⟨_, ⟨cs_blk0 _ (e2.trans h.blk), h.base, h.mb, ?_, _, mapI_keep (by simpa using hm) ((far q (fun e => hne.1 e.symm)).trans q2), hM.put (World.ownsMap.isMap hm) hin⟩, hM3, fun k hk => ?_⟩
  · have hr := row_keep hown (fun k hk => far k (by
      have : g = k := by simpa [Value.ownBlock] using hk
      subst this
      exact hsg.1))
    simpa using hr
  · have : g = k := by simpa [Value.ownBlock] using hk
    subst this
    rcases hat with e | e
    · exact Or.inl e
    · simp at e
      exact Or.inr (by omega)
set_option maxHeartbeats 2000000 in
theorem name_new {w : World} {B cb q oth : Nat} {v : Value} {l : List ByteArray} (h : Cs w B cb v q l oth) (s : ByteArray) (hs : s.size ≤ 281474976710656) (hin : inN l s = false) (hl : l.length ≤ 100000) (hB : B ≤ w.heap.size) :
    Calls Try.prog 48 #[.pointer (some ⟨cb, 0, none⟩), .string s] w fun e w' => e = .returned (.tuple #[]) ∧ CsU w w' B cb q v (l ++ [s]) oth := by
  obtain ⟨i0, hi, hz0, hz1, hz2⟩ := info_parts infoStr
  obtain ⟨⟨c0, c1, c2⟩, f0, f1, f2⟩ := h.cells
  obtain ⟨D, hD, hM⟩ := h.map
  have hk := WideMaps.keyOf_string_mk (P := Try.prog) (k := 9) Try.underlying9 (s := s) (by unfold maxLen; omega)
  have hh := hM.2.1 s
  rw [hin] at hh
  have zc := lt_of_cell c0
  have hwf : (Lit.int .i64 (l.length : Int)).wf = true := wfNat (by omega)
  have hne := h.ne
  have hown := h.own
  have hv : ∃ ao c, v = .slice ao l.length c := by
    rcases hown.2 with ⟨rfl, hn⟩ | ⟨g, cap, cur, rfl, _⟩
    · exact ⟨none, 0, by rw [hn]⟩
    · exact ⟨_, cap, rfl⟩
  obtain ⟨ao, c, rfl⟩ := hv
  have H := hid h
  have hM' := hid hM
  have hin' := hid hin
  have hD0 := World.ownsMap.drew hD
  have hzq := hD.lt
  have hst : ∀ w1 : World, w.drew.grownBy w1 (some q) → w1.cell? ⟨cb, 0, none⟩ = some (.slice ao l.length c) ∧ w1.frozen? ⟨cb, 0, none⟩ = false ∧ cb < w1.heap.size ∧ w1.ownsRow B 9 1 (.slice ao l.length c) l.length (l.map Value.string) ∧ B ≤ w1.heap.size := fun w1 hg => by
    have hb : w1.heap[cb]? = w.heap[cb]? := hg.block cb zc (fun e => hne.1 (by injection e))
    refine ⟨?_, ?_, Nat.lt_of_lt_of_le zc hg.size, row_keep hown (fun k hk => hg.block k (hown.lt k hk).2 (fun e => (hne.2 k hk).2 (by injection e))), Nat.le_trans hB hg.size⟩
    · have h3 := h.blk
      rw [← hb] at h3
      simp [World.cell?, h3]
    · have h3 := h.blk
      rw [← hb] at h3
      simp [World.frozen?, h3]
  have hs2 : Hid (∀ (w1 w2 : World) (o : Obj), w.drew.grownBy w1 (some q) → (w1.alloc o).grownBy w2 (Value.slice ao l.length c).ownBlock → w2.frozen? ⟨cb, 0, none⟩ = false ∧ cb < w2.heap.size ∧ w2.cell? ⟨cb, 0, none⟩ = some (.slice ao l.length c)) := fun w1 w2 o hg1 hg2 => by
    have hs1 : w.heap.size ≤ w1.heap.size := hg1.size
    have hs3 := hg2.size
    have hb1 : w1.heap[cb]? = w.heap[cb]? := hg1.block cb zc (fun e => hne.1 (by injection e))
    have hb2 : w2.heap[cb]? = w.heap[cb]? := by
      rw [hg2.block cb (by simp; omega) (fun e => (hne.2 cb e.symm).1 rfl), Below.heap_alloc _ _ _ (by omega), hb1]
    have h3 := h.blk
    rw [← hb2] at h3
    exact ⟨by simp [World.frozen?, h3], by simp at hs3; omega, by simp [World.cell?, h3]⟩
  clear h hin hM
  go_enter Try.func48, Try.ntmps48
  go_wp2_with (at_lookup; refine wpList_lookup_own_ok_int _ rfl _ _ 69 rfl 9 3 .i64 (string_keyed Try.underlying9) Try.underlying69 Try.underlying3 (zeroI _) q l.length D rfl hD _ _ rfl hk ?_; intro c hat hwc)
  go_still_tail 10, (by kernel_rfl)
  change wpList _ _ _ _ _ w.drew
  go_wp2_with (first
    | (at_mapUpdate; refine wpList_mapUpdate_own _ rfl _ _ _ 69 rfl 9 3 (string_keyed Try.underlying9) Try.underlying69 _ q l.length _ rfl hD0 (by unfold maxLen; omega) _ _ _ rfl rfl hk _ [] (plainElem_int Try.underlying3 hwf) ?_; intro w1 hm1 hg1; obtain ⟨k0, k1, k2, k3, k9⟩ := hst w1 hg1)
    | (at_builtin; go_must (refine wpList_append_lies _ rfl _ _ 68 rfl B 9 i0 (.string ⟨#[]⟩) 1 16 Try.underlying68 hi hz0 hz1 hz2 rfl (by decide) _ l.length (l.map Value.string) rfl (World.ownsRow.alloc k3 _) ⟨w1.heap.size, 0, none⟩ 1 1 [.string s] rfl rfl (cell_one_new w1 _ _) (by simp [Value.oneCell']) (by decide) (by unfold maxLen; omega) (by omega) (by simp; omega) _ rfl ?_; intro g cap w2 hown2 hg2 hat2 hlt2; have k4 := hs2.out w1 w2 _ hg1 hg2; obtain ⟨k5, k6, k7⟩ := k4)))
  have hM1 := hM'.out
  exact bodyPost_end (tret_void Try.results48) rfl ⟨rfl, name_upd H.out hin'.out hM1 hm1 ⟨hg1.os, hg1.tape, hg1.output, hg1.size, hg1.block⟩ (by simpa using hown2) hg2 (hat2.imp id (fun e => Nat.le_of_eq e.symm))⟩
end Go.Proofs.Ytncileojdighnaa
