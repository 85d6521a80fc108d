/- The census of package tie: names and other parts. -/
import Derived.Test.Ytjkcffcedbcjmaata26Z
namespace Go.Proofs.Ytjkcffcedbcjmaa
set_option maxRecDepth 100000
open Go.RowKit Go.Maps
theorem tret_void {w : World} {fn : Func} (hfn : fn.results = #[]) {tmps : Array Value} : (results fn tmps).run Try.prog w = .ok (.tuple #[]) w := by
  unfold results
  simp [hfn]
theorem infoStr : (Try.prog.info? 9).map (fun i => (i.zero, i.size, i.bytes)) = some (some (.string ⟨#[]⟩), 1, 16) := by kernel_rfl
theorem zeroI (w : World) : (zeroValue 3).run Try.prog w = .ok (.int .i64 0) w := by kernel_rfl
theorem wfNat {n : Nat} (h : n ≤ 1000000) : (Lit.int .i64 (n : Int)).wf = true := by
  have h1 : IntKind.i64.min = -9223372036854775808 := rfl
  have h2 : IntKind.i64.max = 9223372036854775807 := rfl
  simp only [Lit.wf, Bool.and_eq_true, decide_eq_true_eq]
  omega
set_option maxHeartbeats 1000000 in
theorem name_old {w : World} {B cb q oth : Nat} {v : Value} {l : List ByteArray} (h : Cs w B cb v q l oth) (s : ByteArray) (hs : s.size ≤ 281474976710656) (hin : inN l s = true) :
    Calls Try.prog 48 #[.pointer (some ⟨cb, 0, none⟩), .string s] w fun e w' => e = .returned (.tuple #[]) ∧ w' = w := by
  obtain ⟨⟨c0, c1, c2⟩, _⟩ := h.cells
  obtain ⟨D, hD, hM⟩ := h.map
  have hk := WideMaps.keyOf_string_mk (P := Try.prog) (k := 9) Try.underlying9 (s := s) (by unfold maxLen; omega)
  have hh := hM.2.1 s
  rw [hin] at hh
  have zc := lt_of_cell c0
  clear h hin hM
  go_enter Try.func48, Try.ntmps48
  go_wp2_with (at_lookup; refine wpList_lookup_own_ok_int _ rfl _ _ 69 rfl 9 3 .i64 (string_keyed Try.underlying9) Try.underlying69 Try.underlying3 (zeroI _) q l.length D rfl hD _ _ rfl hk ?_; intro c hat hwc)
  exact bodyPost_end (tret_void Try.results48) rfl ⟨rfl, rfl⟩
theorem cs_blk0 {w : World} {cb q oth : Nat} {v : Value} (v' : Value) (h : w.heap[cb]? = some (.cells #[v, .map (some q), .int .i64 (oth : Int)] 71)) : (w.setCell ⟨cb, 0, none⟩ v').heap[cb]? = some (.cells #[v', .map (some q), .int .i64 (oth : Int)] 71) := heap_setCell_same w cb 0 _ _ v' h
theorem cs_blk2 {w : World} {cb q oth : Nat} {v : Value} (u : Value) (h : w.heap[cb]? = some (.cells #[v, .map (some q), .int .i64 (oth : Int)] 71)) : (w.setCell ⟨cb, 2, none⟩ u).heap[cb]? = some (.cells #[v, .map (some q), u] 71) := heap_setCell_same w cb 2 _ _ u h
theorem name_upd {w w1 w2 : World} {B cb q oth g cap : Nat} {v : Value} {l : List ByteArray} {s : ByteArray} {D : DataW Unit} {o : Obj} (h : Cs w B cb v q l oth) (hin : inN l s = false) (hM : MapN l D)
    (hm : w1.ownsMap Try.prog 9 (plainElem Try.prog 3) q (l.length + 1) (D.put (.string s.data.toList) (.lit (.int .i64 (l.length : Int))))) (hg1 : w.grownBy w1 (some q))
    (hown : w2.ownsRow B 9 1 (.slice (some ⟨g, 0, none⟩) (l.length + 1) cap) (l.length + 1) ((l ++ [s]).map Value.string)) (hg2 : (w1.alloc o).grownBy w2 v.ownBlock) (hat : v.ownBlock = some g ∨ (w1.alloc o).heap.size ≤ g) :
    CsU w (w2.setCell ⟨cb, 0, none⟩ (.slice (some ⟨g, 0, none⟩) (l.length + 1) cap)) B cb q v (l ++ [s]) oth := by
  have hne := h.ne
  have hc := h.lt (Or.inl rfl)
  have hq := h.lt (k := q) (Or.inr (Or.inl rfl))
  have hs1 := hg1.size
  have e1 : w1.heap[cb]? = w.heap[cb]? := hg1.block cb hc.2 (fun e => hne.1 (by injection e))
  have e2 : w2.heap[cb]? = w.heap[cb]? := by
    rw [hg2.block cb (by simp; omega) (fun e => (hne.2 cb e.symm).1 rfl), Below.heap_alloc _ _ _ (by omega), e1]
  have q2 : w2.heap[q]? = w1.heap[q]? := by
    rw [hg2.block q (by simp; omega) (fun e => (hne.2 q e.symm).2 rfl), Below.heap_alloc _ _ _ (by omega)]
  have hsg : g ≠ cb ∧ g ≠ q := by
    rcases hat with e | e
    · exact ⟨(hne.2 g e).1, (hne.2 g e).2⟩
    · simp at e
      omega
  have hM1 : Mo (CsF cb v q) w w1 := (Mo.refl _ w).grown hg1 (fun k e => by cases e; exact Or.inl (Or.inr (Or.inl rfl)))
  have hM2 : Mo (CsF cb v q) w w2 := (hM1.alloc o).grown hg2 (fun k e => Or.inl (Or.inr (Or.inr e)))
  have hM3 : Mo (CsF cb v q) w (w2.setCell ⟨cb, 0, none⟩ (.slice (some ⟨g, 0, none⟩) (l.length + 1) cap)) := hM2.setCell (p := ⟨cb, 0, none⟩) (Or.inl (Or.inl rfl)) _
  have far : ∀ k, k ≠ cb → (w2.setCell ⟨cb, 0, none⟩ (.slice (some ⟨g, 0, none⟩) (l.length + 1) cap)).heap[k]? = w2.heap[k]? := fun k hk => Below.heap_setCell w2 ⟨cb, 0, none⟩ _ k hk
  refine ⟨_, ⟨cs_blk0 _ (e2.trans h.blk), h.base, h.mb, ?_, _, mapI_keep (by simpa using hm) ((far q (fun e => hne.1 e.symm)).trans q2), hM.put (World.ownsMap.isMap hm) hin⟩, hM3, fun k hk => ?_⟩
  · have hr := row_keep hown (fun k hk => far k (by
      have : g = k := by simpa [Value.ownBlock] using hk
      subst this
      exact hsg.1))
    simpa using hr
  · have : g = k := by simpa [Value.ownBlock] using hk
    subst this
    rcases hat with e | e
    · exact Or.inl e
    · simp at e
      exact Or.inr (by omega)
set_option maxHeartbeats 2000000 in
theorem name_new {w : World} {B cb q oth : Nat} {v : Value} {l : List ByteArray} (h : Cs w B cb v q l oth) (s : ByteArray) (hs : s.size ≤ 281474976710656) (hin : inN l s = false) (hl : l.length ≤ 100000) (hB : B ≤ w.heap.size) :
    Calls Try.prog 48 #[.pointer (some ⟨cb, 0, none⟩), .string s] w fun e w' => e = .returned (.tuple #[]) ∧ CsU w w' B cb q v (l ++ [s]) oth := by
  obtain ⟨i0, hi, hz0, hz1, hz2⟩ := info_parts infoStr
  obtain ⟨⟨c0, c1, c2⟩, f0, f1, f2⟩ := h.cells
  obtain ⟨D, hD, hM⟩ := h.map
  have hk := WideMaps.keyOf_string_mk (P := Try.prog) (k := 9) Try.underlying9 (s := s) (by unfold maxLen; omega)
  have hh := hM.2.1 s
  rw [hin] at hh
  have zc := lt_of_cell c0
  have hwf : (Lit.int .i64 (l.length : Int)).wf = true := wfNat (by omega)
  have hne := h.ne
  have hown := h.own
  have hv : ∃ ao c, v = .slice ao l.length c := by
    rcases hown.2 with ⟨rfl, hn⟩ | ⟨g, cap, cur, rfl, _⟩
    · exact ⟨none, 0, by rw [hn]⟩
    · exact ⟨_, cap, rfl⟩
  obtain ⟨ao, c, rfl⟩ := hv
  have H := hid h
  have hM' := hid hM
  have hin' := hid hin
  have hD0 := World.ownsMap.drew hD
  have hzq := hD.lt
  have hst : ∀ w1 : World, w.drew.grownBy w1 (some q) → w1.cell? ⟨cb, 0, none⟩ = some (.slice ao l.length c) ∧ w1.frozen? ⟨cb, 0, none⟩ = false ∧ cb < w1.heap.size ∧ w1.ownsRow B 9 1 (.slice ao l.length c) l.length (l.map Value.string) ∧ B ≤ w1.heap.size := fun w1 hg => by
    have hb : w1.heap[cb]? = w.heap[cb]? := hg.block cb zc (fun e => hne.1 (by injection e))
    refine ⟨?_, ?_, Nat.lt_of_lt_of_le zc hg.size, row_keep hown (fun k hk => hg.block k (hown.lt k hk).2 (fun e => (hne.2 k hk).2 (by injection e))), Nat.le_trans hB hg.size⟩
    · have h3 := h.blk
      rw [← hb] at h3
      simp [World.cell?, h3]
    · have h3 := h.blk
      rw [← hb] at h3
      simp [World.frozen?, h3]
  have hs2 : Hid (∀ (w1 w2 : World) (o : Obj), w.drew.grownBy w1 (some q) → (w1.alloc o).grownBy w2 (Value.slice ao l.length c).ownBlock → w2.frozen? ⟨cb, 0, none⟩ = false ∧ cb < w2.heap.size ∧ w2.cell? ⟨cb, 0, none⟩ = some (.slice ao l.length c)) := fun w1 w2 o hg1 hg2 => by
    have hs1 : w.heap.size ≤ w1.heap.size := hg1.size
    have hs3 := hg2.size
    have hb1 : w1.heap[cb]? = w.heap[cb]? := hg1.block cb zc (fun e => hne.1 (by injection e))
    have hb2 : w2.heap[cb]? = w.heap[cb]? := by
      rw [hg2.block cb (by simp; omega) (fun e => (hne.2 cb e.symm).1 rfl), Below.heap_alloc _ _ _ (by omega), hb1]
    have h3 := h.blk
    rw [← hb2] at h3
    exact ⟨by simp [World.frozen?, h3], by simp at hs3; omega, by simp [World.cell?, h3]⟩
  clear h hin hM
  go_enter Try.func48, Try.ntmps48
  go_wp2_with (at_lookup; refine wpList_lookup_own_ok_int _ rfl _ _ 69 rfl 9 3 .i64 (string_keyed Try.underlying9) Try.underlying69 Try.underlying3 (zeroI _) q l.length D rfl hD _ _ rfl hk ?_; intro c hat hwc)
  go_still_tail 10, (by kernel_rfl)
  change wpList _ _ _ _ _ w.drew
  go_wp2_with (first
    | (at_mapUpdate; refine wpList_mapUpdate_own _ rfl _ _ _ 69 rfl 9 3 (string_keyed Try.underlying9) Try.underlying69 _ q l.length _ rfl hD0 (by unfold maxLen; omega) _ _ _ rfl rfl hk _ [] (plainElem_int Try.underlying3 hwf) ?_; intro w1 hm1 hg1; obtain ⟨k0, k1, k2, k3, k9⟩ := hst w1 hg1)
    | (at_builtin; go_must (refine wpList_append_lies _ rfl _ _ 68 rfl B 9 i0 (.string ⟨#[]⟩) 1 16 Try.underlying68 hi hz0 hz1 hz2 rfl (by decide) _ l.length (l.map Value.string) rfl (World.ownsRow.alloc k3 _) ⟨w1.heap.size, 0, none⟩ 1 1 [.string s] rfl rfl (cell_one_new w1 _ _) (by simp [Value.oneCell']) (by decide) (by unfold maxLen; omega) (by omega) (by simp; omega) _ rfl ?_; intro g cap w2 hown2 hg2 hat2 hlt2; have k4 := hs2.out w1 w2 _ hg1 hg2; obtain ⟨k5, k6, k7⟩ := k4)))
  have hM1 := hM'.out
  exact bodyPost_end (tret_void Try.results48) rfl ⟨rfl, name_upd H.out hin'.out hM1 hm1 ⟨hg1.os, hg1.tape, hg1.output, hg1.size, hg1.block⟩ (by simpa using hown2) hg2 (hat2.imp id (fun e => Nat.le_of_eq e.symm))⟩
end Go.Proofs.Ytjkcffcedbcjmaa

namespace Go.Proofs.Ytjkcffcedbcjmaa
set_option maxRecDepth 100000
open Go.RowKit Go.Maps
theorem name_any {w : World} {B cb q oth : Nat} {v : Value} {l : List ByteArray} (h : Cs w B cb v q l oth) (s : ByteArray) (hs : s.size ≤ 281474976710656) (hl : l.length ≤ 100000) (hB : B ≤ w.heap.size) :
    Calls Try.prog 48 #[.pointer (some ⟨cb, 0, none⟩), .string s] w fun e w' => e = .returned (.tuple #[]) ∧ CsU w w' B cb q v (putS l s) oth := by
  unfold putS
  cases hin : inN l s with
  | true =>
    rw [if_pos rfl]
    refine (name_old h s hs hin).mono ?_
    rintro e w' ⟨rfl, rfl⟩
    exact ⟨rfl, v, h, Mo.refl _ _, Nx.refl _ _⟩
  | false =>
    rw [if_neg (by decide)]
    exact name_new h s hs hin hl hB
mutual
def prtX : Ex → Nat
  | .mk _ _ _ xs => 1 + prtXs xs
def prtXs : List Ex → Nat
  | [] => 0
  | x :: r => prtX x + prtXs r
end
theorem putS_len (l : List ByteArray) (s : ByteArray) : (putS l s).length ≤ l.length + 1 := by
  unfold putS
  split <;> simp
mutual
theorem namX_len : ∀ (l : List ByteArray) (x : Ex), (namX l x).length ≤ l.length + prtX x
  | l, .mk k n m xs => by
    rw [namX, prtX]
    have h1 := namXs_len (if (decide (k = 1) && !isU n) = true then putS l n else l) xs
    have h2 := putS_len l n
    split at h1 <;> split <;> simp_all <;> omega
theorem namXs_len : ∀ (l : List ByteArray) (xs : List Ex), (namXs l xs).length ≤ l.length + prtXs xs
  | l, [] => by rw [namXs]; omega
  | l, x :: r => by
    rw [namXs, prtXs]
    have h1 := namX_len l x
    have h2 := namXs_len (namX l x) r
    omega
end
mutual
theorem othX_le : ∀ x : Ex, othX x ≤ prtX x
  | .mk k n m xs => by
    rw [othX, prtX]
    have := othXs_le xs
    split <;> omega
theorem othXs_le : ∀ xs : List Ex, othXs xs ≤ prtXs xs
  | [] => by rw [othXs]; omega
  | x :: r => by
    rw [othXs, prtXs]
    have h1 := othX_le x
    have h2 := othXs_le r
    omega
end
theorem take_x {xs : List Ex} {j : Nat} (h : j < xs.length) : xs.take (j + 1) = xs.take j ++ [xs.getD j x0] := by
  rw [List.take_add_one]
  simp [List.getD, h]
theorem namXs_app (l : List ByteArray) : ∀ (xs : List Ex) (y : Ex), namXs l (xs ++ [y]) = namX (namXs l xs) y := by
  intro xs
  induction xs generalizing l with
  | nil => intro y; rfl
  | cons x r ih => intro y; rw [List.cons_append, namXs, ih, namXs]
theorem othXs_app : ∀ (xs : List Ex) (y : Ex), othXs (xs ++ [y]) = othXs xs + othX y
  | [], y => by rw [List.nil_append, othXs, othXs, othXs]; omega
  | x :: r, y => by rw [List.cons_append, othXs, othXs, othXs_app r y]; omega
theorem prtXs_app : ∀ (xs : List Ex) (y : Ex), prtXs (xs ++ [y]) = prtXs xs + prtX y
  | [], y => by rw [List.nil_append, prtXs, prtXs, prtXs]; omega
  | x :: r, y => by rw [List.cons_append, prtXs, prtXs, prtXs_app r y]; omega
theorem prtXs_take (xs : List Ex) : ∀ j, prtXs (xs.take j) ≤ prtXs xs := by
  induction xs with
  | nil => intro j; simp
  | cons x r ih =>
    intro j
    cases j with
    | zero => rw [List.take_zero, prtXs]; omega
    | succ j => rw [List.take_succ_cons, prtXs, prtXs]; have := ih j; omega
theorem prtX_pos (x : Ex) : 1 ≤ prtX x := by
  cases x
  rw [prtX]
  omega
set_option maxHeartbeats 1000000 in
theorem isNamed_any {w : World} {x : Ex} {v : Value} (hx : Xv w x v) :
    Calls Try.prog 74 #[v] w fun e w' => e = .returned (.bool (nmX x)) ∧ Below w.heap.size w w' := by
  obtain ⟨k, n, m, xs⟩ := x
  obtain ⟨av, rfl, hr⟩ := hx.parts
  obtain ⟨ao, c, rfl, _⟩ := hr
  have hb0 := below_alloc w (.cells #[.int .i64 k, .string n, .int .i64 m, .slice ao xs.length c] 48)
  clear hx
  by_cases hk : k = 1
  · subst hk
    by_cases hu : n.toList = [95]
    · have hE : Hid (nmX (.mk 1 n m xs) = false) := show _ = _ by simp [nmX, isU, hu]
      go_enter Try.func74, Try.ntmps74
      go_wp2
      go_ret
      exact ⟨ret_bool hE.out.symm, hb0⟩
    · have hE : Hid (nmX (.mk 1 n m xs) = true) := show _ = _ by simp [nmX, isU, hu]
      have hu' : (n.toList == [95]) = false := beq_eq_false_iff_ne.2 hu
      go_enter Try.func74, Try.ntmps74
      go_wp2
      go_ret
      exact ⟨ret_bool hE.out.symm, hb0⟩
  · have hE : Hid (nmX (.mk k n m xs) = false) := show _ = _ by simp [nmX, hk]
    have hk' : (k == 1) = false := beq_eq_false_iff_ne.2 hk
    clear hk
    go_enter Try.func74, Try.ntmps74
    go_wp2
    go_ret
    exact ⟨ret_bool hE.out.symm, hb0⟩
def CTermC (W0 : World) (x : Ex) : Prop := ∀ (w : World) (ev : Value) (cb : Nat) (v : Value) (q : Nat) (l : List ByteArray) (oth : Nat), Xv W0 x ev → szX x → Below W0.heap.size W0 w → Cs w W0.heap.size cb v q l oth → l.length + prtX x ≤ 100000 → oth + prtX x ≤ 100000 →
    Calls Try.prog 47 #[.pointer (some ⟨cb, 0, none⟩), ev] w fun e w' => e = .returned (.tuple #[]) ∧ CsU w w' W0.heap.size cb q v (namX l x) (oth + othX x)
theorem CsU.below {w w' : World} {B cb q : Nat} {v : Value} {l l' : List ByteArray} {oth oth' : Nat} (h : Cs w B cb v q l oth) (hu : CsU w w' B cb q v l' oth') {W0 : World} (hB : W0.heap.size = B) (hb : Below B W0 w) : Below B W0 w' := by
  obtain ⟨v', _, hm, _⟩ := hu
  refine hb.trans (hm.below (fun k hk => (h.lt hk).1) ?_)
  rw [← hB] at hb ⊢
  exact hb.size
end Go.Proofs.Ytjkcffcedbcjmaa
