/- Package cells: a write, trailed where the newest point would see it. -/
import Derived.BigRegion
import Derived.Test.YtlibjdilicfcdaaGreatDoorns31Z
namespace Go.Proofs.YtlibjdilicfcdaaGreatDoor
set_option maxRecDepth 100000
open Go.RowKit
section
variable {w w' : World} {B hb ab tb : Nat} {m : Int} {av : Value} {l : List Int} {tv : Value} {tq : Nat} {ns : List ByteArray} {trv : Value} {tr : List Te} {ptv : Value} {pt : List Pe} {n : Int}
def Wrq (w w' : World) (B hb ab tb : Nat) (m : Int) (av : Value) (l' : List Int) (tv : Value) (tq : Nat) (ns : List ByteArray) (trv : Value) (tr' : List Te) (ptv : Value) (pt : List Pe) (n' : Int) : Prop :=
  ∃ trv', Hq w' B hb ab tb m av l' tv tq ns trv' tr' ptv pt n' ∧ a_Mod (qfoot hb ab av trv ptv) w w' ∧ a_Nx w trv trv'
set_option maxHeartbeats 2000000 in
theorem write_not (h : Hq w B hb ab tb m av l tv tq ns trv tr ptv pt n) (k : Nat) (x : Int) (hk : k < l.length) (x0 : 0 ≤ x) (x1 : x ≤ 18446744073709551615) (hm : mayB x l.length = true) (n0 : 0 ≤ n) (n1 : n ≤ 4611686018427387904) (hs : seesB pt k = false) (hp : pt.length ≤ 1000000) :
    Calls Tryz.prog 140 #[.pointer (some ⟨hb, 0, none⟩), .int .i64 (k : Int), .int .u64 x] w fun e w' => e = .returned (.tuple #[]) ∧ Wrq w w' B hb ab tb m av (l.set k x) tv tq ns trv tr ptv pt (n + 1) := by
  obtain ⟨⟨c0, c1, c2, c3, c4⟩, c5⟩ := h.hp.cells
  have hl := hid (blay_ok h.hp.ar k x hk x0 x1 hm)
  have HH := hid h
  obtain ⟨po, pc, rfl, hpc, _, hp0, hpa⟩ := own_slq h.pt
  have hfin : Hid (∀ w1, a_Upd 159 w w1 B ab m av (l.set k x) av → Wrq w (w1.setCell ⟨hb, 4, none⟩ (.int .i64 (n + 1))) B hb ab tb m av (l.set k x) tv tq ns trv tr (.slice po pt.length pc) pt (n + 1)) := fun w1 hu =>
    ⟨trv, (HH.out.words hu).wrote (n + 1), (hu.mod.ofMem _ (fun y hy => Or.inl (mem_qfoot.2 (Or.inr (Or.inl hy))))).setCell (p := ⟨hb, 4, none⟩) (Or.inl (mem_qfoot.2 (Or.inl rfl))) _, a_Nx.refl _ _⟩
  by_cases hp1 : pt.length = 0
  · have d0 : decide ((0 : Int) < (pt.length : Int)) = false := by simp [hp1]
    have d1 : ¬ (0 : Int) < (pt.length : Int) := by omega
    clear h hk hm hs hpa hp0
    go_enter Tryz.func140, Tryz.ntmps140
    go_wp2_with (go_at_call 94; refine hl.out.mono ?_; rintro e w1 ⟨rfl, hu⟩; have Hh := hid (HH.out.words hu); have Hu := hid hu; obtain ⟨⟨d0, d1, d2, d3, d4⟩, d5⟩ := Hh.out.hp.cells; have d6 : w1.frozen? ⟨hb, 4, none⟩ = false := (by simp [World.frozen?, Hh.out.hp.blk]); clear hu)
    go_end0
    exact ⟨rfl, hfin.out _ Hu.out⟩
  · obtain ⟨g, rfl⟩ : ∃ g, po = some ⟨g, 0, none⟩ := by
      cases po with
      | none => exact absurd (hp0 rfl).1 hp1
      | some a => exact ⟨a.block, by rw [← hpa a rfl]⟩
    have hla := (mkC_at pt (pt.length - 1) (by omega)).2.1
    have hcell : w.cell? ⟨g, (pt.length - 1) * 3 + 1, none⟩ = some (.int .i64 ((pt.getD (pt.length - 1) (0, 0)).2 : Int)) := by
      rw [h.pt.cellAt _ (by omega)]
      exact hla
    have hno : ¬ (k : Int) < ((pt.getD (pt.length - 1) (0, 0)).2 : Int) := by
      unfold seesB at hs
      rw [List.getLast?_eq_getElem?] at hs
      rw [List.getElem?_eq_getElem (by omega)] at hs
      have := of_decide_eq_false hs
      simp only [List.getD, List.getElem?_eq_getElem (show pt.length - 1 < pt.length by omega), Option.getD_some]
      omega
    have d0 : (0 : Int) < (pt.length : Int) := by omega
    have hsub : IntKind.i64.wrap ((pt.length : Int) - 1) = ((pt.length - 1 : Nat) : Int) := by rw [IntKind.wrap_i64]; omega
    have d1 : (((pt.length - 1 : Nat) : Int) : Int) < (pt.length : Int) := by omega
    generalize (pt.getD (pt.length - 1) (0, 0)).2 = top at *
    generalize hq : pt.length - 1 = q at *
    clear h hk hm hs hpa hp0 hla hq
    go_enter Tryz.func140, Tryz.ntmps140
    go_wp2_with (go_at_call 94; refine hl.out.mono ?_; rintro e w1 ⟨rfl, hu⟩; have Hh := hid (HH.out.words hu); have Hu := hid hu; obtain ⟨⟨d0, d1, d2, d3, d4⟩, d5⟩ := Hh.out.hp.cells; have d6 : w1.frozen? ⟨hb, 4, none⟩ = false := (by simp [World.frozen?, Hh.out.hp.blk]); clear hu)
    go_end0
    exact ⟨rfl, hfin.out _ Hu.out⟩
theorem wr_trail {w1 w6 : World} {o : Obj} {g6 cap6 : Nat} {k : Nat} {old : Int} (h : Hq w1 B hb ab tb m av l tv tq ns trv tr ptv pt n) (hown : w6.ownsRow B 149 2 (.slice (some ⟨g6, 0, none⟩) (tr.length + 1) cap6) (tr.length + 1) (svC tr ++ [.int .i64 (k : Int), .int .u64 old])) (hg : (w1.alloc o).grownBy w6 trv.ownBlock) (hat : trv.ownBlock = some g6 ∨ g6 = (w1.alloc o).heap.size) :
    Hq (w6.setCell ⟨hb, 2, none⟩ (.slice (some ⟨g6, 0, none⟩) (tr.length + 1) cap6)) B hb ab tb m av l tv tq ns (.slice (some ⟨g6, 0, none⟩) (tr.length + 1) cap6) (tr ++ [(k, old)]) ptv pt n ∧ a_Mod (qfoot hb ab av trv ptv) w1 (w6.setCell ⟨hb, 2, none⟩ (.slice (some ⟨g6, 0, none⟩) (tr.length + 1) cap6)) ∧ a_Nx w1 trv (.slice (some ⟨g6, 0, none⟩) (tr.length + 1) cap6) := by
  have ha := h.below (below_alloc w1 o)
  obtain ⟨hp6, hm6, hb6⟩ := ha.grown (Or.inl rfl) hg
  have hpt : w6.ownsRow B 145 3 ptv pt.length (mkC pt) := row_keep ha.pt (fun q hq => hb6 q (ha.pt.lt q hq).2 (fun e => (ha.apart (Or.inl e)).2.2.2 ⟨e, hq⟩))
  have hr : w6.ownsRow B 149 2 (.slice (some ⟨g6, 0, none⟩) (tr.length + 1) cap6) (tr ++ [(k, old)]).length (svC (tr ++ [(k, old)])) := by
    rw [svC_app, List.length_append]
    exact hown
  have hz := h.hp.self
  refine ⟨⟨⟨heap_setCell_same w6 hb 2 _ _ _ hp6.blk, hp6.base, ?_, ?_⟩, row_keep hr (fun q hq => Below.heap_setCell _ _ _ _ (fun e => ?_)), row_keep hpt (fun q hq => Below.heap_setCell _ _ _ _ (fun e => ?_))⟩, ?_, fun q hq => ?_⟩
  · refine hp6.ar.keep (ks := [hb]) ((a_Mod.refl [hb] w6).setCell (p := ⟨hb, 2, none⟩) (Or.inl (by simp)) _) (fun q hq => ?_)
    have e : q = hb := by simpa using hq
    rw [e]
    exact hz.1
  · refine hp6.tb.keep (mod_an ((a_Mod.refl [hb] w6).setCell (p := ⟨hb, 2, none⟩) (Or.inl (by simp)) _)) (fun q hq => ?_)
    have e : q = hb := by simpa using hq
    rw [e]
    exact hz.2
  · obtain ⟨c, e1, _⟩ := own_block_obj hr hq
    exact obj_ne e1 hp6.blk (by decide) e
  · obtain ⟨c, e1, _⟩ := own_block_obj hpt hq
    exact obj_ne e1 hp6.blk (by decide) e
  · have hm : a_Mod (qfoot hb ab av trv ptv) w1 w6 := (a_Mod.ofBelow (below_alloc w1 o)).trans (hm6.ofMem (qfoot hb ab av trv ptv) (fun y hy => Or.inl (mem_qfoot.2 (Or.inr (Or.inr (Or.inl (by simpa using hy))))))) (fun y hy => Or.inl hy)
    exact hm.setCell (p := ⟨hb, 2, none⟩) (Or.inl (mem_qfoot.2 (Or.inl rfl))) _
  · have e : g6 = q := by simpa [Value.ownBlock] using hq
    subst e
    rcases hat with e | e
    · exact Or.inl e
    · exact Or.inr (by rw [e]; simp)
theorem wr_cells {w1 w6 : World} {o : Obj} (h : Hq w1 B hb ab tb m av l tv tq ns trv tr ptv pt n) (hg : (w1.alloc o).grownBy w6 trv.ownBlock) : (w6.cell? ⟨hb, 2, none⟩ = some trv ∧ w6.frozen? ⟨hb, 2, none⟩ = false) ∧ hb < w6.heap.size := by
  obtain ⟨hp6, _⟩ := (h.below (below_alloc w1 o)).grown (Or.inl rfl) hg
  refine ⟨⟨hp6.cells.1.2.2.1, ?_⟩, hp6.cells.2⟩
  simp [World.frozen?, hp6.blk]
theorem wr_fin {w1 w7 w9 : World} {trv' : Value} {tr' : List Te} {l' : List Int} (hb1 : Below w.heap.size w w1) (_ : B ≤ w.heap.size) (h7 : Hq w7 B hb ab tb m av l tv tq ns trv' tr' ptv pt n) (hm : a_Mod (qfoot hb ab av trv ptv) w1 w7) (hx : a_Nx w1 trv trv') (hu : a_Upd 159 w7 w9 B ab m av l' av) : Wrq w (w9.setCell ⟨hb, 4, none⟩ (.int .i64 (n + 1))) B hb ab tb m av l' tv tq ns trv tr' ptv pt (n + 1) := by
  have hm1 : a_Mod (qfoot hb ab av trv ptv) w w7 := (a_Mod.ofBelow hb1).trans hm (fun y hy => Or.inl hy)
  refine ⟨trv', (h7.words hu).wrote (n + 1), (hm1.trans (hu.mod.ofMem (qfoot hb ab av trv ptv) (fun y hy => Or.inl (mem_qfoot.2 (Or.inr (Or.inl hy))))) (fun y hy => Or.inl hy)).setCell (p := ⟨hb, 4, none⟩) (Or.inl (mem_qfoot.2 (Or.inl rfl))) _, fun q hq => ?_⟩
  rcases hx q hq with h | h
  · exact Or.inl h
  · exact Or.inr (Nat.le_trans hb1.size h)
set_option maxHeartbeats 4000000 in
theorem write_seen (h : Hq w B hb ab tb m av l tv tq ns trv tr ptv pt n) (hB : B ≤ w.heap.size) (k : Nat) (x : Int) (hk : k < l.length) (x0 : 0 ≤ x) (x1 : x ≤ 18446744073709551615) (hm : mayB x l.length = true) (n0 : 0 ≤ n) (n1 : n ≤ 4611686018427387904) (hs : seesB pt k = true) (hp : pt.length ≤ 1000000) (htl : tr.length ≤ 1000000) :
    Calls Tryz.prog 140 #[.pointer (some ⟨hb, 0, none⟩), .int .i64 (k : Int), .int .u64 x] w fun e w' => e = .returned (.tuple #[]) ∧ Wrq w w' B hb ab tb m av (l.set k x) tv tq ns trv (tr ++ [(k, l.getD k 0)]) ptv pt (n + 1) := by
  obtain ⟨i0, hi, hz0, hz1, hz2⟩ := info_parts infoSv
  obtain ⟨⟨c0, c1, c2, c3, c4⟩, c5⟩ := h.hp.cells
  have HH := hid h
  obtain ⟨po, pc, rfl, hpc, _, hp0, hpa⟩ := own_slq h.pt
  obtain ⟨tfo, tc, rfl, htc, _, _, _⟩ := own_slq h.tr
  have hp1 : pt.length ≠ 0 := fun e => by
    rw [List.eq_nil_of_length_eq_zero e] at hs
    simp [seesB] at hs
  obtain ⟨g, rfl⟩ : ∃ g, po = some ⟨g, 0, none⟩ := by
    cases po with
    | none => exact absurd (hp0 rfl).1 hp1
    | some a => exact ⟨a.block, by rw [← hpa a rfl]⟩
  have hla := (mkC_at pt (pt.length - 1) (by omega)).2.1
  have hcell : w.cell? ⟨g, (pt.length - 1) * 3 + 1, none⟩ = some (.int .i64 ((pt.getD (pt.length - 1) (0, 0)).2 : Int)) := by
    rw [h.pt.cellAt _ (by omega)]
    exact hla
  have hno : (k : Int) < ((pt.getD (pt.length - 1) (0, 0)).2 : Int) := by
    unfold seesB at hs
    rw [List.getLast?_eq_getElem?] at hs
    rw [List.getElem?_eq_getElem (by omega)] at hs
    have := of_decide_eq_true hs
    simp only [List.getD, List.getElem?_eq_getElem (show pt.length - 1 < pt.length by omega), Option.getD_some]
    omega
  have d0 : (0 : Int) < (pt.length : Int) := by omega
  have hsub : IntKind.i64.wrap ((pt.length : Int) - 1) = ((pt.length - 1 : Nat) : Int) := by rw [IntKind.wrap_i64]; omega
  have d1 : (((pt.length - 1 : Nat) : Int) : Int) < (pt.length : Int) := by omega
  have hwo := hid (fun w1 (hb1 : Below w.heap.size w w1) => bword_ok (h.hp.ar.below hb1) k hk)
  have hl := hid (fun w2 (h2 : Hq w2 B hb ab tb m av l tv tq ns (.slice tfo tr.length tc) tr (.slice (some ⟨g, 0, none⟩) pt.length pc) pt n) => h2)
  have hst := hid (fun w2 (h2 : Ar 159 w2 B ab m av l) => blay_ok h2 k x hk x0 x1 hm)
  generalize (pt.getD (pt.length - 1) (0, 0)).2 = top at *
  generalize hq : pt.length - 1 = q at *
  have HT := hid h.tr
  have HBz := hid hB
  generalize hK : l.getD k 0 = old at *
  clear h hk hm hs hpa hp0 hla hq hl hK
  go_enter Tryz.func140, Tryz.ntmps140
  go_wp2
  go_region_law
    (first
      | (refine step_append_lies _ (by rfl) _ _ _ (by rfl) B 149 i0 (.agg #[.int .i64 0, .int .u64 0]) 2 16 Tryz.underlying77 hi hz0 hz1 hz2 rfl (by omega) _ tr.length (svC tr) (by rfl) hown ⟨w1.heap.size, 0, none⟩ 1 1 [.int .i64 (k : Int), .int .u64 old] (by rfl) (by rfl) (World.news_of_block (cs := #[.int .i64 (k : Int), .int .u64 old]) (t := 149) (fr := (0, 0)) (heap_alloc_new w1 _)) (by simp [Value.oneCell']) (by omega) (by unfold maxLen; omega) (by omega) (by have := Hb1.out.size; have := HBz.out; simp; omega) _ (by rfl) ?_; intro g6 cap6 w6 hown6 hg6 hat6 hlt6; have HW6 := hid (wr_trail HH1.out hown6 hg6 hat6); obtain ⟨⟨k2, k2f⟩, k5⟩ := wr_cells HH1.out hg6; clear hown hown6 hg6 hat6 hlt6)
      | (go_simp; go_at_call 66; refine (hwo.out _ (Below.refl _ w).drew).mono ?_; rintro e w1 ⟨rfl, hb1⟩; have Hb1 := hid (Below.next (Below.refl _ w).drew hb1); have HH1 := hid (HH.out.below Hb1.out); obtain ⟨⟨e0, e1, e2, e3, e4⟩, e5⟩ := HH1.out.hp.cells; have hown := HH1.out.tr.alloc (.cells #[.int .i64 (k : Int), .int .u64 old] 149); clear hb1))
  all_goals
    obtain ⟨hw6, hm6, hx6⟩ := HW6.out
    have HQ6 := hid hw6
    have HF := hid (fun w9 (hu : a_Upd 159 (w6.setCell ⟨hb, 2, none⟩ (.slice (some ⟨g6, 0, none⟩) (tr.length + 1) cap6)) w9 B ab m av (l.set k x) av) => wr_fin Hb1.out HBz.out hw6 hm6 hx6 hu)
    obtain ⟨⟨y0, y1, y2, y3, y4⟩, y5⟩ := hw6.hp.cells
    clear hw6 hm6 hx6 HW6 k2 k2f
    go_wp2_with (go_at_call 94; refine (hst.out _ HQ6.out.hp.ar).mono ?_; rintro e w9 ⟨rfl, hu⟩; have Hu := hid hu; have Hh := hid (HQ6.out.words hu); obtain ⟨⟨v0, v1, v2, v3, v4⟩, v5⟩ := Hh.out.hp.cells; have v6 : w9.frozen? ⟨hb, 4, none⟩ = false := (by simp [World.frozen?, Hh.out.hp.blk]); clear hu)
    go_end0
    exact ⟨rfl, HF.out _ Hu.out⟩
end
end Go.Proofs.YtlibjdilicfcdaaGreatDoor

namespace Go.Proofs.YtlibjdilicfcdaaGreatDoor
set_option maxRecDepth 100000
open Go.RowKit
theorem run_app_none {P : Program} {w : World} (base : Nat) (t ty e : TypeId) (i : TypeInfo) (size : Nat) (ht : P.underlying t = some (.slice e)) (hi : P.info? e = some i)
    (v : Value) (n : Nat) (xs : List Value) (hown : w.ownsRow base e size v n xs) (ao : Option Addr) (c : Nat) :
    (Builtin.append_ #[t, t] ty #[v, .slice ao 0 c]).run P w = .ok v w := by
  cases ao with
  | none =>
    rcases hown.2 with ⟨rfl, rfl⟩ | ⟨g, cap, cur, rfl, _, _, hnc, _⟩
    · simp [Builtin.append_, run_underlying ht, sizeOf, typeInfo, hi, Builtin.lenOf, Builtin.firstCells]
    · simp [Builtin.append_, run_underlying ht, sizeOf, typeInfo, hi, Builtin.lenOf, Builtin.firstCells, hnc, storeCells]
  | some a =>
    rcases hown.2 with ⟨rfl, rfl⟩ | ⟨g, cap, cur, rfl, _, _, hnc, _⟩
    · simp [Builtin.append_, run_underlying ht, sizeOf, typeInfo, hi, Builtin.lenOf, Builtin.firstCells, loadCells, loadCellsFrom]
    · simp [Builtin.append_, run_underlying ht, sizeOf, typeInfo, hi, Builtin.lenOf, Builtin.firstCells, hnc, storeCells, loadCells, loadCellsFrom]
theorem qslice_nil_in {P : Program} (w : World) (d : Nat) (t : TypeId) {e : TypeId} (h : P.underlying t = some (.slice e)) (ao : Option Addr) (n c : Nat) : (Op.equalIn (d + 1) t (.slice ao n c) (.slice none 0 0)).run P w = .ok ao.isNone w := by
  cases ao <;> simp [Op.equalIn, run_underlying h]
theorem svC_one (tr : List Te) : ∀ u ∈ svC tr, u.oneCell' = true := fun u hu => by
  obtain ⟨e, _, he⟩ := List.mem_flatMap.1 hu
  rcases List.mem_cons.1 he with rfl | he
  · rfl
  · have : u = .int .u64 e.2 := by simpa using he
    rw [this]
    rfl
theorem mkC_one (pt : List Pe) : ∀ u ∈ mkC pt, u.oneCell' = true := fun u hu => by
  obtain ⟨e, _, he⟩ := List.mem_flatMap.1 hu
  rcases List.mem_cons.1 he with rfl | he
  · rfl
  · rcases List.mem_cons.1 he with rfl | he
    · rfl
    · have : u = .slice none 0 0 := by simpa using he
      rw [this]
      rfl
theorem svslice_nil (w : World) (ao : Option Addr) (n c : Nat) : (binOp .eql 77 (.slice ao n c) (.slice none 0 0)).run Tryz.prog w = .ok (.bool ao.isNone) w := by
  simp only [binOp]
  simp [show Op.equal 77 (.slice ao n c) (.slice none 0 0) = Op.equalIn (9999 + 1) 77 (.slice ao n c) (.slice none 0 0) from rfl, qslice_nil_in w 9999 77 Tryz.underlying77]
set_option maxHeartbeats 1000000 in
theorem svclone_any {w : World} {B n : Nat} {v : Value} {xs : List Value} (h : w.ownsRow B 149 2 v n xs) (h1 : ∀ u ∈ xs, u.oneCell' = true) (hl : n ≤ 100000) :
    Calls Tryz.prog 77 #[v] w fun e w' => ∃ ao c, e = .returned (.slice ao n c) ∧ w'.ownsRow w.heap.size 149 2 (.slice ao n c) n xs ∧ Below w.heap.size w w' := by
  obtain ⟨i0, hi, hz0, hz1, hz2⟩ := info_parts infoSv
  have h0 := h
  have hlen := h.1
  rcases h.2 with ⟨rfl, hn⟩ | ⟨g, cap, cur, rfl, _⟩
  · subst hn
    have hx : xs = [] := List.eq_nil_of_length_eq_zero (by omega)
    subst hx
    have hsn := fun w : World => svslice_nil w none 0 0
    clear h h0 h1 hlen
    go_enter Tryz.func77, Tryz.ntmps77
    go_wp2
    go_ret
    exact ⟨_, _, rfl, World.ownsRow_nil _ _ _ _, Below.refl _ _⟩
  · have hown : (w.alloc (.cells #[] 149)).ownsRow w.heap.size 149 2 (.slice (some ⟨w.heap.size, 0, none⟩) 0 0) 0 [] := ⟨rfl, Or.inr ⟨w.heap.size, 0, #[], rfl, Nat.le_refl _, heap_alloc_new w _, Nat.le_refl _, Nat.zero_le _, rfl, rfl⟩⟩
    have hsn := fun w : World => svslice_nil w (some ⟨g, 0, none⟩) n cap
    by_cases hn : n = 0
    · subst hn
      have hx : xs = [] := List.eq_nil_of_length_eq_zero (by omega)
      subst hx
      have hr := fun ty => run_app_none (P := Tryz.prog) w.heap.size 77 ty 149 i0 2 Tryz.underlying77 hi _ 0 [] hown (some ⟨g, 0, none⟩) cap
      clear h h0 h1 hlen
      go_enter Tryz.func77, Tryz.ntmps77
      go_wp2_with (at_builtin; refine Lib.wpList_append_run _ rfl _ _ _ _ rfl _ _ rfl rfl _ _ (hr _) ?_)
      go_ret
      exact ⟨_, _, rfl, hown, below_alloc w _⟩
    · have hnews : ∀ j u, xs[j]? = some u → (w.alloc (.cells #[] 149)).cell? ((⟨g, 0, none⟩ : Addr).add j) = some u := fun j u hj => by
        exact ((h0.alloc (.cells #[] 149)).cells (g := g) rfl) j u hj
      have hpos : 0 < n := by omega
      clear h h0 hn
      go_enter Tryz.func77, Tryz.ntmps77
      go_wp2_with (at_builtin; refine wpList_append_lies _ rfl _ _ 77 rfl w.heap.size 149 i0 (.agg #[.int .i64 0, .int .u64 0]) 2 16 Tryz.underlying77 hi hz0 hz1 hz2 rfl (by decide) (.slice (some ⟨w.heap.size, 0, none⟩) 0 0) 0 [] rfl hown ⟨g, 0, none⟩ n cap xs rfl hlen hnews h1 hpos (by unfold maxLen; omega) (by omega) (by simp) _ rfl ?_; intro g' cap' w1 hown' hgrow _ _)
      go_ret
      refine ⟨some ⟨g', 0, none⟩, cap', by simp, by simpa using hown', ?_⟩
      exact (below_alloc w _).grown hgrow (by simp) (fun k e => by
        have e' : k = w.heap.size := by simpa [Value.ownBlock] using e.symm
        omega)
theorem mkslice_nil (w : World) (ao : Option Addr) (n c : Nat) : (binOp .eql 78 (.slice ao n c) (.slice none 0 0)).run Tryz.prog w = .ok (.bool ao.isNone) w := by
  simp only [binOp]
  simp [show Op.equal 78 (.slice ao n c) (.slice none 0 0) = Op.equalIn (9999 + 1) 78 (.slice ao n c) (.slice none 0 0) from rfl, qslice_nil_in w 9999 78 Tryz.underlying78]
set_option maxHeartbeats 1000000 in
theorem mkclone_any {w : World} {B n : Nat} {v : Value} {xs : List Value} (h : w.ownsRow B 145 3 v n xs) (h1 : ∀ u ∈ xs, u.oneCell' = true) (hl : n ≤ 100000) :
    Calls Tryz.prog 78 #[v] w fun e w' => ∃ ao c, e = .returned (.slice ao n c) ∧ w'.ownsRow w.heap.size 145 3 (.slice ao n c) n xs ∧ Below w.heap.size w w' := by
  obtain ⟨i0, hi, hz0, hz1, hz2⟩ := info_parts infoMk
  have h0 := h
  have hlen := h.1
  rcases h.2 with ⟨rfl, hn⟩ | ⟨g, cap, cur, rfl, _⟩
  · subst hn
    have hx : xs = [] := List.eq_nil_of_length_eq_zero (by omega)
    subst hx
    have hsn := fun w : World => mkslice_nil w none 0 0
    clear h h0 h1 hlen
    go_enter Tryz.func78, Tryz.ntmps78
    go_wp2
    go_ret
    exact ⟨_, _, rfl, World.ownsRow_nil _ _ _ _, Below.refl _ _⟩
  · have hown : (w.alloc (.cells #[] 145)).ownsRow w.heap.size 145 3 (.slice (some ⟨w.heap.size, 0, none⟩) 0 0) 0 [] := ⟨rfl, Or.inr ⟨w.heap.size, 0, #[], rfl, Nat.le_refl _, heap_alloc_new w _, Nat.le_refl _, Nat.zero_le _, rfl, rfl⟩⟩
    have hsn := fun w : World => mkslice_nil w (some ⟨g, 0, none⟩) n cap
    by_cases hn : n = 0
    · subst hn
      have hx : xs = [] := List.eq_nil_of_length_eq_zero (by omega)
      subst hx
      have hr := fun ty => run_app_none (P := Tryz.prog) w.heap.size 78 ty 145 i0 3 Tryz.underlying78 hi _ 0 [] hown (some ⟨g, 0, none⟩) cap
      clear h h0 h1 hlen
      go_enter Tryz.func78, Tryz.ntmps78
      go_wp2_with (at_builtin; refine Lib.wpList_append_run _ rfl _ _ _ _ rfl _ _ rfl rfl _ _ (hr _) ?_)
      go_ret
      exact ⟨_, _, rfl, hown, below_alloc w _⟩
    · have hnews : ∀ j u, xs[j]? = some u → (w.alloc (.cells #[] 145)).cell? ((⟨g, 0, none⟩ : Addr).add j) = some u := fun j u hj => by
        exact ((h0.alloc (.cells #[] 145)).cells (g := g) rfl) j u hj
      have hpos : 0 < n := by omega
      clear h h0 hn
      go_enter Tryz.func78, Tryz.ntmps78
      go_wp2_with (at_builtin; refine wpList_append_lies _ rfl _ _ 78 rfl w.heap.size 145 i0 (.agg #[.int .i64 0, .int .i64 0, .slice none 0 0]) 3 40 Tryz.underlying78 hi hz0 hz1 hz2 rfl (by decide) (.slice (some ⟨w.heap.size, 0, none⟩) 0 0) 0 [] rfl hown ⟨g, 0, none⟩ n cap xs rfl hlen hnews h1 hpos (by unfold maxLen; omega) (by omega) (by simp) _ rfl ?_; intro g' cap' w1 hown' hgrow _ _)
      go_ret
      refine ⟨some ⟨g', 0, none⟩, cap', by simp, by simpa using hown', ?_⟩
      exact (below_alloc w _).grown hgrow (by simp) (fun k e => by
        have e' : k = w.heap.size := by simpa [Value.ownBlock] using e.symm
        omega)
end Go.Proofs.YtlibjdilicfcdaaGreatDoor
