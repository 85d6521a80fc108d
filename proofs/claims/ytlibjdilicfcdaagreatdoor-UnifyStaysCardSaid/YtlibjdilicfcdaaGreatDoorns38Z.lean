/- Package cells: Point, Release, and what refuses a point. -/
import Derived.Test.YtlibjdilicfcdaaGreatDoorns33Z
import Derived.Test.YtlibjdilicfcdaaGreatDoorns35Z
namespace Go.Proofs.YtlibjdilicfcdaaGreatDoor
set_option maxRecDepth 100000
open Go.RowKit
section
variable {w w' : World} {B hb ab tb : Nat} {m : Int} {av : Value} {l : List Int} {tv : Value} {tq : Nat} {ns : List ByteArray} {trv : Value} {tr : List Te} {ptv : Value} {pt : List Pe} {n : Int}
theorem pt_more {w6 : World} {o : Obj} {g6 cap6 : Nat} {p : Pe} (h : Hq w B hb ab tb m av l tv tq ns trv tr ptv pt n) (hown : w6.ownsRow B 145 3 (.slice (some ⟨g6, 0, none⟩) (pt.length + 1) cap6) (pt.length + 1) (mkC pt ++ [.int .i64 (p.1 : Int), .int .i64 (p.2 : Int), .slice none 0 0])) (hg : (w.alloc o).grownBy w6 ptv.ownBlock) (hat : ptv.ownBlock = some g6 ∨ g6 = (w.alloc o).heap.size) :
    Hq (w6.setCell ⟨hb, 3, none⟩ (.slice (some ⟨g6, 0, none⟩) (pt.length + 1) cap6)) B hb ab tb m av l tv tq ns trv tr (.slice (some ⟨g6, 0, none⟩) (pt.length + 1) cap6) (pt ++ [p]) n ∧ a_Mod (qfoot hb ab av trv ptv) w (w6.setCell ⟨hb, 3, none⟩ (.slice (some ⟨g6, 0, none⟩) (pt.length + 1) cap6)) ∧ a_Nx w ptv (.slice (some ⟨g6, 0, none⟩) (pt.length + 1) cap6) := by
  have ha := h.below (below_alloc w o)
  obtain ⟨hp6, hm6, hb6⟩ := ha.grown (Or.inr rfl) hg
  have htr : w6.ownsRow B 149 2 trv tr.length (svC tr) := row_keep ha.tr (fun q hq => hb6 q (ha.tr.lt q hq).2 (fun e => (ha.apart (Or.inr e)).2.2.2 ⟨hq, e⟩))
  have hr : w6.ownsRow B 145 3 (.slice (some ⟨g6, 0, none⟩) (pt.length + 1) cap6) (pt ++ [p]).length (mkC (pt ++ [p])) := by
    rw [mkC_app, List.length_append]
    exact hown
  have hz := h.hp.self
  refine ⟨⟨⟨heap_setCell_same w6 hb 3 _ _ _ hp6.blk, hp6.base, ?_, ?_⟩, row_keep htr (fun q hq => Below.heap_setCell _ _ _ _ (fun e => ?_)), row_keep hr (fun q hq => Below.heap_setCell _ _ _ _ (fun e => ?_))⟩, ?_, fun q hq => ?_⟩
  · refine hp6.ar.keep (ks := [hb]) ((a_Mod.refl [hb] w6).setCell (p := ⟨hb, 3, none⟩) (Or.inl (by simp)) _) (fun q hq => ?_)
    have e : q = hb := by simpa using hq
    rw [e]
    exact hz.1
  · refine hp6.tb.keep (mod_an ((a_Mod.refl [hb] w6).setCell (p := ⟨hb, 3, none⟩) (Or.inl (by simp)) _)) (fun q hq => ?_)
    have e : q = hb := by simpa using hq
    rw [e]
    exact hz.2
  · obtain ⟨c, e1, _⟩ := own_block_obj htr hq
    exact obj_ne e1 hp6.blk (by decide) e
  · obtain ⟨c, e1, _⟩ := own_block_obj hr hq
    exact obj_ne e1 hp6.blk (by decide) e
  · have hm : a_Mod (qfoot hb ab av trv ptv) w w6 := (a_Mod.ofBelow (below_alloc w o)).trans (hm6.ofMem (qfoot hb ab av trv ptv) (fun y hy => Or.inl (mem_qfoot.2 (Or.inr (Or.inr (Or.inr (by simpa using hy))))))) (fun y hy => Or.inl hy)
    exact hm.setCell (p := ⟨hb, 3, none⟩) (Or.inl (mem_qfoot.2 (Or.inl rfl))) _
  · have e : g6 = q := by simpa [Value.ownBlock] using hq
    subst e
    rcases hat with e | e
    · exact Or.inl e
    · exact Or.inr (by rw [e]; simp)
theorem pt_cells {w6 : World} {o : Obj} (h : Hq w B hb ab tb m av l tv tq ns trv tr ptv pt n) (hg : (w.alloc o).grownBy w6 ptv.ownBlock) : (w6.cell? ⟨hb, 3, none⟩ = some ptv ∧ w6.frozen? ⟨hb, 3, none⟩ = false) ∧ hb < w6.heap.size := by
  obtain ⟨hp6, _⟩ := (h.below (below_alloc w o)).grown (Or.inr rfl) hg
  refine ⟨⟨hp6.cells.1.2.2.2.1, ?_⟩, hp6.cells.2⟩
  simp [World.frozen?, hp6.blk]
theorem Hq.drew (h : Hq w B hb ab tb m av l tv tq ns trv tr ptv pt n) : Hq w.drew B hb ab tb m av l tv tq ns trv tr ptv pt n := h.below (Below.refl _ w).drew
set_option maxHeartbeats 4000000 in
theorem point_any (h : Hq w B hb ab tb m av l tv tq ns trv tr ptv pt n) (hB : B ≤ w.heap.size) (hp : pt.length ≤ 1000000) :
    Calls Tryz.prog 38 #[.pointer (some ⟨hb, 0, none⟩)] w fun e w' => e = .returned (.tuple #[.int .i64 (pt.length : Int), .nilIface]) ∧ ∃ ptv', Hq w' B hb ab tb m av l tv tq ns trv tr ptv' (pt ++ [(tr.length, l.length)]) n ∧ a_Mod (qfoot hb ab av trv ptv) w w' ∧ a_Nx w ptv ptv' := by
  obtain ⟨i0, hi, hz0, hz1, hz2⟩ := info_parts infoMk
  obtain ⟨⟨c0, c1, c2, c3, c4⟩, c5⟩ := h.hp.cells
  have HH := hid h
  obtain ⟨po, pc, rfl, hpc, hpm, _, hpa⟩ := own_slq h.pt
  obtain ⟨ta, tc, rfl, htc, _, _, _⟩ := own_slq h.tr
  have htp := hid (fun w1 (h1 : Hq w1 B hb ab tb m av l tv tq ns (.slice ta tr.length tc) tr (.slice po pt.length pc) pt n) => htop_any h1.hp)
  have hown := h.drew.pt.alloc (.cells #[.int .i64 (tr.length : Int), .int .i64 (l.length : Int), .slice none 0 0] 145)
  clear h hpa
  go_enter Tryz.func38, Tryz.ntmps38
  go_wp2
  go_region_law
    (first
      | (refine step_append_lies _ (by rfl) _ _ _ (by rfl) B 145 i0 (.agg #[.int .i64 0, .int .i64 0, .slice none 0 0]) 3 40 Tryz.underlying78 hi hz0 hz1 hz2 rfl (by omega) _ pt.length (mkC pt) (by rfl) hown ⟨w.heap.size, 0, none⟩ 1 1 [.int .i64 (tr.length : Int), .int .i64 (l.length : Int), .slice none 0 0] (by rfl) (by rfl) (World.news_of_block (cs := #[.int .i64 (tr.length : Int), .int .i64 (l.length : Int), .slice none 0 0]) (t := 145) (fr := (0, 0)) (heap_alloc_new w _)) (by simp [Value.oneCell']) (by omega) (by unfold maxLen; omega) (by omega) (by simp; omega) _ (by rfl) ?_; intro g6 cap6 w6 hown6 hg6 hat6 hlt6; have HW6 := hid (pt_more (p := (tr.length, l.length)) HH.out.drew hown6 hg6 hat6); obtain ⟨⟨k2, k2f⟩, k5⟩ := pt_cells HH.out.drew hg6; clear hown hown6 hg6 hat6 hlt6)
      | (go_simp; go_at_call 40; refine (htp.out _ HH.out.drew).mono ?_; rintro e w1 ⟨rfl, hw⟩; subst hw))
  all_goals
    clear k2 k2f
    go_wp2
    go_ret2
    exact ⟨rfl, _, HW6.out.1, (a_Mod.ofBelow (Below.refl _ w).drew).trans HW6.out.2.1 (fun y hy => Or.inl hy), HW6.out.2.2⟩
end
end Go.Proofs.YtlibjdilicfcdaaGreatDoor
