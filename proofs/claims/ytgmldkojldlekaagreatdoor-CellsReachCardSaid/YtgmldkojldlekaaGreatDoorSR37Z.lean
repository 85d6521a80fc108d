/- Package cells: Point, Release, and what refuses a point. -/
import Derived.Deep.DeepCutAuto
import Derived.Test.YtgmldkojldlekaaGreatDoorSR31Z
import Derived.Test.YtgmldkojldlekaaGreatDoorSR36Z
import Derived.Test.YtgmldkojldlekaaGreatDoorSR34Z
import Derived.Test.YtgmldkojldlekaaGreatDoorSR28Z
import Derived.Test.YtgmldkojldlekaaGreatDoorSR32Z
namespace Go.Proofs.YtgmldkojldlekaaGreatDoor
set_option maxRecDepth 100000
open Go.RowKit
section
variable {w w' : World} {B hb ab tb : Nat} {m : Int} {av : Value} {l : List Int} {tv : Value} {tq : Nat} {ns : List ByteArray} {trv : Value} {tr : List Te} {ptv : Value} {pt : List Pe} {n : Int}
set_option maxHeartbeats 2000000 in
theorem haspoint_no (h : Hq w B hb ab tb m av l tv tq ns trv tr ptv pt n) (i : Int) (hi : i < 0 ∨ (pt.length : Int) ≤ i) :
    Calls Tryz.prog 37 #[.pointer (some ⟨hb, 0, none⟩), .int .i64 i] w fun e w' => (∃ ev, e = .returned (.iface 102 (.pointer (some ⟨ev, 0, none⟩))) ∧ Er w' (.iface 102 (.pointer (some ⟨ev, 0, none⟩))) [(116, i)]) ∧ Below w.heap.size w w' := by
  obtain ⟨⟨c0, c1, c2, c3, c4⟩, c5⟩ := h.hp.cells
  obtain ⟨po, pc, rfl, _⟩ := own_slq h.pt
  clear h
  by_cases h0 : i < 0
  · clear hi
    go_enter Tryz.func37, Tryz.ntmps37
    go_wp2_with (go_at_call 30; refine (cfault_any _ _ _).mono ?_; rintro e w1 ⟨rfl, rfl⟩)
    go_ret
    exact ⟨⟨_, rfl, show (116 : Int) ≠ 0 by decide, _, .nilIface, rfl, heap_alloc_new w _, rfl⟩, below_alloc w _⟩
  · have h1 : (pt.length : Int) ≤ i := by omega
    have h2 : ¬ i < (pt.length : Int) := by omega
    clear hi
    go_enter Tryz.func37, Tryz.ntmps37
    go_wp2_with (go_at_call 30; refine (cfault_any _ _ _).mono ?_; rintro e w1 ⟨rfl, rfl⟩)
    go_ret
    exact ⟨⟨_, rfl, show (116 : Int) ≠ 0 by decide, _, .nilIface, rfl, heap_alloc_new w _, rfl⟩, below_alloc w _⟩
set_option maxHeartbeats 2000000 in
theorem haspoint_yes (h : Hq w B hb ab tb m av l tv tq ns trv tr ptv pt n) (i : Nat) (hi : i < pt.length) :
    Calls Tryz.prog 37 #[.pointer (some ⟨hb, 0, none⟩), .int .i64 (i : Int)] w fun e w' => e = .returned .nilIface ∧ w' = w := by
  obtain ⟨⟨c0, c1, c2, c3, c4⟩, c5⟩ := h.hp.cells
  obtain ⟨po, pc, rfl, _⟩ := own_slq h.pt
  have h0 : ¬ (i : Int) < 0 := by omega
  have h1 : ¬ (pt.length : Int) ≤ (i : Int) := by omega
  have h2 : (i : Int) < (pt.length : Int) := by omega
  clear h
  go_enter Tryz.func37, Tryz.ntmps37
  go_wp2
  go_ret
  exact ⟨rfl, rfl⟩
set_option maxHeartbeats 2000000 in
theorem release_yes (h : Hq w B hb ab tb m av l tv tq ns trv tr ptv pt n) (i : Nat) (hi : i < pt.length) :
    Calls Tryz.prog 29 #[.pointer (some ⟨hb, 0, none⟩), .int .i64 (i : Int)] w fun e w' => e = .returned .nilIface ∧ ∃ ptv', Hq w' B hb ab tb m av l tv tq ns trv tr ptv' (pt.take i) n ∧ a_Mod (qfoot hb ab av trv ptv) w w' ∧ a_Nx w ptv ptv' := by
  obtain ⟨⟨c0, c1, c2, c3, c4⟩, c5⟩ := h.hp.cells
  have c6 : w.frozen? ⟨hb, 3, none⟩ = false := by simp [World.frozen?, h.hp.blk]
  have hhp := hid (haspoint_yes h i hi)
  obtain ⟨po, pc, rfl, hpc, hpm, _, hpa⟩ := own_slq h.pt
  obtain ⟨g, rfl⟩ : ∃ g, po = some ⟨g, 0, none⟩ := by
    cases po with
    | none => exact absurd (own_slq h.pt) (fun ⟨a, c, e, _, _, h0, _⟩ => by injection e with e1 _ _; have := (h0 e1.symm).1; omega)
    | some a => exact ⟨a.block, by rw [← hpa a rfl]⟩
  have hct := own_cut h.pt (k := i) (by omega)
  rw [mkC_take] at hct
  have hfin := hid (h.newpt (pt' := pt.take i) (by rw [List.length_take, Nat.min_eq_left (by omega)]; exact hct))
  have hb1 : (i : Int) ≤ (pc : Int) := by omega
  have hb2 : (0 : Int) ≤ (i : Int) := by omega
  clear hct hpa
  go_enter Tryz.func29, Tryz.ntmps29
  go_wp2_with (go_at_call 37; refine hhp.out.mono ?_; rintro e w1 ⟨rfl, hw⟩; replace hw := hw.symm; subst hw)
  go_ret
  exact ⟨rfl, _, hfin.out, (a_Mod.refl _ w).setCell (p := ⟨hb, 3, none⟩) (Or.inl (mem_qfoot.2 (Or.inl rfl))) _, fun q hq => Or.inl hq⟩
set_option maxHeartbeats 800000 in
theorem release_no (h : Hq w B hb ab tb m av l tv tq ns trv tr ptv pt n) (i : Int) (hi : i < 0 ∨ (pt.length : Int) ≤ i) :
    Calls Tryz.prog 29 #[.pointer (some ⟨hb, 0, none⟩), .int .i64 i] w fun e w' => (∃ ev, e = .returned ev ∧ Er w' ev [(116, i)]) ∧ Below w.heap.size w w' := by
  have hhp := hid (haspoint_no h i hi)
  clear h hi
  go_enter Tryz.func29, Tryz.ntmps29
  go_wp2_with (go_at_call 37; refine hhp.out.mono ?_; rintro e w1 ⟨⟨ev, rfl, hE⟩, hb1⟩)
  go_ret
  exact ⟨⟨_, rfl, hE⟩, hb1⟩
theorem pt_more {w6 : World} {o : Obj} {g6 cap6 : Nat} {p : Pe} (h : Hq w B hb ab tb m av l tv tq ns trv tr ptv pt n) (hown : w6.ownsRow B 85 3 (.slice (some ⟨g6, 0, none⟩) (pt.length + 1) cap6) (pt.length + 1) (mkC pt ++ [.int .i64 (p.1 : Int), .int .i64 (p.2 : Int), .slice none 0 0])) (hg : (w.alloc o).grownBy w6 ptv.ownBlock) (hat : ptv.ownBlock = some g6 ∨ g6 = (w.alloc o).heap.size) :
    Hq (w6.setCell ⟨hb, 3, none⟩ (.slice (some ⟨g6, 0, none⟩) (pt.length + 1) cap6)) B hb ab tb m av l tv tq ns trv tr (.slice (some ⟨g6, 0, none⟩) (pt.length + 1) cap6) (pt ++ [p]) n ∧ a_Mod (qfoot hb ab av trv ptv) w (w6.setCell ⟨hb, 3, none⟩ (.slice (some ⟨g6, 0, none⟩) (pt.length + 1) cap6)) ∧ a_Nx w ptv (.slice (some ⟨g6, 0, none⟩) (pt.length + 1) cap6) := by
  have ha := h.below (below_alloc w o)
  obtain ⟨hp6, hm6, hb6⟩ := ha.grown (Or.inr rfl) hg
  have htr : w6.ownsRow B 90 2 trv tr.length (svC tr) := row_keep ha.tr (fun q hq => hb6 q (ha.tr.lt q hq).2 (fun e => (ha.apart (Or.inr e)).2.2.2 ⟨hq, e⟩))
  have hr : w6.ownsRow B 85 3 (.slice (some ⟨g6, 0, none⟩) (pt.length + 1) cap6) (pt ++ [p]).length (mkC (pt ++ [p])) := by
    rw [mkC_app, List.length_append]
    exact hown
  have hz := h.hp.self
  refine ⟨⟨⟨heap_setCell_same w6 hb 3 _ _ _ hp6.blk, hp6.base, ?_, ?_⟩, row_keep htr (fun q hq => Below.heap_setCell _ _ _ _ (fun e => ?_)), row_keep hr (fun q hq => Below.heap_setCell _ _ _ _ (fun e => ?_))⟩, ?_, fun q hq => ?_⟩
  · refine hp6.ar.keep (ks := [hb]) ((a_Mod.refl [hb] w6).setCell (p := ⟨hb, 3, none⟩) (Or.inl (by simp)) _) (fun q hq => ?_)
    have e : q = hb := by simpa using hq
    rw [e]
    exact hz.1
  · refine hp6.tb.keep (mod_an ((a_Mod.refl [hb] w6).setCell (p := ⟨hb, 3, none⟩) (Or.inl (by simp)) _)) (fun q hq => ?_)
    have e : q = hb := by simpa using hq
    rw [e]
    exact hz.2
  · obtain ⟨c, e1, _⟩ := own_block_obj htr hq
    exact obj_ne e1 hp6.blk (by decide) e
  · obtain ⟨c, e1, _⟩ := own_block_obj hr hq
    exact obj_ne e1 hp6.blk (by decide) e
  · have hm : a_Mod (qfoot hb ab av trv ptv) w w6 := (a_Mod.ofBelow (below_alloc w o)).trans (hm6.ofMem (qfoot hb ab av trv ptv) (fun y hy => Or.inl (mem_qfoot.2 (Or.inr (Or.inr (Or.inr (by simpa using hy))))))) (fun y hy => Or.inl hy)
    exact hm.setCell (p := ⟨hb, 3, none⟩) (Or.inl (mem_qfoot.2 (Or.inl rfl))) _
  · have e : g6 = q := by simpa [Value.ownBlock] using hq
    subst e
    rcases hat with e | e
    · exact Or.inl e
    · exact Or.inr (by rw [e]; simp)
theorem pt_cells {w6 : World} {o : Obj} (h : Hq w B hb ab tb m av l tv tq ns trv tr ptv pt n) (hg : (w.alloc o).grownBy w6 ptv.ownBlock) : (w6.cell? ⟨hb, 3, none⟩ = some ptv ∧ w6.frozen? ⟨hb, 3, none⟩ = false) ∧ hb < w6.heap.size := by
  obtain ⟨hp6, _⟩ := (h.below (below_alloc w o)).grown (Or.inr rfl) hg
  refine ⟨⟨hp6.cells.1.2.2.2.1, ?_⟩, hp6.cells.2⟩
  simp [World.frozen?, hp6.blk]
theorem Hq.drew (h : Hq w B hb ab tb m av l tv tq ns trv tr ptv pt n) : Hq w.drew B hb ab tb m av l tv tq ns trv tr ptv pt n := h.below (Below.refl _ w).drew
set_option maxHeartbeats 4000000 in
theorem point_any (h : Hq w B hb ab tb m av l tv tq ns trv tr ptv pt n) (hB : B ≤ w.heap.size) (hp : pt.length ≤ 1000000) :
    Calls Tryz.prog 9 #[.pointer (some ⟨hb, 0, none⟩)] w fun e w' => e = .returned (.tuple #[.int .i64 (pt.length : Int), .nilIface]) ∧ ∃ ptv', Hq w' B hb ab tb m av l tv tq ns trv tr ptv' (pt ++ [(tr.length, l.length)]) n ∧ a_Mod (qfoot hb ab av trv ptv) w w' ∧ a_Nx w ptv ptv' := by
  obtain ⟨i0, hi, hz0, hz1, hz2⟩ := info_parts infoMk
  obtain ⟨⟨c0, c1, c2, c3, c4⟩, c5⟩ := h.hp.cells
  have HH := hid h
  obtain ⟨po, pc, rfl, hpc, hpm, _, hpa⟩ := own_slq h.pt
  obtain ⟨ta, tc, rfl, htc, _, _, _⟩ := own_slq h.tr
  have htp := hid (fun w1 (h1 : Hq w1 B hb ab tb m av l tv tq ns (.slice ta tr.length tc) tr (.slice po pt.length pc) pt n) => htop_any h1.hp)
  have hown := h.drew.pt.alloc (.cells #[.int .i64 (tr.length : Int), .int .i64 (l.length : Int), .slice none 0 0] 85)
  clear h hpa
  go_enter Tryz.func9, Tryz.ntmps9
  go_wp2
  go_region_law
    (first
      | (refine step_append_lies _ (by rfl) _ _ _ (by rfl) B 85 i0 (.agg #[.int .i64 0, .int .i64 0, .slice none 0 0]) 3 40 Tryz.underlying40 hi hz0 hz1 hz2 rfl (by omega) _ pt.length (mkC pt) (by rfl) hown ⟨w.heap.size, 0, none⟩ 1 1 [.int .i64 (tr.length : Int), .int .i64 (l.length : Int), .slice none 0 0] (by rfl) (by rfl) (World.news_of_block (cs := #[.int .i64 (tr.length : Int), .int .i64 (l.length : Int), .slice none 0 0]) (t := 85) (fr := (0, 0)) (heap_alloc_new w _)) (by simp [Value.oneCell']) (by omega) (by unfold maxLen; omega) (by omega) (by simp; omega) _ (by rfl) ?_; intro g6 cap6 w6 hown6 hg6 hat6 hlt6; have HW6 := hid (pt_more (p := (tr.length, l.length)) HH.out.drew hown6 hg6 hat6); obtain ⟨⟨k2, k2f⟩, k5⟩ := pt_cells HH.out.drew hg6; clear hown hown6 hg6 hat6 hlt6)
      | (go_simp; go_at_call 23; refine (htp.out _ HH.out.drew).mono ?_; rintro e w1 ⟨rfl, hw⟩; subst hw))
  all_goals
    clear k2 k2f
    go_wp2
    go_ret2
    exact ⟨rfl, _, HW6.out.1, (a_Mod.ofBelow (Below.refl _ w).drew).trans HW6.out.2.1 (fun y hy => Or.inl hy), HW6.out.2.2⟩
end
end Go.Proofs.YtgmldkojldlekaaGreatDoor

namespace Go.Proofs.YtgmldkojldlekaaGreatDoor
set_option maxRecDepth 100000
open Go.RowKit
theorem er_block {w : World} {b : Nat} {fs : Fs} (h : Er w (.iface 102 (.pointer (some ⟨b, 0, none⟩))) fs) : ∃ c a ev, w.heap[b]? = some (.cells #[.int .i64 c, .int .i64 a, .string ⟨#[]⟩, ev] 105) := by
  cases fs with
  | nil => simp [Er] at h
  | cons x r =>
    obtain ⟨_, b', ev, he, hb, _⟩ := h
    injection he with _ he
    injection he with he
    injection he with he
    injection he with he
    subst he
    exact ⟨x.1, x.2, ev, hb⟩
set_option maxHeartbeats 4000000 in
theorem hput_bad (hb : Nat) {W : World} (hE : ErrC W) {nv rv : Value} {g : Gf} (hG : Gr W nv rv g) (hS : Sized g) (hck : one (chk g) ≠ []) :
    Calls Tryz.prog 21 #[.pointer (some ⟨hb, 0, none⟩), .agg #[nv, rv]] W fun e w' => (∃ b, e = .returned (.tuple #[.slice none 0 0, .iface 102 (.pointer (some ⟨b, 0, none⟩))])) ∧ Below W.heap.size W w' := by
  have hb0 := below_alloc W (.cells #[nv, rv] 30)
  have hre := hid (reach_bad (hG.below hb0) hS hck)
  have hwr := hid (fun w1 (hb : Below W.heap.size W w1) (c : Int) (fb : Nat) (c1 a1 : Int) (s1 ev : Value) h => wrapped_any w1 (hE.below hb) c fb (c1 := c1) (a1 := a1) (s1 := s1) (ev := ev) h)
  have Hb0 := hid hb0
  clear hb0 hS hck hG hE
  go_enter Tryz.func21, Tryz.ntmps21
  go_wp2_with (go_at_call 48; refine hre.out.mono ?_; rintro e w1 ⟨⟨b, rfl, he⟩, hb1⟩; have Hb1 := hid (Below.next Hb0.out hb1); have He := hid (er_block he); clear he hb1)
  obtain ⟨c1, a1, ev, hf⟩ := He.out
  have Hf := hid hf
  clear hf He
  go_wp2_with (go_at_call 46; refine (hwr.out _ Hb1.out _ _ _ _ _ _ Hf.out).mono ?_; rintro e w2 ⟨⟨b2, rfl, _⟩, hb2⟩; have Hb2 := hid (Below.next Hb1.out hb2); clear hb2)
  go_ret2
  exact ⟨⟨b2, rfl⟩, Hb2.out⟩
end Go.Proofs.YtgmldkojldlekaaGreatDoor

namespace Go.Proofs.YtgmldkojldlekaaGreatDoor
set_option maxRecDepth 100000
open Go.RowKit
theorem Nb.mod {B : Nat} {W W' : World} (h : Nb B W W') : ∃ ks, a_Mod ks W W' ∧ ∀ k ∈ ks, B ≤ k ∧ ∃ o, W.heap[k]? = some o ∧ o.isCells = false := by
  refine ⟨(List.range W.heap.size).filter (fun k => decide (B ≤ k) && (match W.heap[k]? with | some o => !o.isCells | none => false)), ⟨h.os, h.tape, h.output, h.size, fun k hk hn => ?_⟩, fun k hk => ?_⟩
  · have e : W.heap[k]? = some W.heap[k] := Array.getElem?_eq_getElem hk
    by_cases hc : k < B ∨ (W.heap[k]).isCells = true
    · rw [h.block k _ e hc, e]
    · exfalso
      apply hn
      rw [List.mem_filter]
      refine ⟨List.mem_range.2 hk, ?_⟩
      rw [e]
      have h1 : B ≤ k := by
        rcases Nat.lt_or_ge k B with h1 | h1
        · exact absurd (Or.inl h1) hc
        · exact h1
      have h2 : (W.heap[k]).isCells = false := by
        cases h3 : (W.heap[k]).isCells with
        | false => rfl
        | true => exact absurd (Or.inr h3) hc
      simp [h1, h2]
  · obtain ⟨_, h2⟩ := List.mem_filter.1 hk
    rw [Bool.and_eq_true] at h2
    refine ⟨of_decide_eq_true h2.1, ?_⟩
    cases e : W.heap[k]? with
    | none => rw [e] at h2; simp at h2
    | some o =>
      rw [e] at h2
      exact ⟨o, rfl, by simpa using h2.2⟩
section
variable {w w' : World} {B hb ab tb : Nat} {m : Int} {av : Value} {l : List Int} {tv : Value} {tq : Nat} {ns : List ByteArray} {trv : Value} {tr : List Te} {ptv : Value} {pt : List Pe} {n : Int}
theorem Hq.keep {ks : List Nat} (h : Hq w B hb ab tb m av l tv tq ns trv tr ptv pt n) (hm : a_Mod ks w w') (hk : ∀ k ∈ ks, k ∉ qfoot hb ab av trv ptv ∧ k ∉ n_foot tb tv tq) : Hq w' B hb ab tb m av l tv tq ns trv tr ptv pt n := by
  obtain ⟨r1, r2⟩ := h.rows hm (fun k hx hy => (hk k hx).1 (mem_qfoot.2 (Or.inr (Or.inr hy))))
  exact ⟨⟨(hm.block hb (lt_of_block h.hp.blk) (fun hx => (hk hb hx).1 (mem_qfoot.2 (Or.inl rfl)))).trans h.hp.blk, h.hp.base, h.hp.ar.keep hm (fun k hx hy => (hk k hx).1 (mem_qfoot.2 (Or.inr (Or.inl hy)))), h.hp.tb.keep (mod_an hm) (fun k hx => (hk k hx).2)⟩, r1, r2⟩
theorem Hq.cells {k : Nat} (h : Hq w B hb ab tb m av l tv tq ns trv tr ptv pt n) (hk : k ∈ qfoot hb ab av trv ptv) : (∃ cs T, w.heap[k]? = some (.cells cs T (0, 0))) ∧ B ≤ k := by
  rcases mem_qfoot.1 hk with rfl | hk | hk | hk
  · exact ⟨⟨_, _, h.hp.blk⟩, h.hp.base⟩
  · obtain ⟨cs, T, e, _⟩ := h.aty hk
    refine ⟨⟨cs, T, e⟩, ?_⟩
    rcases a_mem_foot.1 hk with rfl | hk
    · exact h.hp.ar.base
    · exact (h.hp.ar.row hk).1
  · obtain ⟨cur, e, _⟩ := own_block_obj h.tr hk
    exact ⟨⟨_, _, e⟩, (h.tr.lt k hk).1⟩
  · obtain ⟨cur, e, _⟩ := own_block_obj h.pt hk
    exact ⟨⟨_, _, e⟩, (h.pt.lt k hk).1⟩
theorem Hq.nb {Bq : Nat} (h : Hq w B hb ab tb m av l tv tq ns trv tr ptv pt n) (hn : Nb Bq w w') (hq : tq < Bq) : Hq w' B hb ab tb m av l tv tq ns trv tr ptv pt n := by
  obtain ⟨ks, hm, hks⟩ := hn.mod
  refine h.keep hm (fun k hk => ⟨fun hf => ?_, fun hf => ?_⟩)
  · obtain ⟨_, o, e, ho⟩ := hks k hk
    obtain ⟨⟨cs, T, e2⟩, _⟩ := h.cells hf
    rw [e2] at e
    rw [← Option.some.inj e] at ho
    cases ho
  · obtain ⟨hB, o, e, ho⟩ := hks k hk
    rcases n_mem_foot.1 hf with e1 | e1 | e1
    · subst e1
      rw [h.hp.tb.blk] at e
      rw [← Option.some.inj e] at ho
      cases ho
    · omega
    · obtain ⟨cur, hc, _⟩ := own_block_obj h.hp.tb.own e1
      rw [hc] at e
      rw [← Option.some.inj e] at ho
      cases ho
structure Ud (w : World) (B hb ab tb : Nat) (m : Int) (av : Value) (l : List Int) (tv : Value) (tq : Nat) (ns : List ByteArray) (trv : Value) (tr : List Te) (ptv : Value) (pt : List Pe) (n : Int) (T K pb : Nat) (pre : List (Nat × Te)) (W : World) : Prop where
  q : Hq W B hb ab tb m av (undW l ((tr.drop T).drop ((tr.drop T).length - pre.length))) tv tq ns trv tr ptv pt n
  m : a_Mod (qfoot hb ab av trv ptv) w W
  x : W.heap[w.heap.size]? = some (.cells #[.pointer (some ⟨hb, 0, none⟩)] 23)
  p : W.heap[pb]? = some (.cells #[.int .i64 (T : Int), .int .i64 (K : Int), .slice none 0 0] 85)
  c : pre.length ≤ (tr.drop T).length
theorem Ud.nb {Bq T K pb : Nat} {pre : List (Nat × Te)} {W W' : World} (h : Ud w B hb ab tb m av l tv tq ns trv tr ptv pt n T K pb pre W) (hn : Nb Bq W W') (hq : tq < Bq) (hw : w.heap.size ≤ Bq) : Ud w B hb ab tb m av l tv tq ns trv tr ptv pt n T K pb pre W' := by
  obtain ⟨ks, hm, hks⟩ := hn.mod
  exact ⟨h.q.nb hn hq, h.m.trans (hm.ofMem (qfoot hb ab av trv ptv ++ ks) (fun y hy => Or.inl (by simp [hy]))) (fun y hy => by
    rcases List.mem_append.1 hy with hy | hy
    · exact Or.inl hy
    · exact Or.inr (Nat.le_trans hw (hks y hy).1)), hn.block _ _ h.x (Or.inr rfl), hn.block _ _ h.p (Or.inr rfl), h.c⟩
theorem drop_snoc {es : List Te} {k : Nat} (hk : k < es.length) : es.drop (es.length - (k + 1)) = es.getD (es.length - 1 - k) (0, 0) :: es.drop (es.length - k) := by
  have h1 : es.length - 1 - k < es.length := by omega
  rw [show es.length - (k + 1) = es.length - 1 - k by omega, List.drop_eq_getElem_cons h1, show es.length - 1 - k + 1 = es.length - k by omega]
  simp [List.getD, h1]
theorem Ud.step {T K pb : Nat} {pre : List (Nat × Te)} {y : Nat × Te} {W W' : World} (h : Ud w B hb ab tb m av l tv tq ns trv tr ptv pt n T K pb pre W) (hlt : pre.length < (tr.drop T).length) (hy : y.2 = (tr.drop T).getD ((tr.drop T).length - 1 - pre.length) (0, 0)) (hw : w.heap.size < W.heap.size) (hpb : ∀ k ∈ a_foot ab av, k ≠ pb ∧ k ≠ w.heap.size)
    (hu : a_Upd 126 W W' B ab m av ((undW l ((tr.drop T).drop ((tr.drop T).length - pre.length))).set y.2.1 y.2.2) av) : Ud w B hb ab tb m av l tv tq ns trv tr ptv pt n T K pb (pre ++ [y]) W' := by
  have e : undW l ((tr.drop T).drop ((tr.drop T).length - (pre ++ [y]).length)) = (undW l ((tr.drop T).drop ((tr.drop T).length - pre.length))).set y.2.1 y.2.2 := by
    rw [List.length_append, List.length_singleton, drop_snoc hlt, hy]
    rfl
  refine ⟨?_, h.m.trans (hu.mod.ofMem (qfoot hb ab av trv ptv) (fun z hz => Or.inl (mem_qfoot.2 (Or.inr (Or.inl hz))))) (fun z hz => Or.inl hz), (hu.mod.block _ hw (fun hx => (hpb _ hx).2 rfl)).trans h.x, (hu.mod.block _ (lt_of_block h.p) (fun hx => (hpb _ hx).1 rfl)).trans h.p, by rw [List.length_append, List.length_singleton]; exact hlt⟩
  rw [e]
  exact h.q.words hu
end
end Go.Proofs.YtgmldkojldlekaaGreatDoor

namespace Go.Proofs.YtgmldkojldlekaaGreatDoor
set_option maxRecDepth 100000
open Go.RowKit
section
variable {W : World} {B hb ab tb : Nat} {m : Int} {av : Value} {l : List Int} {tv : Value} {tq : Nat} {ns : List ByteArray} {trv ptv : Value} {n : Int}
abbrev SkP (hb tb gb : Nat) (v0 v1 : Value) (w : World) : Prop := w.cell? ⟨hb, 1, none⟩ = some (.pointer (some ⟨tb, 0, none⟩)) ∧ w.cell? ⟨gb, 0, none⟩ = some v0 ∧ w.cell? ⟨gb, 1, none⟩ = some v1
theorem skp_dr {hb tb gb : Nat} {v0 v1 : Value} {w : World} (h : SkP hb tb gb v0 v1 w) : SkP hb tb gb v0 v1 w.drew := h
theorem skp_al {hb tb gb : Nat} {v0 v1 : Value} {w : World} {o : Obj} (h : SkP hb tb gb v0 v1 w) : SkP hb tb gb v0 v1 (w.alloc o) :=
  ⟨((below_alloc w o).cell (p := ⟨hb, 1, none⟩) (lt_of_cell h.1)).trans h.1, ((below_alloc w o).cell (p := ⟨gb, 0, none⟩) (lt_of_cell h.2.1)).trans h.2.1, ((below_alloc w o).cell (p := ⟨gb, 1, none⟩) (lt_of_cell h.2.2)).trans h.2.2⟩
theorem skp_set {hb tb gb q : Nat} {v0 v1 u : Value} {w : World} (h1 : hb ≠ q) (h2 : gb ≠ q) (h : SkP hb tb gb v0 v1 w) : SkP hb tb gb v0 v1 (w.setCell ⟨q, 0, none⟩ u) :=
  ⟨(set_far _ _ h1).trans h.1, (set_far _ _ h2).trans h.2.1, (set_far _ _ h2).trans h.2.2⟩
set_option maxHeartbeats 8000000 in
theorem put_names {nv rv : Value} {g : Gf} (hE : ErrC W) (hH : Hp W B hb ab tb m av l tv tq ns trv ptv n) (hB : B ≤ W.heap.size) (hG : Gr W nv rv g) (hS : Sized g) (hck : one (chk g) = []) (hna : 1024 < (wthJ ns g (metF g) (metF g).length).length) :
    Calls Tryz.prog 21 #[.pointer (some ⟨hb, 0, none⟩), .agg #[nv, rv]] W fun e w' => (∃ ev, e = .returned (.tuple #[.slice none 0 0, ev])) ∧ Below W.heap.size W w' := by
  have hg := chk_good hck
  have hok := met_ok hg
  have hml := hok.le
  have hN : g.nodes.length ≤ 4096 := hg.nodes
  have hb0 := below_alloc W (.cells #[nv, rv] 30)
  have hre := hid (reach_good (hG.below hb0) hS hck)
  have HG := hid hG
  have HH := hid hH
  have Hg := hid hg
  have Hok := hid hok
  have HE := hid hE
  have Hna := hid hna
  obtain ⟨na, nc, rfl, _⟩ := hG.1
  obtain ⟨ra, rc, rfl, _⟩ := hG.2
  have hx0 := hid (heap_alloc_new W (.cells #[.slice na g.nodes.length nc, .slice ra g.roots.length rc] 30))
  have Hb0 := hid hb0
  clear hg hok hH hb0 hS hck hG hE hna
  go_enter Tryz.func21, Tryz.ntmps21
  go_wp2_with (go_at_call 48; refine hre.out.mono ?_; rintro e w1 ⟨⟨mo, mc, rfl, ho1⟩, hb1⟩; have Hb1 := hid (Below.next Hb0.out hb1); have Ho1 := hid ho1; have Hx1 := hid ((hb1.block _ (by simp)).trans hx0.out); clear ho1 hb1)
  obtain ⟨⟨x0, x1⟩, _⟩ := cblk2 Hx1.out
  have HH1 := hid (HH.out.below Hb1.out)
  obtain ⟨⟨_, h1, _⟩, zh⟩ := HH1.out.cells
  have zx := lt_of_block Hx1.out
  have hri : Hid (Ri w1 (.slice mo (metF g).length mc) (metF g)) := ri_own Ho1.out
  have hwi := hid (fun wq (hbq : Below w1.heap.size w1 wq) => with_bad (HH1.out.tb.below hbq) (by have := Hb1.out.size; have := hbq.size; omega) (HG.out.below (Below.next Hb1.out hbq)) Hg.out (hri.out.below hbq) Hok.out.rng (by omega) Hna.out)
  generalize (metF g).length = ML at *
  go_cut [8, 7] from 23 to 32 (fun s8 s7 wc => ∃ bx fb s, s8 = .pointer (some ⟨bx, 0, none⟩) ∧ s7 = .iface 102 (.pointer (some ⟨fb, 0, none⟩)) ∧ Hid (Below w1.heap.size w1 wc ∧ wc.heap[fb]? = some (n_faultObj 31 (-1) s)))
  case first =>
    go_region_held3 (fun w' => w'.cell? ⟨hb, 1, none⟩ = some (.pointer (some ⟨tb, 0, none⟩)) ∧ w'.cell? ⟨W.heap.size, 0, none⟩ = some (.slice na g.nodes.length nc) ∧ w'.cell? ⟨W.heap.size, 1, none⟩ = some (.slice ra g.roots.length rc)) (first | (with_reducible exact ⟨h1, x0, x1⟩) | (with_reducible exact skp_al ⟨h1, x0, x1⟩) | (with_reducible exact skp_dr ⟨h1, x0, x1⟩) | (with_reducible exact skp_dr (skp_al ⟨h1, x0, x1⟩)) | (with_reducible exact skp_set (by omega) (by omega) ⟨h1, x0, x1⟩))
      (first
        | (go_at_call 49; with_reducible refine (hwi.out _ (Below.refl _ w1).drew).mono ?_; rintro e w3 ⟨⟨fb, sn, rfl, hf⟩, hb3⟩; have HF := hid hf; have HB5 := hid (Below.next (Below.refl _ w1).drew hb3); replace h1 := (HB5.out.cell (p := ⟨hb, 1, none⟩) zh).trans h1; replace x0 := (HB5.out.cell (p := ⟨W.heap.size, 0, none⟩) zx).trans x0; replace x1 := (HB5.out.cell (p := ⟨W.heap.size, 1, none⟩) zx).trans x1; clear hb3 hf)
        | (go_at_call 49; with_reducible refine (hwi.out _ (below_alloc w1 (.cells #[.pointer none] 81)).drew).mono ?_; rintro e w3 ⟨⟨fb, sn, rfl, hf⟩, hb3⟩; have HF := hid hf; obtain ⟨bx3, bx4, bx5⟩ := box_cell hb3; have HB5 := hid (Below.next (below_alloc w1 (.cells #[.pointer none] 81)).drew hb3); replace h1 := (HB5.out.cell (p := ⟨hb, 1, none⟩) zh).trans h1; replace x0 := (HB5.out.cell (p := ⟨W.heap.size, 0, none⟩) zx).trans x0; replace x1 := (HB5.out.cell (p := ⟨W.heap.size, 1, none⟩) zx).trans x1; clear hb3 hf))
    all_goals go_wp2_with fail
    all_goals go_meet
    all_goals first
      | exact ⟨_, fb, sn, rfl, rfl, Below.next HB5.out (below_alloc w3 _), ((below_alloc w3 _).block _ (lt_of_block HF.out)).trans HF.out⟩
      | exact ⟨_, fb, sn, rfl, rfl, HB5.out.setCell (p := ⟨w1.heap.size, 0, none⟩) (Nat.le_refl _) _, (Below.heap_setCell _ _ _ _ (by exact obj_ne HF.out bx3 (by decide))).trans HF.out⟩
  case rest =>
    obtain ⟨bx, fb, sn, rfl, rfl, hW⟩ := hcut
    have hwr := hid (wrapped_any wc (HE.out.below (Below.next Hb1.out hW.out.1)) 111 fb hW.out.2)
    have Hbw := hid (Below.next Hb1.out hW.out.1)
    clear h1 x0 x1
    go_wp2_with (go_at_call 46; refine hwr.out.mono ?_; rintro e w9 ⟨⟨b9, rfl, _⟩, hb9⟩; have Hb9 := hid (Below.next Hbw.out hb9); clear hb9)
    go_ret2
    exact ⟨⟨_, rfl⟩, Hb9.out⟩
end
end Go.Proofs.YtgmldkojldlekaaGreatDoor
