/- Package cells: the table with the names of a graph. -/
import Derived.Deep.RegionHeld3
import Derived.Test.YtgmldkojldlekaaGreatDoorSR25Z
import Derived.Test.YtgmldkojldlekaaGreatDoorSR26Z
namespace Go.Proofs.YtgmldkojldlekaaGreatDoor
set_option maxRecDepth 100000
open Go.RowKit
section
variable {W : World} {B p q : Nat} {v : Value} {ns : List ByteArray}
set_option maxHeartbeats 8000000 in
theorem with_okG (hT : Tb W B p v q ns) (hB : B ≤ W.heap.size) {nv rv mv : Value} {g : Gf} {met : List Int} (hG : Gr W nv rv g) (hg : Good g) (hM : Ri W mv met) (hm : ∀ x ∈ met, 0 ≤ x ∧ x < (g.nodes.length : Int)) (hmm : met.length ≤ 100000) (hl : (wthJ ns g met met.length).length ≤ 1024) :
    Calls Tryz.prog 49 #[.agg #[.pointer (some ⟨p, 0, none⟩)], .agg #[nv, rv], mv] W fun e w' => (∃ p' v' q', e = .returned (.tuple #[.agg #[.pointer (some ⟨p', 0, none⟩)], .nilIface]) ∧ ((p' = p ∧ v' = v ∧ q' = q ∧ wthJ ns g met met.length = ns) ∨ Tb w' W.heap.size p' v' q' (wthJ ns g met met.length))) ∧ Below W.heap.size W w' := by
  have hstart : Hid (Wt W ((((W.alloc (.cells #[.pointer (some ⟨p, 0, none⟩)] 81)).alloc (.cells #[nv, rv] 30)).alloc (.cells #[.pointer none] 81)).alloc (.cells #[.pointer (some ⟨p, 0, none⟩)] 81)) nv rv p p) := by
    have b0 := below_alloc W (.cells #[.pointer (some ⟨p, 0, none⟩)] 81)
    have b1 := Below.next b0 (below_alloc _ (.cells #[nv, rv] 30))
    have b2 := Below.next b1 (below_alloc _ (.cells #[.pointer none] 81))
    have b3 := Below.next b2 (below_alloc _ (.cells #[.pointer (some ⟨p, 0, none⟩)] 81))
    obtain ⟨x0, x1, x2, x3⟩ := alloc4 W (.cells #[.pointer (some ⟨p, 0, none⟩)] 81) (.cells #[nv, rv] 30) (.cells #[.pointer none] 81) (.cells #[.pointer (some ⟨p, 0, none⟩)] 81)
    exact ⟨b3, x0, x1, x2, x3⟩
  have hpz := hT.lt
  have HT := hid hT
  have HG := hid hG
  have HM := hid hM
  have Hg := hid hg
  have Hm := hid hm
  obtain ⟨na, nc, rfl, _⟩ := hG.1
  obtain ⟨ma, mc, rfl, _⟩ := hM
  clear hG hg hm hT
  go_enter Tryz.func49, Tryz.ntmps49
  go_wp2
  go_loopw [10, 11, 12, 13, 14, 15, 19] (fun _ _ _ _ _ _ i wr => ∃ (j p' : Nat) (v' : Value) (q' : Nat), j ≤ met.length ∧ i = .int .i64 (j : Int) ∧ Hid (Wt W wr (.slice na g.nodes.length nc) rv p p') ∧ Hid ((p' = p ∧ v' = v ∧ q' = q ∧ wthJ ns g met j = ns) ∨ Tb wr (W.heap.size + 4) p' v' q' (wthJ ns g met j))) (fun _ _ _ _ _ _ i _ => met.length - (intOf i).toNat)
  case atStart => exact ⟨0, p, v, q, Nat.zero_le _, rfl, hstart, Or.inl ⟨rfl, rfl, rfl, rfl⟩⟩
  case round =>
    clear hstart
    obtain ⟨j, p', v', q', hj, rfl, HW, hor⟩ := hrel
    have hb := HW.out.b
    obtain ⟨⟨c0, c1, c2, c3⟩, f2, f3⟩ := HW.out.cells
    have hz := HW.out.size
    by_cases hlt : j < met.length
    · have hji : (j : Int) < (met.length : Int) := by omega
      obtain ⟨mb, mo, hma, m0⟩ := (HM.out.below hb).at hlt
      subst hma
      have zm := lt_of_cell m0
      have hmr := Hm.out _ (getD_mem hlt)
      have hst : Hid (wthJ ns g met (j + 1) = wth1 (wthJ ns g met j) (g.nodes.getD (met.getD j 0).toNat nd0).name) := rfl
      generalize met.getD j 0 = y at *
      obtain ⟨yn, rfl⟩ : ∃ yn : Nat, y = (yn : Int) := ⟨y.toNat, by omega⟩
      rw [Int.toNat_natCast] at hst
      have hyn : yn < g.nodes.length := by omega
      have hyi : (yn : Int) < (g.nodes.length : Int) := by omega
      obtain ⟨nb, no, aa, ac, hna, p0, p1, p2, p3⟩ := gr_nd HG.out hb hyn
      subst hna
      have zn := lt_of_cell p1
      have hnm := good_nameC (Hg.out.node (g.nodes.getD yn nd0) (by simp [List.getD, hyn]))
      generalize (g.nodes.getD yn nd0).name = s at *
      have hs : s.size ≤ 281474976710656 := by
        rcases hnm with h | h
        · omega
        · have := n_goodS_size h
          omega
      have hTc : Hid (Tb wr B p' v' q' (wthJ ns g met j)) := by
        rcases hor.out with ⟨rfl, rfl, rfl, e⟩ | h
        · rw [e]
          exact HT.out.below hb
        · exact tb_base h (by omega)
      have hfi := hid (find_any hTc.out s hs)
      have hLl := wthJ_len ns g met j
      clear p0 p2 p3 hmr
      by_cases hin : inL (wthJ ns g met j) s = true
      · have hst2 : Hid (wthJ ns g met (j + 1) = wthJ ns g met j) := show _ = _ by rw [hst.out]; unfold wth1; rw [if_pos (Or.inl hin)]
        rw [hin] at hfi
        generalize num (wthJ ns g met j) s = nn at *
        go_wp2_with (go_at_call 77; refine hfi.out.mono ?_; rintro e w3 ⟨rfl, hw⟩; replace hw := hw.symm; subst hw)
        go_roundw
        case rel => exact ⟨j + 1, p', v', q', by omega, by go_num, HW, by rw [hst2.out]; exact hor⟩
        case measure => simp [intOf]; omega
      · have hin' : inL (wthJ ns g met j) s = false := by simpa using hin
        rw [hin'] at hfi
        rcases hnm with ⟨hs0, hs1⟩ | hgs
        · have hst2 : Hid (wthJ ns g met (j + 1) = wthJ ns g met j) := show _ = _ by rw [hst.out]; unfold wth1; rw [if_pos (Or.inr hs0)]
          have d0 : (s.toList == []) = true := by simp [hs1]
          generalize num (wthJ ns g met j) s = nn at *
          go_wp2_with (go_at_call 77; refine hfi.out.mono ?_; rintro e w3 ⟨rfl, hw⟩; replace hw := hw.symm; subst hw)
          go_roundw
          case rel => exact ⟨j + 1, p', v', q', by omega, by go_num, HW, by rw [hst2.out]; exact hor⟩
          case measure => simp [intOf]; omega
        · have hs32 := n_goodS_size hgs
          have hst2 : Hid (wthJ ns g met (j + 1) = wthJ ns g met j ++ [s]) := show _ = _ by rw [hst.out]; unfold wth1; rw [if_neg (by rintro (h | h); exact hin h; omega)]
          have d0 : (s.toList == []) = false := by
            cases h : s.toList with
            | nil =>
              have := size_nil h
              omega
            | cons a r => rfl
          have hcl := hid (fun w => n_clone_any s w hs)
          have hL : (wthJ ns g met j).length < 1024 := by
            have h1 := wthJ_mono ns g met (j + 1) (met.length - (j + 1))
            rw [show j + 1 + (met.length - (j + 1)) = met.length by omega, hst2.out] at h1
            simp at h1
            omega
          generalize wthJ ns g met j = L at *
          generalize num L s = nn at *
          rcases hor.out with ⟨rfl, rfl, rfl, e⟩ | hTb
          · have hcp := hid (copy_any hTc.out)
            have e1 := tab_same ⟨p', 0, none⟩
            clear hor
            go_wp2_with (first
              | (go_at_call 77; refine hfi.out.mono ?_; rintro e w3 ⟨rfl, hw⟩; replace hw := hw.symm; subst hw)
              | (go_at_call 78; refine hcp.out.mono ?_; rintro e w4 ⟨p4, v4, q4, rfl, hT4, hb4⟩; have HC := hid (wt_copy HW.out hb4 hT4); have HW4 := hid (HW.out.next (below_le hb4 hz)); obtain ⟨⟨_, _, _, d3⟩, _, g3⟩ := HW4.out.cells; obtain ⟨⟨_, _, _, k3⟩, _, _⟩ := HC.out.1.cells; have HP := hid (fun w6 (hb6 : Below (w4.setCell ⟨W.heap.size + 3, 0, none⟩ (.pointer (some ⟨p4, 0, none⟩))).heap.size (w4.setCell ⟨W.heap.size + 3, 0, none⟩ (.pointer (some ⟨p4, 0, none⟩))) w6) => put_new (HC.out.2.below hb6) (by have := HC.out.1.size; have := hb6.size; omega) s hs hgs hin' hL); have z3 := hid HC.out.1.size; clear hT4 hb4))
            go_region_with (first
              | (go_at_call 36; refine (hcl.out _).mono ?_; rintro e w6 ⟨rfl, hb6⟩; have Hb6 := hid (Below.next (Below.refl _ _).drew hb6); obtain ⟨⟨_, _, _, k6⟩, _, _⟩ := (HC.out.1.next (below_le Hb6.out HC.out.1.size)).cells; clear hb6)
              | (go_at_call 79; refine (HP.out _ Hb6.out).mono ?_; rintro e w7 ⟨rfl, v7, hU, _⟩; have HU := hid (wt_put HC.out.1 HC.out.2 Hb6.out hU); clear hU))
            all_goals go_wp2
            all_goals
              go_roundw
              case rel => exact ⟨j + 1, p4, v7, q4, by omega, by go_num, hid HU.out.1, hid (Or.inr (by rw [hst2.out]; exact HU.out.2))⟩
              case measure => simp [intOf]; omega
          · have hne : (⟨p', 0, none⟩ : Addr) ≠ ⟨p, 0, none⟩ := fun e => by
              injection e with e _ _
              have := hTb.base
              omega
            have e1 := ptr_other (P := Tryz.prog) wr 9998 79 Tryz.underlying79 Tryz.sizeOf129 hne hTb.blk (HT.out.below hb).blk
            rw [show (9998 : Nat) + 1 = 9999 from rfl] at e1
            have HB := hid hTb
            have HP := hid (fun w6 (hb6 : Below wr.heap.size wr w6) => put_new (hTb.below hb6) (by have := hb6.size; omega) s hs hgs hin' hL)
            have Hz := hid hz
            clear hor hne hTb
            go_wp2_with (go_at_call 77; refine hfi.out.mono ?_; rintro e w3 ⟨rfl, hw⟩; replace hw := hw.symm; subst hw)
            go_region_with (first
              | (go_at_call 36; refine (hcl.out _).mono ?_; rintro e w6 ⟨rfl, hb6⟩; have Hb6 := hid (Below.next (Below.refl _ _).drew hb6); obtain ⟨⟨_, _, _, k6⟩, _, _⟩ := (HW.out.next (below_le Hb6.out Hz.out)).cells; clear hb6)
              | (go_at_call 79; refine (HP.out _ Hb6.out).mono ?_; rintro e w7 ⟨rfl, v7, hU, _⟩; have HU := hid (wt_put HW.out HB.out Hb6.out hU); clear hU))
            all_goals go_wp2
            all_goals
              go_roundw
              case rel => exact ⟨j + 1, p', v7, q', by omega, by go_num, hid HU.out.1, hid (Or.inr (by rw [hst2.out]; exact HU.out.2))⟩
              case measure => simp [intOf]; omega
    · obtain rfl : j = met.length := by omega
      go_wp2
      have HE := heap_setCell_same wr _ 0 _ _ (.pointer (some ⟨p', 0, none⟩)) HW.out.x2
      refine bodyPost_ret (ret_tabE Tryz.results49 (by rfl) (by rfl) HE) rfl ⟨⟨p', v', q', rfl, ?_⟩, hb.setCell (p := ⟨W.heap.size + 2, 0, none⟩) (by simp) _⟩
      rcases hor.out with h | h
      · exact Or.inl h
      · refine Or.inr (tb_base (h.keep (ks := [W.heap.size + 2]) ((n_Mod.refl _ wr).setCell (p := ⟨W.heap.size + 2, 0, none⟩) (Or.inl (by simp)) _) (fun k hk hf => ?_)) (by omega))
        have e : k = W.heap.size + 2 := by simpa using hk
        subst e
        rcases n_mem_foot.1 hf with e | e | e
        · have := h.base
          omega
        · have := h.mbase
          omega
        · have := (h.row e).1
          omega
end
end Go.Proofs.YtgmldkojldlekaaGreatDoor

namespace Go.Proofs.YtgmldkojldlekaaGreatDoor
set_option maxRecDepth 100000
open Go.RowKit Go.Maps
theorem trm_rng {l : List Int} {V : Nat → Bool} (h : Snd l V) (hl : l.length ≤ 65536) {k : Nat} (hk : k < l.length) : 0 ≤ trmW l k ∧ trmW l k ≤ 18446744073709551615 := by
  obtain ⟨j, hj, e, e2⟩ := trm_ends h _ k hk (Nat.le_refl _)
  rw [e2]
  unfold endW
  split
  · obtain ⟨_, _, s3, s4⟩ := word_str (j := j) (by omega)
    exact ⟨s3, s4⟩
  · exact h.rng (wdN l j) (by unfold wdN; simp [List.getD, hj])
theorem lit_inj {a b : Int} (h : (DataW.lit (.int .i64 a) : DataW Unit) = .lit (.int .i64 b)) : a = b := by
  injection h with h
  injection h
theorem rg_out {w : World} {B B' rb hb mq n : Nat} {tv v : Value} {TS : List Int} {xs : List Value} (h : Rg w B rb hb tv mq TS) (ho : w.ownsRow B' 3 1 v n xs) : ∀ k, v.ownBlock = some k → k ∉ r_foot rb tv mq := fun k hk hf => by
  obtain ⟨cur, hc⟩ := row_obj ho hk
  rcases r_mem_foot.1 hf with e | e | e
  · subst e
    have := h.blk
    rw [hc] at this
    injection this with this
    injection this with _ this
    exact absurd this (by decide)
  · subst e
    obtain ⟨D, ⟨es, clock, hq, _⟩, _⟩ := h.map
    rw [hq] at hc
    simp at hc
  · obtain ⟨cur2, hc2⟩ := row_obj h.own e
    rw [hc] at hc2
    injection hc2 with hc2
    injection hc2 with _ hc2
    exact absurd hc2 (by decide)
theorem rg_grow {W w w6 : World} {B rb hb mq n : Nat} {tv0 tv v : Value} {TS : List Int} {xs : List Value} {o : Obj} (hm : a_Mod (r_foot rb tv0 mq) W w) (h : Rg w B rb hb tv mq TS) (ho : w.ownsRow W.heap.size 3 1 v n xs) (hg : (w.alloc o).grownBy w6 v.ownBlock) : a_Mod (r_foot rb tv0 mq) W w6 ∧ Rg w6 B rb hb tv mq TS :=
  ⟨(hm.alloc o).grown hg (fun k e => Or.inr (ho.lt k e).1), h.keep (grown_mod hg) (fun k hk => rg_out h ho k (by simpa using hk))⟩
theorem rg_mod {W w w' : World} {rb mq : Nat} {tv0 tv : Value} (hm : a_Mod (r_foot rb tv0 mq) W w) (hn : a_Nx W tv0 tv) (h : a_Mod (r_foot rb tv mq) w w') : a_Mod (r_foot rb tv0 mq) W w' := hm.trans h (fun x hx => by
  rcases r_mem_foot.1 hx with e | e | e
  · exact Or.inl (r_mem_foot.2 (Or.inl e))
  · exact Or.inl (r_mem_foot.2 (Or.inr (Or.inl e)))
  · rcases hn x e with e | e
    · exact Or.inl (r_mem_foot.2 (Or.inr (Or.inr e)))
    · exact Or.inr e)
theorem rd_cells {w : World} {q : Nat} {u0 u1 u2 : Value} {T : TypeId} (h : w.heap[q]? = some (.cells #[u0, u1, u2] T)) : (w.cell? ⟨q, 0, none⟩ = some u0 ∧ w.cell? ⟨q, 1, none⟩ = some u1 ∧ w.cell? ⟨q, 2, none⟩ = some u2) ∧ w.frozen? ⟨q, 1, none⟩ = false ∧ q < w.heap.size := by
  refine ⟨⟨?_, ?_, ?_⟩, ?_, lt_of_block h⟩ <;> simp [World.cell?, World.frozen?, h]
theorem nx_push {W w2 : World} {tv tv' : Value} {g n cap : Nat} (h : a_Nx W tv tv') (hg : tv'.ownBlock = some g ∨ w2.heap.size ≤ g) (hz : W.heap.size ≤ w2.heap.size) : a_Nx W tv (.slice (some ⟨g, 0, none⟩) n cap) := fun k hk => by
  have e : g = k := by simpa [Value.ownBlock] using hk
  subst e
  rcases hg with e | e
  · exact h g e
  · exact Or.inr (by omega)
theorem alloc_set_new (w : World) (p : Addr) (v : Value) (o : Obj) : ((w.setCell p v).alloc o).heap[w.heap.size]? = some o := by
  have h := heap_alloc_new (w.setCell p v) o
  rw [show (w.setCell p v).heap.size = w.heap.size by simp] at h
  exact h
theorem rg_new {W w w3 w4 : World} {B rb hb mq g cap N : Nat} {tv0 tv ov : Value} {TS : List Int} {t : Int} {o : Obj} {D : DataW Unit} {xs : List Value} (hm : a_Mod (r_foot rb tv0 mq) W w) (hx : a_Nx W tv0 tv) (ho : w.ownsRow W.heap.size 3 1 ov N xs) (h : Rg w B rb hb tv mq TS) (hO : MapT TS D) (hD : w.ownsMap Tryz.prog 88 (plainElem Tryz.prog 3) mq TS.length D)
    (hm3 : w3.ownsMap Tryz.prog 88 (plainElem Tryz.prog 3) mq (TS.length + 1) (D.put (.int .u64 t) (.lit (.int .i64 (TS.length : Int))))) (hg3 : w.grownBy w3 (some mq))
    (hg4 : (w3.alloc o).grownBy w4 tv.ownBlock) (hown : w4.ownsRow B 88 1 (.slice (some ⟨g, 0, none⟩) (TS.length + 1) cap) (TS.length + 1) (TS.map (Value.int .u64) ++ [.int .u64 t]))
    (hat : tv.ownBlock = some g ∨ g = w3.heap.size + 1) (hn : t ∉ TS) (hr : 0 ≤ t ∧ t ≤ 18446744073709551615) :
    (w4.heap[rb]? = some (.cells #[.pointer (some ⟨hb, 0, none⟩), tv, .map (some mq)] 154)) ∧ Rg (w4.setCell ⟨rb, 1, none⟩ (.slice (some ⟨g, 0, none⟩) (TS.length + 1) cap)) B rb hb (.slice (some ⟨g, 0, none⟩) (TS.length + 1) cap) mq (TS ++ [t]) ∧ a_Mod (r_foot rb tv0 mq) W (w4.setCell ⟨rb, 1, none⟩ (.slice (some ⟨g, 0, none⟩) (TS.length + 1) cap)) ∧ a_Nx W tv0 (.slice (some ⟨g, 0, none⟩) (TS.length + 1) cap) ∧ (w4.setCell ⟨rb, 1, none⟩ (.slice (some ⟨g, 0, none⟩) (TS.length + 1) cap)).ownsRow W.heap.size 3 1 ov N xs := by
  obtain ⟨pb, pR, pM, pN⟩ := Rg.push h hO hD hm3 hg3 hg4 hown hat hn hr
  exact ⟨pb, pR, rg_mod hm hx pM, nx_push hx pN hm.size, row_keep ho (fun q hq => pM.block q (ho.lt q hq).2 (rg_out h ho q hq))⟩
section
variable {W : World} {B rb hb mq : Nat} {tv : Value} {TS : List Int} {Bh ab tb : Nat} {m : Int} {av : Value} {l : List Int} {htv : Value} {tq : Nat} {ns : List ByteArray} {trv ptv : Value} {n : Int} {V : Nat → Bool}
set_option maxHeartbeats 16000000 in
theorem nodes_any (hR : Rg W B rb hb tv mq TS) (hB : B ≤ W.heap.size) (HHk : ∀ w', a_Mod (r_foot rb tv mq) W w' → Hp w' Bh hb ab tb m av l htv tq ns trv ptv n) (hs : Snd l V) {cv : Value} {cs : List Int} (hCk : ∀ w', a_Mod (r_foot rb tv mq) W w' → Ri w' cv cs) (hcs : ∀ x ∈ cs, 0 ≤ x ∧ x < (l.length : Int)) (hl : cs.length ≤ 5000) (hTl : TS.length ≤ 70000) :
    Calls Tryz.prog 86 #[.pointer (some ⟨rb, 0, none⟩), cv] W fun e w' => ∃ ao c tv', e = .returned (.slice ao cs.length c) ∧ w'.ownsRow W.heap.size 3 1 (.slice ao cs.length c) cs.length ((cs.map (fun c => posF (addsJ l cs TS cs.length) (tmC l c))).map (Value.int .i64)) ∧ Rg w' B rb hb tv' mq (addsJ l cs TS cs.length) ∧ a_Mod (r_foot rb tv mq) W w' ∧ a_Nx W tv tv' := by
  obtain ⟨i0, hi, hz0, hz1, hz2⟩ := info_parts infoI
  obtain ⟨i2, hi2, hy0, hy1, hy2⟩ := info_parts Tryz.infoU
  have hl6 : l.length ≤ 65536 := by
    have h1 := (HHk W (a_Mod.refl _ _)).ar.len
    have h2 := (HHk W (a_Mod.refl _ _)).ar.m2
    omega
  have HR := hid hR
  have HHK := hid HHk
  have HS := hid hs
  have HCk := hid hCk
  have Hcs := hid hcs
  obtain ⟨ca, cc, rfl, _⟩ := hCk W (a_Mod.refl _ _)
  have hal : Hid (∀ j, (addsJ l cs TS j).length ≤ TS.length + j) := adds_len
  clear hR HHk hs hCk hcs
  go_enter Tryz.func86, Tryz.ntmps86
  go_wp2
  go_loopw [5, 7, 8, 9, 10, 13] (fun o _ _ _ _ i wr => ∃ (j : Nat) (ao : Option Addr) (c : Nat) (tv' : Value), j ≤ cs.length ∧ i = .int .i64 (j : Int) ∧ o = .slice ao j c ∧ Hid (a_Mod (r_foot rb tv mq) W wr) ∧ Hid (Rg wr B rb hb tv' mq (addsJ l cs TS j)) ∧ Hid (a_Nx W tv tv') ∧ Hid (wr.ownsRow W.heap.size 3 1 (.slice ao j c) j ((outJ l cs TS j).map (Value.int .i64)))) (fun _ _ _ _ _ i _ => cs.length - (intOf i).toNat)
  case atStart => exact ⟨0, none, 0, tv, Nat.zero_le _, rfl, rfl, a_Mod.refl _ _, HR, a_Nx.refl _ _, World.ownsRow_nil _ _ _ _⟩
  case round =>
    clear HR
    obtain ⟨j, ao, c, tv', hj, rfl, rfl, hm, hR, hN, hO⟩ := hrel
    by_cases hlt : j < cs.length
    · have hji : (j : Int) < (cs.length : Int) := by omega
      obtain ⟨mb, mo, hma, m0⟩ := (HCk.out wr hm.out).at hlt
      have zm := lt_of_cell m0
      have hmr := Hcs.out _ (getD_mem hlt)
      have hst : Hid (addsJ l cs TS (j + 1) = addT (addsJ l cs TS j) (tmC l (cs.getD j 0))) := rfl
      have hos : Hid (outJ l cs TS (j + 1) = outJ l cs TS j ++ [posF (addsJ l cs TS (j + 1)) (tmC l (cs.getD j 0))]) := out_succ j
      have hTj := hal.out j
      subst hma
      generalize cs.getD j 0 = y at *
      obtain ⟨yn, rfl⟩ : ∃ yn : Nat, y = (yn : Int) := ⟨y.toNat, by omega⟩
      have hyn : yn < l.length := by omega
      have hHp := HHK.out wr hm.out
      obtain ⟨⟨h0, _⟩, zh⟩ := hHp.cells
      obtain ⟨⟨r0, r1, r2⟩, rf⟩ := hR.out.cells
      have zr := hR.out.lt.1
      have htr := hid (fun w1 (hbb : Below wr.heap.size wr w1) => term_any (hHp.below hbb).ar HS.out yn hyn)
      have hrt := trm_rng HS.out hl6 hyn
      rw [show tmC l (yn : Int) = trmW l yn from rfl] at hst hos
      generalize trmW l yn = t at *
      have hkey := keyOf_int_mk (P := Tryz.prog) Tryz.underlying88 (WalkArith.wf_u64 hrt)
      obtain ⟨D, hD, hMT⟩ := hR.out.map
      have h1 := hMT.1 t
      have HD := hid hD
      have HMT := hid hMT
      generalize addsJ l cs TS j = TJ at *
      clear hmr hHp hD hMT
      by_cases hin : t ∈ TJ
      · have e1 : addsJ l cs TS (j + 1) = TJ := by rw [hst.out]; unfold addT; rw [if_pos hin]
        rw [e1] at hos
        have HE1 := hid e1
        rw [decide_eq_true hin] at h1
        have h2 := HMT.out.2 t hin
        generalize posF TJ t = P at *
        clear e1 hst hin
        go_wp2_with (first
          | (go_at_call 54; refine (htr.out _ (Below.refl _ _)).mono ?_; rintro e w2 ⟨rfl, hb2⟩; have Hb2 := hid hb2; have HR2 := hid (hR.out.below hb2); have HO2 := hid (row_keep hO.out (fun q hq => hb2.block q (hO.out.lt q hq).2)); have HM2 := hid (rg_mod hm.out hN.out (a_Mod.ofBelow hb2)); obtain ⟨⟨s0, s1, s2⟩, sf⟩ := HR2.out.cells; have zs := HR2.out.lt.1; have hD2 := mapU_keep (ks := []) HD.out (a_Mod.ofBelow hb2) (by simp); have hO1 := World.ownsRow.alloc HO2.out (.cells #[.int .i64 P] 3); have hzw : W.heap.size ≤ w2.heap.size := HM2.out.size; clear hb2)
          | (at_lookup; refine wpList_lookup_own_ok_int _ rfl _ _ 152 rfl 88 3 .i64 (int_keyed Tryz.underlying88) Tryz.underlying152 Tryz.underlying3 (n_zeroInt _) mq _ D rfl hD2 _ _ rfl hkey ?_; intro cz hat hwc; rw [h2] at hat; obtain rfl := lit_inj hat; clear hat)
          | (at_builtin; go_must (refine wpList_append_lies _ rfl _ _ 28 rfl W.heap.size 3 i0 (.int .i64 0) 1 8 Tryz.underlying28 hi hz0 hz1 hz2 rfl (by decide) _ j _ rfl hO1 ⟨w2.heap.size, 0, none⟩ 1 1 [.int .i64 P] rfl rfl (World.news_of_block (cs := #[.int .i64 P]) (t := 3) (fr := (0, 0)) (heap_alloc_new w2 _)) (by simp [Value.oneCell']) (by decide) (by unfold maxLen; omega) (by omega) (by simp; omega) _ rfl ?_; intro g6 cap w6 hown6 hg6 hat6 hlt6)))
        have HG := hid (rg_grow HM2.out HR2.out HO2.out hg6)
        go_roundw
        case rel => exact ⟨j + 1, some ⟨g6, 0, none⟩, cap, tv', by omega, by go_num, rfl, hid HG.out.1, (by rw [HE1.out]; exact hid HG.out.2), hN, (show World.ownsRow _ _ _ _ _ _ _ by rw [hos.out, List.map_append]; exact hown6)⟩
        case measure => simp [intOf]; omega
      · have e1 : addsJ l cs TS (j + 1) = TJ ++ [t] := by rw [hst.out]; unfold addT; rw [if_neg hin]
        have e2 : posF (TJ ++ [t]) t = (TJ.length : Int) := by rw [posF_snoc hin, if_pos rfl]
        rw [e1, e2] at hos
        have HE1 := hid e1
        rw [decide_eq_false hin] at h1
        have Hin := hid hin
        have Hrt := hid hrt
        obtain ⟨ta, tc, htv'⟩ : ∃ ta tc, tv' = .slice ta TJ.length tc := by
          rcases hR.out.own.2 with ⟨e, hn0⟩ | ⟨g, cap, cur, e, _⟩
          · exact ⟨none, 0, by rw [e, hn0]⟩
          · exact ⟨_, cap, e⟩
        subst htv'
        have hwn : (Lit.int .i64 (TJ.length : Int)).wf = true := WalkArith.wf_i64 (by omega)
        obtain ⟨ap1, ap2, ap3⟩ := hR.out.ap
        have Hap := hid ap1
        have Hap3 := hid ap3
        have Hap2 := hid ap2
        clear e1 e2 hst hin ap1 ap2 ap3 hrt
        go_wp2_with (first
          | (go_at_call 54; refine (htr.out _ (Below.refl _ _)).mono ?_; rintro e w2 ⟨rfl, hb2⟩; have Hb2 := hid hb2; have HR2 := hid (hR.out.below hb2); have HO2 := hid (row_keep hO.out (fun q hq => hb2.block q (hO.out.lt q hq).2)); have HM2 := hid (rg_mod hm.out hN.out (a_Mod.ofBelow hb2)); obtain ⟨⟨s0, s1, s2⟩, sf⟩ := HR2.out.cells; have zs := HR2.out.lt.1; have hD2 := mapU_keep (ks := []) HD.out (a_Mod.ofBelow hb2) (by simp); have HD2 := hid hD2; have hzw : W.heap.size ≤ w2.heap.size := HM2.out.size; clear hb2)
          | (at_lookup; refine wpList_lookup_own_ok_int _ rfl _ _ 152 rfl 88 3 .i64 (int_keyed Tryz.underlying88) Tryz.underlying152 Tryz.underlying3 (n_zeroInt _) mq _ D rfl hD2 _ _ rfl hkey ?_; intro cz hat hwc; clear hat)
          | (at_mapUpdate; refine wpList_mapUpdate_own _ rfl _ _ _ 152 rfl 88 3 (int_keyed Tryz.underlying88) Tryz.underlying152 _ mq TJ.length _ rfl hD2 (by unfold maxLen; omega) _ _ _ rfl rfl hkey _ [] (plainElem_int Tryz.underlying3 hwn) ?_; intro w3 hD3 hg3; have HD3 := hid hD3; have HG3 := hid hg3; obtain ⟨⟨x0, x1, x2⟩, xf, xz⟩ := rd_cells ((hg3.block rb HR2.out.lt.1 (fun e => Hap.out (by simpa using e))).trans HR2.out.blk); have hT1 := World.ownsRow.alloc (row_keep HR2.out.own (fun q hq => hg3.block q (HR2.out.own.lt q hq).2 (fun e => Hap3.out (by rw [hq]; exact e)))) (.cells #[.int .u64 t] 88); have hz3 : w2.heap.size ≤ w3.heap.size := hg3.size; clear hD3 hg3 hD2 s0 s1 s2 sf)
          | (at_builtin; have _m := hT1; go_must (refine wpList_append_lies _ rfl _ _ 38 rfl B 88 i2 (.int .u64 0) 1 8 Tryz.underlying38 hi2 hy0 hy1 hy2 rfl (by decide) _ TJ.length _ rfl hT1 ⟨w3.heap.size, 0, none⟩ 1 1 [.int .u64 t] rfl rfl (World.news_of_block (cs := #[.int .u64 t]) (t := 88) (fr := (0, 0)) (heap_alloc_new w3 _)) (by simp [Value.oneCell']) (by decide) (by unfold maxLen; omega) (by omega) (by simp; omega) (w3.heap.size + 1) (by simp) ?_; intro g4 cap4 w4 hown4 hg4 hat4 hlt4; obtain ⟨pb, pR, pM, pN, pO⟩ := rg_new HM2.out hN.out HO2.out HR2.out HMT.out HD2.out HD3.out HG3.out hg4 hown4 hat4 Hin.out Hrt.out; obtain ⟨⟨x0, x1, x2⟩, xf, xz⟩ := rd_cells pb; have HR5 := hid pR; have HM5 := hid pM; have HN5 := hid pN; have HO5 := hid pO; have hO1 := World.ownsRow.alloc pO (.cells #[.int .i64 (TJ.length : Int)] 3); have hz5 := pM.size; clear pb pR pM pN pO hown4 hg4 hat4 hT1 _m))
          | (at_builtin; go_must (refine wpList_append_lies _ rfl _ _ 28 rfl W.heap.size 3 i0 (.int .i64 0) 1 8 Tryz.underlying28 hi hz0 hz1 hz2 rfl (by decide) _ j _ rfl hO1 ⟨w4.heap.size, 0, none⟩ 1 1 [.int .i64 (TJ.length : Int)] rfl rfl (World.news_of_block (cs := #[.int .i64 (TJ.length : Int)]) (t := 3) (fr := (0, 0)) (alloc_set_new _ _ _ _)) (by simp [Value.oneCell']) (by decide) (by unfold maxLen; omega) (by omega) (by simp at hz5 ⊢; omega) _ rfl ?_; intro g6 cap w6 hown6 hg6 hat6 hlt6)))
        have HG := hid (rg_grow HM5.out HR5.out HO5.out hg6)
        go_roundw
        case rel => exact ⟨j + 1, some ⟨g6, 0, none⟩, cap, _, by omega, by go_num, rfl, hid HG.out.1, (by rw [HE1.out]; exact hid HG.out.2), HN5, (show World.ownsRow _ _ _ _ _ _ _ by rw [hos.out, List.map_append]; exact hown6)⟩
        case measure => simp [intOf]; omega
    · obtain rfl : j = cs.length := by omega
      rw [out_all] at hO
      go_wp2
      go_ret
      exact ⟨ao, c, tv', rfl, hO.out, hR.out, hm.out, hN.out⟩
end
end Go.Proofs.YtgmldkojldlekaaGreatDoor

namespace Go.Proofs.YtgmldkojldlekaaGreatDoor
set_option maxRecDepth 100000
open Go.RowKit
abbrev Te := Nat × Int
def undW (l : List Int) (tr : List Te) : List Int := tr.foldr (fun e a => a.set e.1 e.2) l
theorem undW_app (l : List Int) (a b : List Te) : undW l (a ++ b) = undW (undW l b) a := List.foldr_append ..
theorem undW_snoc (l : List Int) (a : List Te) (e : Te) : undW l (a ++ [e]) = undW (l.set e.1 e.2) a := by rw [undW_app]; rfl
theorem undW_len (l : List Int) : ∀ tr, (undW l tr).length = l.length
  | [] => rfl
  | e :: r => by
    show ((undW l r).set e.1 e.2).length = _
    rw [List.length_set, undW_len l r]
theorem undW_take (l : List Int) (K : Nat) : ∀ tr, (undW l tr).take K = undW (l.take K) tr
  | [] => rfl
  | e :: r => by
    show ((undW l r).set e.1 e.2).take K = (undW (l.take K) r).set e.1 e.2
    rw [← undW_take l K r, List.take_set]
abbrev Pe := Nat × Nat
def seesB (pt : List Pe) (k : Nat) : Bool := match pt.getLast? with
  | some p => decide (k < p.2)
  | none => false
def trW (l : List Int) (tr : List Te) (pt : List Pe) (k : Nat) : List Te := if seesB pt k = true then tr ++ [(k, l.getD k 0)] else tr
def atP (l : List Int) (tr : List Te) (p : Pe) : List Int := undW (l.take p.2) (tr.drop p.1)
def SndN (l : List Int) (N : Nat) : Prop := (∃ V, Snd l V) ∧ NsB l N
structure SI (l : List Int) (N : Nat) (tr : List Te) (pt : List Pe) : Prop where
  now : SndN l N
  ent : ∀ e ∈ tr, e.1 < l.length ∧ (0 ≤ e.2 ∧ e.2 ≤ 18446744073709551615) ∧ mayB e.2 l.length = true
  len : ∀ p ∈ pt, p.1 ≤ tr.length ∧ p.2 ≤ l.length
  old : ∀ p ∈ pt, ∀ e ∈ tr.take p.1, e.1 < p.2 ∧ mayB e.2 p.2 = true
  was : ∀ p ∈ pt, SndN (atP l tr p) N
  mono : pt.Pairwise (fun p q => p.1 ≤ q.1 ∧ p.2 ≤ q.2)
theorem SI.last {l : List Int} {N : Nat} {tr : List Te} {pt : List Pe} (h : SI l N tr pt) {p q : Pe} (hp : p ∈ pt) (hq : pt.getLast? = some q) : p.1 ≤ q.1 ∧ p.2 ≤ q.2 := by
  obtain ⟨i, hi, e⟩ := List.getElem_of_mem hp
  have hl : q = pt[pt.length - 1]'(by omega) := by
    rw [List.getLast?_eq_getElem?] at hq
    rw [List.getElem?_eq_getElem (by omega)] at hq
    exact (Option.some.inj hq).symm
  rcases Nat.lt_or_ge i (pt.length - 1) with h1 | h1
  · have := List.pairwise_iff_getElem.1 h.mono i (pt.length - 1) hi (by omega) h1
    rw [e, ← hl] at this
    exact this
  · have e2 : i = pt.length - 1 := by omega
    subst e2
    rw [← e, hl]
    exact ⟨Nat.le_refl _, Nat.le_refl _⟩
theorem atP_write {l : List Int} {N : Nat} {tr : List Te} {pt : List Pe} (h : SI l N tr pt) {p : Pe} (hp : p ∈ pt) {k : Nat} (hk : k < l.length) (x : Int) : atP (l.set k x) (trW l tr pt k) p = atP l tr p := by
  unfold atP trW
  have hl := h.len p hp
  split
  · rename_i hs
    rw [List.drop_append_of_le_length hl.1, undW_snoc, List.take_set]
    congr 1
    by_cases hkp : k < p.2
    · rw [List.set_set]
      apply List.ext_getElem?
      intro i
      rw [List.getElem?_set]
      split
      · rename_i e
        subst e
        have e1 : k < (l.take p.2).length := by simp; omega
        rw [if_pos e1, List.getElem?_take, if_pos hkp]
        simp [List.getD, hk]
      · rfl
    · rw [List.set_eq_of_length_le (by simp; omega), List.set_eq_of_length_le (by simp; omega)]
  · rename_i hs
    have hkp : p.2 ≤ k := by
      cases hq : pt.getLast? with
      | none => rw [List.getLast?_eq_none_iff] at hq; subst hq; cases hp
      | some q =>
        have h1 := h.last hp hq
        have h2 : ¬ k < q.2 := fun h3 => hs (by unfold seesB; rw [hq]; exact decide_eq_true h3)
        omega
    rw [List.take_set, List.set_eq_of_length_le (by simp; omega)]
theorem snd_may {l : List Int} {V : Nat → Bool} (h : Snd l V) {k : Nat} (hk : k < l.length) : (0 ≤ l.getD k 0 ∧ l.getD k 0 ≤ 18446744073709551615) ∧ mayB (l.getD k 0) l.length = true := by
  have hg := h.good k hk
  have hr := h.rng (l.getD k 0) (by simp [List.getD, hk])
  refine ⟨hr, ?_⟩
  unfold mayB
  have hg' : goodB (l.getD k 0) = true := hg
  rw [hg', Bool.true_and]
  by_cases ht : tellsB (l.getD k 0) = true
  · have h3 : l.getD k 0 % 8 = 0 ∨ l.getD k 0 % 8 = 3 ∨ l.getD k 0 % 8 = 5 := by simpa [tellsB] using ht
    have hv := val_place hg' h3
    have : vlN l k < l.length := by
      rcases h3 with e | e | e
      · exact (h.ref k hk e).1
      · exact (h.str k hk e).1
      · exact Nat.lt_trans (h.fwd k hk e).1 hk
    have e2 : vlN l k = (valOf (l.getD k 0)).toNat := rfl
    rw [Bool.or_eq_true]
    exact Or.inr (decide_eq_true (by omega))
  · simp only [Bool.not_eq_true] at ht
    rw [ht]
    rfl
theorem may_mono {x a b : Int} (h : mayB x a = true) (hab : a ≤ b) : mayB x b = true := by
  unfold mayB at *
  rw [Bool.and_eq_true, Bool.or_eq_true] at *
  exact ⟨h.1, h.2.imp id (fun h => decide_eq_true (by have := of_decide_eq_true h; omega))⟩
theorem SI.write {l : List Int} {N : Nat} {tr : List Te} {pt : List Pe} (h : SI l N tr pt) {k : Nat} (hk : k < l.length) {x : Int} (hn : SndN (l.set k x) N) : SI (l.set k x) N (trW l tr pt k) pt := by
  obtain ⟨V, hV⟩ := h.now.1
  have hm := snd_may hV hk
  have hlt : tr.length ≤ (trW l tr pt k).length := by unfold trW; split <;> simp
  refine ⟨hn, fun e he => ?_, fun p hp => ⟨Nat.le_trans (h.len p hp).1 hlt, by rw [List.length_set]; exact (h.len p hp).2⟩, fun p hp e he => ?_, fun p hp => by rw [atP_write h hp hk]; exact h.was p hp, h.mono⟩
  · rw [List.length_set]
    unfold trW at he
    split at he
    · rcases List.mem_append.1 he with he | he
      · exact h.ent e he
      · have e2 : e = (k, l.getD k 0) := by simpa using he
        subst e2
        exact ⟨hk, hm.1, hm.2⟩
    · exact h.ent e he
  · refine h.old p hp e ?_
    unfold trW at he
    split at he
    · rwa [List.take_append_of_le_length (h.len p hp).1] at he
    · exact he
theorem nsb_more {l : List Int} {N N' : Nat} (h : NsB l N) (hle : N ≤ N') : NsB l N' := ⟨fun k hk ht => by have := h.1 k hk ht; omega, fun k hk ht => by have := h.2 k hk ht; omega⟩
theorem atP_put {l m : List Int} {tr : List Te} {p : Pe} (hp : p.2 ≤ l.length) : atP (l ++ m) tr p = atP l tr p := by
  unfold atP
  rw [List.take_append_of_le_length hp]
theorem SI.put {l m : List Int} {N N' : Nat} {tr : List Te} {pt : List Pe} (h : SI l N tr pt) (hN : N ≤ N') (hn : SndN (l ++ m) N') : SI (l ++ m) N' tr pt := by
  have hl : l.length ≤ (l ++ m).length := by simp
  refine ⟨hn, fun e he => ?_, fun p hp => ⟨(h.len p hp).1, Nat.le_trans (h.len p hp).2 hl⟩, h.old, fun p hp => ?_, h.mono⟩
  · obtain ⟨h1, h2, h3⟩ := h.ent e he
    exact ⟨by omega, h2, may_mono h3 (by omega)⟩
  · rw [atP_put (h.len p hp).2]
    exact ⟨(h.was p hp).1, nsb_more (h.was p hp).2 hN⟩
theorem SI.point {l : List Int} {N : Nat} {tr : List Te} {pt : List Pe} (h : SI l N tr pt) : SI l N tr (pt ++ [(tr.length, l.length)]) := by
  have hc : ∀ p ∈ pt ++ [(tr.length, l.length)], p ∈ pt ∨ p = (tr.length, l.length) := fun p hp => by
    rcases List.mem_append.1 hp with hp | hp
    · exact Or.inl hp
    · exact Or.inr (by simpa using hp)
  refine ⟨h.now, h.ent, fun p hp => ?_, fun p hp e he => ?_, fun p hp => ?_, ?_⟩
  · rcases hc p hp with hp | rfl
    · exact h.len p hp
    · exact ⟨Nat.le_refl _, Nat.le_refl _⟩
  · rcases hc p hp with hp | rfl
    · exact h.old p hp e he
    · have := h.ent e (List.mem_of_mem_take he)
      exact ⟨this.1, this.2.2⟩
  · rcases hc p hp with hp | rfl
    · exact h.was p hp
    · unfold atP
      rw [List.take_length, List.drop_length]
      exact h.now
  · rw [List.pairwise_append]
    refine ⟨h.mono, List.pairwise_singleton _ _, fun p hp q hq => ?_⟩
    have e : q = (tr.length, l.length) := by simpa using hq
    subst e
    exact h.len p hp
theorem SI.release {l : List Int} {N : Nat} {tr : List Te} {pt : List Pe} (h : SI l N tr pt) (n : Nat) : SI l N tr (pt.take n) :=
  ⟨h.now, h.ent, fun p hp => h.len p (List.mem_of_mem_take hp), fun p hp => h.old p (List.mem_of_mem_take hp), fun p hp => h.was p (List.mem_of_mem_take hp), h.mono.sublist (List.take_sublist _ _)⟩
theorem atP_undo {l : List Int} {tr : List Te} {p q : Pe} (h1 : p.1 ≤ q.1) (h2 : p.2 ≤ q.2) (hq1 : q.1 ≤ tr.length) : atP (atP l tr q) (tr.take q.1) p = atP l tr p := by
  unfold atP
  have e : tr.drop p.1 = (tr.take q.1).drop p.1 ++ tr.drop q.1 := by
    rw [← List.drop_append_of_le_length (by simp; omega), List.take_append_drop]
  rw [e, undW_app, undW_take, List.take_take, Nat.min_eq_left h2]
theorem SI.undo {l : List Int} {N : Nat} {tr : List Te} {pt : List Pe} (h : SI l N tr pt) (n : Nat) (hn : n < pt.length) : SI (atP l tr pt[n]) N (tr.take pt[n].1) (pt.take (n + 1)) := by
  have hm : pt[n] ∈ pt := List.getElem_mem hn
  have hl := h.len _ hm
  have hlen : (atP l tr pt[n]).length = pt[n].2 := by
    unfold atP
    rw [undW_len, List.length_take]
    omega
  have hle : ∀ p ∈ pt.take (n + 1), p.1 ≤ pt[n].1 ∧ p.2 ≤ pt[n].2 := fun p hp => by
    obtain ⟨i, hi, e⟩ := List.getElem_of_mem hp
    rw [List.getElem_take] at e
    have hi2 : i < pt.length ∧ i ≤ n := by simp at hi; omega
    rcases Nat.lt_or_ge i n with h1 | h1
    · have := List.pairwise_iff_getElem.1 h.mono i n hi2.1 hn h1
      rw [e] at this
      exact this
    · have e2 : i = n := by omega
      subst e2
      rw [← e]
      exact ⟨Nat.le_refl _, Nat.le_refl _⟩
  refine ⟨h.was _ hm, fun e he => ?_, fun p hp => ?_, fun p hp e he => ?_, fun p hp => ?_, h.mono.sublist (List.take_sublist _ _)⟩
  · rw [hlen]
    have h1 := h.old _ hm e he
    exact ⟨h1.1, (h.ent e (List.mem_of_mem_take he)).2.1, h1.2⟩
  · rw [hlen, List.length_take]
    have := hle p hp
    exact ⟨by omega, this.2⟩
  · refine h.old p (List.mem_of_mem_take hp) e ?_
    rw [List.take_take, Nat.min_eq_left (hle p hp).1] at he
    exact he
  · rw [atP_undo (hle p hp).1 (hle p hp).2 hl.1]
    exact h.was p (List.mem_of_mem_take hp)
end Go.Proofs.YtgmldkojldlekaaGreatDoor

namespace Go.Proofs.YtgmldkojldlekaaGreatDoor
set_option maxRecDepth 100000
open Go.RowKit
section
variable {w : World} {B hb ab tb : Nat} {m : Int} {av : Value} {l : List Int} {tv : Value} {tq : Nat} {ns : List ByteArray} {trv ptv : Value} {n : Int} {V : Nat → Bool} {Q : World → Prop}
set_option maxHeartbeats 4000000 in
theorem mergeq_bad (h : Hp w B hb ab tb m av l tv tq ns trv ptv n) (a b : Int) (hbd : badF l [a, b] ≠ []) :
    Calls Tryz.prog 28 #[.pointer (some ⟨hb, 0, none⟩), .int .i64 a, .int .i64 b] w fun e w' => (∃ ev, e = .returned ev ∧ Er w' ev (badF l [a, b])) ∧ Below w.heap.size w w' := by
  have hb1 := below_alloc w (.cells #[.int .i64 a, .int .i64 b] 3)
  have hri := ri_lit2 (heap_alloc_new w (.cells #[.int .i64 a, .int .i64 b] 3))
  have hck := hid (checkedC_any (h.below hb1).ar hri (by simp))
  have Hb1 := hid hb1
  obtain ⟨⟨c0, c1, _, _, _⟩, c5⟩ := h.cells
  generalize badF l [a, b] = fs at *
  clear h hb1 hri
  go_enter Tryz.func28, Tryz.ntmps28
  go_wp2_with (go_at_call 41; refine hck.out.mono ?_; rintro e w3 ⟨⟨ev, rfl, hev⟩, hb3⟩; have Hev := hid hev; have HB := hid (Below.next Hb1.out hb3); obtain ⟨fb, hfb⟩ := er_ptr hev hbd; subst hfb; clear hev hb3)
  go_ret
  exact ⟨⟨_, rfl, Hev.out⟩, HB.out⟩
set_option maxHeartbeats 4000000 in
theorem mergeq_lt (h : Hp w B hb ab tb m av l tv tq ns trv ptv n) (hs : Snd l V) (a b : Nat) (ca : cellB l (a : Int) = true) (cb : cellB l (b : Int) = true) (ha : a < l.length) (hb' : b < l.length) (hx3 : trmW l a % 8 = 3) (hy3 : trmW l b % 8 = 3) (i j : Nat) (hi : i < l.length) (hj : j < l.length) (vi : valOf (trmW l a) = (i : Int)) (vj : valOf (trmW l b) = (j : Int)) (hw : wdN l i = wdN l j) (hij : i < j) (hwr0 : ∀ w1, Below w.heap.size w w1 → Calls Tryz.prog 57 #[.pointer (some ⟨hb, 0, none⟩), .int .i64 (j : Int), .int .u64 (wordOf 5 (i : Int))] w1 fun e w' => e = .returned (.tuple #[]) ∧ Q w') :
    Calls Tryz.prog 28 #[.pointer (some ⟨hb, 0, none⟩), .int .i64 (a : Int), .int .i64 (b : Int)] w fun e w' => e = .returned .nilIface ∧ Q w' := by
  have hl6 : l.length ≤ 65536 := by
    have h1 := h.ar.len
    have h2 := h.ar.m2
    omega
  obtain ⟨⟨xa0, xa1⟩, ma, va⟩ := trm_may hs hl6 ha
  obtain ⟨⟨xb0, xb1⟩, mb, vb⟩ := trm_may hs hl6 hb'
  have hb1 := below_alloc w (.cells #[.int .i64 (a : Int), .int .i64 (b : Int)] 3)
  have hri := ri_lit2 (heap_alloc_new w (.cells #[.int .i64 (a : Int), .int .i64 (b : Int)] 3))
  have hck := hid (checkedC_any (h.below hb1).ar hri (by simp))
  rw [bad2 ca cb] at hck
  have Hb1 := hid hb1
  obtain ⟨⟨c0, c1, _, _, _⟩, c5⟩ := h.cells
  have hta := hid (fun w1 (hbb : Below w.heap.size w w1) => term_any (h.below hbb).ar hs a ha)
  have htb := hid (fun w1 (hbb : Below w.heap.size w w1) => term_any (h.below hbb).ar hs b hb')
  have HH := hid h
  have dne : (trmW l a == trmW l b) = false := by
    rw [beq_eq_false_iff_ne]
    intro e
    have vi2 := vi
    rw [e] at vi2
    omega
  have hal := hid (fun w1 (hbb : Below w.heap.size w w1) => alike_str (h.below hbb).ar (trmW l a) (trmW l b) xa0 xa1 xb0 xb1 hx3 hy3 i j hi hj vi vj)
  rw [hw, beq_self_eq_true] at hal
  have hva := hid (fun w => value_any (trmW l a) w)
  have hvb := hid (fun w => value_any (trmW l b) w)
  rw [vi] at hva
  rw [vj] at hvb
  have hf5 : fitsB 5 (i : Int) = true := by
    simp [fitsB]
    omega
  have hpk := hid (fun w => packed_ok 5 (i : Int) w hf5)
  have hwr := hid hwr0
  have hij' : (i : Int) < (j : Int) := by omega
  have hmn : min (i : Int) (j : Int) = (i : Int) := by omega
  have hmx : max (i : Int) (j : Int) = (j : Int) := by omega
  clear hwr0
  generalize wordOf 5 (i : Int) = X5 at *
  generalize trmW l a = XA at *
  generalize trmW l b = XB at *
  clear h hs ca cb ha hb' hb1 hri va vb ma mb hx3 hy3 hi hj vi vj hw hf5 hij
  generalize (i : Int) = I at *
  generalize (j : Int) = J at *
  go_enter Tryz.func28, Tryz.ntmps28
  go_wp2_with (go_at_call 41; refine hck.out.mono ?_; rintro e w3 ⟨⟨ev, rfl, hev⟩, hb3⟩; have hev1 : ev = .nilIface := hev; subst hev1; have HB := hid (Below.next Hb1.out hb3); obtain ⟨⟨d0, _⟩, d5⟩ := (HH.out.below HB.out).cells; clear hev hb3)
  go_region_held3 (fun w' => w'.cell? ⟨hb, 0, none⟩ = some (.pointer (some ⟨ab, 0, none⟩))) (first | exact d0 | go_keep)
    (first
      | (go_at_call_of 54 (Value.int IntKind.i64 (a : Int)); refine (hta.out _ ?_).mono ?_; (first | exact HB.out | exact HB.out.drew); rintro e w4 ⟨rfl, hb4⟩; replace HB := hid (Below.next (by first | exact HB.out | exact HB.out.drew) hb4); clear d0 d5 hb4; obtain ⟨⟨d0, _⟩, d5⟩ := (HH.out.below HB.out).cells)
      | (go_at_call_of 54 (Value.int IntKind.i64 (b : Int)); refine (htb.out _ ?_).mono ?_; (first | exact HB.out | exact HB.out.drew); rintro e w4 ⟨rfl, hb4⟩; replace HB := hid (Below.next (by first | exact HB.out | exact HB.out.drew) hb4); clear d0 d5 hb4; obtain ⟨⟨d0, _⟩, d5⟩ := (HH.out.below HB.out).cells))
  all_goals go_wp2_with (first
    | (go_at_call 61; refine (hal.out _ HB.out).mono ?_; rintro e w5 ⟨rfl, hb5⟩; replace HB := hid (Below.next HB.out hb5); clear hb5 d0 d5; obtain ⟨⟨d0, _⟩, d5⟩ := (HH.out.below HB.out).cells)
    | (go_at_call_of 56 (Value.int IntKind.u64 XA); refine (hva.out _).mono ?_; rintro e w6 ⟨rfl, hw⟩; replace hw := hw.symm; subst hw)
    | (go_at_call_of 56 (Value.int IntKind.u64 XB); refine (hvb.out _).mono ?_; rintro e w6 ⟨rfl, hw⟩; replace hw := hw.symm; subst hw)
    | (go_at_call 62; refine (hpk.out _).mono ?_; rintro e w6 ⟨rfl, hw⟩; replace hw := hw.symm; subst hw)
    | (go_at_call 57; refine (hwr.out _ HB.out).mono ?_; rintro e w7 ⟨rfl, hq7⟩; have HQ7 := hid hq7; clear hq7))
  all_goals go_ret
  all_goals exact ⟨rfl, HQ7.out⟩
set_option maxHeartbeats 4000000 in
theorem mergeq_gt (h : Hp w B hb ab tb m av l tv tq ns trv ptv n) (hs : Snd l V) (a b : Nat) (ca : cellB l (a : Int) = true) (cb : cellB l (b : Int) = true) (ha : a < l.length) (hb' : b < l.length) (hx3 : trmW l a % 8 = 3) (hy3 : trmW l b % 8 = 3) (i j : Nat) (hi : i < l.length) (hj : j < l.length) (vi : valOf (trmW l a) = (i : Int)) (vj : valOf (trmW l b) = (j : Int)) (hw : wdN l i = wdN l j) (hij : j < i) (hwr0 : ∀ w1, Below w.heap.size w w1 → Calls Tryz.prog 57 #[.pointer (some ⟨hb, 0, none⟩), .int .i64 (i : Int), .int .u64 (wordOf 5 (j : Int))] w1 fun e w' => e = .returned (.tuple #[]) ∧ Q w') :
    Calls Tryz.prog 28 #[.pointer (some ⟨hb, 0, none⟩), .int .i64 (a : Int), .int .i64 (b : Int)] w fun e w' => e = .returned .nilIface ∧ Q w' := by
  have hl6 : l.length ≤ 65536 := by
    have h1 := h.ar.len
    have h2 := h.ar.m2
    omega
  obtain ⟨⟨xa0, xa1⟩, ma, va⟩ := trm_may hs hl6 ha
  obtain ⟨⟨xb0, xb1⟩, mb, vb⟩ := trm_may hs hl6 hb'
  have hb1 := below_alloc w (.cells #[.int .i64 (a : Int), .int .i64 (b : Int)] 3)
  have hri := ri_lit2 (heap_alloc_new w (.cells #[.int .i64 (a : Int), .int .i64 (b : Int)] 3))
  have hck := hid (checkedC_any (h.below hb1).ar hri (by simp))
  rw [bad2 ca cb] at hck
  have Hb1 := hid hb1
  obtain ⟨⟨c0, c1, _, _, _⟩, c5⟩ := h.cells
  have hta := hid (fun w1 (hbb : Below w.heap.size w w1) => term_any (h.below hbb).ar hs a ha)
  have htb := hid (fun w1 (hbb : Below w.heap.size w w1) => term_any (h.below hbb).ar hs b hb')
  have HH := hid h
  have dne : (trmW l a == trmW l b) = false := by
    rw [beq_eq_false_iff_ne]
    intro e
    have vi2 := vi
    rw [e] at vi2
    omega
  have hal := hid (fun w1 (hbb : Below w.heap.size w w1) => alike_str (h.below hbb).ar (trmW l a) (trmW l b) xa0 xa1 xb0 xb1 hx3 hy3 i j hi hj vi vj)
  rw [hw, beq_self_eq_true] at hal
  have hva := hid (fun w => value_any (trmW l a) w)
  have hvb := hid (fun w => value_any (trmW l b) w)
  rw [vi] at hva
  rw [vj] at hvb
  have hf5 : fitsB 5 (j : Int) = true := by
    simp [fitsB]
    omega
  have hpk := hid (fun w => packed_ok 5 (j : Int) w hf5)
  have hwr := hid hwr0
  have hij' : (j : Int) < (i : Int) := by omega
  have hmn : min (i : Int) (j : Int) = (j : Int) := by omega
  have hmx : max (i : Int) (j : Int) = (i : Int) := by omega
  clear hwr0
  generalize wordOf 5 (j : Int) = X5 at *
  generalize trmW l a = XA at *
  generalize trmW l b = XB at *
  clear h hs ca cb ha hb' hb1 hri va vb ma mb hx3 hy3 hi hj vi vj hw hf5 hij
  generalize (i : Int) = I at *
  generalize (j : Int) = J at *
  go_enter Tryz.func28, Tryz.ntmps28
  go_wp2_with (go_at_call 41; refine hck.out.mono ?_; rintro e w3 ⟨⟨ev, rfl, hev⟩, hb3⟩; have hev1 : ev = .nilIface := hev; subst hev1; have HB := hid (Below.next Hb1.out hb3); obtain ⟨⟨d0, _⟩, d5⟩ := (HH.out.below HB.out).cells; clear hev hb3)
  go_region_held3 (fun w' => w'.cell? ⟨hb, 0, none⟩ = some (.pointer (some ⟨ab, 0, none⟩))) (first | exact d0 | go_keep)
    (first
      | (go_at_call_of 54 (Value.int IntKind.i64 (a : Int)); refine (hta.out _ ?_).mono ?_; (first | exact HB.out | exact HB.out.drew); rintro e w4 ⟨rfl, hb4⟩; replace HB := hid (Below.next (by first | exact HB.out | exact HB.out.drew) hb4); clear d0 d5 hb4; obtain ⟨⟨d0, _⟩, d5⟩ := (HH.out.below HB.out).cells)
      | (go_at_call_of 54 (Value.int IntKind.i64 (b : Int)); refine (htb.out _ ?_).mono ?_; (first | exact HB.out | exact HB.out.drew); rintro e w4 ⟨rfl, hb4⟩; replace HB := hid (Below.next (by first | exact HB.out | exact HB.out.drew) hb4); clear d0 d5 hb4; obtain ⟨⟨d0, _⟩, d5⟩ := (HH.out.below HB.out).cells))
  all_goals go_wp2_with (first
    | (go_at_call 61; refine (hal.out _ HB.out).mono ?_; rintro e w5 ⟨rfl, hb5⟩; replace HB := hid (Below.next HB.out hb5); clear hb5 d0 d5; obtain ⟨⟨d0, _⟩, d5⟩ := (HH.out.below HB.out).cells)
    | (go_at_call_of 56 (Value.int IntKind.u64 XA); refine (hva.out _).mono ?_; rintro e w6 ⟨rfl, hw⟩; replace hw := hw.symm; subst hw)
    | (go_at_call_of 56 (Value.int IntKind.u64 XB); refine (hvb.out _).mono ?_; rintro e w6 ⟨rfl, hw⟩; replace hw := hw.symm; subst hw)
    | (go_at_call 62; refine (hpk.out _).mono ?_; rintro e w6 ⟨rfl, hw⟩; replace hw := hw.symm; subst hw)
    | (go_at_call 57; refine (hwr.out _ HB.out).mono ?_; rintro e w7 ⟨rfl, hq7⟩; have HQ7 := hid hq7; clear hq7))
  all_goals go_ret
  all_goals exact ⟨rfl, HQ7.out⟩
set_option maxHeartbeats 4000000 in
theorem mergeq_same (h : Hp w B hb ab tb m av l tv tq ns trv ptv n) (hs : Snd l V) (a b : Nat) (ca : cellB l (a : Int) = true) (cb : cellB l (b : Int) = true) (ha : a < l.length) (hb' : b < l.length) (hx3 : trmW l a % 8 = 3) (i : Nat) (hi : i < l.length) (vi : valOf (trmW l a) = (i : Int)) (he : trmW l a = trmW l b) :
    Calls Tryz.prog 28 #[.pointer (some ⟨hb, 0, none⟩), .int .i64 (a : Int), .int .i64 (b : Int)] w fun e w' => e = .returned .nilIface ∧ Below w.heap.size w w' := by
  have hl6 : l.length ≤ 65536 := by
    have h1 := h.ar.len
    have h2 := h.ar.m2
    omega
  obtain ⟨⟨xa0, xa1⟩, ma, va⟩ := trm_may hs hl6 ha
  obtain ⟨⟨xb0, xb1⟩, mb, vb⟩ := trm_may hs hl6 hb'
  have hb1 := below_alloc w (.cells #[.int .i64 (a : Int), .int .i64 (b : Int)] 3)
  have hri := ri_lit2 (heap_alloc_new w (.cells #[.int .i64 (a : Int), .int .i64 (b : Int)] 3))
  have hck := hid (checkedC_any (h.below hb1).ar hri (by simp))
  rw [bad2 ca cb] at hck
  have Hb1 := hid hb1
  obtain ⟨⟨c0, c1, _, _, _⟩, c5⟩ := h.cells
  have hta := hid (fun w1 (hbb : Below w.heap.size w w1) => term_any (h.below hbb).ar hs a ha)
  have htb := hid (fun w1 (hbb : Below w.heap.size w w1) => term_any (h.below hbb).ar hs b hb')
  have HH := hid h
  have hal := hid (fun w1 (hbb : Below w.heap.size w w1) => alike_str (h.below hbb).ar (trmW l a) (trmW l a) xa0 xa1 xa0 xa1 hx3 hx3 i i hi hi vi vi)
  rw [beq_self_eq_true] at hal
  rw [← he] at htb
  generalize trmW l a = XA at *
  generalize trmW l b = XB at *
  clear h hs ca cb ha hb' hb1 hri va vb ma mb hx3 hi vi he
  go_enter Tryz.func28, Tryz.ntmps28
  go_wp2_with (go_at_call 41; refine hck.out.mono ?_; rintro e w3 ⟨⟨ev, rfl, hev⟩, hb3⟩; have hev1 : ev = .nilIface := hev; subst hev1; have HB := hid (Below.next Hb1.out hb3); obtain ⟨⟨d0, _⟩, d5⟩ := (HH.out.below HB.out).cells; clear hev hb3)
  go_region_held3 (fun w' => w'.cell? ⟨hb, 0, none⟩ = some (.pointer (some ⟨ab, 0, none⟩))) (first | exact d0 | go_keep)
    (first
      | (go_at_call_of 54 (Value.int IntKind.i64 (a : Int)); refine (hta.out _ ?_).mono ?_; (first | exact HB.out | exact HB.out.drew); rintro e w4 ⟨rfl, hb4⟩; replace HB := hid (Below.next (by first | exact HB.out | exact HB.out.drew) hb4); clear d0 d5 hb4; obtain ⟨⟨d0, _⟩, d5⟩ := (HH.out.below HB.out).cells)
      | (go_at_call_of 54 (Value.int IntKind.i64 (b : Int)); refine (htb.out _ ?_).mono ?_; (first | exact HB.out | exact HB.out.drew); rintro e w4 ⟨rfl, hb4⟩; replace HB := hid (Below.next (by first | exact HB.out | exact HB.out.drew) hb4); clear d0 d5 hb4; obtain ⟨⟨d0, _⟩, d5⟩ := (HH.out.below HB.out).cells))
  all_goals go_wp2_with (first
    | (go_at_call 61; refine (hal.out _ HB.out).mono ?_; rintro e w5 ⟨rfl, hb5⟩; replace HB := hid (Below.next HB.out hb5); clear hb5 d0 d5; obtain ⟨⟨d0, _⟩, d5⟩ := (HH.out.below HB.out).cells)
    | (go_at_call 30; refine (cfault_any _ _ _).mono ?_; rintro e w6 ⟨rfl, hw⟩; subst hw))
  all_goals go_ret
  all_goals exact ⟨rfl, HB.out⟩
set_option maxHeartbeats 4000000 in
theorem mergeq_no (h : Hp w B hb ab tb m av l tv tq ns trv ptv n) (hs : Snd l V) (a b : Nat) (ca : cellB l (a : Int) = true) (cb : cellB l (b : Int) = true) (ha : a < l.length) (hb' : b < l.length) (hal0 : ∀ w1, Below w.heap.size w w1 → Calls Tryz.prog 61 #[blkV ab, .int .u64 (trmW l a), .int .u64 (trmW l b)] w1 fun e w' => e = .returned (.bool false) ∧ Below w1.heap.size w1 w') :
    Calls Tryz.prog 28 #[.pointer (some ⟨hb, 0, none⟩), .int .i64 (a : Int), .int .i64 (b : Int)] w fun e w' => (∃ fb, e = .returned (.iface 102 (.pointer (some ⟨fb, 0, none⟩))) ∧ w'.heap[fb]? = some (faultAtObj 115 (-1))) ∧ Below w.heap.size w w' := by
  have hl6 : l.length ≤ 65536 := by
    have h1 := h.ar.len
    have h2 := h.ar.m2
    omega
  obtain ⟨⟨xa0, xa1⟩, ma, va⟩ := trm_may hs hl6 ha
  obtain ⟨⟨xb0, xb1⟩, mb, vb⟩ := trm_may hs hl6 hb'
  have hb1 := below_alloc w (.cells #[.int .i64 (a : Int), .int .i64 (b : Int)] 3)
  have hri := ri_lit2 (heap_alloc_new w (.cells #[.int .i64 (a : Int), .int .i64 (b : Int)] 3))
  have hck := hid (checkedC_any (h.below hb1).ar hri (by simp))
  rw [bad2 ca cb] at hck
  have Hb1 := hid hb1
  obtain ⟨⟨c0, c1, _, _, _⟩, c5⟩ := h.cells
  have hta := hid (fun w1 (hbb : Below w.heap.size w w1) => term_any (h.below hbb).ar hs a ha)
  have htb := hid (fun w1 (hbb : Below w.heap.size w w1) => term_any (h.below hbb).ar hs b hb')
  have HH := hid h
  have hal := hid hal0
  generalize trmW l a = XA at *
  generalize trmW l b = XB at *
  clear h hs ca cb ha hb' hb1 hri va vb ma mb hal0
  go_enter Tryz.func28, Tryz.ntmps28
  go_wp2_with (go_at_call 41; refine hck.out.mono ?_; rintro e w3 ⟨⟨ev, rfl, hev⟩, hb3⟩; have hev1 : ev = .nilIface := hev; subst hev1; have HB := hid (Below.next Hb1.out hb3); obtain ⟨⟨d0, _⟩, d5⟩ := (HH.out.below HB.out).cells; clear hev hb3)
  go_region_held3 (fun w' => w'.cell? ⟨hb, 0, none⟩ = some (.pointer (some ⟨ab, 0, none⟩))) (first | exact d0 | go_keep)
    (first
      | (go_at_call_of 54 (Value.int IntKind.i64 (a : Int)); refine (hta.out _ ?_).mono ?_; (first | exact HB.out | exact HB.out.drew); rintro e w4 ⟨rfl, hb4⟩; replace HB := hid (Below.next (by first | exact HB.out | exact HB.out.drew) hb4); clear d0 d5 hb4; obtain ⟨⟨d0, _⟩, d5⟩ := (HH.out.below HB.out).cells)
      | (go_at_call_of 54 (Value.int IntKind.i64 (b : Int)); refine (htb.out _ ?_).mono ?_; (first | exact HB.out | exact HB.out.drew); rintro e w4 ⟨rfl, hb4⟩; replace HB := hid (Below.next (by first | exact HB.out | exact HB.out.drew) hb4); clear d0 d5 hb4; obtain ⟨⟨d0, _⟩, d5⟩ := (HH.out.below HB.out).cells))
  all_goals go_wp2_with (first
    | (go_at_call 61; refine (hal.out _ HB.out).mono ?_; rintro e w5 ⟨rfl, hb5⟩; replace HB := hid (Below.next HB.out hb5); clear hb5 d0 d5; obtain ⟨⟨d0, _⟩, d5⟩ := (HH.out.below HB.out).cells)
    | (go_at_call 30; refine (cfault_any _ _ _).mono ?_; rintro e w6 ⟨rfl, hw⟩; subst hw))
  all_goals go_ret
  all_goals exact ⟨⟨_, rfl, heap_alloc_new _ _⟩, HB.out.alloc HB.out.size _⟩
end
end Go.Proofs.YtgmldkojldlekaaGreatDoor
