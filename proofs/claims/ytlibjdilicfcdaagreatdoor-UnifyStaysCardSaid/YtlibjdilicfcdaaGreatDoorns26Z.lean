/- Package cells: the table with the names of a graph. -/
import Derived.Laws.StructEq
import Derived.LaidEql
import Derived.Test.YtlibjdilicfcdaaGreatDoorns24Z
import Derived.Test.YtlibjdilicfcdaaGreatDoorns12Z
namespace Go.Proofs.YtlibjdilicfcdaaGreatDoor
set_option maxRecDepth 100000
open Go.RowKit
theorem alloc4 (W : World) (a b c d : Obj) : ((((W.alloc a).alloc b).alloc c).alloc d).heap[W.heap.size]? = some a ∧ ((((W.alloc a).alloc b).alloc c).alloc d).heap[W.heap.size + 1]? = some b ∧ ((((W.alloc a).alloc b).alloc c).alloc d).heap[W.heap.size + 2]? = some c ∧ ((((W.alloc a).alloc b).alloc c).alloc d).heap[W.heap.size + 3]? = some d := by
  have s1 : (W.alloc a).heap.size = W.heap.size + 1 := by simp
  have s2 : ((W.alloc a).alloc b).heap.size = W.heap.size + 2 := by simp
  have s3 : (((W.alloc a).alloc b).alloc c).heap.size = W.heap.size + 3 := by simp
  have h0 := heap_alloc_new W a
  have h1 := heap_alloc_new (W.alloc a) b
  have h2 := heap_alloc_new ((W.alloc a).alloc b) c
  have h3 := heap_alloc_new (((W.alloc a).alloc b).alloc c) d
  rw [s1] at h1
  rw [s2] at h2
  rw [s3] at h3
  refine ⟨?_, ?_, ?_, h3⟩
  · rw [Below.heap_alloc _ _ _ (by omega), Below.heap_alloc _ _ _ (by omega), Below.heap_alloc _ _ _ (by omega)]
    exact h0
  · rw [Below.heap_alloc _ _ _ (by omega), Below.heap_alloc _ _ _ (by omega)]
    exact h1
  · rw [Below.heap_alloc _ _ _ (by omega)]
    exact h2
structure Wt (W w : World) (nv rv : Value) (p p' : Nat) : Prop where
  b : Below W.heap.size W w
  x0 : w.heap[W.heap.size]? = some (.cells #[.pointer (some ⟨p, 0, none⟩)] 76)
  x1 : w.heap[W.heap.size + 1]? = some (.cells #[nv, rv] 25)
  x2 : w.heap[W.heap.size + 2]? = some (.cells #[.pointer none] 76)
  x3 : w.heap[W.heap.size + 3]? = some (.cells #[.pointer (some ⟨p', 0, none⟩)] 76)
theorem below_le {n k : Nat} {a b : World} (h : Below n a b) (hk : k ≤ n) : Below k a b := ⟨h.os, h.tape, h.output, h.size, fun i hi => h.block i (Nat.lt_of_lt_of_le hi hk)⟩
theorem Wt.next {W w w' : World} {nv rv : Value} {p p' : Nat} (h : Wt W w nv rv p p') (hb : Below (W.heap.size + 4) w w') : Wt W w' nv rv p p' :=
  ⟨h.b.trans (below_le hb (by omega)), (hb.block _ (by omega)).trans h.x0, (hb.block _ (by omega)).trans h.x1, (hb.block _ (by omega)).trans h.x2, (hb.block _ (by omega)).trans h.x3⟩
theorem Wt.size {W w : World} {nv rv : Value} {p p' : Nat} (h : Wt W w nv rv p p') : W.heap.size + 4 ≤ w.heap.size := lt_of_block h.x3
theorem Wt.cells {W w : World} {nv rv : Value} {p p' : Nat} (h : Wt W w nv rv p p') : (w.cell? ⟨W.heap.size, 0, none⟩ = some (.pointer (some ⟨p, 0, none⟩)) ∧ w.cell? ⟨W.heap.size + 1, 0, none⟩ = some nv ∧ w.cell? ⟨W.heap.size + 2, 0, none⟩ = some (.pointer none) ∧ w.cell? ⟨W.heap.size + 3, 0, none⟩ = some (.pointer (some ⟨p', 0, none⟩))) ∧ w.frozen? ⟨W.heap.size + 2, 0, none⟩ = false ∧ w.frozen? ⟨W.heap.size + 3, 0, none⟩ = false := by
  refine ⟨⟨?_, ?_, ?_, ?_⟩, ?_, ?_⟩
  · simp [World.cell?, h.x0]
  · simp [World.cell?, h.x1]
  · simp [World.cell?, h.x2]
  · simp [World.cell?, h.x3]
  · simp [World.frozen?, h.x2]
  · simp [World.frozen?, h.x3]
theorem Wt.set {W w : World} {nv rv : Value} {p p' : Nat} (h : Wt W w nv rv p p') (p2 : Nat) : Wt W (w.setCell ⟨W.heap.size + 3, 0, none⟩ (.pointer (some ⟨p2, 0, none⟩))) nv rv p p2 :=
  ⟨h.b.setCell (p := ⟨W.heap.size + 3, 0, none⟩) (by simp) _, (Below.heap_setCell _ _ _ _ (by simp)).trans h.x0, (Below.heap_setCell _ _ _ _ (by simp)).trans h.x1, (Below.heap_setCell _ _ _ _ (by simp)).trans h.x2, heap_setCell_same w _ 0 _ _ _ h.x3⟩
theorem tb_base {w : World} {B B' p q : Nat} {v : Value} {l : List ByteArray} (h : Tb w B p v q l) (hB : B' ≤ B) : Tb w B' p v q l :=
  ⟨h.blk, Nat.le_trans hB h.base, n_own_base h.own hB, Nat.le_trans hB h.mbase, h.map, h.len, h.good, h.nodup⟩
theorem ptr_same {P : Program} (w : World) (d : Nat) (t : TypeId) {e : TypeId} {z : Nat} (h : P.underlying t = some (.pointer e)) (hz : ∀ w, (sizeOf e).run P w = .ok (z + 1) w) (a : Addr) : (Op.equalIn (d + 1) t (.pointer (some a)) (.pointer (some a))).run P w = .ok true w := by
  simp [Op.equalIn, run_underlying h, hz, run_sameAddr_same]
theorem ptr_other {P : Program} (w : World) (d : Nat) (t : TypeId) {e : TypeId} {z : Nat} (h : P.underlying t = some (.pointer e)) (hz : ∀ w, (sizeOf e).run P w = .ok (z + 1) w) {a b : Addr} {ca cb : Array Value} {ta tb : TypeId} (hne : a ≠ b) (ha : w.heap[a.block]? = some (.cells ca ta (0, 0))) (hb : w.heap[b.block]? = some (.cells cb tb (0, 0))) : (Op.equalIn (d + 1) t (.pointer (some a)) (.pointer (some b))).run P w = .ok false w := by
  simp [Op.equalIn, run_underlying h, hz, run_sameAddr_other w hne ha hb]
theorem tab_same (a : Addr) (w : World) : (Op.equalIn 10000 76 (.agg #[.pointer (some a)]) (.agg #[.pointer (some a)])).run Tryz.prog w = .ok true w := by
  have u3 := Tryz.underlying74
  have a3 := Tryz.isAgg74
  have z3 := Tryz.sizeOf74
  have hp := ptr_same w 9998 74 u3 Tryz.sizeOf162 a
  rw [show (9998 : Nat) + 1 = 9999 from rfl] at hp
  rw [show (10000 : Nat) = 9999 + 1 from rfl, run_equalIn_struct w 9999 76 _ _ (by kernel_rfl) (by kernel_rfl)]
  simp only [Program.fieldsOf, Tryz.underlying76]
  go_simp
theorem wt_copy {W wr w4 : World} {nv rv : Value} {p p' p4 q4 : Nat} {v4 : Value} {L : List ByteArray} (h : Wt W wr nv rv p p') (hb : Below wr.heap.size wr w4) (hT : Tb w4 wr.heap.size p4 v4 q4 L) :
    Wt W (w4.setCell ⟨W.heap.size + 3, 0, none⟩ (.pointer (some ⟨p4, 0, none⟩))) nv rv p p4 ∧ Tb (w4.setCell ⟨W.heap.size + 3, 0, none⟩ (.pointer (some ⟨p4, 0, none⟩))) (W.heap.size + 4) p4 v4 q4 L := by
  have hz := h.size
  refine ⟨(h.next (below_le hb hz)).set p4, tb_base (hT.keep (ks := [W.heap.size + 3]) ((n_Mod.refl _ w4).setCell (p := ⟨W.heap.size + 3, 0, none⟩) (Or.inl (by simp)) _) (fun k hk hf => ?_)) hz⟩
  have e : k = W.heap.size + 3 := by simpa using hk
  subst e
  rcases n_mem_foot.1 hf with e | e | e
  · have := hT.base
    omega
  · have := hT.mbase
    omega
  · have := (hT.row e).1
    omega
theorem wt_put {W w5 w6 w7 : World} {nv rv : Value} {p p5 q5 : Nat} {v5 v7 : Value} {L L' : List ByteArray} (h : Wt W w5 nv rv p p5) (hT : Tb w5 (W.heap.size + 4) p5 v5 q5 L) (hb : Below w5.heap.size w5 w6) (hU : n_Upd w6 w7 (W.heap.size + 4) p5 v5 q5 L' v7) : Wt W w7 nv rv p p5 ∧ Tb w7 (W.heap.size + 4) p5 v7 q5 L' := by
  have hz := h.size
  have h6 := h.next (below_le hb hz)
  exact ⟨h6.next (hU.below (hT.below hb) (by have := h6.size; omega)), hU.tb⟩
theorem ret_tabE {w : World} {fn : Func} {t s : Tmp} (hfn : fn.results = #[.cell t 76, .tmp s]) {tmps : Array Value} {q : Nat} {u0 v1 : Value} (h4 : tmps[t]?.getD undef = .pointer (some ⟨q, 0, none⟩)) (h5 : tmps[s]?.getD undef = v1) (hq : w.heap[q]? = some (.cells #[u0] 76)) : (results fn tmps).run Tryz.prog w = .ok (.tuple #[.agg #[u0], v1]) w := by
  have z0 : w.cell? ⟨q, 0, none⟩ = some u0 := by simp [World.cell?, hq]
  simp [results, hfn, go_sem, h4, h5, z0]
theorem size_nil {s : ByteArray} (h : s.toList = []) : s.size = 0 := by
  rw [ByteArray.toList_eq] at h
  have : s.data.size = 0 := by rw [← Array.length_toList, h]; rfl
  exact this
theorem good_nameC {N : Nat} {n : Nd} (h : goodNd N n = true) : n.name.size = 0 ∧ n.name.toList = [] ∨ n_goodS n.name = true := by
  unfold goodNd at h
  split at h
  · simp at h
    exact Or.inl ⟨size_nil h.1.1, h.1.1⟩
  · split at h
    · simp at h
      exact Or.inr h.1.1
    · split at h
      · simp at h
        exact Or.inl ⟨size_nil h.1.1.1, h.1.1.1⟩
      · split at h
        · simp only [Bool.and_eq_true] at h
          exact Or.inr h.1.1.1.1
        · simp at h
end Go.Proofs.YtlibjdilicfcdaaGreatDoor

namespace Go.Proofs.YtlibjdilicfcdaaGreatDoor
set_option maxRecDepth 100000
open Go.RowKit
section
variable {W : World} {B p q : Nat} {v : Value} {ns : List ByteArray}
set_option maxHeartbeats 8000000 in
theorem with_okG (hT : Tb W B p v q ns) (hB : B ≤ W.heap.size) {nv rv mv : Value} {g : Gf} {met : List Int} (hG : Gr W nv rv g) (hg : Good g) (hM : Ri W mv met) (hm : ∀ x ∈ met, 0 ≤ x ∧ x < (g.nodes.length : Int)) (hmm : met.length ≤ 100000) (hl : (wthJ ns g met met.length).length ≤ 1024) :
    Calls Tryz.prog 57 #[.agg #[.pointer (some ⟨p, 0, none⟩)], .agg #[nv, rv], mv] W fun e w' => (∃ p' v' q', e = .returned (.tuple #[.agg #[.pointer (some ⟨p', 0, none⟩)], .nilIface]) ∧ ((p' = p ∧ v' = v ∧ q' = q ∧ wthJ ns g met met.length = ns) ∨ Tb w' W.heap.size p' v' q' (wthJ ns g met met.length))) ∧ Below W.heap.size W w' := by
  have hstart : Hid (Wt W ((((W.alloc (.cells #[.pointer (some ⟨p, 0, none⟩)] 76)).alloc (.cells #[nv, rv] 25)).alloc (.cells #[.pointer none] 76)).alloc (.cells #[.pointer (some ⟨p, 0, none⟩)] 76)) nv rv p p) := by
    have b0 := below_alloc W (.cells #[.pointer (some ⟨p, 0, none⟩)] 76)
    have b1 := Below.next b0 (below_alloc _ (.cells #[nv, rv] 25))
    have b2 := Below.next b1 (below_alloc _ (.cells #[.pointer none] 76))
    have b3 := Below.next b2 (below_alloc _ (.cells #[.pointer (some ⟨p, 0, none⟩)] 76))
    obtain ⟨x0, x1, x2, x3⟩ := alloc4 W (.cells #[.pointer (some ⟨p, 0, none⟩)] 76) (.cells #[nv, rv] 25) (.cells #[.pointer none] 76) (.cells #[.pointer (some ⟨p, 0, none⟩)] 76)
    exact ⟨b3, x0, x1, x2, x3⟩
  have hpz := hT.lt
  have HT := hid hT
  have HG := hid hG
  have HM := hid hM
  have Hg := hid hg
  have Hm := hid hm
  obtain ⟨na, nc, rfl, _⟩ := hG.1
  obtain ⟨ma, mc, rfl, _⟩ := hM
  clear hG hg hm hT
  go_enter Tryz.func57, Tryz.ntmps57
  go_wp2
  go_loopw [10, 11, 12, 13, 14, 15, 19] (fun _ _ _ _ _ _ i wr => ∃ (j p' : Nat) (v' : Value) (q' : Nat), j ≤ met.length ∧ i = .int .i64 (j : Int) ∧ Hid (Wt W wr (.slice na g.nodes.length nc) rv p p') ∧ Hid ((p' = p ∧ v' = v ∧ q' = q ∧ wthJ ns g met j = ns) ∨ Tb wr (W.heap.size + 4) p' v' q' (wthJ ns g met j))) (fun _ _ _ _ _ _ i _ => met.length - (intOf i).toNat)
  case atStart => exact ⟨0, p, v, q, Nat.zero_le _, rfl, hstart, Or.inl ⟨rfl, rfl, rfl, rfl⟩⟩
  case round =>
    clear hstart
    obtain ⟨j, p', v', q', hj, rfl, HW, hor⟩ := hrel
    have hb := HW.out.b
    obtain ⟨⟨c0, c1, c2, c3⟩, f2, f3⟩ := HW.out.cells
    have hz := HW.out.size
    by_cases hlt : j < met.length
    · have hji : (j : Int) < (met.length : Int) := by omega
      obtain ⟨mb, mo, hma, m0⟩ := (HM.out.below hb).at hlt
      subst hma
      have zm := lt_of_cell m0
      have hmr := Hm.out _ (getD_mem hlt)
      have hst : Hid (wthJ ns g met (j + 1) = wth1 (wthJ ns g met j) (g.nodes.getD (met.getD j 0).toNat nd0).name) := rfl
      generalize met.getD j 0 = y at *
      obtain ⟨yn, rfl⟩ : ∃ yn : Nat, y = (yn : Int) := ⟨y.toNat, by omega⟩
      rw [Int.toNat_natCast] at hst
      have hyn : yn < g.nodes.length := by omega
      have hyi : (yn : Int) < (g.nodes.length : Int) := by omega
      obtain ⟨nb, no, aa, ac, hna, p0, p1, p2, p3⟩ := gr_nd HG.out hb hyn
      subst hna
      have zn := lt_of_cell p1
      have hnm := good_nameC (Hg.out.node (g.nodes.getD yn nd0) (by simp [List.getD, hyn]))
      generalize (g.nodes.getD yn nd0).name = s at *
      have hs : s.size ≤ 281474976710656 := by
        rcases hnm with h | h
        · omega
        · have := n_goodS_size h
          omega
      have hTc : Hid (Tb wr B p' v' q' (wthJ ns g met j)) := by
        rcases hor.out with ⟨rfl, rfl, rfl, e⟩ | h
        · rw [e]
          exact HT.out.below hb
        · exact tb_base h (by omega)
      have hfi := hid (find_any hTc.out s hs)
      have hLl := wthJ_len ns g met j
      clear p0 p2 p3 hmr
      by_cases hin : inL (wthJ ns g met j) s = true
      · have hst2 : Hid (wthJ ns g met (j + 1) = wthJ ns g met j) := show _ = _ by rw [hst.out]; unfold wth1; rw [if_pos (Or.inl hin)]
        rw [hin] at hfi
        generalize num (wthJ ns g met j) s = nn at *
        go_wp2_with (go_at_call 89; refine hfi.out.mono ?_; rintro e w3 ⟨rfl, hw⟩; replace hw := hw.symm; subst hw)
        go_roundw
        case rel => exact ⟨j + 1, p', v', q', by omega, by go_num, HW, by rw [hst2.out]; exact hor⟩
        case measure => simp [intOf]; omega
      · have hin' : inL (wthJ ns g met j) s = false := by simpa using hin
        rw [hin'] at hfi
        rcases hnm with ⟨hs0, hs1⟩ | hgs
        · have hst2 : Hid (wthJ ns g met (j + 1) = wthJ ns g met j) := show _ = _ by rw [hst.out]; unfold wth1; rw [if_pos (Or.inr hs0)]
          have d0 : (s.toList == []) = true := by simp [hs1]
          generalize num (wthJ ns g met j) s = nn at *
          go_wp2_with (go_at_call 89; refine hfi.out.mono ?_; rintro e w3 ⟨rfl, hw⟩; replace hw := hw.symm; subst hw)
          go_roundw
          case rel => exact ⟨j + 1, p', v', q', by omega, by go_num, HW, by rw [hst2.out]; exact hor⟩
          case measure => simp [intOf]; omega
        · have hs32 := n_goodS_size hgs
          have hst2 : Hid (wthJ ns g met (j + 1) = wthJ ns g met j ++ [s]) := show _ = _ by rw [hst.out]; unfold wth1; rw [if_neg (by rintro (h | h); exact hin h; omega)]
          have d0 : (s.toList == []) = false := by
            cases h : s.toList with
            | nil =>
              have := size_nil h
              omega
            | cons a r => rfl
          have hcl := hid (fun w => n_clone_any s w hs)
          have hL : (wthJ ns g met j).length < 1024 := by
            have h1 := wthJ_mono ns g met (j + 1) (met.length - (j + 1))
            rw [show j + 1 + (met.length - (j + 1)) = met.length by omega, hst2.out] at h1
            simp at h1
            omega
          generalize wthJ ns g met j = L at *
          generalize num L s = nn at *
          rcases hor.out with ⟨rfl, rfl, rfl, e⟩ | hTb
          · have hcp := hid (copy_any hTc.out)
            have e1 := tab_same ⟨p', 0, none⟩
            clear hor
            go_wp2_with (first
              | (go_at_call 89; refine hfi.out.mono ?_; rintro e w3 ⟨rfl, hw⟩; replace hw := hw.symm; subst hw)
              | (go_at_call 90; refine hcp.out.mono ?_; rintro e w4 ⟨p4, v4, q4, rfl, hT4, hb4⟩; have HC := hid (wt_copy HW.out hb4 hT4); have HW4 := hid (HW.out.next (below_le hb4 hz)); obtain ⟨⟨_, _, _, d3⟩, _, g3⟩ := HW4.out.cells; obtain ⟨⟨_, _, _, k3⟩, _, _⟩ := HC.out.1.cells; have HP := hid (fun w6 (hb6 : Below (w4.setCell ⟨W.heap.size + 3, 0, none⟩ (.pointer (some ⟨p4, 0, none⟩))).heap.size (w4.setCell ⟨W.heap.size + 3, 0, none⟩ (.pointer (some ⟨p4, 0, none⟩))) w6) => put_new (HC.out.2.below hb6) (by have := HC.out.1.size; have := hb6.size; omega) s hs hgs hin' hL); have z3 := hid HC.out.1.size; clear hT4 hb4))
            go_region_with (first
              | (go_at_call 80; refine (hcl.out _).mono ?_; rintro e w6 ⟨rfl, hb6⟩; have Hb6 := hid (Below.next (Below.refl _ _).drew hb6); obtain ⟨⟨_, _, _, k6⟩, _, _⟩ := (HC.out.1.next (below_le Hb6.out HC.out.1.size)).cells; clear hb6)
              | (go_at_call 91; refine (HP.out _ Hb6.out).mono ?_; rintro e w7 ⟨rfl, v7, hU, _⟩; have HU := hid (wt_put HC.out.1 HC.out.2 Hb6.out hU); clear hU))
            all_goals go_wp2
            all_goals
              go_roundw
              case rel => exact ⟨j + 1, p4, v7, q4, by omega, by go_num, hid HU.out.1, hid (Or.inr (by rw [hst2.out]; exact HU.out.2))⟩
              case measure => simp [intOf]; omega
          · have hne : (⟨p', 0, none⟩ : Addr) ≠ ⟨p, 0, none⟩ := fun e => by
              injection e with e _ _
              have := hTb.base
              omega
            have e1 := ptr_other (P := Tryz.prog) wr 9998 74 Tryz.underlying74 Tryz.sizeOf162 hne hTb.blk (HT.out.below hb).blk
            rw [show (9998 : Nat) + 1 = 9999 from rfl] at e1
            have HB := hid hTb
            have HP := hid (fun w6 (hb6 : Below wr.heap.size wr w6) => put_new (hTb.below hb6) (by have := hb6.size; omega) s hs hgs hin' hL)
            have Hz := hid hz
            clear hor hne hTb
            go_wp2_with (go_at_call 89; refine hfi.out.mono ?_; rintro e w3 ⟨rfl, hw⟩; replace hw := hw.symm; subst hw)
            go_region_with (first
              | (go_at_call 80; refine (hcl.out _).mono ?_; rintro e w6 ⟨rfl, hb6⟩; have Hb6 := hid (Below.next (Below.refl _ _).drew hb6); obtain ⟨⟨_, _, _, k6⟩, _, _⟩ := (HW.out.next (below_le Hb6.out Hz.out)).cells; clear hb6)
              | (go_at_call 91; refine (HP.out _ Hb6.out).mono ?_; rintro e w7 ⟨rfl, v7, hU, _⟩; have HU := hid (wt_put HW.out HB.out Hb6.out hU); clear hU))
            all_goals go_wp2
            all_goals
              go_roundw
              case rel => exact ⟨j + 1, p', v7, q', by omega, by go_num, hid HU.out.1, hid (Or.inr (by rw [hst2.out]; exact HU.out.2))⟩
              case measure => simp [intOf]; omega
    · obtain rfl : j = met.length := by omega
      go_wp2
      have HE := heap_setCell_same wr _ 0 _ _ (.pointer (some ⟨p', 0, none⟩)) HW.out.x2
      refine bodyPost_ret (ret_tabE Tryz.results57 (by rfl) (by rfl) HE) rfl ⟨⟨p', v', q', rfl, ?_⟩, hb.setCell (p := ⟨W.heap.size + 2, 0, none⟩) (by simp) _⟩
      rcases hor.out with h | h
      · exact Or.inl h
      · refine Or.inr (tb_base (h.keep (ks := [W.heap.size + 2]) ((n_Mod.refl _ wr).setCell (p := ⟨W.heap.size + 2, 0, none⟩) (Or.inl (by simp)) _) (fun k hk hf => ?_)) (by omega))
        have e : k = W.heap.size + 2 := by simpa using hk
        subst e
        rcases n_mem_foot.1 hf with e | e | e
        · have := h.base
          omega
        · have := h.mbase
          omega
        · have := (h.row e).1
          omega
end
end Go.Proofs.YtlibjdilicfcdaaGreatDoor
