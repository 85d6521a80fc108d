/- Package cells: the nodes of cells, as they are read. -/
import Derived.Test.YtlibjdilicfcdaaGreatDoornb29Z
namespace Go.Proofs.YtlibjdilicfcdaaGreatDoor
set_option maxRecDepth 100000
open Go.RowKit
structure Rg (w : World) (B rb hb : Nat) (tv : Value) (mq : Nat) (TS : List Int) : Prop where
  blk : w.heap[rb]? = some (.cells #[.pointer (some ⟨hb, 0, none⟩), tv, .map (some mq)] 136)
  base : B ≤ rb
  own : w.ownsRow B 123 1 tv TS.length (TS.map (Value.int .u64))
  mb : B ≤ mq
  map : ∃ D, w.ownsMap Tryz.prog 123 (plainElem Tryz.prog 3) mq TS.length D ∧ MapT TS D
  nodup : TS.Nodup
  rng : ∀ x ∈ TS, 0 ≤ x ∧ x ≤ 18446744073709551615
def r_foot (rb : Nat) (tv : Value) (mq : Nat) : List Nat := rb :: mq :: tv.ownBlock.toList
theorem r_mem_foot {rb mq k : Nat} {tv : Value} : k ∈ r_foot rb tv mq ↔ k = rb ∨ k = mq ∨ tv.ownBlock = some k := by simp [r_foot]
theorem mapU_keep {w w' : World} {q n : Nat} {D : DataW Unit} {ks : List Nat} (h : w.ownsMap Tryz.prog 123 (plainElem Tryz.prog 3) q n D) (hm : a_Mod ks w w') (hk : q ∉ ks) : w'.ownsMap Tryz.prog 123 (plainElem Tryz.prog 3) q n D := by
  obtain ⟨es, clock, hb, rest⟩ := h
  exact ⟨es, clock, by rw [hm.block q (lt_of_block hb) hk]; exact hb, rest⟩
section
variable {w w' : World} {B rb hb mq : Nat} {tv : Value} {TS : List Int}
theorem Rg.lt (h : Rg w B rb hb tv mq TS) : rb < w.heap.size ∧ mq < w.heap.size := by
  obtain ⟨D, ⟨es, clock, hq, _⟩, _⟩ := h.map
  exact ⟨lt_of_block h.blk, lt_of_block hq⟩
theorem Rg.ap (h : Rg w B rb hb tv mq TS) : rb ≠ mq ∧ tv.ownBlock ≠ some rb ∧ tv.ownBlock ≠ some mq := by
  obtain ⟨D, ⟨es, clock, hq, _⟩, _⟩ := h.map
  refine ⟨fun e => ?_, fun e => ?_, fun e => ?_⟩
  · subst e
    have := h.blk
    rw [hq] at this
    simp at this
  · obtain ⟨cur, hc⟩ := row_obj h.own e
    have := h.blk
    rw [hc] at this
    injection this with this
    injection this with _ this
    exact absurd this (by decide)
  · obtain ⟨cur, hc⟩ := row_obj h.own e
    rw [hq] at hc
    simp at hc
theorem Rg.keep {ks : List Nat} (h : Rg w B rb hb tv mq TS) (hm : a_Mod ks w w') (hk : ∀ k ∈ ks, k ∉ r_foot rb tv mq) : Rg w' B rb hb tv mq TS := by
  obtain ⟨D, hD, hO⟩ := h.map
  exact ⟨(hm.block rb h.lt.1 (fun hx => hk _ hx (r_mem_foot.2 (Or.inl rfl)))).trans h.blk, h.base, row_keep h.own (fun k hk2 => hm.block k (h.own.lt k hk2).2 (fun hx => hk _ hx (r_mem_foot.2 (Or.inr (Or.inr hk2))))), h.mb, ⟨D, mapU_keep hD hm (fun hx => hk _ hx (r_mem_foot.2 (Or.inr (Or.inl rfl)))), hO⟩, h.nodup, h.rng⟩
theorem Rg.below (h : Rg w B rb hb tv mq TS) (hb' : Below w.heap.size w w') : Rg w' B rb hb tv mq TS := h.keep (ks := []) (a_Mod.ofBelow hb') (fun _ hx => by cases hx)
theorem Rg.cells (h : Rg w B rb hb tv mq TS) : (w.cell? ⟨rb, 0, none⟩ = some (.pointer (some ⟨hb, 0, none⟩)) ∧ w.cell? ⟨rb, 1, none⟩ = some tv ∧ w.cell? ⟨rb, 2, none⟩ = some (.map (some mq))) ∧ w.frozen? ⟨rb, 1, none⟩ = false := by
  have e := h.blk
  refine ⟨⟨?_, ?_, ?_⟩, ?_⟩
  · simp [World.cell?, e]
  · simp [World.cell?, e]
  · simp [World.cell?, e]
  · simp [World.frozen?, e]
end
theorem Rg.push {w w3 w4 : World} {B rb hb mq g cap : Nat} {tv : Value} {TS : List Int} {t : Int} {o : Obj} {D : DataW Unit} (h : Rg w B rb hb tv mq TS) (hO : MapT TS D) (hD : w.ownsMap Tryz.prog 123 (plainElem Tryz.prog 3) mq TS.length D)
    (hm3 : w3.ownsMap Tryz.prog 123 (plainElem Tryz.prog 3) mq (TS.length + 1) (D.put (.int .u64 t) (.lit (.int .i64 (TS.length : Int))))) (hg3 : w.grownBy w3 (some mq))
    (hg4 : (w3.alloc o).grownBy w4 tv.ownBlock) (hown : w4.ownsRow B 123 1 (.slice (some ⟨g, 0, none⟩) (TS.length + 1) cap) (TS.length + 1) (TS.map (Value.int .u64) ++ [.int .u64 t]))
    (hat : tv.ownBlock = some g ∨ g = w3.heap.size + 1) (hn : t ∉ TS) (hr : 0 ≤ t ∧ t ≤ 18446744073709551615) :
    (w4.heap[rb]? = some (.cells #[.pointer (some ⟨hb, 0, none⟩), tv, .map (some mq)] 136)) ∧ Rg (w4.setCell ⟨rb, 1, none⟩ (.slice (some ⟨g, 0, none⟩) (TS.length + 1) cap)) B rb hb (.slice (some ⟨g, 0, none⟩) (TS.length + 1) cap) mq (TS ++ [t]) ∧ a_Mod (r_foot rb tv mq) w (w4.setCell ⟨rb, 1, none⟩ (.slice (some ⟨g, 0, none⟩) (TS.length + 1) cap)) ∧ (tv.ownBlock = some g ∨ w.heap.size ≤ g) := by
  obtain ⟨a1, a2, a3⟩ := h.ap
  obtain ⟨z1, z2⟩ := h.lt
  have hz3 := hg3.size
  have hM3 : a_Mod (r_foot rb tv mq) w w3 := (a_Mod.refl _ w).grown hg3 (fun k e => Or.inl (r_mem_foot.2 (Or.inr (Or.inl (by simpa using e.symm)))))
  have hM4 : a_Mod (r_foot rb tv mq) w w4 := (hM3.alloc o).grown hg4 (fun k e => Or.inl (r_mem_foot.2 (Or.inr (Or.inr e))))
  have hb4 : w4.heap[rb]? = some (.cells #[.pointer (some ⟨hb, 0, none⟩), tv, .map (some mq)] 136) := by
    rw [hg4.block rb (by simp; omega) (fun e => a2 e.symm), Below.heap_alloc _ _ _ (by omega), hg3.block rb z1 (fun e => a1 (by simpa using e))]
    exact h.blk
  have hgr : tv.ownBlock = some g ∨ w.heap.size ≤ g := by
    rcases hat with e | e
    · exact Or.inl e
    · exact Or.inr (by omega)
  have hgp : g ≠ rb ∧ g ≠ mq := by
    rcases hat with e | e
    · exact ⟨fun e2 => a2 (e2 ▸ e), fun e2 => a3 (e2 ▸ e)⟩
    · exact ⟨by omega, by omega⟩
  have hs : a_Mod [rb] w4 (w4.setCell ⟨rb, 1, none⟩ (.slice (some ⟨g, 0, none⟩) (TS.length + 1) cap)) := (a_Mod.refl [rb] w4).setCell (p := ⟨rb, 1, none⟩) (Or.inl (by simp)) _
  refine ⟨hb4, ⟨heap_setCell_same w4 rb 1 _ _ _ hb4, h.base, ?_, h.mb, ⟨_, ?_, mapT_put hO hD.isMap hn⟩, ?_, fun x hx => ?_⟩, hM4.setCell (p := ⟨rb, 1, none⟩) (Or.inl (r_mem_foot.2 (Or.inl rfl))) _, hgr⟩
  · rw [List.length_append, List.length_singleton, List.map_append]
    exact row_keep hown (fun k hk => hs.block k (hown.lt k hk).2 (fun hx => by
      have e : k = rb := by simpa using hx
      have e2 : g = k := by simpa [Value.ownBlock] using hk
      exact hgp.1 (e2.trans e)))
  · have h4 := ((hm3.alloc o).kept hg4 (fun e => a3 e.symm)).setCell (a := ⟨rb, 1, none⟩) (fun e => a1 e.symm) (.slice (some ⟨g, 0, none⟩) (TS.length + 1) cap)
    exact h4.mono (by simp)
  · have := addT_nodup (t := t) h.nodup
    unfold addT at this
    rw [if_neg hn] at this
    exact this
  · rcases List.mem_append.1 hx with hx | hx
    · exact h.rng x hx
    · simp at hx
      rw [hx]
      exact hr
end Go.Proofs.YtlibjdilicfcdaaGreatDoor

namespace Go.Proofs.YtlibjdilicfcdaaGreatDoor
set_option maxRecDepth 100000
open Go.RowKit Go.Maps
theorem trm_rng {l : List Int} {V : Nat → Bool} (h : Snd l V) (hl : l.length ≤ 65536) {k : Nat} (hk : k < l.length) : 0 ≤ trmW l k ∧ trmW l k ≤ 18446744073709551615 := by
  obtain ⟨j, hj, e, e2⟩ := trm_ends h _ k hk (Nat.le_refl _)
  rw [e2]
  unfold endW
  split
  · obtain ⟨_, _, s3, s4⟩ := word_str (j := j) (by omega)
    exact ⟨s3, s4⟩
  · exact h.rng (wdN l j) (by unfold wdN; simp [List.getD, hj])
theorem lit_inj {a b : Int} (h : (DataW.lit (.int .i64 a) : DataW Unit) = .lit (.int .i64 b)) : a = b := by
  injection h with h
  injection h
theorem rg_out {w : World} {B B' rb hb mq n : Nat} {tv v : Value} {TS : List Int} {xs : List Value} (h : Rg w B rb hb tv mq TS) (ho : w.ownsRow B' 3 1 v n xs) : ∀ k, v.ownBlock = some k → k ∉ r_foot rb tv mq := fun k hk hf => by
  obtain ⟨cur, hc⟩ := row_obj ho hk
  rcases r_mem_foot.1 hf with e | e | e
  · subst e
    have := h.blk
    rw [hc] at this
    injection this with this
    injection this with _ this
    exact absurd this (by decide)
  · subst e
    obtain ⟨D, ⟨es, clock, hq, _⟩, _⟩ := h.map
    rw [hq] at hc
    simp at hc
  · obtain ⟨cur2, hc2⟩ := row_obj h.own e
    rw [hc] at hc2
    injection hc2 with hc2
    injection hc2 with _ hc2
    exact absurd hc2 (by decide)
theorem rg_grow {W w w6 : World} {B rb hb mq n : Nat} {tv0 tv v : Value} {TS : List Int} {xs : List Value} {o : Obj} (hm : a_Mod (r_foot rb tv0 mq) W w) (h : Rg w B rb hb tv mq TS) (ho : w.ownsRow W.heap.size 3 1 v n xs) (hg : (w.alloc o).grownBy w6 v.ownBlock) : a_Mod (r_foot rb tv0 mq) W w6 ∧ Rg w6 B rb hb tv mq TS :=
  ⟨(hm.alloc o).grown hg (fun k e => Or.inr (ho.lt k e).1), h.keep (grown_mod hg) (fun k hk => rg_out h ho k (by simpa using hk))⟩
theorem rg_mod {W w w' : World} {rb mq : Nat} {tv0 tv : Value} (hm : a_Mod (r_foot rb tv0 mq) W w) (hn : a_Nx W tv0 tv) (h : a_Mod (r_foot rb tv mq) w w') : a_Mod (r_foot rb tv0 mq) W w' := hm.trans h (fun x hx => by
  rcases r_mem_foot.1 hx with e | e | e
  · exact Or.inl (r_mem_foot.2 (Or.inl e))
  · exact Or.inl (r_mem_foot.2 (Or.inr (Or.inl e)))
  · rcases hn x e with e | e
    · exact Or.inl (r_mem_foot.2 (Or.inr (Or.inr e)))
    · exact Or.inr e)
theorem rd_cells {w : World} {q : Nat} {u0 u1 u2 : Value} {T : TypeId} (h : w.heap[q]? = some (.cells #[u0, u1, u2] T)) : (w.cell? ⟨q, 0, none⟩ = some u0 ∧ w.cell? ⟨q, 1, none⟩ = some u1 ∧ w.cell? ⟨q, 2, none⟩ = some u2) ∧ w.frozen? ⟨q, 1, none⟩ = false ∧ q < w.heap.size := by
  refine ⟨⟨?_, ?_, ?_⟩, ?_, lt_of_block h⟩ <;> simp [World.cell?, World.frozen?, h]
theorem nx_push {W w2 : World} {tv tv' : Value} {g n cap : Nat} (h : a_Nx W tv tv') (hg : tv'.ownBlock = some g ∨ w2.heap.size ≤ g) (hz : W.heap.size ≤ w2.heap.size) : a_Nx W tv (.slice (some ⟨g, 0, none⟩) n cap) := fun k hk => by
  have e : g = k := by simpa [Value.ownBlock] using hk
  subst e
  rcases hg with e | e
  · exact h g e
  · exact Or.inr (by omega)
theorem alloc_set_new (w : World) (p : Addr) (v : Value) (o : Obj) : ((w.setCell p v).alloc o).heap[w.heap.size]? = some o := by
  have h := heap_alloc_new (w.setCell p v) o
  rw [show (w.setCell p v).heap.size = w.heap.size by simp] at h
  exact h
theorem rg_new {W w w3 w4 : World} {B rb hb mq g cap N : Nat} {tv0 tv ov : Value} {TS : List Int} {t : Int} {o : Obj} {D : DataW Unit} {xs : List Value} (hm : a_Mod (r_foot rb tv0 mq) W w) (hx : a_Nx W tv0 tv) (ho : w.ownsRow W.heap.size 3 1 ov N xs) (h : Rg w B rb hb tv mq TS) (hO : MapT TS D) (hD : w.ownsMap Tryz.prog 123 (plainElem Tryz.prog 3) mq TS.length D)
    (hm3 : w3.ownsMap Tryz.prog 123 (plainElem Tryz.prog 3) mq (TS.length + 1) (D.put (.int .u64 t) (.lit (.int .i64 (TS.length : Int))))) (hg3 : w.grownBy w3 (some mq))
    (hg4 : (w3.alloc o).grownBy w4 tv.ownBlock) (hown : w4.ownsRow B 123 1 (.slice (some ⟨g, 0, none⟩) (TS.length + 1) cap) (TS.length + 1) (TS.map (Value.int .u64) ++ [.int .u64 t]))
    (hat : tv.ownBlock = some g ∨ g = w3.heap.size + 1) (hn : t ∉ TS) (hr : 0 ≤ t ∧ t ≤ 18446744073709551615) :
    (w4.heap[rb]? = some (.cells #[.pointer (some ⟨hb, 0, none⟩), tv, .map (some mq)] 136)) ∧ Rg (w4.setCell ⟨rb, 1, none⟩ (.slice (some ⟨g, 0, none⟩) (TS.length + 1) cap)) B rb hb (.slice (some ⟨g, 0, none⟩) (TS.length + 1) cap) mq (TS ++ [t]) ∧ a_Mod (r_foot rb tv0 mq) W (w4.setCell ⟨rb, 1, none⟩ (.slice (some ⟨g, 0, none⟩) (TS.length + 1) cap)) ∧ a_Nx W tv0 (.slice (some ⟨g, 0, none⟩) (TS.length + 1) cap) ∧ (w4.setCell ⟨rb, 1, none⟩ (.slice (some ⟨g, 0, none⟩) (TS.length + 1) cap)).ownsRow W.heap.size 3 1 ov N xs := by
  obtain ⟨pb, pR, pM, pN⟩ := Rg.push h hO hD hm3 hg3 hg4 hown hat hn hr
  exact ⟨pb, pR, rg_mod hm hx pM, nx_push hx pN hm.size, row_keep ho (fun q hq => pM.block q (ho.lt q hq).2 (rg_out h ho q hq))⟩
section
variable {W : World} {B rb hb mq : Nat} {tv : Value} {TS : List Int} {Bh ab tb : Nat} {m : Int} {av : Value} {l : List Int} {htv : Value} {tq : Nat} {ns : List ByteArray} {trv ptv : Value} {n : Int} {V : Nat → Bool}
set_option maxHeartbeats 16000000 in
theorem nodes_any (hR : Rg W B rb hb tv mq TS) (hB : B ≤ W.heap.size) (HHk : ∀ w', a_Mod (r_foot rb tv mq) W w' → Hp w' Bh hb ab tb m av l htv tq ns trv ptv n) (hs : Snd l V) {cv : Value} {cs : List Int} (hCk : ∀ w', a_Mod (r_foot rb tv mq) W w' → Ri w' cv cs) (hcs : ∀ x ∈ cs, 0 ≤ x ∧ x < (l.length : Int)) (hl : cs.length ≤ 5000) (hTl : TS.length ≤ 70000) :
    Calls Tryz.prog 71 #[.pointer (some ⟨rb, 0, none⟩), cv] W fun e w' => ∃ ao c tv', e = .returned (.slice ao cs.length c) ∧ w'.ownsRow W.heap.size 3 1 (.slice ao cs.length c) cs.length ((cs.map (fun c => posF (addsJ l cs TS cs.length) (tmC l c))).map (Value.int .i64)) ∧ Rg w' B rb hb tv' mq (addsJ l cs TS cs.length) ∧ a_Mod (r_foot rb tv mq) W w' ∧ a_Nx W tv tv' := by
  obtain ⟨i0, hi, hz0, hz1, hz2⟩ := info_parts infoI
  obtain ⟨i2, hi2, hy0, hy1, hy2⟩ := info_parts Tryz.infoU
  have hl6 : l.length ≤ 65536 := by
    have h1 := (HHk W (a_Mod.refl _ _)).ar.len
    have h2 := (HHk W (a_Mod.refl _ _)).ar.m2
    omega
  have HR := hid hR
  have HHK := hid HHk
  have HS := hid hs
  have HCk := hid hCk
  have Hcs := hid hcs
  obtain ⟨ca, cc, rfl, _⟩ := hCk W (a_Mod.refl _ _)
  have hal : Hid (∀ j, (addsJ l cs TS j).length ≤ TS.length + j) := adds_len
  clear hR HHk hs hCk hcs
  go_enter Tryz.func71, Tryz.ntmps71
  go_wp2
  go_loopw [5, 7, 8, 9, 10, 13] (fun o _ _ _ _ i wr => ∃ (j : Nat) (ao : Option Addr) (c : Nat) (tv' : Value), j ≤ cs.length ∧ i = .int .i64 (j : Int) ∧ o = .slice ao j c ∧ Hid (a_Mod (r_foot rb tv mq) W wr) ∧ Hid (Rg wr B rb hb tv' mq (addsJ l cs TS j)) ∧ Hid (a_Nx W tv tv') ∧ Hid (wr.ownsRow W.heap.size 3 1 (.slice ao j c) j ((outJ l cs TS j).map (Value.int .i64)))) (fun _ _ _ _ _ i _ => cs.length - (intOf i).toNat)
  case atStart => exact ⟨0, none, 0, tv, Nat.zero_le _, rfl, rfl, a_Mod.refl _ _, HR, a_Nx.refl _ _, World.ownsRow_nil _ _ _ _⟩
  case round =>
    clear HR
    obtain ⟨j, ao, c, tv', hj, rfl, rfl, hm, hR, hN, hO⟩ := hrel
    by_cases hlt : j < cs.length
    · have hji : (j : Int) < (cs.length : Int) := by omega
      obtain ⟨mb, mo, hma, m0⟩ := (HCk.out wr hm.out).at hlt
      have zm := lt_of_cell m0
      have hmr := Hcs.out _ (getD_mem hlt)
      have hst : Hid (addsJ l cs TS (j + 1) = addT (addsJ l cs TS j) (tmC l (cs.getD j 0))) := rfl
      have hos : Hid (outJ l cs TS (j + 1) = outJ l cs TS j ++ [posF (addsJ l cs TS (j + 1)) (tmC l (cs.getD j 0))]) := out_succ j
      have hTj := hal.out j
      subst hma
      generalize cs.getD j 0 = y at *
      obtain ⟨yn, rfl⟩ : ∃ yn : Nat, y = (yn : Int) := ⟨y.toNat, by omega⟩
      have hyn : yn < l.length := by omega
      have hHp := HHK.out wr hm.out
      obtain ⟨⟨h0, _⟩, zh⟩ := hHp.cells
      obtain ⟨⟨r0, r1, r2⟩, rf⟩ := hR.out.cells
      have zr := hR.out.lt.1
      have htr := hid (fun w1 (hbb : Below wr.heap.size wr w1) => term_any (hHp.below hbb).ar HS.out yn hyn)
      have hrt := trm_rng HS.out hl6 hyn
      rw [show tmC l (yn : Int) = trmW l yn from rfl] at hst hos
      generalize trmW l yn = t at *
      have hkey := keyOf_int_mk (P := Tryz.prog) Tryz.underlying123 (WalkArith.wf_u64 hrt)
      obtain ⟨D, hD, hMT⟩ := hR.out.map
      have h1 := hMT.1 t
      have HD := hid hD
      have HMT := hid hMT
      generalize addsJ l cs TS j = TJ at *
      clear hmr hHp hD hMT
      by_cases hin : t ∈ TJ
      · have e1 : addsJ l cs TS (j + 1) = TJ := by rw [hst.out]; unfold addT; rw [if_pos hin]
        rw [e1] at hos
        have HE1 := hid e1
        rw [decide_eq_true hin] at h1
        have h2 := HMT.out.2 t hin
        generalize posF TJ t = P at *
        clear e1 hst hin
        go_wp2_with (first
          | (go_at_call 110; refine (htr.out _ (Below.refl _ _)).mono ?_; rintro e w2 ⟨rfl, hb2⟩; have Hb2 := hid hb2; have HR2 := hid (hR.out.below hb2); have HO2 := hid (row_keep hO.out (fun q hq => hb2.block q (hO.out.lt q hq).2)); have HM2 := hid (rg_mod hm.out hN.out (a_Mod.ofBelow hb2)); obtain ⟨⟨s0, s1, s2⟩, sf⟩ := HR2.out.cells; have zs := HR2.out.lt.1; have hD2 := mapU_keep (ks := []) HD.out (a_Mod.ofBelow hb2) (by simp); have hO1 := World.ownsRow.alloc HO2.out (.cells #[.int .i64 P] 3); have hzw : W.heap.size ≤ w2.heap.size := HM2.out.size; clear hb2)
          | (at_lookup; refine wpList_lookup_own_ok_int _ rfl _ _ 134 rfl 123 3 .i64 (int_keyed Tryz.underlying123) Tryz.underlying134 Tryz.underlying3 (n_zeroInt _) mq _ D rfl hD2 _ _ rfl hkey ?_; intro cz hat hwc; rw [h2] at hat; obtain rfl := lit_inj hat; clear hat)
          | (at_builtin; go_must (refine wpList_append_lies _ rfl _ _ 23 rfl W.heap.size 3 i0 (.int .i64 0) 1 8 Tryz.underlying23 hi hz0 hz1 hz2 rfl (by decide) _ j _ rfl hO1 ⟨w2.heap.size, 0, none⟩ 1 1 [.int .i64 P] rfl rfl (World.news_of_block (cs := #[.int .i64 P]) (t := 3) (fr := (0, 0)) (heap_alloc_new w2 _)) (by simp [Value.oneCell']) (by decide) (by unfold maxLen; omega) (by omega) (by simp; omega) _ rfl ?_; intro g6 cap w6 hown6 hg6 hat6 hlt6)))
        have HG := hid (rg_grow HM2.out HR2.out HO2.out hg6)
        go_roundw
        case rel => exact ⟨j + 1, some ⟨g6, 0, none⟩, cap, tv', by omega, by go_num, rfl, hid HG.out.1, (by rw [HE1.out]; exact hid HG.out.2), hN, (show World.ownsRow _ _ _ _ _ _ _ by rw [hos.out, List.map_append]; exact hown6)⟩
        case measure => simp [intOf]; omega
      · have e1 : addsJ l cs TS (j + 1) = TJ ++ [t] := by rw [hst.out]; unfold addT; rw [if_neg hin]
        have e2 : posF (TJ ++ [t]) t = (TJ.length : Int) := by rw [posF_snoc hin, if_pos rfl]
        rw [e1, e2] at hos
        have HE1 := hid e1
        rw [decide_eq_false hin] at h1
        have Hin := hid hin
        have Hrt := hid hrt
        obtain ⟨ta, tc, htv'⟩ : ∃ ta tc, tv' = .slice ta TJ.length tc := by
          rcases hR.out.own.2 with ⟨e, hn0⟩ | ⟨g, cap, cur, e, _⟩
          · exact ⟨none, 0, by rw [e, hn0]⟩
          · exact ⟨_, cap, e⟩
        subst htv'
        have hwn : (Lit.int .i64 (TJ.length : Int)).wf = true := WalkArith.wf_i64 (by omega)
        obtain ⟨ap1, ap2, ap3⟩ := hR.out.ap
        have Hap := hid ap1
        have Hap3 := hid ap3
        have Hap2 := hid ap2
        clear e1 e2 hst hin ap1 ap2 ap3 hrt
        go_wp2_with (first
          | (go_at_call 110; refine (htr.out _ (Below.refl _ _)).mono ?_; rintro e w2 ⟨rfl, hb2⟩; have Hb2 := hid hb2; have HR2 := hid (hR.out.below hb2); have HO2 := hid (row_keep hO.out (fun q hq => hb2.block q (hO.out.lt q hq).2)); have HM2 := hid (rg_mod hm.out hN.out (a_Mod.ofBelow hb2)); obtain ⟨⟨s0, s1, s2⟩, sf⟩ := HR2.out.cells; have zs := HR2.out.lt.1; have hD2 := mapU_keep (ks := []) HD.out (a_Mod.ofBelow hb2) (by simp); have HD2 := hid hD2; have hzw : W.heap.size ≤ w2.heap.size := HM2.out.size; clear hb2)
          | (at_lookup; refine wpList_lookup_own_ok_int _ rfl _ _ 134 rfl 123 3 .i64 (int_keyed Tryz.underlying123) Tryz.underlying134 Tryz.underlying3 (n_zeroInt _) mq _ D rfl hD2 _ _ rfl hkey ?_; intro cz hat hwc; clear hat)
          | (at_mapUpdate; refine wpList_mapUpdate_own _ rfl _ _ _ 134 rfl 123 3 (int_keyed Tryz.underlying123) Tryz.underlying134 _ mq TJ.length _ rfl hD2 (by unfold maxLen; omega) _ _ _ rfl rfl hkey _ [] (plainElem_int Tryz.underlying3 hwn) ?_; intro w3 hD3 hg3; have HD3 := hid hD3; have HG3 := hid hg3; obtain ⟨⟨x0, x1, x2⟩, xf, xz⟩ := rd_cells ((hg3.block rb HR2.out.lt.1 (fun e => Hap.out (by simpa using e))).trans HR2.out.blk); have hT1 := World.ownsRow.alloc (row_keep HR2.out.own (fun q hq => hg3.block q (HR2.out.own.lt q hq).2 (fun e => Hap3.out (by rw [hq]; exact e)))) (.cells #[.int .u64 t] 123); have hz3 : w2.heap.size ≤ w3.heap.size := hg3.size; clear hD3 hg3 hD2 s0 s1 s2 sf)
          | (at_builtin; have _m := hT1; go_must (refine wpList_append_lies _ rfl _ _ 93 rfl B 123 i2 (.int .u64 0) 1 8 Tryz.underlying93 hi2 hy0 hy1 hy2 rfl (by decide) _ TJ.length _ rfl hT1 ⟨w3.heap.size, 0, none⟩ 1 1 [.int .u64 t] rfl rfl (World.news_of_block (cs := #[.int .u64 t]) (t := 123) (fr := (0, 0)) (heap_alloc_new w3 _)) (by simp [Value.oneCell']) (by decide) (by unfold maxLen; omega) (by omega) (by simp; omega) (w3.heap.size + 1) (by simp) ?_; intro g4 cap4 w4 hown4 hg4 hat4 hlt4; obtain ⟨pb, pR, pM, pN, pO⟩ := rg_new HM2.out hN.out HO2.out HR2.out HMT.out HD2.out HD3.out HG3.out hg4 hown4 hat4 Hin.out Hrt.out; obtain ⟨⟨x0, x1, x2⟩, xf, xz⟩ := rd_cells pb; have HR5 := hid pR; have HM5 := hid pM; have HN5 := hid pN; have HO5 := hid pO; have hO1 := World.ownsRow.alloc pO (.cells #[.int .i64 (TJ.length : Int)] 3); have hz5 := pM.size; clear pb pR pM pN pO hown4 hg4 hat4 hT1 _m))
          | (at_builtin; go_must (refine wpList_append_lies _ rfl _ _ 23 rfl W.heap.size 3 i0 (.int .i64 0) 1 8 Tryz.underlying23 hi hz0 hz1 hz2 rfl (by decide) _ j _ rfl hO1 ⟨w4.heap.size, 0, none⟩ 1 1 [.int .i64 (TJ.length : Int)] rfl rfl (World.news_of_block (cs := #[.int .i64 (TJ.length : Int)]) (t := 3) (fr := (0, 0)) (alloc_set_new _ _ _ _)) (by simp [Value.oneCell']) (by decide) (by unfold maxLen; omega) (by omega) (by simp at hz5 ⊢; omega) _ rfl ?_; intro g6 cap w6 hown6 hg6 hat6 hlt6)))
        have HG := hid (rg_grow HM5.out HR5.out HO5.out hg6)
        go_roundw
        case rel => exact ⟨j + 1, some ⟨g6, 0, none⟩, cap, _, by omega, by go_num, rfl, hid HG.out.1, (by rw [HE1.out]; exact hid HG.out.2), HN5, (show World.ownsRow _ _ _ _ _ _ _ by rw [hos.out, List.map_append]; exact hown6)⟩
        case measure => simp [intOf]; omega
    · obtain rfl : j = cs.length := by omega
      rw [out_all] at hO
      go_wp2
      go_ret
      exact ⟨ao, c, tv', rfl, hO.out, hR.out, hm.out, hN.out⟩
end
end Go.Proofs.YtlibjdilicfcdaaGreatDoor
