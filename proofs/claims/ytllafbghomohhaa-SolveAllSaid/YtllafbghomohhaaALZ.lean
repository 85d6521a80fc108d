/- hanging of package solve's merge. -/
import Derived.Test.YtllafbghomohhaaAFZ
import Derived.Test.YtllafbghomohhaaAIZ
import Derived.Test.YtllafbghomohhaaAKZ
import Derived.BigQuiet
import Derived.Test.YtllafbghomohhaaAGZ
import Derived.Test.YtllafbghomohhaaAJZ
namespace Go.Proofs.Ytllafbghomohhaa
open Go.RowKit

/-- How many of the first j nodes a node stands for. -/
def cntN (E : Nat → Nat) (m : Nat) : Nat → Nat
  | 0 => 0
  | j + 1 => cntN E m j + if E j = m then 1 else 0
theorem cntN_le (E : Nat → Nat) (m : Nat) : ∀ j, cntN E m j ≤ j
  | 0 => Nat.le_refl _
  | j + 1 => by
    have := cntN_le E m j
    unfold cntN
    split <;> omega
def cntL (E : Nat → Nat) (N j : Nat) : List Nat := (List.range N).map (fun m => cntN E m j)
theorem cntL_len (E : Nat → Nat) (N j : Nat) : (cntL E N j).length = N := by simp [cntL]
theorem cntL_get {E : Nat → Nat} {N j m : Nat} (h : m < N) : (cntL E N j).getD m 0 = cntN E m j := by simp [cntL, List.getD, h]
theorem cntL_zero (E : Nat → Nat) (N : Nat) : (ints (cntL E N 0)).map (Value.int .i64) = List.replicate N (.int .i64 0) := by
  apply List.ext_getElem?
  intro i
  by_cases h : i < N
  · simp [ints, cntL, cntN, h]
  · simp [ints, cntL, h]
theorem cntL_step {E : Nat → Nat} {N j : Nat} (h : E j < N) : (cntL E N j).set (E j) (cntN E (E j) j + 1) = cntL E N (j + 1) := by
  apply List.ext_getElem?
  intro i
  by_cases hi : i < N
  · by_cases e : i = E j
    · subst e
      rw [List.getElem?_set_self (by rw [cntL_len]; exact h)]
      simp [cntL, cntN, h]
    · rw [List.getElem?_set_ne (fun h => e h.symm)]
      have : ¬ E j = i := fun h => e h.symm
      simp [cntL, cntN, hi, this]
  · rw [List.getElem?_eq_none (by rw [List.length_set, cntL_len]; omega), List.getElem?_eq_none (by rw [cntL_len]; omega)]
/-- The variables that stand not for themselves alone, among the first. -/
def hangF (ns : List Nd) (E : Nat → Nat) : Nat → List Nat
  | 0 => []
  | j + 1 => hangF ns E j ++ if (ndN ns j).kind = 1 ∧ 1 < cntN E (E j) ns.length then [j] else []
theorem hangF_le (ns : List Nd) (E : Nat → Nat) : ∀ j, (hangF ns E j).length ≤ j
  | 0 => Nat.le_refl _
  | j + 1 => by
    have := hangF_le ns E j
    unfold hangF
    rw [List.length_append]
    split <;> simp <;> omega
theorem row_mo {wr w5 : World} {S : Nat} {lv : Value} (hz : ∀ k, lv.ownBlock = some k → k < S) (hm : Mo (fun k => lv.ownBlock = some k) wr w5) {e : TypeId} {z : Nat} {v : Value} {n : Nat} {xs : List Value} (ho : wr.ownsRow S e z v n xs) : w5.ownsRow S e z v n xs :=
  row_keep ho (fun k hk => hm.block k (ho.lt k hk).2 (fun e => by have h1 := hz k e; have h2 := (ho.lt k hk).1; omega))
set_option maxRecDepth 100000 in
set_option maxHeartbeats 8000000 in
theorem shang_any {W0 w : World} {mb : Nat} {nv lv : Value} {ns : List Nd} {L : List Nat} {E : Nat → Nat} (h : Mg W0 w mb nv lv ns L) (hE : Ld L E) (hN : ns.length ≤ 10000) :
    Calls Try.prog 33 #[.pointer (some ⟨mb, 0, none⟩)] w fun e w' => (∃ ao c, e = .returned (.slice ao (hangF ns E ns.length).length c) ∧ w'.ownsRow w.heap.size 3 1 (.slice ao (hangF ns E ns.length).length c) (hangF ns E ns.length).length ((ints (hangF ns E ns.length)).map (Value.int .i64))) ∧ MgL W0 w w' mb nv lv ns E := by
  obtain ⟨i0, hi, hz0, hz1, hz2⟩ := info_parts infoI
  have hkl : Hid (mb < w.heap.size ∧ ∀ k, lv.ownBlock = some k → k < w.heap.size) := ⟨lt_of_block h.blk, fun k hk => (h.l.lt k hk).2⟩
  have hW0 : Hid (W0.heap.size ≤ w.heap.size) := h.bel.size
  have HN := hid (fun x (hx : x < ns.length) => h.node hx)
  have hEr : Hid (∀ x, x < ns.length → E x < ns.length) := fun x hx => by rw [← h.ll]; exact hE.erng x (by rw [h.ll]; exact hx)
  have hS0 : Hid (MgL W0 w w mb nv lv ns E) := ⟨L, h, hE, Mo.refl _ _⟩
  obtain ⟨na, nc, rfl, _⟩ := h.nd
  obtain ⟨⟨k0, k1⟩, _⟩ := blk2y h.blk
  have hzm := lt_of_block h.blk
  clear h hE
  go_enter Try.func33, Try.ntmps33
  go_wp2_with (at_make; refine wpList_make_full _ rfl _ _ 23 rfl w.heap.size 3 i0 (.int .i64 0) 1 Try.underlying23 hi hz0 hz1 .i64 .i64 _ _ ns.length rfl rfl rfl rfl (by rw [hz2]; omega) (by unfold maxLen; omega) (Nat.le_refl _) ?_; intro w1 hown1 hgrow1; have hb1 := hid ((Below.refl w.heap.size w).grown hgrow1 (Nat.le_refl _) (fun _ e => by cases e)); have ho1 := hid hown1; have hs1 := (hown1.lt w.heap.size rfl).2; have hm1 := (hb1.out.block mb hkl.out.1); have q0 : w1.cell? ⟨mb, 0, none⟩ = some (.slice na ns.length nc) := (hb1.out.cell (p := ⟨mb, 0, none⟩) hkl.out.1).trans k0; have hzq := lt_of_cell q0; clear hown1 hgrow1 hm1)
  have hR0 : Hid (w1.ownsRow w.heap.size 3 1 (.slice (some ⟨w.heap.size, 0, none⟩) ns.length ns.length) ns.length ((ints (cntL E ns.length 0)).map (Value.int .i64))) := by
    have h9 := ho1.out
    rw [show (madeCells (Value.int .i64 0).cells (ns.length * 1)).toList = List.replicate ns.length (.int .i64 0) by rw [Nat.mul_one]; simp [Value.cells, toList_madeCells_one]] at h9
    rw [cntL_zero]
    exact h9
  have hS1 : Hid (MgL W0 w w1 mb (.slice na ns.length nc) lv ns E) := MgL.far hkl.out hW0.out hS0.out hb1.out
  clear ho1 hS0 hb1 k0 k1
  go_loopw [19] (fun i wr => ∃ j : Nat, j ≤ ns.length ∧ i = .int .i64 (j : Int) ∧ Hid (MgL W0 w wr mb (.slice na ns.length nc) lv ns E) ∧ Hid (wr.ownsRow w.heap.size 3 1 (.slice (some ⟨w.heap.size, 0, none⟩) ns.length ns.length) ns.length ((ints (cntL E ns.length j)).map (Value.int .i64)))) (fun i _ => ns.length - (intOf i).toNat)
  case atStart => exact ⟨0, Nat.zero_le _, rfl, hS1, hR0⟩
  case round =>
    clear hS1 hR0
    obtain ⟨j, hj, rfl, hS, hR⟩ := hrel
    by_cases hlt : j < ns.length
    · have hji : (j : Int) < (ns.length : Int) := by omega
      obtain ⟨L1, hm1, hl1⟩ := hS.out.mg
      have hcall := hid (send_any hm1 hl1 j hlt)
      have hEj := hEr.out j hlt
      have hEji : ((E j : Nat) : Int) < (ns.length : Int) := by omega
      have hcl := cntN_le E (E j) j
      have hnx : Hid (∀ w5, MgL W0 wr w5 mb (.slice na ns.length nc) lv ns E → (w5.cell? ⟨w.heap.size, E j, none⟩ = some (.int .i64 ((cntN E (E j) j : Nat) : Int)) ∧ w5.frozen? ⟨w.heap.size, E j, none⟩ = false ∧ w.heap.size < w5.heap.size) ∧ MgL W0 w (w5.setCell ⟨w.heap.size, E j, none⟩ (.int .i64 ((cntN E (E j) j : Nat) + 1 : Int))) mb (.slice na ns.length nc) lv ns E ∧ (w5.setCell ⟨w.heap.size, E j, none⟩ (.int .i64 ((cntN E (E j) j : Nat) + 1 : Int))).ownsRow w.heap.size 3 1 (.slice (some ⟨w.heap.size, 0, none⟩) ns.length ns.length) ns.length ((ints (cntL E ns.length (j + 1))).map (Value.int .i64))) := fun w5 hL5 => by
        have hR5 := row_mo hkl.out.2 hL5.mo hR.out
        have hc : w5.cell? ⟨w.heap.size, E j, none⟩ = some (.int .i64 ((cntN E (E j) j : Nat) : Int)) := by
          rw [hR5.cellAt (E j) (by omega), ints_at (by rw [cntL_len]; exact hEj), cntL_get hEj]
        refine ⟨⟨hc, hR5.frozenAt (E j), lt_of_cell hc⟩, MgL.far hkl.out hW0.out (MgL.trans hS.out.mo hL5) ((Below.refl _ _).setCell (p := ⟨w.heap.size, E j, none⟩) (Nat.le_refl _) _), ?_⟩
        have h2 := (World.ownsRow.stored hR5 (E j) (.int .i64 ((cntN E (E j) j + 1 : Nat) : Int))).1
        rw [ints_set, cntL_step hEj] at h2
        rw [Int.natCast_add] at h2
        exact h2
      clear hS hR hm1 hl1
      generalize cntN E (E j) j = cn at *
      go_wp2_with (go_at_call 55; refine hcall.out.mono ?_; rintro e w5 ⟨rfl, hL5⟩; obtain ⟨⟨u0, u1, u2⟩, hf1, hf2⟩ := hnx.out w5 hL5; have hf1' := hid hf1; have hf2' := hid hf2; clear hf1 hf2 hL5)
      go_roundw
      case rel => exact ⟨j + 1, by omega, by go_num, hf1', hf2'⟩
      case measure => simp [intOf]; omega
    · obtain rfl : j = ns.length := by omega
      obtain ⟨w0, hw0⟩ : ∃ w0, w0 = wr := ⟨_, rfl⟩
      subst hw0
      obtain ⟨_, _, hmk⟩ := mgl_bel hS.out
      have hzk := lt_of_block hmk
      obtain ⟨⟨k0, k1⟩, _⟩ := blk2y hmk
      clear hmk q0 hzq
      have hO0 : Hid (w0.ownsRow w.heap.size 3 1 (.slice none (hangF ns E 0).length 0) (hangF ns E 0).length ((ints (hangF ns E 0)).map (Value.int .i64))) := World.ownsRow_nil _ _ _ _
      have hSS := hid hS.out
      have hRR := hid hR.out
      clear hS hR
      go_wp2
      go_loopw [5, 36] (fun x i wr => ∃ (j : Nat) (ao : Option Addr) (c : Nat), j ≤ ns.length ∧ i = .int .i64 (j : Int) ∧ x = .slice ao (hangF ns E j).length c ∧ Hid (MgL W0 w wr mb (.slice na ns.length nc) lv ns E) ∧ Hid (wr.ownsRow w.heap.size 3 1 (.slice (some ⟨w.heap.size, 0, none⟩) ns.length ns.length) ns.length ((ints (cntL E ns.length ns.length)).map (Value.int .i64))) ∧ Hid (wr.ownsRow w.heap.size 3 1 (.slice ao (hangF ns E j).length c) (hangF ns E j).length ((ints (hangF ns E j)).map (Value.int .i64))) ∧ Hid (ao ≠ some ⟨w.heap.size, 0, none⟩)) (fun _ i _ => ns.length - (intOf i).toNat)
      case atStart => exact ⟨0, none, 0, Nat.zero_le _, rfl, rfl, hSS, hRR, hO0, fun e => by cases e⟩
      case round =>
        clear hSS hRR hO0 k0 k1 hzk
        obtain ⟨j, ao, c, hj, rfl, rfl, hS, hR, hO, hne⟩ := hrel
        by_cases hlt : j < ns.length
        · have hji : (j : Int) < (ns.length : Int) := by omega
          obtain ⟨nb, no, nc2, aa, ac, hnv, hNd⟩ := HN.out j hlt
          injection hnv with u1 _ u3
          subst u1 u3
          obtain ⟨d0, d1, d2, d3, hzn, dA⟩ := hNd wr hS.out.bel
          have hEj := hEr.out j hlt
          have hEji : ((E j : Nat) : Int) < (ns.length : Int) := by omega
          have hhl := hangF_le ns E j
          have hstep : Hid (hangF ns E (j + 1) = hangF ns E j ++ if (ndN ns j).kind = 1 ∧ 1 < cntN E (E j) ns.length then [j] else []) := show _ = _ from rfl
          clear dA hNd
          generalize hcn : cntN E (E j) ns.length = cn at *
          have hcnl := cntN_le E (E j) ns.length
          rw [hcn] at hcnl
          generalize ndN ns j = nd at *
          obtain ⟨kd, nm, nu, args⟩ := nd
          dsimp only at d0 d1 d2 d3 hstep
          have hbx := hid (below_alloc wr (.cells #[.int .i64 kd, .string nm, .int .i64 nu, .slice aa args.length ac] 56))
          have hS1 := hid (hS.out.next hbx.out)
          have hR1 := hid (World.ownsRow.alloc hR.out (.cells #[.int .i64 kd, .string nm, .int .i64 nu, .slice aa args.length ac] 56))
          have hO1 := hid (World.ownsRow.alloc hO.out (.cells #[.int .i64 kd, .string nm, .int .i64 nu, .slice aa args.length ac] 56))
          have hszr := hS.out.mo.size
          by_cases hkd : kd = 1
          · subst hkd
            obtain ⟨L1, hm1, hl1⟩ := hS1.out.mg
            have hcall := hid (send_any hm1 hl1 j hlt)
            have hnx : Hid (∀ w5, MgL W0 (wr.alloc (.cells #[.int .i64 1, .string nm, .int .i64 nu, .slice aa args.length ac] 56)) w5 mb (.slice (some ⟨nb, no, none⟩) ns.length nc) lv ns E → (w5.cell? ⟨w.heap.size, E j, none⟩ = some (.int .i64 (cn : Int)) ∧ w.heap.size < w5.heap.size) ∧ MgL W0 w w5 mb (.slice (some ⟨nb, no, none⟩) ns.length nc) lv ns E ∧ w5.ownsRow w.heap.size 3 1 (.slice (some ⟨w.heap.size, 0, none⟩) ns.length ns.length) ns.length ((ints (cntL E ns.length ns.length)).map (Value.int .i64)) ∧ w5.ownsRow w.heap.size 3 1 (.slice ao (hangF ns E j).length c) (hangF ns E j).length ((ints (hangF ns E j)).map (Value.int .i64))) := fun w5 hL5 => by
              have hR5 := row_mo hkl.out.2 hL5.mo hR1.out
              have hc : w5.cell? ⟨w.heap.size, E j, none⟩ = some (.int .i64 (cn : Int)) := by
                rw [hR5.cellAt (E j) (by omega), ints_at (by rw [cntL_len]; exact hEj), cntL_get hEj, hcn]
              exact ⟨⟨hc, lt_of_cell hc⟩, MgL.trans hS1.out.mo hL5, hR5, row_mo hkl.out.2 hL5.mo hO1.out⟩
            clear hS hR hO hS1 hR1 hO1 hm1 hl1 hbx hcn
            by_cases hc1 : 1 < cn
            · have hc1' : (1 : Int) < (cn : Int) := by omega
              have hst2 : Hid (hangF ns E (j + 1) = hangF ns E j ++ [j]) := by
                have := hstep.out
                rw [if_pos ⟨rfl, hc1⟩] at this
                exact this
              clear hstep
              generalize hangF ns E j = H0 at *
              go_wp2_with (first
                | (go_at_call 55; refine hcall.out.mono ?_; rintro e w5 ⟨rfl, hL5⟩; obtain ⟨⟨u0, u2⟩, hf1, hf2, hf3⟩ := hnx.out w5 hL5; have hf1' := hid hf1; have hf2' := hid hf2; have hf3' := hid hf3; have hf4 := World.ownsRow.alloc hf3 (.cells #[.int .i64 (j : Int)] 3); clear hf1 hf2 hf3 hL5)
                | (at_builtin; go_must (refine wpList_append_lies _ rfl _ _ 23 rfl w.heap.size 3 i0 (.int .i64 0) 1 8 Try.underlying23 hi hz0 hz1 hz2 rfl (by decide) _ H0.length _ rfl hf4 ⟨w5.heap.size, 0, none⟩ 1 1 [.int .i64 (j : Int)] rfl rfl (cell_one_new w5 _ _) (by simp [Value.oneCell']) (by decide) (by unfold maxLen; omega) (by omega) (by simp; omega) _ rfl ?_; intro g cap w6 hown6 hg6 hat6 hlt6)))
              have hgz : Hid (w.heap.size < w6.heap.size ∧ MgL W0 w w6 mb (.slice (some ⟨nb, no, none⟩) ns.length nc) lv ns E ∧ w6.ownsRow w.heap.size 3 1 (.slice (some ⟨w.heap.size, 0, none⟩) ns.length ns.length) ns.length ((ints (cntL E ns.length ns.length)).map (Value.int .i64)) ∧ some (⟨g, 0, none⟩ : Addr) ≠ some ⟨w.heap.size, 0, none⟩) := by
                have hs6 := hg6.size
                simp at hs6
                have hob : ∀ k, (Value.slice ao H0.length c).ownBlock = some k → k ≠ w.heap.size ∧ w.heap.size ≤ k := fun k hk => by
                  refine ⟨fun e => ?_, (hf3'.out.lt k hk).1⟩
                  rcases hf3'.out.2 with ⟨e1, _⟩ | ⟨g', cap', cur', e1, _⟩
                  · rw [e1] at hk; cases hk
                  · injection e1 with e2 _ _
                    subst e2
                    have e3 : g' = k := by simpa [Value.ownBlock] using hk
                    subst e3
                    exact hne.out (by rw [e])
                refine ⟨by omega, MgL.far hkl.out hW0.out hf1'.out (((Below.refl _ _).alloc (by omega) _).grown hg6 (by simp; omega) (fun k hk => (hob k hk).2)), ?_, fun e => ?_⟩
                · refine row_keep hf2'.out (fun k hk => ?_)
                  have ek : w.heap.size = k := by simpa [Value.ownBlock] using hk
                  subst ek
                  rw [hg6.block w.heap.size (by simp; omega) (fun e => (hob w.heap.size e.symm).1 rfl), Below.heap_alloc _ _ _ u2]
                · injection e with e
                  injection e with e _ _
                  rcases hat6 with h1 | h1
                  · exact (hob g h1).1 e
                  · simp at h1
                    omega
              obtain ⟨_, hS6, hR6, hn6⟩ := hgz.out
              go_roundw
              case rel => exact ⟨j + 1, some ⟨g, 0, none⟩, cap, by omega, by go_num, by rw [hst2.out, List.length_append]; rfl, hS6, hR6, (show World.ownsRow _ _ _ _ _ _ _ by rw [hst2.out, List.length_append]; simpa [ints] using hown6), hn6⟩
              case measure => simp [intOf]; omega
            · have hc1' : ¬ ((1 : Int) < (cn : Int)) := by omega
              have hst2 : Hid (hangF ns E (j + 1) = hangF ns E j) := by
                have := hstep.out
                rw [if_neg (fun h => hc1 h.2), List.append_nil] at this
                exact this
              clear hstep
              generalize hangF ns E j = H0 at *
              go_wp2_with (go_at_call 55; refine hcall.out.mono ?_; rintro e w5 ⟨rfl, hL5⟩; obtain ⟨⟨u0, u2⟩, hf1, hf2, hf3⟩ := hnx.out w5 hL5; have hf1' := hid hf1; have hf2' := hid hf2; have hf3' := hid hf3; clear hf1 hf2 hf3 hL5)
              go_roundw
              case rel => exact ⟨j + 1, ao, c, by omega, by go_num, by rw [hst2.out], hf1', hf2', (show World.ownsRow _ _ _ _ _ _ _ by rw [hst2.out]; exact hf3'.out), hne⟩
              case measure => simp [intOf]; omega
          · have hst2 : Hid (hangF ns E (j + 1) = hangF ns E j) := by
              have := hstep.out
              rw [if_neg (fun h => hkd h.1), List.append_nil] at this
              exact this
            clear hstep hS hR hO
            generalize hangF ns E j = H0 at *
            go_wp2
            go_roundw
            case rel => exact ⟨j + 1, ao, c, by omega, by go_num, by rw [hst2.out], hS1, hR1, (show World.ownsRow _ _ _ _ _ _ _ by rw [hst2.out]; exact hO1.out), hne⟩
            case measure => simp [intOf]; omega
        · obtain rfl : j = ns.length := by omega
          have hO9 := hid hO.out
          have hS9 := hid hS.out
          clear hO hS hR
          go_wp2
          go_ret
          exact ⟨⟨_, _, rfl, hO9.out⟩, hS9.out⟩
end Go.Proofs.Ytllafbghomohhaa

/- The leads of the reference's classes: plain data. -/
namespace Go.Proofs.Ytllafbghomohhaa
open Go.RowKit

/-- What leads a class behind so many nodes. -/
def toV (ns : List Nd) (L : List Nat) : Nat → Nat → Int
  | 0, c => if c ∈ L then -1 else 0
  | j + 1, c => if L.getD j 0 = c ∧ (toV ns L j c < 0 ∨ ((ndN ns (toV ns L j c).toNat).kind = 1 ∧ (ndN ns j).kind ≠ 1)) then (j : Int) else toV ns L j c
def toL (ns : List Nd) (L : List Nat) (j : Nat) : List Int := (List.range L.length).map (toV ns L j)
theorem toL_len (ns : List Nd) (L : List Nat) (j : Nat) : (toL ns L j).length = L.length := by simp [toL]
theorem toL_get {ns : List Nd} {L : List Nat} {j c : Nat} (h : c < L.length) : (toL ns L j).getD c 0 = toV ns L j c := by simp [toL, List.getD, h]
theorem toL_hit {ns : List Nd} {L : List Nat} {j c : Nat} (hj : L.getD j 0 = c) (h : toV ns L j c < 0 ∨ ((ndN ns (toV ns L j c).toNat).kind = 1 ∧ (ndN ns j).kind ≠ 1)) : (toL ns L j).set c (j : Int) = toL ns L (j + 1) := by
  apply List.ext_getElem
  · simp [toL]
  · intro i h1 h2
    by_cases e : c = i
    · subst e
      rw [List.getElem_set_self]
      simp only [toL, List.getElem_map, List.getElem_range, toV]
      rw [if_pos ⟨hj, h⟩]
    · rw [List.getElem_set_ne e]
      simp only [toL, List.getElem_map, List.getElem_range, toV]
      rw [if_neg (fun x => e (hj.symm.trans x.1))]
theorem toL_miss {ns : List Nd} {L : List Nat} {j c : Nat} (hj : L.getD j 0 = c) (h : ¬ (toV ns L j c < 0 ∨ ((ndN ns (toV ns L j c).toNat).kind = 1 ∧ (ndN ns j).kind ≠ 1))) : toL ns L j = toL ns L (j + 1) := by
  unfold toL
  refine List.map_congr_left (fun i _ => ?_)
  show _ = if L.getD j 0 = i ∧ (toV ns L j i < 0 ∨ ((ndN ns (toV ns L j i).toNat).kind = 1 ∧ (ndN ns j).kind ≠ 1)) then (j : Int) else toV ns L j i
  by_cases e : L.getD j 0 = i
  · subst hj
    subst e
    rw [if_neg (fun x => h x.2)]
  · rw [if_neg (fun x => e x.1)]
/-- The first loop: classes get -1. -/
def ngL (L : List Nat) (j : Nat) : List Int := (List.range L.length).map (fun c => if c ∈ L.take j then -1 else 0)
theorem ngL_len (L : List Nat) (j : Nat) : (ngL L j).length = L.length := by simp [ngL]
theorem ngL_step {L : List Nat} {j : Nat} (h : j < L.length) : (ngL L j).set (L.getD j 0) (-1) = ngL L (j + 1) := by
  apply List.ext_getElem
  · simp [ngL]
  · intro i h1 h2
    have ht : L.take (j + 1) = L.take j ++ [L.getD j 0] := by rw [List.take_add_one]; simp [List.getD, h]
    by_cases e : L.getD j 0 = i
    · subst e
      rw [List.getElem_set_self]
      simp only [ngL, List.getElem_map, List.getElem_range, ht]
      simp
    · rw [List.getElem_set_ne e]
      simp only [ngL, List.getElem_map, List.getElem_range, ht]
      have : (i ∈ L.take j ++ [L.getD j 0]) ↔ i ∈ L.take j := by
        simp only [List.mem_append, List.mem_singleton]
        exact ⟨fun h => h.elim id (fun h => absurd h.symm e), Or.inl⟩
      simp only [this]
theorem ngL_zero (L : List Nat) : ngL L 0 = List.replicate L.length 0 := by
  unfold ngL
  apply List.ext_getElem
  · simp
  · intro i h1 h2
    simp
theorem ngL_all (ns : List Nd) (L : List Nat) : ngL L L.length = toL ns L 0 := by
  unfold ngL toL
  refine List.map_congr_left (fun i _ => ?_)
  rw [List.take_of_length_le (Nat.le_refl _)]
  rfl
theorem toV_inv {ns : List Nd} {L : List Nat} {c : Nat} (hc : c ∈ L) : ∀ j, (toV ns L j c = -1 ∧ ∀ i, i < j → L.getD i 0 ≠ c) ∨ (0 ≤ toV ns L j c ∧ toV ns L j c < (j : Int) ∧ L.getD (toV ns L j c).toNat 0 = c ∧ ((ndN ns (toV ns L j c).toNat).kind = 1 → ∀ i, i < j → L.getD i 0 = c → (ndN ns i).kind = 1))
  | 0 => Or.inl ⟨by unfold toV; rw [if_pos hc], fun i hi => absurd hi (Nat.not_lt_zero _)⟩
  | j + 1 => by
    have ih := toV_inv (ns := ns) hc j
    unfold toV
    by_cases e : L.getD j 0 = c
    · by_cases h : toV ns L j c < 0 ∨ ((ndN ns (toV ns L j c).toNat).kind = 1 ∧ (ndN ns j).kind ≠ 1)
      · rw [if_pos ⟨e, h⟩]
        refine Or.inr ⟨by omega, by omega, by rw [Int.toNat_natCast]; exact e, fun hk i hi he => ?_⟩
        rw [Int.toNat_natCast] at hk
        rcases h with h | ⟨_, h⟩
        · rcases ih with ⟨_, ih⟩ | ⟨ih, _⟩
          · rcases Nat.lt_or_eq_of_le (Nat.le_of_lt_succ hi) with h1 | h1
            · exact absurd he (ih i h1)
            · rw [h1]; exact hk
          · omega
        · exact absurd hk h
      · rw [if_neg (fun x => h x.2)]
        rcases ih with ⟨ih, _⟩ | ⟨i1, i2, i3, i4⟩
        · exact absurd (Or.inl (by omega)) h
        · refine Or.inr ⟨i1, by omega, i3, fun hk i hi he => ?_⟩
          rcases Nat.lt_or_eq_of_le (Nat.le_of_lt_succ hi) with h1 | h1
          · exact i4 hk i h1 he
          · rw [h1]
            exact Classical.byContradiction fun hne => h (Or.inr ⟨hk, hne⟩)
    · rw [if_neg (fun x => e x.1)]
      rcases ih with ⟨i1, i2⟩ | ⟨i1, i2, i3, i4⟩
      · refine Or.inl ⟨i1, fun i hi he => ?_⟩
        rcases Nat.lt_or_eq_of_le (Nat.le_of_lt_succ hi) with h1 | h1
        · exact i2 i h1 he
        · rw [h1] at he; exact e he
      · refine Or.inr ⟨i1, by omega, i3, fun hk i hi he => ?_⟩
        rcases Nat.lt_or_eq_of_le (Nat.le_of_lt_succ hi) with h1 | h1
        · exact i4 hk i h1 he
        · rw [h1] at he; exact absurd he e
/-- The lead of a node's class. -/
def ldE (ns : List Nd) (L : List Nat) (x : Nat) : Nat := if x < L.length then (toV ns L L.length (L.getD x 0)).toNat else x
theorem ldE_said {ns : List Nd} {L : List Nat} {x : Nat} (hx : x < L.length) : toV ns L L.length (L.getD x 0) = ((ldE ns L x : Nat) : Int) ∧ ldE ns L x < L.length ∧ L.getD (ldE ns L x) 0 = L.getD x 0 ∧ ((ndN ns (ldE ns L x)).kind = 1 → ∀ i, i < L.length → L.getD i 0 = L.getD x 0 → (ndN ns i).kind = 1) := by
  unfold ldE
  rw [if_pos hx]
  rcases toV_inv (ns := ns) (getD_memN hx) L.length with ⟨_, h⟩ | ⟨h1, h2, h3, h4⟩
  · exact absurd rfl (h x hx)
  · exact ⟨by omega, by omega, h3, h4⟩
theorem ldE_ker {ns : List Nd} {L : List Nat} {x y : Nat} (hx : x < L.length) (hy : y < L.length) : ldE ns L x = ldE ns L y ↔ L.getD x 0 = L.getD y 0 := by
  obtain ⟨_, _, h3, _⟩ := ldE_said (ns := ns) hx
  obtain ⟨_, _, k3, _⟩ := ldE_said (ns := ns) hy
  refine ⟨fun h => by rw [← h3, ← k3, h], fun h => ?_⟩
  unfold ldE
  rw [if_pos hx, if_pos hy, h]
theorem ldE_un {ns : List Nd} {P : List (Nat × Nat)} {L : List Nat} (hA : GoodA ns) (hP : ∀ p ∈ P, p.1 < ns.length ∧ p.2 < ns.length) (h : CloD ns P L) : Un ns P (ldE ns L) [] := by
  have hl := h.clo.len
  have hout : ∀ x, ¬ x < L.length → ldE ns L x = x := fun x hx => by unfold ldE; rw [if_neg hx]
  refine ⟨fun x hx => ?_, fun x => ?_, fun R hR hp => ⟨fun x y e => ?_, fun p hq => (by cases hq)⟩, fun p hq => (by cases hq), fun x hx hk => ?_, fun p hp => ?_⟩
  · have := (ldE_said (ns := ns) (L := L) (x := x) (by omega)).2.1
    omega
  · by_cases hx : x < L.length
    · obtain ⟨_, h2, h3, _⟩ := ldE_said (ns := ns) hx
      exact (ldE_ker h2 hx).2 h3
    · rw [hout x hx, hout x hx]
  · by_cases hx : x < L.length
    · by_cases hy : y < L.length
      · exact h.clo.min R hR hp x y hx hy ((ldE_ker hx hy).1 e)
      · have := (ldE_said (ns := ns) hx).2.1
        rw [hout y hy] at e
        omega
    · by_cases hy : y < L.length
      · have := (ldE_said (ns := ns) hy).2.1
        rw [hout x hx] at e
        omega
      · rw [hout x hx, hout y hy] at e
        subst e
        exact hR.refl x
  · have hx' : x < L.length := by omega
    obtain ⟨_, h2, h3, h4⟩ := ldE_said (ns := ns) hx'
    have hkE : (ndN ns (ldE ns L x)).kind ≠ 1 := fun e => hk (h4 e x hx' rfl)
    have hst : labS (ndN ns x) (ndN ns (ldE ns L x)) ∧ ∀ k, k < (ndN ns x).args.length → L.getD (argN ns x k) 0 = L.getD (argN ns (ldE ns L x) k) 0 := by
      rcases Nat.lt_trichotomy x (ldE ns L x) with hlt | he | hlt
      · exact h.stb x _ hlt (by omega) h3.symm hk hkE
      · rw [← he]
        exact ⟨labS.refl _, fun _ _ => rfl⟩
      · obtain ⟨l, ar⟩ := h.stb _ x hlt hx h3 hkE hk
        have l' := l.symm
        exact ⟨l', fun k hk' => (ar k (by rw [← l'.2.2.2]; exact hk')).symm⟩
    refine ⟨hkE, hst.1, fun k hk' R hR hr _ => hr _ _ ?_⟩
    have a1 := (hA.arg x hx k hk').2
    have a2 := (hA.arg (ldE ns L x) (by omega) k (by rw [← hst.1.2.2.2]; exact hk')).2
    exact (ldE_ker (by omega) (by omega)).2 (hst.2 k hk')
  · obtain ⟨h1, h2⟩ := hP p hp
    exact fun R hR hr _ => hr _ _ ((ldE_ker (by omega) (by omega)).2 (h.prs p hp))
/-- The graph node by node, by leads. -/
def wholeF (g : Gf) (E : Nat → Nat) : Gf := ⟨(List.range g.nodes.length).map (fun i => renum (EI E) (ndN g.nodes (E i))), g.roots.map (EI E)⟩
theorem whole_len (g : Gf) (E : Nat → Nat) : (wholeF g E).nodes.length = g.nodes.length := by simp [wholeF]
theorem whole_nd {g : Gf} {E : Nat → Nat} {x : Nat} (h : x < g.nodes.length) : (wholeF g E).nd (x : Int) = renum (EI E) (ndN g.nodes (E x)) := by
  simp [wholeF, Gf.nd, List.getD, h]
theorem whole_good {g : Gf} (hg : Good g) {E : Nat → Nat} (hE : ∀ x, x < g.nodes.length → E x < g.nodes.length) : Good (wholeF g E) := by
  have hEI : ∀ z : Int, 0 ≤ z ∧ z < (g.nodes.length : Int) → 0 ≤ EI E z ∧ EI E z < (g.nodes.length : Int) := fun z hz => by
    have := hE z.toNat (by omega)
    unfold EI
    omega
  refine ⟨by rw [whole_len]; exact hg.nodes, by simp [wholeF]; exact hg.roots, fun n hn => ?_, fun z hz => ?_⟩
  · obtain ⟨y, hy, rfl⟩ := List.mem_map.1 hn
    rw [whole_len]
    have hy' : y < g.nodes.length := by simpa using hy
    have hgd := hg.node (ndN g.nodes (E y)) (by simp [ndN, List.getD, hE y hy'])
    exact renum_good hgd (fun z hz => hEI z ((good_args hgd).1 z hz))
  · obtain ⟨y, hy, rfl⟩ := List.mem_map.1 hz
    rw [whole_len]
    exact hEI y (hg.root y hy)
theorem whole_pr {g : Gf} (hg : Good g) {P : List (Nat × Nat)} {E : Nat → Nat} (hU : Un g.nodes P E []) : Pr (wholeF g E) (gE g.nodes g.roots E) (fun u v => u = v ∧ ∃ x, x < g.nodes.length ∧ u = ((E x : Nat) : Int)) := by
  have hA := goodA_of hg
  have hlE : (gE g.nodes g.roots E).nodes.length = g.nodes.length := by simp [gE]
  have hnd : ∀ x, x < g.nodes.length → (wholeF g E).nd ((E x : Nat) : Int) = (gE g.nodes g.roots E).nd ((E x : Nat) : Int) := fun x hx => by
    rw [whole_nd (hU.rng x hx), gE_nd (hU.rng x hx), hU.idem]
  refine ⟨?_, ?_, ?_, ?_, ?_, by simp [wholeF, gE], ?_⟩
  · rintro u v ⟨rfl, x, hx, rfl⟩
    have := hU.rng x hx
    exact ⟨⟨by omega, by rw [whole_len]; omega⟩, by omega, by rw [hlE]; omega⟩
  · rintro u v ⟨rfl, x, hx, rfl⟩
    rw [hnd x hx]
    exact ⟨rfl, rfl, rfl, rfl⟩
  · rintro u v ⟨rfl, x, hx, rfl⟩ k hk
    have hEx := hU.rng x hx
    rw [hnd x hx, gE_nd hEx] at hk
    have hk1 : k < (ndN g.nodes (E x)).args.length := by simpa [renum] using hk
    refine ⟨?_, argN g.nodes (E x) k, (hA.arg _ hEx k hk1).2, ?_⟩
    · unfold Gf.arg
      rw [hnd x hx]
    · unfold Gf.arg
      rw [hnd x hx, gE_nd hEx]
      simp [renum, List.getD, hk1, EI, argN]
  · rintro u v v' ⟨rfl, _⟩ ⟨rfl, _⟩ _
    rfl
  · rintro u u' v ⟨rfl, _⟩ ⟨rfl, _⟩ _
    rfl
  · intro i hi
    have hi' : i < g.roots.length := by simpa [wholeF] using hi
    have hr := hg.root (g.roots.getD i 0) (getD_mem hi')
    refine ⟨by simp [wholeF, gE, List.getD, hi', EI], (g.roots.getD i 0).toNat, by omega, ?_⟩
    simp [wholeF, List.getD, hi', EI]
theorem whole_least {g : Gf} (hg : Good g) {ps : List (Int × Int)} {E : Nat → Nat} (hU : Un g.nodes (ps.map natP) E []) {ee : Nat → Nat → Bool} (he : ∀ x y : Nat, (ee x y = true ↔ Al (trimF (wholeF g E)) (x : Int) (y : Int))) : LeastS g ps (trimF (quoF ee (trimF (wholeF g E)))) := by
  have hw := whole_good hg hU.rng
  obtain ⟨e1, h1⟩ := al_dec (wholeF g E)
  obtain ⟨e2, h2⟩ := al_dec (gE g.nodes g.roots E)
  refine ⟨E, e2, hU, h2, ?_⟩
  rw [Pr.least (trim_good0 hw) hw he h1 (trim_pair hw)]
  exact Pr.least hw (gE_good hg hU.rng) h1 h2 (whole_pr hg hU)
theorem cntN_same {E F : Nat → Nat} {i : Nat} (h : ∀ k, E k = E i ↔ F k = F i) : ∀ j, cntN E (E i) j = cntN F (F i) j
  | 0 => rfl
  | j + 1 => by
    unfold cntN
    rw [cntN_same h j]
    by_cases e : E j = E i
    · rw [if_pos e, if_pos ((h j).1 e)]
    · rw [if_neg e, if_neg (fun x => e ((h j).2 x))]
/-- What hangs is one. -/
theorem hang_uniq {ns : List Nd} {P : List (Nat × Nat)} {E F : Nat → Nat} (hU : Un ns P E []) (hV : Un ns P F []) : ∀ j, hangF ns E j = hangF ns F j
  | 0 => rfl
  | j + 1 => by
    obtain ⟨hC, hp, hm⟩ := hU.done
    obtain ⟨hC', hp', hm'⟩ := hV.done
    unfold hangF
    rw [hang_uniq hU hV j, cntN_same (F := F) (fun k => ⟨fun e => hm _ hC' hp' k j e, fun e => hm' _ hC hp k j e⟩)]
theorem cntN_pos {E : Nat → Nat} {m : Nat} : ∀ {N : Nat}, 0 < cntN E m N ↔ ∃ j, j < N ∧ E j = m
  | 0 => ⟨fun h => absurd h (Nat.lt_irrefl _), fun ⟨_, h, _⟩ => absurd h (Nat.not_lt_zero _)⟩
  | N + 1 => by
    unfold cntN
    have ih := cntN_pos (E := E) (m := m) (N := N)
    by_cases e : E N = m
    · rw [if_pos e]
      exact ⟨fun _ => ⟨N, by omega, e⟩, fun _ => by omega⟩
    · rw [if_neg e, Nat.add_zero, ih]
      exact ⟨fun ⟨j, h1, h2⟩ => ⟨j, by omega, h2⟩, fun ⟨j, h1, h2⟩ => ⟨j, by rcases Nat.lt_or_eq_of_le (Nat.le_of_lt_succ h1) with h | h; exact h; exact absurd (h ▸ h2) e, h2⟩⟩
theorem cntN_two {E : Nat → Nat} {i : Nat} : ∀ {N : Nat}, i < N → (1 < cntN E (E i) N ↔ ∃ j, j < N ∧ j ≠ i ∧ E j = E i)
  | 0, h => absurd h (Nat.not_lt_zero _)
  | N + 1, h => by
    unfold cntN
    by_cases e : i = N
    · subst e
      rw [if_pos rfl]
      have := cntN_pos (E := E) (m := E i) (N := i)
      constructor
      · intro h1
        obtain ⟨j, h2, h3⟩ := this.1 (by omega)
        exact ⟨j, by omega, by omega, h3⟩
      · rintro ⟨j, h1, h2, h3⟩
        have := this.2 ⟨j, by omega, h3⟩
        omega
    · have ih := cntN_two (E := E) (N := N) (by omega : i < N)
      by_cases e2 : E N = E i
      · rw [if_pos e2]
        have := (cntN_pos (E := E) (m := E i) (N := N)).2 ⟨i, by omega, rfl⟩
        exact ⟨fun _ => ⟨N, by omega, fun x => e x.symm, e2⟩, fun _ => by omega⟩
      · rw [if_neg e2, Nat.add_zero, ih]
        exact ⟨fun ⟨j, h1, h2⟩ => ⟨j, by omega, h2⟩, fun ⟨j, h1, h2, h3⟩ => ⟨j, by rcases Nat.lt_or_eq_of_le (Nat.le_of_lt_succ h1) with h | h; exact h; exact absurd (h ▸ h3) e2, h2, h3⟩⟩
end Go.Proofs.Ytllafbghomohhaa

/- lead of the reference, walked. -/
namespace Go.Proofs.Ytllafbghomohhaa
open Go.RowKit

/-- The graph's box and a row of numbers behind it. -/
structure Kd (W : World) (nv rv : Value) (N : Nat) (T : List Int) (w : World) : Prop where
  b : Below W.heap.size W w
  g : w.heap[W.heap.size]? = some (.cells #[nv, rv] 25)
  p : w.ownsRow (W.heap.size + 1) 3 1 (.slice (some ⟨W.heap.size + 1, 0, none⟩) N N) N (T.map (Value.int .i64))
  l : T.length = N
section
variable {W w w' : World} {nv rv : Value} {N : Nat} {T : List Int}
theorem Kd.next (h : Kd W nv rv N T w) (hb : Below w.heap.size w w') : Kd W nv rv N T w' := ⟨h.b.trans (hb.mono h.b.size), (hb.block _ (lt_of_block h.g)).trans h.g, row_keep h.p (fun k hk => hb.block k (h.p.lt k hk).2), h.l⟩
theorem Kd.cell (h : Kd W nv rv N T w) {i : Nat} (hi : i < N) : w.cell? ⟨W.heap.size + 1, i, none⟩ = some (.int .i64 (T.getD i 0)) ∧ w.frozen? ⟨W.heap.size + 1, i, none⟩ = false :=
  ⟨by rw [h.p.cellAt i (by omega)]; have := h.l; simp [List.getD, show i < T.length by omega], h.p.frozenAt i⟩
theorem Kd.set (h : Kd W nv rv N T w) (n : Nat) (v : Int) : Kd W nv rv N (T.set n v) (w.setCell ⟨W.heap.size + 1, n, none⟩ (.int .i64 v)) := by
  refine ⟨h.b.setCell (p := ⟨W.heap.size + 1, n, none⟩) (by show W.heap.size ≤ W.heap.size + 1; omega) _, (Below.heap_setCell _ _ _ _ (by show W.heap.size ≠ W.heap.size + 1; omega)).trans h.g, ?_, by simp [h.l]⟩
  have h3 := (World.ownsRow.stored h.p n (.int .i64 v)).1
  rw [List.map_set]
  exact h3
theorem Kd.box (h : Kd W nv rv N T w) : (w.cell? ⟨W.heap.size, 0, none⟩ = some nv ∧ w.cell? ⟨W.heap.size, 1, none⟩ = some rv) ∧ W.heap.size < w.heap.size ∧ W.heap.size + 1 < w.heap.size := by
  obtain ⟨a, _⟩ := blk2y h.g
  exact ⟨a, lt_of_block h.g, (h.p.lt _ rfl).2⟩
theorem kd_start {w1 : World} {L : List Nat} (hL : L.length = N) (hown : w1.ownsRow (W.heap.size + 1) 3 1 (.slice (some ⟨(W.alloc (.cells #[nv, rv] 25)).heap.size, 0, none⟩) N N) N (madeCells (Value.int .i64 0).cells (N * 1)).toList) (hgrow : (W.alloc (.cells #[nv, rv] 25)).grownBy w1 none) : Kd W nv rv N (ngL L 0) w1 := by
  have hsz : (W.alloc (.cells #[nv, rv] 25)).heap.size = W.heap.size + 1 := by simp
  rw [hsz] at hown
  refine ⟨(below_alloc W _).grown hgrow (by omega) (fun _ e => by cases e), ?_, ?_, by rw [ngL_len]; exact hL⟩
  · rw [hgrow.block _ (by simp) (fun e => by cases e)]
    exact heap_alloc_new W _
  · rw [ngL_zero, hL]
    rw [show (madeCells (Value.int .i64 0).cells (N * 1)).toList = List.replicate N (.int .i64 0) by rw [Nat.mul_one]; simp [Value.cells, toList_madeCells_one]] at hown
    simpa using hown
end
/-- A node's kind, where it lies. -/
theorem gr_kind {W w : World} {na : Option Addr} {nc : Nat} {rv : Value} {g : Gf} (hG : Gr W (.slice na g.nodes.length nc) rv g) (hb : Below W.heap.size W w) {x : Nat} (hx : x < g.nodes.length) : ∃ b o, na = some ⟨b, o, none⟩ ∧ w.cell? ⟨b, o + x * 4, none⟩ = some (.int .i64 (ndN g.nodes x).kind) := by
  obtain ⟨na', nc', e, hc⟩ := hG.1
  injection e with e1 _ _
  subst e1
  obtain ⟨b, o, av, rfl, h0⟩ := hc x hx
  obtain ⟨p0, _⟩ := h0.below hb
  exact ⟨b, o, rfl, p0⟩
set_option maxRecDepth 100000 in
set_option maxHeartbeats 8000000 in
theorem lead_any {W : World} {nv rv cv : Value} {g : Gf} {L : List Nat} (hG : Gr W nv rv g) (hC : Ri W cv (ints L)) (hL : L.length = g.nodes.length) (hr : ∀ i, i < L.length → L.getD i 0 < L.length) (hN : g.nodes.length ≤ 10000) :
    Calls Try.prog 54 #[.agg #[nv, rv], cv] W fun e w' => e = .returned (.slice (some ⟨W.heap.size + 1, 0, none⟩) g.nodes.length g.nodes.length) ∧ w'.ownsRow (W.heap.size + 1) 3 1 (.slice (some ⟨W.heap.size + 1, 0, none⟩) g.nodes.length g.nodes.length) g.nodes.length ((toL g.nodes L L.length).map (Value.int .i64)) ∧ Below W.heap.size W w' := by
  obtain ⟨i0, hi, hz0, hz1, hz2⟩ := info_parts infoI
  have HG := hid hG
  have HC := hid hC
  have HL := hid hL
  have Hr := hid hr
  obtain ⟨na, nc, rfl, _⟩ := hG.1
  obtain ⟨ra, rc, rfl, _⟩ := hG.2
  obtain ⟨ca, cc, rfl, _⟩ := hC
  have hlc : (ints L).length = g.nodes.length := by simp [ints, hL]
  rw [hlc] at HC ⊢
  clear hG hL hr hlc
  have hcl : Hid (∀ (w : World) (i : Nat), i < g.nodes.length → Below W.heap.size W w → ∃ b o, ca = some ⟨b, o, none⟩ ∧ w.cell? ⟨b, o + i, none⟩ = some (.int .i64 ((L.getD i 0 : Nat) : Int)) ∧ L.getD i 0 < g.nodes.length ∧ L.getD i 0 ∈ L) := fun w i hi hb => by
    have hL := HL.out
    obtain ⟨ao, c, e, h⟩ := HC.out.below hb
    injection e with e1 _ _
    subst e1
    obtain ⟨b, o, e, h⟩ := h i (by simp [ints, hL]; exact hi)
    rw [ints_get (by omega)] at h
    exact ⟨b, o, e, h, by rw [← hL]; exact Hr.out i (by omega), getD_memN (by omega)⟩
  clear HC Hr
  go_enter Try.func54, Try.ntmps54
  go_wp2_with (at_make; go_must (refine wpList_make_full _ rfl _ _ 23 rfl (W.heap.size + 1) 3 i0 (.int .i64 0) 1 Try.underlying23 hi hz0 hz1 .i64 .i64 _ _ g.nodes.length rfl rfl rfl rfl (by rw [hz2]; omega) (by unfold maxLen; omega) (by simp) ?_; intro w1 hown1 hgrow1; have hC0 := hid (kd_start HL.out hown1 hgrow1); clear hown1 hgrow1))
  go_loopw [6] (fun i wr => ∃ j : Nat, j ≤ g.nodes.length ∧ i = .int .i64 (j : Int) ∧ Hid (Kd W (.slice na g.nodes.length nc) (.slice ra g.roots.length rc) g.nodes.length (ngL L j) wr)) (fun i _ => g.nodes.length - (intOf i).toNat)
  case atStart => exact ⟨0, Nat.zero_le _, rfl, hC0⟩
  case round =>
    clear hC0
    obtain ⟨j, hj, rfl, hK⟩ := hrel
    by_cases hlt : j < g.nodes.length
    · have hji : (j : Int) < (g.nodes.length : Int) := by omega
      obtain ⟨cb, co, e, c0, hr, hm⟩ := hcl.out wr j hlt hK.out.b
      subst e
      have hst := hid (ngL_step (L := L) (j := j) (by rw [HL.out]; exact hlt))
      have Hset := hid (hK.out.set (L.getD j 0) (-1))
      generalize L.getD j 0 = c at *
      have hci : (c : Int) < (g.nodes.length : Int) := by omega
      obtain ⟨d0, d1⟩ := hK.out.cell hr
      have z0 := lt_of_cell c0
      have z1 := lt_of_cell d0
      rw [hst.out] at Hset
      clear hm hst
      go_wp2
      go_roundw
      case rel => exact ⟨j + 1, by omega, by go_num, Hset⟩
      case measure => simp [intOf]; omega
    · obtain rfl : j = g.nodes.length := by omega
      have hK0 : Hid (Kd W (.slice na g.nodes.length nc) (.slice ra g.roots.length rc) g.nodes.length (toL g.nodes L 0) wr) := by
        have := hK.out
        rw [← HL.out, ngL_all g.nodes L, HL.out] at this
        exact this
      clear hK
      go_wp2
      go_loopw [7] (fun i wr => ∃ j : Nat, j ≤ g.nodes.length ∧ i = .int .i64 (j : Int) ∧ Hid (Kd W (.slice na g.nodes.length nc) (.slice ra g.roots.length rc) g.nodes.length (toL g.nodes L j) wr)) (fun i _ => g.nodes.length - (intOf i).toNat)
      case atStart => exact ⟨0, Nat.zero_le _, rfl, hK0⟩
      case round =>
        clear hK0 hlt hj
        obtain ⟨j, hj, rfl, hK⟩ := hrel
        by_cases hlt : j < g.nodes.length
        · have hji : (j : Int) < (g.nodes.length : Int) := by omega
          obtain ⟨cb, co, e, c0, hr, hm⟩ := hcl.out wr j hlt hK.out.b
          subst e
          obtain ⟨nb, no, e, k0⟩ := gr_kind HG.out hK.out.b hlt
          subst e
          obtain ⟨⟨b0, b1⟩, b2, b3⟩ := hK.out.box
          have hinv := toV_inv (ns := g.nodes) hm j
          have hhit := hid (fun h => toL_hit (ns := g.nodes) (L := L) (j := j) rfl h)
          have hmis := hid (fun h => toL_miss (ns := g.nodes) (L := L) (j := j) rfl h)
          have Hset := hid (fun w' (hb : Below wr.heap.size wr w') => (hK.out.next hb).set (L.getD j 0) (j : Int))
          obtain ⟨d0, d1⟩ := hK.out.cell hr
          rw [toL_get (by rw [HL.out]; exact hr)] at d0
          generalize toV g.nodes L j (L.getD j 0) = t at *
          generalize L.getD j 0 = c at *
          have hci : (c : Int) < (g.nodes.length : Int) := by omega
          have z0 := lt_of_cell c0
          have zk := lt_of_cell k0
          rcases hinv with ⟨rfl, _⟩ | ⟨t0, t1, _, _⟩
          · have hh := hid (hhit.out (Or.inl (by omega)))
            clear hhit hmis hm
            go_wp2
            go_quiet (fail)
            go_wp2
            go_roundw
            case rel => exact ⟨j + 1, by omega, by go_num, (show Kd _ _ _ _ _ _ by rw [← hh.out]; exact Hset.out _ (below_drewN (Below.refl _ _) _))⟩
            case measure => simp [intOf]; omega
          · obtain ⟨tn, rfl⟩ : ∃ tn : Nat, t = (tn : Int) := ⟨t.toNat, by omega⟩
            have htn : tn < g.nodes.length := by omega
            have hti : (tn : Int) < (g.nodes.length : Int) := by omega
            obtain ⟨nb2, no2, e, k1⟩ := gr_kind HG.out hK.out.b htn
            have e1 : nb = nb2 ∧ no = no2 := by
              injection e with e
              injection e with e1 e2 _
              exact ⟨e1, e2⟩
            obtain ⟨rfl, rfl⟩ := e1
            clear e
            have zk1 := lt_of_cell k1
            rw [Int.toNat_natCast] at hhit hmis
            have s0 : decide ((tn : Int) < 0) = false := decide_eq_false (by omega)
            by_cases s1 : (ndN g.nodes tn).kind = 1
            · rw [s1] at k1
              by_cases s2 : (ndN g.nodes j).kind = 1
              · have hh := hid (hmis.out (fun h => h.elim (fun h => by omega) (fun h => h.2 s2)))
                rw [s2] at k0
                clear hhit hmis hm Hset
                go_wp2
                go_quiet (fail)
                go_wp2
                go_roundw
                case rel => exact ⟨j + 1, by omega, by go_num, (show Kd _ _ _ _ _ _ by rw [← hh.out]; exact hK.out.next (below_drewN (Below.refl _ _) _))⟩
                case measure => simp [intOf]; omega
              · have hh := hid (hhit.out (Or.inr ⟨s1, s2⟩))
                have s3 : ((ndN g.nodes j).kind != 1) = true := by simpa using s2
                generalize (ndN g.nodes j).kind = kj at *
                clear hhit hmis hm s2
                go_wp2
                go_quiet (fail)
                go_wp2
                go_roundw
                case rel => exact ⟨j + 1, by omega, by go_num, (show Kd _ _ _ _ _ _ by rw [← hh.out]; exact Hset.out _ (below_drewN (Below.refl _ _) _))⟩
                case measure => simp [intOf]; omega
            · have hh := hid (hmis.out (fun h => h.elim (fun h => by omega) (fun h => s1 h.1)))
              have s3 : ((ndN g.nodes tn).kind == 1) = false := by simpa using s1
              generalize (ndN g.nodes tn).kind = kt at *
              clear hhit hmis hm Hset s1
              go_wp2
              go_quiet (fail)
              go_wp2
              go_roundw
              case rel => exact ⟨j + 1, by omega, by go_num, (show Kd _ _ _ _ _ _ by rw [← hh.out]; exact hK.out.next (below_drewN (Below.refl _ _) _))⟩
              case measure => simp [intOf]; omega
        · obtain rfl : j = g.nodes.length := by omega
          have h9 := hK.out
          have h8 := h9.p
          rw [← HL.out] at h8
          go_wp2
          go_ret
          refine ⟨rfl, ?_, h9.b⟩
          rw [← HL.out]
          exact h8
end Go.Proofs.Ytllafbghomohhaa

/- Instances: plain data. -/
namespace Go.Proofs.Ytllafbghomohhaa
open Go.RowKit

theorem nd_int (A : Gf) (z : Nat) : A.nd (z : Int) = ndN A.nodes z := by simp [Gf.nd, ndN]
theorem good_ndI {g : Gf} (hg : Good g) {x : Int} (h : isN g x) : goodNd g.nodes.length (g.nd x) = true := by
  have h0 := h.1
  have h1 := h.2
  refine hg.node _ ?_
  unfold Gf.nd
  rw [List.getD, List.getElem?_eq_getElem (show x.toNat < g.nodes.length by omega)]
  simp
/-- A graph's nodes, numbered from a place on, its variables standing for themselves. -/
def fixN1 (first n : Nat) (y : Nd) : Nd := if y.kind = 1 then ⟨0, ⟨#[]⟩, (n : Int), []⟩ else ⟨y.kind, y.name, y.num, y.args.map (fun a => (first : Int) + a)⟩
def fixedF (first : Nat) : Nat → List Nd → List Nd
  | _, [] => []
  | n, y :: r => fixN1 first n y :: fixedF first (n + 1) r
theorem fixedF_len (first : Nat) : ∀ n l, (fixedF first n l).length = l.length
  | _, [] => rfl
  | n, _ :: r => by simp [fixedF, fixedF_len first (n + 1) r]
theorem fixedF_get (first : Nat) : ∀ n (l : List Nd) j, j < l.length → (fixedF first n l).getD j nd0 = fixN1 first (n + j) (l.getD j nd0)
  | _, [], _, h => by simp at h
  | n, y :: r, 0, _ => by simp [fixedF]
  | n, y :: r, j + 1, h => by
    have := fixedF_get first (n + 1) r j (by simpa using h)
    rw [show n + (j + 1) = n + 1 + j by omega]
    simpa [fixedF] using this
/-- The nodes of both, one behind the other. -/
def bothN (p t : Gf) : List Nd := p.nodes ++ fixedF p.nodes.length 0 t.nodes
theorem bothN_len (p t : Gf) : (bothN p t).length = p.nodes.length + t.nodes.length := by simp [bothN, fixedF_len]
theorem bothN_left (p t : Gf) {x : Nat} (hx : x < p.nodes.length) : ndN (bothN p t) x = p.nd (x : Int) := by
  simp [bothN, ndN, Gf.nd, List.getD, List.getElem?_append_left hx]
theorem bothN_right (p t : Gf) {y : Nat} (hy : y < t.nodes.length) : ndN (bothN p t) (p.nodes.length + y) = fixN1 p.nodes.length y (t.nd (y : Int)) := by
  have h := fixedF_get p.nodes.length 0 t.nodes y hy
  rw [Nat.zero_add] at h
  unfold ndN bothN
  rw [List.getD, List.getElem?_append_right (by omega), Nat.add_sub_cancel_left]
  simpa [Gf.nd, List.getD] using h
/-- The pairs of roots. -/
def rtP (p t : Gf) : List (Nat × Nat) := (List.range p.roots.length).map (fun i => ((p.roots.getD i 0).toNat, p.nodes.length + (t.roots.getD i 0).toNat))
/-- Which node of the one stands for which of the other. -/
structure Ins (p t : Gf) (S : Int → Int → Prop) : Prop where
  rng : ∀ x y, S x y → isN p x ∧ isN t y
  lab : ∀ x y, S x y → (p.nd x).kind ≠ 1 → (p.nd x).kind = (t.nd y).kind ∧ (p.nd x).name = (t.nd y).name ∧ (p.nd x).num = (t.nd y).num ∧ (p.nd x).args.length = (t.nd y).args.length
  arg : ∀ x y, S x y → (p.nd x).kind ≠ 1 → ∀ k, k < (p.nd x).args.length → S (p.arg x k) (t.arg y k)
  var : ∀ x y y', S x y → S x y' → (p.nd x).kind = 1 → Al t y y'
  len : p.roots.length = t.roots.length
  root : ∀ i, i < p.roots.length → S (p.roots.getD i 0) (t.roots.getD i 0)
/-- What stands for nodes that unfold alike unfolds alike. -/
theorem Ins.al {p t : Gf} {S : Int → Int → Prop} (h : Ins p t S) {x x' y y' : Int} (hal : Al p x x') (h1 : S x y) (h2 : S x' y') : Al t y y' := by
  refine ⟨fun u v => Al t u v ∨ ∃ s s', Al p s s' ∧ S s u ∧ S s' v, fun u v huv => ?_, Or.inr ⟨x, x', hal, h1, h2⟩⟩
  rcases huv with hA | ⟨s, s', hs, hu, hv⟩
  · obtain ⟨a1, a2, a3, a4⟩ := al_sim t u v hA
    exact ⟨a1, a2, a3, fun k hk => Or.inl (a4 k hk)⟩
  · obtain ⟨_, _, hl, ha⟩ := al_sim p s s' hs
    by_cases hk : (p.nd s).kind = 1
    · have e : s = s' := hl.2.2.2.2 hk
      subst e
      obtain ⟨a1, a2, a3, a4⟩ := al_sim t u v (h.var s u v hu hv hk)
      exact ⟨a1, a2, a3, fun k hk => Or.inl (a4 k hk)⟩
    · have hk' : (p.nd s').kind ≠ 1 := by rw [← hl.1]; exact hk
      obtain ⟨l1, l2, l3, l4⟩ := h.lab s u hu hk
      obtain ⟨m1, m2, m3, m4⟩ := h.lab s' v hv hk'
      refine ⟨(h.rng s u hu).2, (h.rng s' v hv).2, ⟨by rw [← l1, ← m1]; exact hl.1, by rw [← l2, ← m2]; exact hl.2.1, by rw [← l3, ← m3]; exact hl.2.2.1, by rw [← l4, ← m4]; exact hl.2.2.2.1, fun hv1 => absurd (l1.trans hv1) hk⟩, fun k hkk => ?_⟩
      have hk1 : k < (p.nd s).args.length := by rw [l4]; exact hkk
      have hk2 : k < (p.nd s').args.length := by rw [← hl.2.2.2.1]; exact hk1
      exact Or.inr ⟨_, _, ha k hk1, h.arg s u hu hk k hk1, h.arg s' v hv hk' k hk2⟩
theorem Ins.refl {p : Gf} (hg : Good p) : Ins p p (fun x y => isN p x ∧ x = y) :=
  ⟨fun x y h => ⟨h.1, h.2 ▸ h.1⟩, fun x y h _ => by rw [h.2]; exact ⟨rfl, rfl, rfl, rfl⟩, fun x y h _ k hk => ⟨arg_isN hg h.1 hk, by rw [h.2]⟩, fun x y y' h h' _ => by rw [← h.2, ← h'.2]; exact al_refl hg h.1, rfl, fun i hi => ⟨hg.root _ (getD_mem hi), rfl⟩⟩
theorem Ins.trans {a b c : Gf} {S T : Int → Int → Prop} (h : Ins a b S) (k : Ins b c T) : ∃ U, Ins a c U := by
  refine ⟨fun x z => ∃ y, S x y ∧ T y z, fun x z ⟨y, hs, ht⟩ => ⟨(h.rng x y hs).1, (k.rng y z ht).2⟩, fun x z ⟨y, hs, ht⟩ hk => ?_, fun x z ⟨y, hs, ht⟩ hk j hj => ?_, fun x z z' ⟨y, hs, ht⟩ ⟨y', hs', ht'⟩ hk => k.al (h.var x y y' hs hs' hk) ht ht', h.len.trans k.len, fun i hi => ⟨_, h.root i hi, k.root i (by rw [← h.len]; exact hi)⟩⟩
  · obtain ⟨l1, l2, l3, l4⟩ := h.lab x y hs hk
    obtain ⟨m1, m2, m3, m4⟩ := k.lab y z ht (by rw [← l1]; exact hk)
    exact ⟨l1.trans m1, l2.trans m2, l3.trans m3, l4.trans m4⟩
  · obtain ⟨l1, l2, l3, l4⟩ := h.lab x y hs hk
    exact ⟨_, h.arg x y hs hk j hj, k.arg y z ht (by rw [← l1]; exact hk) j (by rw [← l4]; exact hj)⟩
/-- Pairs that are come to from the roots by one way. -/
inductive Way2 (a b : Gf) : Int → Int → Prop
  | root (i : Nat) (hi : i < a.roots.length) : Way2 a b (a.roots.getD i 0) (b.roots.getD i 0)
  | arg {x y : Int} (k : Nat) (h : Way2 a b x y) (hk : k < (a.nd x).args.length) : Way2 a b (a.arg x k) (b.arg y k)
theorem way2_both {a b : Gf} {S T : Int → Int → Prop} (hga : Good a) (h : Ins a b S) (k : Ins b a T) : ∀ {x y : Int}, Way2 a b x y → S x y ∧ T y x := by
  have hvar : ∀ (g : Gf), Good g → ∀ x, isN g x → (g.nd x).kind = 1 → (g.nd x).args = [] := fun g hg x hx hk => by
    have hx0 := hx.1
    have hx1 := hx.2
    have h := (goodA_of hg).var x.toNat (by
      show (ndN g.nodes x.toNat).kind = 1
      rw [← nd_int g x.toNat, show ((x.toNat : Nat) : Int) = x by omega]
      exact hk)
    rw [← nd_int g x.toNat, show ((x.toNat : Nat) : Int) = x by omega] at h
    exact h
  intro x y hw
  induction hw with
  | root i hi => exact ⟨h.root i hi, k.root i (by rw [← h.len]; exact hi)⟩
  | @arg x y j hxy hj ih =>
    obtain ⟨hs, ht⟩ := ih
    have hkx : (a.nd x).kind ≠ 1 := fun hk => by rw [hvar a hga x (h.rng x y hs).1 hk] at hj; simp at hj
    obtain ⟨l1, l2, l3, l4⟩ := h.lab x y hs hkx
    exact ⟨h.arg x y hs hkx j hj, k.arg y x ht (by rw [← l1]; exact hkx) j (by rw [← l4]; exact hj)⟩
/-- Instances of one another: a pairing. -/
theorem ins_pr {a b : Gf} {S T : Int → Int → Prop} (hga : Good a) (hgb : Good b) (h : Ins a b S) (k : Ins b a T) : Pr a b (Way2 a b) := by
  have hb := fun {x y : Int} (hw : Way2 a b x y) => way2_both hga h k hw
  have hkind : ∀ x y, Way2 a b x y → ((a.nd x).kind = 1 ↔ (b.nd y).kind = 1) := fun x y hw => by
    obtain ⟨hs, ht⟩ := hb hw
    constructor
    · intro hx
      apply Classical.byContradiction
      intro hy
      exact hy ((k.lab y x ht hy).1.trans hx)
    · intro hy
      apply Classical.byContradiction
      intro hx
      exact hx ((h.lab x y hs hx).1.trans hy)
  refine ⟨fun x y hw => h.rng x y (hb hw).1, fun x y hw => ?_, fun x y hw j hj => .arg j hw hj, fun x y y' hw hw' hk => ?_, fun x x' y hw hw' hk => ?_, h.len, fun i hi => .root i hi⟩
  · by_cases hk : (a.nd x).kind = 1
    · have hk' := (hkind x y hw).1 hk
      obtain ⟨r1, r2⟩ := h.rng x y (hb hw).1
      have e1 := r1.1
      have e2 := r1.2
      have e3 := r2.1
      have e4 := r2.2
      have ga := good_ndI hga r1
      have gb := good_ndI hgb r2
      unfold goodNd at ga gb
      rw [if_pos hk] at ga
      rw [if_pos hk'] at gb
      simp only [Bool.and_eq_true, decide_eq_true_eq] at ga gb
      exact ⟨hk.trans hk'.symm, str_eq (ga.1.1.trans gb.1.1.symm), ga.1.2.trans gb.1.2.symm, ga.2.trans gb.2.symm⟩
    · exact h.lab x y (hb hw).1 hk
  · have hal := h.var x y y' (hb hw).1 (hb hw').1 hk
    exact (al_sim b y y' hal).2.2.1.2.2.2.2 ((hkind x y hw).1 hk)
  · have hal := k.var y x x' (hb hw).2 (hb hw').2 hk
    exact (al_sim a x x' hal).2.2.1.2.2.2.2 ((hkind x y hw).2 hk)
/-- A pairing makes instances both ways. -/
theorem pr_ins {a b : Gf} (hgb : Good b) {R : Int → Int → Prop} (h : Pr a b R) : Ins a b R :=
  ⟨h.rng, fun x y r _ => h.lab x y r, fun x y r _ k hk => h.arg x y r k hk, fun x y y' r r' hk => by rw [h.v1 x y y' r r' hk]; exact al_refl hgb (h.rng x y' r').2, h.len, h.root⟩
end Go.Proofs.Ytllafbghomohhaa
