/- The census of package tie: term and counted. -/
import Derived.Test.Ytncileojdighnaana32Z
import Derived.Test.Ytncileojdighnaana31Z
namespace Go.Proofs.Ytncileojdighnaa
set_option maxRecDepth 100000
open Go.RowKit Go.Maps
theorem xblk {w : World} {q : Nat} {u0 u1 u2 u3 : Value} {T : TypeId} (h : w.heap[q]? = some (.cells #[u0, u1, u2, u3] T)) : (w.cell? ⟨q, 0, none⟩ = some u0 ∧ w.cell? ⟨q, 1, none⟩ = some u1 ∧ w.cell? ⟨q, 2, none⟩ = some u2 ∧ w.cell? ⟨q, 3, none⟩ = some u3) ∧ w.frozen? ⟨q, 0, none⟩ = false ∧ w.frozen? ⟨q, 3, none⟩ = false := by
  refine ⟨⟨?_, ?_, ?_, ?_⟩, ?_, ?_⟩ <;> simp [World.cell?, World.frozen?, h]
theorem prt_len : ∀ xs : List Ex, xs.length ≤ prtXs xs
  | [] => by simp
  | x :: r => by
    have h1 := prtX_pos x
    have h2 := prt_len r
    rw [prtXs, List.length_cons]
    omega
theorem oth_upd {w : World} {B cb q oth : Nat} {v : Value} {l : List ByteArray} (h : Cs w B cb v q l oth) : CsU w (w.setCell ⟨cb, 2, none⟩ (.int .i64 ((oth : Int) + 1))) B cb q v l (oth + 1) := by
  have hne := h.ne
  have far : ∀ k, k ≠ cb → (w.setCell ⟨cb, 2, none⟩ (.int .i64 ((oth : Int) + 1))).heap[k]? = w.heap[k]? := fun k hk => Below.heap_setCell w ⟨cb, 2, none⟩ _ k hk
  obtain ⟨D, hD, hM⟩ := h.map
  exact ⟨v, ⟨cs_blk2 _ h.blk, h.base, h.mb, row_keep h.own (fun k hk => far k (hne.2 k hk).1), D, mapI_keep hD (far q (fun e => hne.1 e.symm)), hM⟩, (Mo.refl _ w).setCell (p := ⟨cb, 2, none⟩) (Or.inl (Or.inl rfl)) _, Nx.refl _ _⟩
set_option maxHeartbeats 4000000 in
theorem cterm_any (W0 : World) (x : Ex) : CTermC W0 x := by
  induction x using Ex.ind with
  | h k n m xs ih =>
    intro w ev cb v q l oth hx hz hB hC hl ho
    obtain ⟨av, rfl, hr⟩ := hx.parts
    obtain ⟨ao, c, rfl, hat⟩ := hr
    have hAt := hid hat
    have hsz := hB.size
    have hb0 := below_alloc w (.cells #[.int .i64 k, .string n, .int .i64 m, .slice ao xs.length c] 48)
    have hC1 := hC.next hb0
    have hx1 : Xv (w.alloc (.cells #[.int .i64 k, .string n, .int .i64 m, .slice ao xs.length c] 48)) (.mk k n m xs) (.agg #[.int .i64 k, .string n, .int .i64 m, .slice ao xs.length c]) := hx.next (Below.next hB hb0)
    have hin := isNamed_any hx1
    have hql : Hid (∀ b, CsF cb v q b → b < w.heap.size) := fun b hb => (hC.lt hb).2
    have hbx := heap_alloc_new w (.cells #[.int .i64 k, .string n, .int .i64 m, .slice ao xs.length c] 48)
    rw [prtX] at hl ho
    have hxl := prt_len xs
    have IH : Hid (∀ x ∈ xs, CTermC W0 x) := ih
    have hzs := hid hz.2
    have hzn := hz.1
    clear hat ih hx
    by_cases hn : nmX (.mk k n m xs) = true
    · have hE : Hid (namX l (.mk k n m xs) = namXs (putS l n) xs ∧ othX (.mk k n m xs) = 0 + othXs xs) := by
        have hn' : (decide (k = 1) && !isU n) = true := hn
        exact ⟨by rw [namX, if_pos hn'], by rw [othX, if_pos hn']⟩
      have hps := putS_len l n
      rw [hn] at hin
      have HC := hid hC
      have HB := hid hB
      have hnm := fun (w1 : World) (h1 : Cs w1 W0.heap.size cb v q l oth) (h2 : W0.heap.size ≤ w1.heap.size) => name_any h1 n hzn (by omega) h2
      have hnx : Hid (∀ w1 : World, Below (w.alloc (.cells #[.int .i64 k, .string n, .int .i64 m, .slice ao xs.length c] 48)).heap.size (w.alloc (.cells #[.int .i64 k, .string n, .int .i64 m, .slice ao xs.length c] 48)) w1 → Cs w1 W0.heap.size cb v q l oth ∧ W0.heap.size ≤ w1.heap.size ∧ w1.heap[w.heap.size]? = some (.cells #[.int .i64 k, .string n, .int .i64 m, .slice ao xs.length c] 48) ∧ ∀ w2, CsU w1 w2 W0.heap.size cb q v (putS l n) oth → CsU w w2 W0.heap.size cb q v (putS l n) (oth + 0) ∧ w2.heap[w.heap.size]? = some (.cells #[.int .i64 k, .string n, .int .i64 m, .slice ao xs.length c] 48)) := fun w1 hb1 => by
        have hs1 := hb1.size
        have hbx1 := (hb1.block w.heap.size (by simp)).trans hbx
        refine ⟨hC1.next hb1, by simp at hs1; omega, hbx1, fun w2 hU => ⟨CsU.trans (Mo.ofBelow (Below.next hb0 hb1)) (Nx.refl _ _) hU, ?_⟩⟩
        obtain ⟨_, _, hm, _⟩ := hU
        rw [hm.block _ (lt_of_block hbx1) (fun h => Nat.lt_irrefl _ (hql.out _ h))]
        exact hbx1
      clear hn hC hC1 hx1 hB
      go_enter Try.func47, Try.ntmps47
      go_wp2_with (first
        | (go_at_call 74; refine hin.mono ?_; rintro e w1 ⟨rfl, hb1⟩; obtain ⟨hC2, hs2, hbx1, hnn⟩ := hnx.out w1 hb1; obtain ⟨⟨x0', x1', x2', x3'⟩, _⟩ := xblk hbx1; have hzz := lt_of_block hbx1)
        | (go_at_call 48; refine (hnm _ hC2 hs2).mono ?_; rintro e w2 ⟨rfl, hU⟩; obtain ⟨hU2, hbx2⟩ := hnn w2 hU; obtain ⟨⟨y0, y1, y2, y3⟩, _⟩ := xblk hbx2; have hzz2 := lt_of_block hbx2; clear hU hnn))
      have hlen : Hid (∀ j, j < xs.length → (namXs (putS l n) (xs.take j)).length + prtX (xs.getD j x0) ≤ 100000 ∧ (oth + 0) + othXs (xs.take j) + prtX (xs.getD j x0) ≤ 100000) := fun j hj => by
        have h1 := namXs_len (putS l n) (xs.take j)
        have h2 := othXs_le (xs.take j)
        have h3 := prtXs_take xs (j + 1)
        rw [take_x hj, prtXs_app] at h3
        constructor <;> omega
      have hU0 : Hid (CsU w w2 W0.heap.size cb q v (namXs (putS l n) (xs.take 0)) ((oth + 0) + othXs (xs.take 0))) := by
        rw [List.take_zero]
        exact hU2
      clear hU2
      go_loopw [22] (fun i wr => ∃ j : Nat, j ≤ xs.length ∧ i = .int .i64 (j : Int) ∧ Hid (CsU w wr W0.heap.size cb q v (namXs (putS l n) (xs.take j)) ((oth + 0) + othXs (xs.take j)))) (fun i _ => xs.length - (intOf i).toNat)
      case atStart => exact ⟨0, by omega, rfl, hU0⟩
      case round =>
        clear hU0
        obtain ⟨j, hj, rfl, hU⟩ := hrel
        by_cases hlt : j < xs.length
        · obtain ⟨b, o, k', n', m', aa, al, ac, rfl, d0, d1, d2, d3, hx⟩ := hAt.out j hlt
          have hBr := CsU.below HC.out hU.out rfl HB.out
          have hz := lt_of_cell d0
          have c0 := ((bcell hBr).1 b _ hz).trans d0
          have c1 := ((bcell hBr).1 b _ hz).trans d1
          have c2 := ((bcell hBr).1 b _ hz).trans d2
          have c3 := ((bcell hBr).1 b _ hz).trans d3
          have hzr : b < wr.heap.size := Nat.lt_of_lt_of_le hz hBr.size
          obtain ⟨v', hC', hm', hn'⟩ := hU.out
          have hb2 := below_alloc wr (.cells #[.int .i64 k', .string n', .int .i64 m', .slice aa al ac] 48)
          obtain ⟨hl1, hl2⟩ := hlen.out j hlt
          have hcall := IH.out _ (xs_at hlt) _ _ cb v' q _ _ hx (szXs_mem hzs.out _ (xs_at hlt)) (Below.next hBr hb2) (hC'.next hb2) hl1 hl2
          have hM' := hid (hm'.alloc (.cells #[.int .i64 k', .string n', .int .i64 m', .slice aa al ac] 48))
          have hN' := hid hn'
          clear d0 d1 d2 d3 hx hz hC' hm' hn' hU hl1 hl2 hBr hb2
          go_wp2_with (go_at_call 47; refine hcall.mono ?_; rintro e w3 ⟨rfl, hU3⟩)
          go_roundw
          case rel =>
            refine ⟨j + 1, by omega, by go_num, (show CsU _ _ _ _ _ _ _ _ from ?_)⟩
            rw [take_x hlt, namXs_app, othXs_app, ← Nat.add_assoc]
            exact CsU.trans hM'.out hN'.out hU3
          case measure => simp [intOf]; omega
        · obtain rfl : j = xs.length := by omega
          have hU' := hid hU.out
          clear hU
          go_wp2
          refine bodyPost_end (tret_void Try.results47) rfl ⟨rfl, ?_⟩
          have h9 := hU'.out
          rw [List.take_length] at h9
          rw [hE.out.1, hE.out.2, ← Nat.add_assoc]
          exact h9
    · have hn0 : nmX (.mk k n m xs) = false := by simpa using hn
      have hE : Hid (namX l (.mk k n m xs) = namXs l xs ∧ othX (.mk k n m xs) = 1 + othXs xs) := by
        have hn' : ¬ (decide (k = 1) && !isU n) = true := hn
        exact ⟨by rw [namX, if_neg hn'], by rw [othX, if_neg hn']⟩
      rw [hn0] at hin
      have HC := hid hC
      have HB := hid hB
      have hnx : Hid (∀ w1 : World, Below (w.alloc (.cells #[.int .i64 k, .string n, .int .i64 m, .slice ao xs.length c] 48)).heap.size (w.alloc (.cells #[.int .i64 k, .string n, .int .i64 m, .slice ao xs.length c] 48)) w1 → (w1.cell? ⟨cb, 2, none⟩ = some (.int .i64 (oth : Int)) ∧ w1.frozen? ⟨cb, 2, none⟩ = false ∧ cb < w1.heap.size) ∧ CsU w (w1.setCell ⟨cb, 2, none⟩ (.int .i64 ((oth : Int) + 1))) W0.heap.size cb q v l (oth + 1) ∧ (w1.setCell ⟨cb, 2, none⟩ (.int .i64 ((oth : Int) + 1))).heap[w.heap.size]? = some (.cells #[.int .i64 k, .string n, .int .i64 m, .slice ao xs.length c] 48)) := fun w1 hb1 => by
        have hbx1 := (hb1.block w.heap.size (by simp)).trans hbx
        have hC2 := hC1.next hb1
        have hcl := hC2.cells
        refine ⟨⟨hcl.1.2.2, hcl.2.2.2, lt_of_block hC2.blk⟩, CsU.trans (Mo.ofBelow (Below.next hb0 hb1)) (Nx.refl _ _) (oth_upd hC2), ?_⟩
        rw [Below.heap_setCell _ _ _ _ (by have := hql.out cb (Or.inl rfl); show w.heap.size ≠ cb; omega)]
        exact hbx1
      have hoth : (oth : Int) + 1 ≤ 200000 := by omega
      clear hn hn0 hC hC1 hx1 hB
      go_enter Try.func47, Try.ntmps47
      go_wp2_with (go_at_call 74; refine hin.mono ?_; rintro e w1 ⟨rfl, hb1⟩; obtain ⟨⟨g0, g1, g2⟩, hU2, hbx2⟩ := hnx.out w1 hb1; obtain ⟨⟨y0, y1, y2, y3⟩, _⟩ := xblk hbx2; have hzz2 := lt_of_block hbx2)
      generalize w1.setCell ⟨cb, 2, none⟩ (.int .i64 ((oth : Int) + 1)) = w2 at *
      have hlen : Hid (∀ j, j < xs.length → (namXs (l) (xs.take j)).length + prtX (xs.getD j x0) ≤ 100000 ∧ (oth + 1) + othXs (xs.take j) + prtX (xs.getD j x0) ≤ 100000) := fun j hj => by
        have h1 := namXs_len (l) (xs.take j)
        have h2 := othXs_le (xs.take j)
        have h3 := prtXs_take xs (j + 1)
        rw [take_x hj, prtXs_app] at h3
        constructor <;> omega
      have hU0 : Hid (CsU w w2 W0.heap.size cb q v (namXs (l) (xs.take 0)) ((oth + 1) + othXs (xs.take 0))) := by
        rw [List.take_zero]
        exact hU2
      clear hU2
      go_loopw [22] (fun i wr => ∃ j : Nat, j ≤ xs.length ∧ i = .int .i64 (j : Int) ∧ Hid (CsU w wr W0.heap.size cb q v (namXs (l) (xs.take j)) ((oth + 1) + othXs (xs.take j)))) (fun i _ => xs.length - (intOf i).toNat)
      case atStart => exact ⟨0, by omega, rfl, hU0⟩
      case round =>
        clear hU0
        obtain ⟨j, hj, rfl, hU⟩ := hrel
        by_cases hlt : j < xs.length
        · obtain ⟨b, o, k', n', m', aa, al, ac, rfl, d0, d1, d2, d3, hx⟩ := hAt.out j hlt
          have hBr := CsU.below HC.out hU.out rfl HB.out
          have hz := lt_of_cell d0
          have c0 := ((bcell hBr).1 b _ hz).trans d0
          have c1 := ((bcell hBr).1 b _ hz).trans d1
          have c2 := ((bcell hBr).1 b _ hz).trans d2
          have c3 := ((bcell hBr).1 b _ hz).trans d3
          have hzr : b < wr.heap.size := Nat.lt_of_lt_of_le hz hBr.size
          obtain ⟨v', hC', hm', hn'⟩ := hU.out
          have hb2 := below_alloc wr (.cells #[.int .i64 k', .string n', .int .i64 m', .slice aa al ac] 48)
          obtain ⟨hl1, hl2⟩ := hlen.out j hlt
          have hcall := IH.out _ (xs_at hlt) _ _ cb v' q _ _ hx (szXs_mem hzs.out _ (xs_at hlt)) (Below.next hBr hb2) (hC'.next hb2) hl1 hl2
          have hM' := hid (hm'.alloc (.cells #[.int .i64 k', .string n', .int .i64 m', .slice aa al ac] 48))
          have hN' := hid hn'
          clear d0 d1 d2 d3 hx hz hC' hm' hn' hU hl1 hl2 hBr hb2
          go_wp2_with (go_at_call 47; refine hcall.mono ?_; rintro e w3 ⟨rfl, hU3⟩)
          go_roundw
          case rel =>
            refine ⟨j + 1, by omega, by go_num, (show CsU _ _ _ _ _ _ _ _ from ?_)⟩
            rw [take_x hlt, namXs_app, othXs_app, ← Nat.add_assoc]
            exact CsU.trans hM'.out hN'.out hU3
          case measure => simp [intOf]; omega
        · obtain rfl : j = xs.length := by omega
          have hU' := hid hU.out
          clear hU
          go_wp2
          refine bodyPost_end (tret_void Try.results47) rfl ⟨rfl, ?_⟩
          have h9 := hU'.out
          rw [List.take_length] at h9
          rw [hE.out.1, hE.out.2, ← Nat.add_assoc]
          exact h9
end Go.Proofs.Ytncileojdighnaa
