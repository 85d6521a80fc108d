/- The census of package tie: term and counted. -/
import Derived.Test.Ytjkcffcedbcjmaata29Z
import Derived.Test.Ytjkcffcedbcjmaata28Z
namespace Go.Proofs.Ytjkcffcedbcjmaa
set_option maxRecDepth 100000
open Go.RowKit Go.Maps
theorem xblk {w : World} {q : Nat} {u0 u1 u2 u3 : Value} {T : TypeId} (h : w.heap[q]? = some (.cells #[u0, u1, u2, u3] T)) : (w.cell? ⟨q, 0, none⟩ = some u0 ∧ w.cell? ⟨q, 1, none⟩ = some u1 ∧ w.cell? ⟨q, 2, none⟩ = some u2 ∧ w.cell? ⟨q, 3, none⟩ = some u3) ∧ w.frozen? ⟨q, 0, none⟩ = false ∧ w.frozen? ⟨q, 3, none⟩ = false := by
  refine ⟨⟨?_, ?_, ?_, ?_⟩, ?_, ?_⟩ <;> simp [World.cell?, World.frozen?, h]
theorem prt_len : ∀ xs : List Ex, xs.length ≤ prtXs xs
  | [] => by simp
  | x :: r => by
    have h1 := prtX_pos x
    have h2 := prt_len r
    rw [prtXs, List.length_cons]
    omega
theorem oth_upd {w : World} {B cb q oth : Nat} {v : Value} {l : List ByteArray} (h : Cs w B cb v q l oth) : CsU w (w.setCell ⟨cb, 2, none⟩ (.int .i64 ((oth : Int) + 1))) B cb q v l (oth + 1) := by
  have hne := h.ne
  have far : ∀ k, k ≠ cb → (w.setCell ⟨cb, 2, none⟩ (.int .i64 ((oth : Int) + 1))).heap[k]? = w.heap[k]? := fun k hk => Below.heap_setCell w ⟨cb, 2, none⟩ _ k hk
  obtain ⟨D, hD, hM⟩ := h.map
  exact ⟨v, ⟨cs_blk2 _ h.blk, h.base, h.mb, row_keep h.own (fun k hk => far k (hne.2 k hk).1), D, mapI_keep hD (far q (fun e => hne.1 e.symm)), hM⟩, (Mo.refl _ w).setCell (p := ⟨cb, 2, none⟩) (Or.inl (Or.inl rfl)) _, Nx.refl _ _⟩
set_option maxHeartbeats 4000000 in
theorem cterm_any (W0 : World) (x : Ex) : CTermC W0 x := by
  induction x using Ex.ind with
  | h k n m xs ih =>
    intro w ev cb v q l oth hx hz hB hC hl ho
    obtain ⟨av, rfl, hr⟩ := hx.parts
    obtain ⟨ao, c, rfl, hat⟩ := hr
    have hAt := hid hat
    have hsz := hB.size
    have hb0 := below_alloc w (.cells #[.int .i64 k, .string n, .int .i64 m, .slice ao xs.length c] 48)
    have hC1 := hC.next hb0
    have hx1 : Xv (w.alloc (.cells #[.int .i64 k, .string n, .int .i64 m, .slice ao xs.length c] 48)) (.mk k n m xs) (.agg #[.int .i64 k, .string n, .int .i64 m, .slice ao xs.length c]) := hx.next (Below.next hB hb0)
    have hin := isNamed_any hx1
    have hql : Hid (∀ b, CsF cb v q b → b < w.heap.size) := fun b hb => (hC.lt hb).2
    have hbx := heap_alloc_new w (.cells #[.int .i64 k, .string n, .int .i64 m, .slice ao xs.length c] 48)
    rw [prtX] at hl ho
    have hxl := prt_len xs
    have IH : Hid (∀ x ∈ xs, CTermC W0 x) := ih
    have hzs := hid hz.2
    have hzn := hz.1
    clear hat ih hx
    by_cases hn : nmX (.mk k n m xs) = true
    · have hE : Hid (namX l (.mk k n m xs) = namXs (putS l n) xs ∧ othX (.mk k n m xs) = 0 + othXs xs) := by
        have hn' : (decide (k = 1) && !isU n) = true := hn
        exact ⟨by rw [namX, if_pos hn'], by rw [othX, if_pos hn']⟩
      have hps := putS_len l n
      rw [hn] at hin
      have HC := hid hC
      have HB := hid hB
      have hnm := fun (w1 : World) (h1 : Cs w1 W0.heap.size cb v q l oth) (h2 : W0.heap.size ≤ w1.heap.size) => name_any h1 n hzn (by omega) h2
      have hnx : Hid (∀ w1 : World, Below (w.alloc (.cells #[.int .i64 k, .string n, .int .i64 m, .slice ao xs.length c] 48)).heap.size (w.alloc (.cells #[.int .i64 k, .string n, .int .i64 m, .slice ao xs.length c] 48)) w1 → Cs w1 W0.heap.size cb v q l oth ∧ W0.heap.size ≤ w1.heap.size ∧ w1.heap[w.heap.size]? = some (.cells #[.int .i64 k, .string n, .int .i64 m, .slice ao xs.length c] 48) ∧ ∀ w2, CsU w1 w2 W0.heap.size cb q v (putS l n) oth → CsU w w2 W0.heap.size cb q v (putS l n) (oth + 0) ∧ w2.heap[w.heap.size]? = some (.cells #[.int .i64 k, .string n, .int .i64 m, .slice ao xs.length c] 48)) := fun w1 hb1 => by
        have hs1 := hb1.size
        have hbx1 := (hb1.block w.heap.size (by simp)).trans hbx
        refine ⟨hC1.next hb1, by simp at hs1; omega, hbx1, fun w2 hU => ⟨CsU.trans (Mo.ofBelow (Below.next hb0 hb1)) (Nx.refl _ _) hU, ?_⟩⟩
        obtain ⟨_, _, hm, _⟩ := hU
        rw [hm.block _ (lt_of_block hbx1) (fun h => Nat.lt_irrefl _ (hql.out _ h))]
        exact hbx1
      clear hn hC hC1 hx1 hB
      go_enter Try.func47, Try.ntmps47
      go_wp2_with (first
        | (go_at_call 74; refine hin.mono ?_; rintro e w1 ⟨rfl, hb1⟩; obtain ⟨hC2, hs2, hbx1, hnn⟩ := hnx.out w1 hb1; obtain ⟨⟨x0', x1', x2', x3'⟩, _⟩ := xblk hbx1; have hzz := lt_of_block hbx1)
        | (go_at_call 48; refine (hnm _ hC2 hs2).mono ?_; rintro e w2 ⟨rfl, hU⟩; obtain ⟨hU2, hbx2⟩ := hnn w2 hU; obtain ⟨⟨y0, y1, y2, y3⟩, _⟩ := xblk hbx2; have hzz2 := lt_of_block hbx2; clear hU hnn))
      have hlen : Hid (∀ j, j < xs.length → (namXs (putS l n) (xs.take j)).length + prtX (xs.getD j x0) ≤ 100000 ∧ (oth + 0) + othXs (xs.take j) + prtX (xs.getD j x0) ≤ 100000) := fun j hj => by
        have h1 := namXs_len (putS l n) (xs.take j)
        have h2 := othXs_le (xs.take j)
        have h3 := prtXs_take xs (j + 1)
        rw [take_x hj, prtXs_app] at h3
        constructor <;> omega
      have hU0 : Hid (CsU w w2 W0.heap.size cb q v (namXs (putS l n) (xs.take 0)) ((oth + 0) + othXs (xs.take 0))) := by
        rw [List.take_zero]
        exact hU2
      clear hU2
      go_loopw [22] (fun i wr => ∃ j : Nat, j ≤ xs.length ∧ i = .int .i64 (j : Int) ∧ Hid (CsU w wr W0.heap.size cb q v (namXs (putS l n) (xs.take j)) ((oth + 0) + othXs (xs.take j)))) (fun i _ => xs.length - (intOf i).toNat)
      case atStart => exact ⟨0, by omega, rfl, hU0⟩
      case round =>
        clear hU0
        obtain ⟨j, hj, rfl, hU⟩ := hrel
        by_cases hlt : j < xs.length
        · obtain ⟨b, o, k', n', m', aa, al, ac, rfl, d0, d1, d2, d3, hx⟩ := hAt.out j hlt
          have hBr := CsU.below HC.out hU.out rfl HB.out
          have hz := lt_of_cell d0
          have c0 := ((bcell hBr).1 b _ hz).trans d0
          have c1 := ((bcell hBr).1 b _ hz).trans d1
          have c2 := ((bcell hBr).1 b _ hz).trans d2
          have c3 := ((bcell hBr).1 b _ hz).trans d3
          have hzr : b < wr.heap.size := Nat.lt_of_lt_of_le hz hBr.size
          obtain ⟨v', hC', hm', hn'⟩ := hU.out
          have hb2 := below_alloc wr (.cells #[.int .i64 k', .string n', .int .i64 m', .slice aa al ac] 48)
          obtain ⟨hl1, hl2⟩ := hlen.out j hlt
          have hcall := IH.out _ (xs_at hlt) _ _ cb v' q _ _ hx (szXs_mem hzs.out _ (xs_at hlt)) (Below.next hBr hb2) (hC'.next hb2) hl1 hl2
          have hM' := hid (hm'.alloc (.cells #[.int .i64 k', .string n', .int .i64 m', .slice aa al ac] 48))
          have hN' := hid hn'
          clear d0 d1 d2 d3 hx hz hC' hm' hn' hU hl1 hl2 hBr hb2
          go_wp2_with (go_at_call 47; refine hcall.mono ?_; rintro e w3 ⟨rfl, hU3⟩)
          go_roundw
          case rel =>
            refine ⟨j + 1, by omega, by go_num, (show CsU _ _ _ _ _ _ _ _ from ?_)⟩
            rw [take_x hlt, namXs_app, othXs_app, ← Nat.add_assoc]
            exact CsU.trans hM'.out hN'.out hU3
          case measure => simp [intOf]; omega
        · obtain rfl : j = xs.length := by omega
          have hU' := hid hU.out
          clear hU
          go_wp2
          refine bodyPost_end (tret_void Try.results47) rfl ⟨rfl, ?_⟩
          have h9 := hU'.out
          rw [List.take_length] at h9
          rw [hE.out.1, hE.out.2, ← Nat.add_assoc]
          exact h9
    · have hn0 : nmX (.mk k n m xs) = false := by simpa using hn
      have hE : Hid (namX l (.mk k n m xs) = namXs l xs ∧ othX (.mk k n m xs) = 1 + othXs xs) := by
        have hn' : ¬ (decide (k = 1) && !isU n) = true := hn
        exact ⟨by rw [namX, if_neg hn'], by rw [othX, if_neg hn']⟩
      rw [hn0] at hin
      have HC := hid hC
      have HB := hid hB
      have hnx : Hid (∀ w1 : World, Below (w.alloc (.cells #[.int .i64 k, .string n, .int .i64 m, .slice ao xs.length c] 48)).heap.size (w.alloc (.cells #[.int .i64 k, .string n, .int .i64 m, .slice ao xs.length c] 48)) w1 → (w1.cell? ⟨cb, 2, none⟩ = some (.int .i64 (oth : Int)) ∧ w1.frozen? ⟨cb, 2, none⟩ = false ∧ cb < w1.heap.size) ∧ CsU w (w1.setCell ⟨cb, 2, none⟩ (.int .i64 ((oth : Int) + 1))) W0.heap.size cb q v l (oth + 1) ∧ (w1.setCell ⟨cb, 2, none⟩ (.int .i64 ((oth : Int) + 1))).heap[w.heap.size]? = some (.cells #[.int .i64 k, .string n, .int .i64 m, .slice ao xs.length c] 48)) := fun w1 hb1 => by
        have hbx1 := (hb1.block w.heap.size (by simp)).trans hbx
        have hC2 := hC1.next hb1
        have hcl := hC2.cells
        refine ⟨⟨hcl.1.2.2, hcl.2.2.2, lt_of_block hC2.blk⟩, CsU.trans (Mo.ofBelow (Below.next hb0 hb1)) (Nx.refl _ _) (oth_upd hC2), ?_⟩
        rw [Below.heap_setCell _ _ _ _ (by have := hql.out cb (Or.inl rfl); show w.heap.size ≠ cb; omega)]
        exact hbx1
      have hoth : (oth : Int) + 1 ≤ 200000 := by omega
      clear hn hn0 hC hC1 hx1 hB
      go_enter Try.func47, Try.ntmps47
      go_wp2_with (go_at_call 74; refine hin.mono ?_; rintro e w1 ⟨rfl, hb1⟩; obtain ⟨⟨g0, g1, g2⟩, hU2, hbx2⟩ := hnx.out w1 hb1; obtain ⟨⟨y0, y1, y2, y3⟩, _⟩ := xblk hbx2; have hzz2 := lt_of_block hbx2)
      generalize w1.setCell ⟨cb, 2, none⟩ (.int .i64 ((oth : Int) + 1)) = w2 at *
      have hlen : Hid (∀ j, j < xs.length → (namXs (l) (xs.take j)).length + prtX (xs.getD j x0) ≤ 100000 ∧ (oth + 1) + othXs (xs.take j) + prtX (xs.getD j x0) ≤ 100000) := fun j hj => by
        have h1 := namXs_len (l) (xs.take j)
        have h2 := othXs_le (xs.take j)
        have h3 := prtXs_take xs (j + 1)
        rw [take_x hj, prtXs_app] at h3
        constructor <;> omega
      have hU0 : Hid (CsU w w2 W0.heap.size cb q v (namXs (l) (xs.take 0)) ((oth + 1) + othXs (xs.take 0))) := by
        rw [List.take_zero]
        exact hU2
      clear hU2
      go_loopw [22] (fun i wr => ∃ j : Nat, j ≤ xs.length ∧ i = .int .i64 (j : Int) ∧ Hid (CsU w wr W0.heap.size cb q v (namXs (l) (xs.take j)) ((oth + 1) + othXs (xs.take j)))) (fun i _ => xs.length - (intOf i).toNat)
      case atStart => exact ⟨0, by omega, rfl, hU0⟩
      case round =>
        clear hU0
        obtain ⟨j, hj, rfl, hU⟩ := hrel
        by_cases hlt : j < xs.length
        · obtain ⟨b, o, k', n', m', aa, al, ac, rfl, d0, d1, d2, d3, hx⟩ := hAt.out j hlt
          have hBr := CsU.below HC.out hU.out rfl HB.out
          have hz := lt_of_cell d0
          have c0 := ((bcell hBr).1 b _ hz).trans d0
          have c1 := ((bcell hBr).1 b _ hz).trans d1
          have c2 := ((bcell hBr).1 b _ hz).trans d2
          have c3 := ((bcell hBr).1 b _ hz).trans d3
          have hzr : b < wr.heap.size := Nat.lt_of_lt_of_le hz hBr.size
          obtain ⟨v', hC', hm', hn'⟩ := hU.out
          have hb2 := below_alloc wr (.cells #[.int .i64 k', .string n', .int .i64 m', .slice aa al ac] 48)
          obtain ⟨hl1, hl2⟩ := hlen.out j hlt
          have hcall := IH.out _ (xs_at hlt) _ _ cb v' q _ _ hx (szXs_mem hzs.out _ (xs_at hlt)) (Below.next hBr hb2) (hC'.next hb2) hl1 hl2
          have hM' := hid (hm'.alloc (.cells #[.int .i64 k', .string n', .int .i64 m', .slice aa al ac] 48))
          have hN' := hid hn'
          clear d0 d1 d2 d3 hx hz hC' hm' hn' hU hl1 hl2 hBr hb2
          go_wp2_with (go_at_call 47; refine hcall.mono ?_; rintro e w3 ⟨rfl, hU3⟩)
          go_roundw
          case rel =>
            refine ⟨j + 1, by omega, by go_num, (show CsU _ _ _ _ _ _ _ _ from ?_)⟩
            rw [take_x hlt, namXs_app, othXs_app, ← Nat.add_assoc]
            exact CsU.trans hM'.out hN'.out hU3
          case measure => simp [intOf]; omega
        · obtain rfl : j = xs.length := by omega
          have hU' := hid hU.out
          clear hU
          go_wp2
          refine bodyPost_end (tret_void Try.results47) rfl ⟨rfl, ?_⟩
          have h9 := hU'.out
          rw [List.take_length] at h9
          rw [hE.out.1, hE.out.2, ← Nat.add_assoc]
          exact h9
end Go.Proofs.Ytjkcffcedbcjmaa

namespace Go.Proofs.Ytjkcffcedbcjmaa
set_option maxRecDepth 100000
open Go.RowKit Go.Maps
def prtQ : List (ByteArray × Ex) → Nat
  | [] => 0
  | q :: r => 1 + prtX q.2 + prtQ r
theorem take_q {qs : List (ByteArray × Ex)} {j : Nat} (h : j < qs.length) : qs.take (j + 1) = qs.take j ++ [qs.getD j q0] := by
  rw [List.take_add_one]
  simp [List.getD, h]
theorem namQ_app (l : List ByteArray) (qs : List (ByteArray × Ex)) (y : ByteArray × Ex) : namQ l (qs ++ [y]) = namX (putS (namQ l qs) y.1) y.2 := by
  induction qs generalizing l with
  | nil => rfl
  | cons x r ih => rw [List.cons_append, namQ, ih, namQ]
theorem othQ_app : ∀ (qs : List (ByteArray × Ex)) (y : ByteArray × Ex), othQ (qs ++ [y]) = othQ qs + othX y.2
  | [], y => by rw [List.nil_append, othQ, othQ, othQ]; omega
  | x :: r, y => by rw [List.cons_append, othQ, othQ, othQ_app r y]; omega
theorem prtQ_app : ∀ (qs : List (ByteArray × Ex)) (y : ByteArray × Ex), prtQ (qs ++ [y]) = prtQ qs + (1 + prtX y.2)
  | [], y => by rw [List.nil_append, prtQ, prtQ, prtQ]; omega
  | x :: r, y => by rw [List.cons_append, prtQ, prtQ, prtQ_app r y]; omega
theorem prtQ_take (qs : List (ByteArray × Ex)) : ∀ j, prtQ (qs.take j) ≤ prtQ qs := by
  induction qs with
  | nil => intro j; simp
  | cons x r ih =>
    intro j
    cases j with
    | zero => rw [List.take_zero, prtQ]; omega
    | succ j => rw [List.take_succ_cons, prtQ, prtQ]; have := ih j; omega
theorem namQ_len : ∀ (l : List ByteArray) (qs : List (ByteArray × Ex)), (namQ l qs).length ≤ l.length + prtQ qs
  | l, [] => by rw [namQ]; omega
  | l, q :: r => by
    rw [namQ, prtQ]
    have h1 := putS_len l q.1
    have h2 := namX_len (putS l q.1) q.2
    have h3 := namQ_len (namX (putS l q.1) q.2) r
    omega
theorem othQ_le : ∀ qs : List (ByteArray × Ex), othQ qs ≤ prtQ qs
  | [] => by rw [othQ]; omega
  | q :: r => by
    rw [othQ, prtQ]
    have h1 := othX_le q.2
    have h2 := othQ_le r
    omega
theorem prtQ_len : ∀ qs : List (ByteArray × Ex), qs.length ≤ prtQ qs
  | [] => by simp
  | q :: r => by
    have h2 := prtQ_len r
    rw [prtQ, List.length_cons]
    omega
theorem Cs.start (W : World) : Cs ((W.alloc (.map #[] 0)).alloc (.cells #[.slice none 0 0, .map (some W.heap.size), .int .i64 0] 71)) W.heap.size (W.heap.size + 1) (.slice none 0 0) W.heap.size [] 0 := by
  refine ⟨?_, by omega, Nat.le_refl _, World.ownsRow_nil _ _ _ _, _, (World.ownsMap_made (H := Unit) W Try.prog 9 (plainElem Try.prog 3)).alloc _, MapN.nil⟩
  have h := heap_alloc_new (W.alloc (.map #[] 0)) (.cells #[.slice none 0 0, .map (some W.heap.size), .int .i64 0] 71)
  rw [show (W.alloc (.map #[] 0)).heap.size = W.heap.size + 1 by simp] at h
  exact h
set_option maxHeartbeats 4000000 in
theorem counted_any {W : World} {xv qv : Value} {xs : List Ex} {qs : List (ByteArray × Ex)} (hX : Rxs W xv xs) (hQ : Rqs W qv qs) (hzx : szXs xs) (hzq : ∀ q ∈ qs, q.1.size ≤ 281474976710656 ∧ szX q.2) (hp : prtXs xs + prtQ qs ≤ 100000) :
    Calls Try.prog 28 #[xv, qv] W fun e w' => (∃ cb v q, e = .returned (.pointer (some ⟨cb, 0, none⟩)) ∧ Cs w' W.heap.size cb v q (namA xs qs) (othA xs qs)) ∧ Below W.heap.size W w' := by
  obtain ⟨xa, xc, rfl, hXat⟩ := hX
  obtain ⟨qa, qc, rfl, hQat⟩ := hQ
  have hXA := hid hXat
  have hQA := hid hQat
  have hxl := prt_len xs
  have hql := prtQ_len qs
  have hZX := hid (fun j (hj : j < xs.length) => szXs_mem hzx _ (xs_at hj))
  have hZQ := hid (fun j (hj : j < qs.length) => hzq (qs.getD j q0) (by simp [List.getD, hj]))
  have hmm := @run_makeMap Try.prog
  have hS := hid (Cs.start W)
  have hb1 : Hid (Below W.heap.size W ((W.alloc (.map #[] 0)).alloc (.cells #[.slice none 0 0, .map (some W.heap.size), .int .i64 0] 71))) := (below_alloc W _).alloc (by simp) _
  have hlen : Hid (∀ j, j < xs.length → (namXs [] (xs.take j)).length + prtX (xs.getD j x0) ≤ 100000 ∧ 0 + othXs (xs.take j) + prtX (xs.getD j x0) ≤ 100000) := fun j hj => by
    have h1 := namXs_len [] (xs.take j)
    have h2 := othXs_le (xs.take j)
    have h3 := prtXs_take xs (j + 1)
    rw [take_x hj, prtXs_app] at h3
    simp at h1
    constructor <;> omega
  have hlenq : Hid (∀ j, j < qs.length → (namQ (namXs [] xs) (qs.take j)).length + (1 + prtX (qs.getD j q0).2) ≤ 100000 ∧ othXs xs + othQ (qs.take j) + prtX (qs.getD j q0).2 ≤ 100000) := fun j hj => by
    have h0 := namXs_len [] xs
    have h1 := namQ_len (namXs [] xs) (qs.take j)
    have h2 := othQ_le (qs.take j)
    have h4 := othXs_le xs
    have h3 := prtQ_take qs (j + 1)
    rw [take_q hj, prtQ_app] at h3
    simp at h0
    constructor <;> omega
  clear hXat hQat hzx hzq
  go_enter Try.func28, Try.ntmps28
  go_wp2
  clear hmm
  generalize hw1 : (W.alloc (.map #[] 0)).alloc (.cells #[.slice none 0 0, .map (some W.heap.size), .int .i64 0] 71) = w1 at *
  clear hw1
  have hU0 : Hid (CsU w1 w1 W.heap.size (W.heap.size + 1) W.heap.size (.slice none 0 0) (namXs [] (xs.take 0)) (0 + othXs (xs.take 0))) := ⟨_, hS.out, Mo.refl _ _, Nx.refl _ _⟩
  go_loopw [15] (fun i wr => ∃ j : Nat, j ≤ xs.length ∧ i = .int .i64 (j : Int) ∧ Hid (CsU w1 wr W.heap.size (W.heap.size + 1) W.heap.size (.slice none 0 0) (namXs [] (xs.take j)) (0 + othXs (xs.take j)))) (fun i _ => xs.length - (intOf i).toNat)
  case atStart => exact ⟨0, by omega, rfl, hU0⟩
  case round =>
    clear hU0
    obtain ⟨j, hj, rfl, hU⟩ := hrel
    by_cases hlt : j < xs.length
    · obtain ⟨b, o, k', n', m', aa, al, ac, rfl, d0, d1, d2, d3, hx⟩ := hXA.out j hlt
      have hBr := CsU.below hS.out hU.out rfl hb1.out
      have hz := lt_of_cell d0
      have c0 := ((bcell hBr).1 b _ hz).trans d0
      have c1 := ((bcell hBr).1 b _ hz).trans d1
      have c2 := ((bcell hBr).1 b _ hz).trans d2
      have c3 := ((bcell hBr).1 b _ hz).trans d3
      have hzr : b < wr.heap.size := Nat.lt_of_lt_of_le hz hBr.size
      obtain ⟨v', hC', hm', hn'⟩ := hU.out
      have hb2 := below_alloc wr (.cells #[.int .i64 k', .string n', .int .i64 m', .slice aa al ac] 48)
      obtain ⟨hl1, hl2⟩ := hlen.out j hlt
      have hcall := cterm_any W _ _ _ (W.heap.size + 1) v' W.heap.size _ _ hx (hZX.out j hlt) (Below.next hBr hb2) (hC'.next hb2) hl1 hl2
      have hM' := hid (hm'.alloc (.cells #[.int .i64 k', .string n', .int .i64 m', .slice aa al ac] 48))
      have hN' := hid hn'
      clear d0 d1 d2 d3 hx hz hC' hm' hn' hU hl1 hl2 hBr hb2
      go_wp2_with (go_at_call 47; refine hcall.mono ?_; rintro e w3 ⟨rfl, hU3⟩)
      go_roundw
      case rel =>
        refine ⟨j + 1, by omega, by go_num, (show CsU _ _ _ _ _ _ _ _ from ?_)⟩
        rw [take_x hlt, namXs_app, othXs_app, ← Nat.add_assoc]
        exact CsU.trans hM'.out hN'.out hU3
      case measure => simp [intOf]; omega
    · obtain rfl : j = xs.length := by omega
      have hV0 : Hid (CsU w1 wr W.heap.size (W.heap.size + 1) W.heap.size (.slice none 0 0) (namQ (namXs [] xs) (qs.take 0)) (othXs xs + othQ (qs.take 0))) := by
        have h9 := hU.out
        rw [List.take_length, Nat.zero_add] at h9
        exact h9
      clear hU
      go_wp2
      go_loopw [25] (fun i wr => ∃ j : Nat, j ≤ qs.length ∧ i = .int .i64 (j : Int) ∧ Hid (CsU w1 wr W.heap.size (W.heap.size + 1) W.heap.size (.slice none 0 0) (namQ (namXs [] xs) (qs.take j)) (othXs xs + othQ (qs.take j)))) (fun i _ => qs.length - (intOf i).toNat)
      case atStart => exact ⟨0, by omega, rfl, hV0⟩
      case round =>
        clear hV0
        obtain ⟨j, hj, rfl, hU⟩ := hrel
        by_cases hlt : j < qs.length
        · obtain ⟨b, o, k', n', m', aa, al, ac, rfl, d0, d1, d2, d3, d4, hx⟩ := hQA.out j hlt
          have hBr := CsU.below hS.out hU.out rfl hb1.out
          have hz := lt_of_cell d0
          have c0 := ((bcell hBr).1 b _ hz).trans d0
          have c1 := ((bcell hBr).1 b _ hz).trans d1
          have c2 := ((bcell hBr).1 b _ hz).trans d2
          have c3 := ((bcell hBr).1 b _ hz).trans d3
          have c4 := ((bcell hBr).1 b _ hz).trans d4
          have hzr : b < wr.heap.size := Nat.lt_of_lt_of_le hz hBr.size
          obtain ⟨v', hC', hm', hn'⟩ := hU.out
          have hzk := hZQ.out j hlt
          obtain ⟨hl1, hl2⟩ := hlenq.out j hlt
          have htq := hid (take_q hlt)
          generalize hQJ : qs.getD j q0 = Q at *
          obtain ⟨nm, r⟩ := Q
          dsimp only at c0 hx hzk hl1 hl2
          clear hQJ
          have hb2 := below_alloc wr (.cells #[.string nm, .int .i64 k', .string n', .int .i64 m', .slice aa al ac] 51)
          have hbx := heap_alloc_new wr (.cells #[.string nm, .int .i64 k', .string n', .int .i64 m', .slice aa al ac] 51)
          have hsW : W.heap.size ≤ wr.heap.size := hBr.size
          have hnm := name_any (hC'.next hb2) nm hzk.1 (by omega) (by simp; omega)
          have hM' := hid (hm'.alloc (.cells #[.string nm, .int .i64 k', .string n', .int .i64 m', .slice aa al ac] 51))
          have hN' := hid hn'
          have hps := putS_len (namQ (namXs [] xs) (qs.take j)) nm
          have hql9 : Hid (∀ k, CsF (W.heap.size + 1) v' W.heap.size k → k < wr.heap.size) := fun k hk => (hC'.lt hk).2
          have hnx : Hid (∀ w2, CsU (wr.alloc (.cells #[.string nm, .int .i64 k', .string n', .int .i64 m', .slice aa al ac] 51)) w2 W.heap.size (W.heap.size + 1) W.heap.size v' (putS (namQ (namXs [] xs) (qs.take j)) nm) (othXs xs + othQ (qs.take j)) → w2.heap[wr.heap.size]? = some (.cells #[.string nm, .int .i64 k', .string n', .int .i64 m', .slice aa al ac] 51) ∧ Calls Try.prog 47 #[.pointer (some ⟨W.heap.size + 1, 0, none⟩), .agg #[.int .i64 k', .string n', .int .i64 m', .slice aa al ac]] w2 fun e w' => e = .returned (.tuple #[]) ∧ CsU w1 w' W.heap.size (W.heap.size + 1) W.heap.size (.slice none 0 0) (namX (putS (namQ (namXs [] xs) (qs.take j)) nm) r) (othXs xs + othQ (qs.take j) + othX r)) := fun w2 hU2 => by
            have hB2 := CsU.below (hC'.next hb2) hU2 rfl (Below.next hBr hb2)
            obtain ⟨v2, hC2, hm2, hn2⟩ := hU2
            refine ⟨?_, (cterm_any W _ _ _ (W.heap.size + 1) v2 W.heap.size _ _ hx hzk.2 hB2 hC2 (by omega) (by omega)).mono ?_⟩
            · rw [hm2.block _ (by simp) (fun h => Nat.lt_irrefl _ (hql9.out _ h))]
              exact hbx
            · rintro e w' ⟨rfl, hU3⟩
              refine ⟨rfl, CsU.trans hM'.out hN'.out (CsU.trans hm2 hn2 hU3)⟩
          clear d0 d1 d2 d3 d4 hx hz hC' hm' hn' hU hl1 hl2 hBr hb2 hbx
          go_wp2_with (first
            | (go_at_call 48; refine hnm.mono ?_; rintro e w2 ⟨rfl, hU2⟩; obtain ⟨hbx2, hcall⟩ := hnx.out w2 hU2; obtain ⟨⟨y0, y1, y2, y3, y4⟩, _⟩ := tblk5 hbx2; have hzz2 := lt_of_block hbx2)
            | (go_at_call 47; refine hcall.mono ?_; rintro e w3 ⟨rfl, hU3⟩))
          go_roundw
          case rel =>
            refine ⟨j + 1, by omega, by go_num, (show CsU _ _ _ _ _ _ _ _ from ?_)⟩
            rw [htq.out, namQ_app, othQ_app, ← Nat.add_assoc]
            exact hU3
          case measure => simp [intOf]; omega
        · obtain rfl : j = qs.length := by omega
          have hU' := hid hU.out
          clear hU
          go_wp2
          go_ret
          have hB9 := CsU.below hS.out hU'.out rfl hb1.out
          obtain ⟨v', hC', _, _⟩ := hU'.out
          rw [List.take_length] at hC'
          exact ⟨⟨_, _, _, rfl, hC'⟩, hB9⟩
end Go.Proofs.Ytjkcffcedbcjmaa

namespace Go.Proofs.Ytjkcffcedbcjmaa
set_option maxRecDepth 100000
open Go.RowKit
def kbl (kb : Nat) (nv lv rv : Value) (avs : List Value) : Nat → Option Nat
  | 0 => some kb
  | 1 => nv.ownBlock
  | 2 => lv.ownBlock
  | 3 => rv.ownBlock
  | j + 4 => (avs.getD j undef).ownBlock
def Dj (bl : Nat → Option Nat) : Prop := ∀ i j k, bl i = some k → bl j = some k → i = j
structure Kn (w : World) (B kb cb : Nat) (nv lv rv : Value) (avs : List Value) (ns : List Nd) (L : List Nat) (rs : List Int) : Prop where
  blk : w.heap[kb]? = some (.cells #[.pointer (some ⟨cb, 0, none⟩), nv, lv, rv] 105)
  base : B ≤ kb
  n : w.ownsRow B 63 4 nv ns.length (ncells ns avs)
  len : avs.length = ns.length
  a : ∀ j, j < ns.length → ∃ ao c, avs.getD j undef = .slice ao (ns.getD j nd0).args.length c ∧ w.ownsRow B 3 1 (.slice ao (ns.getD j nd0).args.length c) (ns.getD j nd0).args.length ((ns.getD j nd0).args.map (Value.int .i64))
  l : w.ownsRow B 3 1 lv L.length ((ints L).map (Value.int .i64))
  r : w.ownsRow B 3 1 rv rs.length (rs.map (Value.int .i64))
  dj : Dj (kbl kb nv lv rv avs)
  ll : L.length = ns.length
def KnF (kb : Nat) (nv lv rv : Value) (avs : List Value) : Nat → Prop := fun k => ∃ i, kbl kb nv lv rv avs i = some k
section
variable {w w' : World} {B kb cb : Nat} {nv lv rv : Value} {avs : List Value} {ns : List Nd} {L : List Nat} {rs : List Int}
theorem Kn.lt (h : Kn w B kb cb nv lv rv avs ns L rs) {i k : Nat} (hk : kbl kb nv lv rv avs i = some k) : B ≤ k ∧ k < w.heap.size := by
  match i, hk with
  | 0, hk =>
    have e : kb = k := by simpa [kbl] using hk
    subst e
    exact ⟨h.base, lt_of_block h.blk⟩
  | 1, hk => exact h.n.lt k hk
  | 2, hk => exact h.l.lt k hk
  | 3, hk => exact h.r.lt k hk
  | j + 4, hk =>
    by_cases hj : j < ns.length
    · obtain ⟨ao, c, e, ho⟩ := h.a j hj
      have hk' : (avs.getD j undef).ownBlock = some k := hk
      rw [e] at hk'
      exact ho.lt k hk'
    · have hk' : (avs.getD j undef).ownBlock = some k := hk
      have e : avs.getD j undef = undef := by simp [List.getD, List.getElem?_eq_none (show avs.length ≤ j by rw [h.len]; omega)]
      rw [e] at hk'
      cases hk'
theorem Kn.keep (h : Kn w B kb cb nv lv rv avs ns L rs) (hm : ∀ k, KnF kb nv lv rv avs k → w'.heap[k]? = w.heap[k]?) : Kn w' B kb cb nv lv rv avs ns L rs := by
  refine ⟨(hm kb ⟨0, rfl⟩).trans h.blk, h.base, row_keep h.n (fun k hk => hm k ⟨1, hk⟩), h.len, fun j hj => ?_, row_keep h.l (fun k hk => hm k ⟨2, hk⟩), row_keep h.r (fun k hk => hm k ⟨3, hk⟩), h.dj, h.ll⟩
  obtain ⟨ao, c, e, ho⟩ := h.a j hj
  exact ⟨ao, c, e, row_keep ho (fun k hk => hm k ⟨j + 4, by show (avs.getD j undef).ownBlock = _; rw [e]; exact hk⟩)⟩
theorem Kn.next (h : Kn w B kb cb nv lv rv avs ns L rs) (hb : Below w.heap.size w w') : Kn w' B kb cb nv lv rv avs ns L rs := h.keep fun k ⟨_, hk⟩ => hb.block k (h.lt hk).2
theorem Kn.cells (h : Kn w B kb cb nv lv rv avs ns L rs) : (w.cell? ⟨kb, 0, none⟩ = some (.pointer (some ⟨cb, 0, none⟩)) ∧ w.cell? ⟨kb, 1, none⟩ = some nv ∧ w.cell? ⟨kb, 2, none⟩ = some lv ∧ w.cell? ⟨kb, 3, none⟩ = some rv) ∧ w.frozen? ⟨kb, 1, none⟩ = false ∧ w.frozen? ⟨kb, 2, none⟩ = false ∧ w.frozen? ⟨kb, 3, none⟩ = false := by
  have := h.blk
  refine ⟨⟨?_, ?_, ?_, ?_⟩, ?_, ?_, ?_⟩ <;> simp [World.cell?, World.frozen?, this]
theorem Kn.nsl (h : Kn w B kb cb nv lv rv avs ns L rs) : ∃ ao c, nv = .slice ao ns.length c := own_sl h.n
theorem Kn.lsl (h : Kn w B kb cb nv lv rv avs ns L rs) : ∃ ao c, lv = .slice ao ns.length c := by have := own_sl h.l; rwa [h.ll] at this
end
def KnU (w w' : World) (B kb cb : Nat) (nv lv rv : Value) (avs : List Value) (ns : List Nd) (L : List Nat) (rs : List Int) : Prop :=
  ∃ nv' lv' avs', Kn w' B kb cb nv' lv' rv avs' ns L rs ∧ Mo (KnF kb nv lv rv avs) w w' ∧ ∀ k, KnF kb nv' lv' rv avs' k → KnF kb nv lv rv avs k ∨ w.heap.size ≤ k
theorem KnU.trans {w w1 w2 : World} {B kb cb : Nat} {nv lv rv nv1 lv1 : Value} {avs avs1 : List Value} {ns : List Nd} {L : List Nat} {rs : List Int} (hm : Mo (KnF kb nv lv rv avs) w w1) (hs : ∀ k, KnF kb nv1 lv1 rv avs1 k → KnF kb nv lv rv avs k ∨ w.heap.size ≤ k) (h : KnU w1 w2 B kb cb nv1 lv1 rv avs1 ns L rs) : KnU w w2 B kb cb nv lv rv avs ns L rs := by
  obtain ⟨nv2, lv2, avs2, hk, hm2, hs2⟩ := h
  refine ⟨nv2, lv2, avs2, hk, hm.trans hm2 hs, fun k h => ?_⟩
  rcases hs2 k h with h1 | h1
  · exact hs k h1
  · exact Or.inr (Nat.le_trans hm.size h1)
theorem KnU.below {w w' : World} {B kb cb : Nat} {nv lv rv : Value} {avs : List Value} {ns ns' : List Nd} {L L' : List Nat} {rs rs' : List Int} (h : Kn w B kb cb nv lv rv avs ns L rs) (hu : KnU w w' B kb cb nv lv rv avs ns' L' rs') {W0 : World} (hB : W0.heap.size = B) (hb : Below B W0 w) : Below B W0 w' := by
  obtain ⟨_, _, _, _, hm, _⟩ := hu
  refine hb.trans (hm.below (fun k ⟨_, hk⟩ => (h.lt hk).1) ?_)
  rw [← hB] at hb ⊢
  exact hb.size
theorem kn_blk1 {w : World} {kb cb : Nat} {nv lv rv : Value} (u : Value) (h : w.heap[kb]? = some (.cells #[.pointer (some ⟨cb, 0, none⟩), nv, lv, rv] 105)) : (w.setCell ⟨kb, 1, none⟩ u).heap[kb]? = some (.cells #[.pointer (some ⟨cb, 0, none⟩), u, lv, rv] 105) := heap_setCell_same w kb 1 _ _ u h
theorem kn_blk2 {w : World} {kb cb : Nat} {nv lv rv : Value} (u : Value) (h : w.heap[kb]? = some (.cells #[.pointer (some ⟨cb, 0, none⟩), nv, lv, rv] 105)) : (w.setCell ⟨kb, 2, none⟩ u).heap[kb]? = some (.cells #[.pointer (some ⟨cb, 0, none⟩), nv, u, rv] 105) := heap_setCell_same w kb 2 _ _ u h
theorem kn_blk3 {w : World} {kb cb : Nat} {nv lv rv : Value} (u : Value) (h : w.heap[kb]? = some (.cells #[.pointer (some ⟨cb, 0, none⟩), nv, lv, rv] 105)) : (w.setCell ⟨kb, 3, none⟩ u).heap[kb]? = some (.cells #[.pointer (some ⟨cb, 0, none⟩), nv, lv, u] 105) := heap_setCell_same w kb 3 _ _ u h
theorem add_upd {w w1 w2 : World} {B kb cb g cap g2 cap2 : Nat} {nv lv rv : Value} {avs : List Value} {ns : List Nd} {L : List Nat} {rs : List Int} {k m : Int} {nm : ByteArray} {o o2 : Obj} (h : Kn w B kb cb nv lv rv avs ns L rs)
    (hn : w1.ownsRow B 63 4 (.slice (some ⟨g, 0, none⟩) (ns.length + 1) cap) (ns.length + 1) (ncells ns avs ++ [.int .i64 k, .string nm, .int .i64 m, .slice none 0 0])) (hg1 : (w.alloc o).grownBy w1 nv.ownBlock) (hat1 : nv.ownBlock = some g ∨ w.heap.size ≤ g)
    (hl : w2.ownsRow B 3 1 (.slice (some ⟨g2, 0, none⟩) (ns.length + 1) cap2) (ns.length + 1) ((ints L).map (Value.int .i64) ++ [.int .i64 (ns.length : Int)])) (hg2 : ((w1.setCell ⟨kb, 1, none⟩ (.slice (some ⟨g, 0, none⟩) (ns.length + 1) cap)).alloc o2).grownBy w2 lv.ownBlock) (hat2 : lv.ownBlock = some g2 ∨ w1.heap.size ≤ g2) :
    KnU w (w2.setCell ⟨kb, 2, none⟩ (.slice (some ⟨g2, 0, none⟩) (ns.length + 1) cap2)) B kb cb nv lv rv avs (ns ++ [⟨k, nm, m, []⟩]) (L ++ [L.length]) rs := by
  have hs1 := hg1.size
  have hs2 := hg2.size
  simp at hs1 hs2
  have hdj := h.dj
  have hkb := h.lt (i := 0) (k := kb) rfl
  have hne0 : ∀ i k, kbl kb nv lv rv avs i = some k → i ≠ 0 → k ≠ kb := fun i k hk hi e => hi (hdj i 0 kb (by rw [hk, e]) rfl)
  -- a block of the knot that is neither kb nor the two rows stays
  have far : ∀ b, b < w.heap.size → b ≠ kb → nv.ownBlock ≠ some b → lv.ownBlock ≠ some b → (w2.setCell ⟨kb, 2, none⟩ (.slice (some ⟨g2, 0, none⟩) (ns.length + 1) cap2)).heap[b]? = w.heap[b]? := fun b hb h0 h1 h2 => by
    rw [Below.heap_setCell _ _ _ _ h0, hg2.block b (by simp; omega) (fun e => h2 e.symm), Below.heap_alloc _ _ _ (by simp; omega), Below.heap_setCell _ _ _ _ h0, hg1.block b (by simp; omega) (fun e => h1 e.symm), Below.heap_alloc _ _ _ hb]
  have hgk : g ≠ kb := by
    rcases hat1 with e | e
    · exact hne0 1 g e (by decide)
    · omega
  have hg2k : g2 ≠ kb := by
    rcases hat2 with e | e
    · exact hne0 2 g2 e (by decide)
    · omega
  have hgl : lv.ownBlock ≠ some g := fun e => by
    rcases hat1 with e1 | e1
    · exact absurd (hdj 1 2 g e1 e) (by decide)
    · have := (h.lt (i := 2) e).2; omega
  have hgg : g ≠ g2 := by
    rcases hat2 with e | e
    · exact fun e2 => hgl (by rw [e2]; exact e)
    · obtain ⟨_, hlt⟩ := hn.lt g rfl
      omega
  have b1 : w1.heap[kb]? = some (.cells #[.pointer (some ⟨cb, 0, none⟩), nv, lv, rv] 105) := by
    rw [hg1.block kb (by simp; omega) (fun e => hne0 1 kb e.symm (by decide) rfl), Below.heap_alloc _ _ _ hkb.2]
    exact h.blk
  have b2 : w2.heap[kb]? = some (.cells #[.pointer (some ⟨cb, 0, none⟩), .slice (some ⟨g, 0, none⟩) (ns.length + 1) cap, lv, rv] 105) := by
    rw [hg2.block kb (by simp; omega) (fun e => hne0 2 kb e.symm (by decide) rfl), Below.heap_alloc _ _ _ (by simp; omega)]
    exact kn_blk1 _ b1
  have hll := h.ll
  have hlen := h.len
  have hav : ∀ j, (avs ++ [Value.slice none 0 0]).getD j undef = if j < avs.length then avs.getD j undef else if j = avs.length then .slice none 0 0 else undef := fun j => by
    by_cases hj : j < avs.length
    · rw [if_pos hj]
      simp [List.getD, List.getElem?_append_left hj]
    · rw [if_neg hj]
      by_cases e : j = avs.length
      · subst e; simp [List.getD]
      · rw [if_neg e]
        simp [List.getD, List.getElem?_eq_none (show (avs ++ [Value.slice none 0 0]).length ≤ j by simp; omega)]
  have hbl : ∀ i b, kbl kb (.slice (some ⟨g, 0, none⟩) (ns.length + 1) cap) (.slice (some ⟨g2, 0, none⟩) (ns.length + 1) cap2) rv (avs ++ [.slice none 0 0]) i = some b → (i = 1 ∧ b = g) ∨ (i = 2 ∧ b = g2) ∨ (i ≠ 1 ∧ i ≠ 2 ∧ kbl kb nv lv rv avs i = some b) := fun i b hb => by
    match i, hb with
    | 0, hb => exact Or.inr (Or.inr ⟨by decide, by decide, hb⟩)
    | 1, hb => exact Or.inl ⟨rfl, by simpa [kbl, Value.ownBlock] using hb.symm⟩
    | 2, hb => exact Or.inr (Or.inl ⟨rfl, by simpa [kbl, Value.ownBlock] using hb.symm⟩)
    | 3, hb => exact Or.inr (Or.inr ⟨by decide, by decide, hb⟩)
    | j + 4, hb =>
      refine Or.inr (Or.inr ⟨by omega, by omega, ?_⟩)
      have hb' : ((avs ++ [Value.slice none 0 0]).getD j undef).ownBlock = some b := hb
      rw [hav] at hb'
      split at hb'
      · exact hb'
      · split at hb' <;> cases hb'
  have hgS : g < w1.heap.size := (hn.lt g rfl).2
  refine ⟨.slice (some ⟨g, 0, none⟩) (ns.length + 1) cap, .slice (some ⟨g2, 0, none⟩) (ns.length + 1) cap2, avs ++ [.slice none 0 0], ⟨kn_blk2 _ b2, h.base, ?_, by simp [hlen], fun j hj => ?_, ?_, ?_, fun i j b hi hj => ?_, by simp [hll]⟩, ?_, fun b ⟨i, hb⟩ => ?_⟩
  · rw [ncells_snoc ns avs _ _ hlen, List.length_append]
    refine row_keep (w := w1) hn (fun b hb => ?_)
    have e : g = b := by simpa [Value.ownBlock] using hb
    subst e
    rw [Below.heap_setCell _ _ _ _ hgk, hg2.block g (by simp; omega) (fun e => hgl e.symm), Below.heap_alloc _ _ _ (by simp; omega), Below.heap_setCell _ _ _ _ hgk]
  · rw [hav]
    by_cases hj' : j < ns.length
    · rw [if_pos (by omega)]
      obtain ⟨ao, c, e, ho⟩ := h.a j hj'
      have e2 : (ns ++ [(⟨k, nm, m, []⟩ : Nd)]).getD j nd0 = ns.getD j nd0 := by simp [List.getD, List.getElem?_append_left hj']
      rw [e2]
      refine ⟨ao, c, e, row_keep ho (fun b hb => ?_)⟩
      have hb' : kbl kb nv lv rv avs (j + 4) = some b := by show (avs.getD j undef).ownBlock = _; rw [e]; exact hb
      refine far b (h.lt hb').2 (hne0 _ _ hb' (by omega)) (fun e => ?_) (fun e => ?_)
      · have := hdj (j + 4) 1 b hb' e; omega
      · have := hdj (j + 4) 2 b hb' e; omega
    · have e : j = ns.length := by simp at hj; omega
      subst e
      rw [if_neg (by omega), if_pos (by omega)]
      have e2 : (ns ++ [(⟨k, nm, m, []⟩ : Nd)]).getD ns.length nd0 = ⟨k, nm, m, []⟩ := by simp [List.getD]
      rw [e2]
      exact ⟨none, 0, rfl, World.ownsRow_nil _ _ _ _⟩
  · rw [show ints (L ++ [L.length]) = ints L ++ [(L.length : Int)] from ints_snoc _ _, List.map_append, List.length_append, hll]
    refine row_keep (w := w2) hl (fun b hb => ?_)
    have e : g2 = b := by simpa [Value.ownBlock] using hb
    subst e
    exact Below.heap_setCell _ _ _ _ hg2k
  · refine row_keep h.r (fun b hb => far b (h.lt (i := 3) hb).2 (hne0 3 b hb (by decide)) (fun e => absurd (hdj 3 1 b hb e) (by decide)) (fun e => absurd (hdj 3 2 b hb e) (by decide)))
  · rcases hbl i b hi with ⟨rfl, rfl⟩ | ⟨rfl, rfl⟩ | ⟨i1, i2, hi'⟩
    · rcases hbl j _ hj with ⟨rfl, _⟩ | ⟨_, e⟩ | ⟨j1, j2, hj'⟩
      · rfl
      · exact absurd e hgg
      · rcases hat1 with e | e
        · exact hdj 1 j _ e hj'
        · have := (h.lt hj').2; omega
    · rcases hbl j _ hj with ⟨_, e⟩ | ⟨rfl, _⟩ | ⟨j1, j2, hj'⟩
      · exact absurd e.symm hgg
      · rfl
      · rcases hat2 with e | e
        · exact hdj 2 j _ e hj'
        · have := (h.lt hj').2; omega
    · rcases hbl j _ hj with ⟨rfl, rfl⟩ | ⟨rfl, rfl⟩ | ⟨j1, j2, hj'⟩
      · rcases hat1 with e | e
        · exact hdj i 1 _ hi' e
        · have := (h.lt hi').2; omega
      · rcases hat2 with e | e
        · exact hdj i 2 _ hi' e
        · have := (h.lt hi').2; omega
      · exact hdj i j b hi' hj'
  · refine ((((Mo.refl _ w).alloc o).grown hg1 (fun b e => Or.inl ⟨1, e⟩)).setCell (p := ⟨kb, 1, none⟩) (Or.inl ⟨0, rfl⟩) _ |>.alloc o2 |>.grown hg2 (fun b e => Or.inl ⟨2, e⟩)).setCell (p := ⟨kb, 2, none⟩) (Or.inl ⟨0, rfl⟩) _
  · rcases hbl i b hb with ⟨rfl, rfl⟩ | ⟨rfl, rfl⟩ | ⟨_, _, hi'⟩
    · rcases hat1 with e | e
      · exact Or.inl ⟨1, e⟩
      · exact Or.inr e
    · rcases hat2 with e | e
      · exact Or.inl ⟨2, e⟩
      · exact Or.inr (by omega)
    · exact Or.inl ⟨i, hi'⟩
end Go.Proofs.Ytjkcffcedbcjmaa

namespace Go.Proofs.Ytjkcffcedbcjmaa
set_option maxRecDepth 100000
open Go.RowKit
theorem undrew1 {w w' : World} {row : Option Nat} (h : w.drew.grownBy w' row) : w.grownBy w' row := ⟨h.os, h.tape, h.output, h.size, h.block⟩
set_option maxHeartbeats 4000000 in
theorem kadd_any {w : World} {B kb cb : Nat} {nv lv rv : Value} {avs : List Value} {ns : List Nd} {L : List Nat} {rs : List Int} (h : Kn w B kb cb nv lv rv avs ns L rs) (k : Int) (nm : ByteArray) (m : Int) (hl : ns.length ≤ 100000) (hB : B ≤ w.heap.size) :
    Calls Try.prog 50 #[.pointer (some ⟨kb, 0, none⟩), .agg #[.int .i64 k, .string nm, .int .i64 m, .slice none 0 0]] w fun e w' => e = .returned (.int .i64 (ns.length : Int)) ∧ KnU w w' B kb cb nv lv rv avs (ns ++ [⟨k, nm, m, []⟩]) (L ++ [L.length]) rs := by
  obtain ⟨i0, hi, hz0, hz1, hz2⟩ := info_parts infoI
  obtain ⟨i1, hi1, hy0, hy1, hy2⟩ := info_parts infoN
  have hb0 := below_alloc w (.cells #[.int .i64 k, .string nm, .int .i64 m, .slice none 0 0] 63)
  have hk0 := h.next hb0
  have hbx := heap_alloc_new w (.cells #[.int .i64 k, .string nm, .int .i64 m, .slice none 0 0] 63)
  obtain ⟨na, nc, rfl⟩ := h.nsl
  obtain ⟨la, lc, rfl⟩ := h.lsl
  obtain ⟨⟨c0, c1, c2, c3⟩, f1, f2, f3⟩ := hk0.cells
  have zk0 := lt_of_block hk0.blk
  have hM0 : Hid (Mo (KnF kb (.slice na ns.length nc) (.slice la ns.length lc) rv avs) w (w.alloc (.cells #[.int .i64 k, .string nm, .int .i64 m, .slice none 0 0] 63))) := Mo.ofBelow hb0
  have hwsz : w.heap.size < (w.alloc (.cells #[.int .i64 k, .string nm, .int .i64 m, .slice none 0 0] 63)).heap.size := by simp
  go_enter Try.func50, Try.ntmps50
  go_wp2
  generalize hw0 : w.alloc (.cells #[.int .i64 k, .string nm, .int .i64 m, .slice none 0 0] 63) = w0 at *
  generalize hS0 : w.heap.size = S0 at *
  have HK := hid hk0
  have hon := World.ownsRow.alloc hk0.n (.cells #[.int .i64 k, .string nm, .int .i64 m, .slice none 0 0] 63)
  obtain ⟨⟨x0', x1', x2', x3'⟩, _⟩ := xblk hbx
  have hBz : B ≤ w0.heap.size := by omega
  have far1 : Hid (∀ (w1 : World), (w0.alloc (.cells #[.int .i64 k, .string nm, .int .i64 m, .slice none 0 0] 63)).grownBy w1 (Value.slice na ns.length nc).ownBlock → w1.cell? ⟨kb, 1, none⟩ = some (.slice na ns.length nc) ∧ w1.frozen? ⟨kb, 1, none⟩ = false ∧ kb < w1.heap.size ∧ w1.cell? ⟨kb, 2, none⟩ = some (.slice la ns.length lc) ∧ w1.frozen? ⟨kb, 2, none⟩ = false ∧ (∀ u, (w1.setCell ⟨kb, 1, none⟩ u).ownsRow B 3 1 (.slice la ns.length lc) ns.length ((ints L).map (Value.int .i64))) ∧ B ≤ w1.heap.size) := fun w1 hg => by
    have hs := hg.size
    simp at hs
    have hb : w1.heap[kb]? = w0.heap[kb]? := by
      rw [hg.block kb (by simp; omega) (fun e => absurd (hk0.dj 0 1 kb rfl e.symm) (by decide)), Below.heap_alloc _ _ _ zk0]
    have h3 := hk0.blk
    rw [← hb] at h3
    refine ⟨by simp [World.cell?, h3], by simp [World.frozen?, h3], by omega, by simp [World.cell?, h3], by simp [World.frozen?, h3], fun u => ?_, by omega⟩
    have h4 := hk0.l
    rw [hk0.ll] at h4
    refine row_keep h4 (fun b hbk => ?_)
    rw [Below.heap_setCell _ _ _ _ (fun e => by subst e; exact absurd (hk0.dj 0 2 _ rfl hbk) (by decide)), hg.block b (by have := (hk0.lt (i := 2) hbk).2; simp; omega) (fun e => absurd (hk0.dj 1 2 b e.symm hbk) (by decide)), Below.heap_alloc _ _ _ (hk0.lt (i := 2) hbk).2]
  have far2 : Hid (∀ (w1 : World) (u : Value), (w0.alloc (.cells #[.int .i64 k, .string nm, .int .i64 m, .slice none 0 0] 63)).grownBy w1 (Value.slice na ns.length nc).ownBlock → ∀ (w2 : World) (o : Obj), ((w1.setCell ⟨kb, 1, none⟩ u).alloc o).grownBy w2 (Value.slice la ns.length lc).ownBlock → w2.cell? ⟨kb, 2, none⟩ = some (.slice la ns.length lc) ∧ w2.frozen? ⟨kb, 2, none⟩ = false ∧ kb < w2.heap.size) := fun w1 u hg w2 o hg2 => by
    have hs := hg.size
    have hs2 := hg2.size
    simp at hs hs2
    have hb : w1.heap[kb]? = w0.heap[kb]? := by
      rw [hg.block kb (by simp; omega) (fun e => absurd (hk0.dj 0 1 kb rfl e.symm) (by decide)), Below.heap_alloc _ _ _ zk0]
    have h3 := hk0.blk
    rw [← hb] at h3
    have h4 := kn_blk1 u h3
    have h5 : w2.heap[kb]? = some (.cells #[.pointer (some ⟨cb, 0, none⟩), u, .slice la ns.length lc, rv] 105) := by
      rw [hg2.block kb (by simp; omega) (fun e => absurd (hk0.dj 0 2 kb rfl e.symm) (by decide)), Below.heap_alloc _ _ _ (by simp; omega)]
      exact h4
    exact ⟨by simp [World.cell?, h5], by simp [World.frozen?, h5], by omega⟩
  clear h hk0 hb0 hbx
  go_region_law
    (first
      | (refine step_append_lies _ (by rfl) _ _ _ (by rfl) B 63 i1 (.agg #[.int .i64 0, .string ⟨#[]⟩, .int .i64 0, .slice none 0 0]) 4 56 Try.underlying26 hi1 hy0 hy1 hy2 rfl (by omega) _ ns.length (ncells ns avs) (by rfl) hon.drew ⟨w0.heap.size, 0, none⟩ 1 1 [.int .i64 k, .string nm, .int .i64 m, .slice none 0 0] (by rfl) (by rfl) (World.news_of_block (cs := #[.int .i64 k, .string nm, .int .i64 m, .slice none 0 0]) (t := 63) (fr := (0, 0)) (heap_alloc_new w0 _)) (by simp [Value.oneCell']) (by omega) (by unfold maxLen; omega) (by omega) (by simp; omega) (w0.heap.size + 1) (by simp) ?_; intro g cap w1 hown1 hg1 hat1 hlt1; replace hg1 := undrew1 hg1; obtain ⟨e1, e2, e3, e4, e5, e6, e7⟩ := far1.out w1 hg1))
  all_goals
    have hl2 := World.ownsRow.alloc (e6 (.slice (some ⟨g, 0, none⟩) (ns.length + 1) cap)) (.cells #[.int .i64 (ns.length : Int)] 3)
    have e1b : (w1.setCell ⟨kb, 1, none⟩ (.slice (some ⟨g, 0, none⟩) (ns.length + 1) cap)).heap.size = w1.heap.size := by simp
    have hfar2 := far2.out w1 (.slice (some ⟨g, 0, none⟩) (ns.length + 1) cap) hg1
    go_wp2_with (at_builtin; go_must (refine wpList_append_lies _ rfl _ _ 27 rfl B 3 i0 (.int .i64 0) 1 8 Try.underlying27 hi hz0 hz1 hz2 rfl (by decide) _ ns.length ((ints L).map (Value.int .i64)) rfl hl2 ⟨w1.heap.size, 0, none⟩ 1 1 [.int .i64 (ns.length : Int)] rfl rfl (by have := cell_one_new (w1.setCell ⟨kb, 1, none⟩ (.slice (some ⟨g, 0, none⟩) (ns.length + 1) cap)) (.int .i64 (ns.length : Int)) 3; rw [e1b] at this; exact this) (by simp [Value.oneCell']) (by decide) (by unfold maxLen; omega) (by omega) (by simp; omega) _ rfl ?_; intro g2 cap2 w2 hown2 hg2 hat2 hlt2; obtain ⟨u1, u2, u3⟩ := hfar2 w2 _ hg2))
    go_ret
    exact ⟨rfl, KnU.trans hM0.out (fun _ h => Or.inl h) (add_upd HK.out hown1 hg1 (hat1.imp id (fun e => by omega)) hown2 hg2 (hat2.imp id (fun e => by simp at e; omega)))⟩
end Go.Proofs.Ytjkcffcedbcjmaa
