/- end, ends, bind of package tie's knot. -/
import Derived.Test.Ytjkcffcedbcjmaata30Z
import Derived.Test.Ytjkcffcedbcjmaata27Z
namespace Go.Proofs.Ytjkcffcedbcjmaa
set_option maxRecDepth 100000
open Go.RowKit
theorem Kn.led {w : World} {B kb cb : Nat} {nv rv : Value} {avs : List Value} {ns : List Nd} {L : List Nat} {rs : List Int} {g c : Nat} (h : Kn w B kb cb nv (.slice (some ⟨g, 0, none⟩) ns.length c) rv avs ns L rs) (n v : Nat) : Kn (w.setCell ⟨g, n, none⟩ (.int .i64 (v : Int))) B kb cb nv (.slice (some ⟨g, 0, none⟩) ns.length c) rv avs ns (L.set n v) rs := by
  have hdj := h.dj
  have hg : kbl kb nv (.slice (some ⟨g, 0, none⟩) ns.length c) rv avs 2 = some g := rfl
  have far : ∀ i b, i ≠ 2 → kbl kb nv (.slice (some ⟨g, 0, none⟩) ns.length c) rv avs i = some b → (w.setCell ⟨g, n, none⟩ (.int .i64 (v : Int))).heap[b]? = w.heap[b]? := fun i b hi hb => Below.heap_setCell _ _ _ _ (fun e => hi (hdj i 2 g (by rw [hb]; exact congrArg some e) hg))
  refine ⟨(far 0 kb (by decide) rfl).trans h.blk, h.base, row_keep h.n (fun k hk => far 1 k (by decide) hk), h.len, fun j hj => ?_, ?_, row_keep h.r (fun k hk => far 3 k (by decide) hk), h.dj, by simp [h.ll]⟩
  · obtain ⟨ao, c', e, ho⟩ := h.a j hj
    exact ⟨ao, c', e, row_keep ho (fun k hk => far (j + 4) k (by omega) (by show (avs.getD j undef).ownBlock = _; rw [e]; exact hk))⟩
  · have h1 := h.l
    rw [h.ll] at h1
    have h2 := (World.ownsRow.stored h1 n (.int .i64 (v : Int))).1
    rw [ints_set] at h2
    rw [List.length_set, h.ll]
    exact h2
theorem Kn.lsome {w : World} {B kb cb : Nat} {nv lv rv : Value} {avs : List Value} {ns : List Nd} {L : List Nat} {rs : List Int} (h : Kn w B kb cb nv lv rv avs ns L rs) {n : Nat} (hn : n < ns.length) : ∃ g c, lv = .slice (some ⟨g, 0, none⟩) ns.length c := by
  have hl := h.l
  rw [h.ll] at hl
  rcases hl.2 with ⟨_, h0⟩ | ⟨g, cap, cur, rfl, _⟩
  · omega
  · exact ⟨g, cap, rfl⟩
theorem Kn.lcell {w : World} {B kb cb : Nat} {nv rv : Value} {avs : List Value} {ns : List Nd} {L : List Nat} {rs : List Int} {g c : Nat} (h : Kn w B kb cb nv (.slice (some ⟨g, 0, none⟩) ns.length c) rv avs ns L rs) {n : Nat} (hn : n < ns.length) : w.cell? ⟨g, n, none⟩ = some (.int .i64 ((L.getD n 0 : Nat) : Int)) ∧ w.frozen? ⟨g, n, none⟩ = false := by
  have hl := h.l
  rw [h.ll] at hl
  exact ⟨by rw [hl.cellAt n (by omega)]; exact ints_at (by rw [h.ll]; exact hn), hl.frozenAt n⟩
def KnL (w w' : World) (B kb cb : Nat) (nv lv rv : Value) (avs : List Value) (ns : List Nd) (E : Nat → Nat) (rs : List Int) : Prop := ∃ L, Kn w' B kb cb nv lv rv avs ns L rs ∧ Ld L E ∧ Mo (fun k => lv.ownBlock = some k) w w'
set_option maxHeartbeats 4000000 in
theorem end_any {w : World} {B kb cb : Nat} {nv lv rv : Value} {avs : List Value} {ns : List Nd} {L : List Nat} {rs : List Int} {E : Nat → Nat} (h : Kn w B kb cb nv lv rv avs ns L rs) (hE : Ld L E) (n : Nat) (hn : n < ns.length) :
    Calls Try.prog 56 #[.pointer (some ⟨kb, 0, none⟩), .int .i64 (n : Int)] w fun e w' => e = .returned (.int .i64 (E n : Int)) ∧ KnL w w' B kb cb nv lv rv avs ns E rs := by
  obtain ⟨g, c, rfl⟩ := h.lsome hn
  obtain ⟨r, M, hM, hr⟩ := hE.rank
  have hS : Hid (∃ (L : List Nat), Kn w B kb cb nv (.slice (some ⟨g, 0, none⟩) ns.length c) rv avs ns L rs ∧ Ld L E ∧ Lr L r ∧ Mo (fun k => (Value.slice (some ⟨g, 0, none⟩) ns.length c).ownBlock = some k) w w) := ⟨L, h, hE, hr, Mo.refl _ _⟩
  clear h hE hr hM
  go_enter Try.func56, Try.ntmps56
  go_wp2
  go_loopw [1] (fun i wr => ∃ m : Nat, m < ns.length ∧ i = .int .i64 (m : Int) ∧ Hid (E m = E n) ∧ Hid (∃ (L : List Nat), Kn wr B kb cb nv (.slice (some ⟨g, 0, none⟩) ns.length c) rv avs ns L rs ∧ Ld L E ∧ Lr L r ∧ Mo (fun k => (Value.slice (some ⟨g, 0, none⟩) ns.length c).ownBlock = some k) w wr)) (fun i _ => r (intOf i).toNat)
  case atStart => exact ⟨n, hn, rfl, rfl, hS⟩
  case round =>
    clear hS
    obtain ⟨m, hm, rfl, hEm, hS⟩ := hrel
    obtain ⟨L, hK, hE, hr, hM⟩ := hS.out
    have hmL : m < L.length := by rw [hK.ll]; exact hm
    obtain ⟨⟨c0, c1, c2, c3⟩, f1, f2, f3⟩ := hK.cells
    obtain ⟨d0, d1⟩ := hK.lcell hm
    have zk := lt_of_cell c0
    have zg := lt_of_cell d0
    have hkg : kb ≠ g := fun e => absurd (hK.dj 0 2 kb rfl (congrArg some e.symm)) (by decide)
    have hm2 : (m : Int) < (ns.length : Int) := by omega
    by_cases e : L.getD m 0 = m
    · have hE1 : Hid (E n = m) := hEm.out.symm.trans ((hE.fix m hmL).1 e)
      have hfin : Hid (KnL w wr B kb cb nv (.slice (some ⟨g, 0, none⟩) ns.length c) rv avs ns E rs) := ⟨L, hK, hE, hM⟩
      rw [e] at d0
      clear e hK hE hr hM hS hEm
      go_wp2
      go_ret
      exact ⟨ret_int (by rw [hE1.out]), hfin.out⟩
    · have h2 := hE.rng m hmL
      rw [hK.ll] at h2
      have h2i : ((L.getD m 0 : Nat) : Int) < (ns.length : Int) := by omega
      obtain ⟨p0, p1⟩ := hK.lcell h2
      have h3 := hE.rng _ (show L.getD m 0 < L.length by rw [hK.ll]; exact h2)
      rw [hK.ll] at h3
      have hK2 := hid (hK.led m (L.getD (L.getD m 0) 0))
      have hE2 := hid (hE.half hmL)
      have hr2 := hid (Lr.half hE hr hmL)
      have hM2 := hid (hM.setCell (p := ⟨g, m, none⟩) (Or.inl rfl) (.int .i64 ((L.getD (L.getD m 0) 0 : Nat) : Int)))
      have hne : ((L.getD m 0 : Nat) : Int) ≠ (m : Int) := by omega
      have hEs : Hid (E (L.getD (L.getD m 0) 0) = E n) := ((hE.st _ (by rw [hK.ll]; exact h2)).trans (hE.st m hmL)).trans hEm.out
      have hrk : Hid (r (L.getD (L.getD m 0) 0) < r m) := by
        have a1 := hr m hmL e
        by_cases e2 : L.getD (L.getD m 0) 0 = L.getD m 0
        · show _ < _
          rw [e2]; exact a1
        · have a2 := hr _ (by rw [hK.ll]; exact h2) e2
          show _ < _
          omega
      clear e hK hE hr hM hS hEm
      generalize L.getD (L.getD m 0) 0 = y at *
      generalize L.getD m 0 = x at *
      go_wp2
      go_still_tail 19, (by kernel_rfl)
      change wpList _ _ _ _ _ wr.drew
      go_wp2
      go_roundw
      case rel => exact ⟨y, h3, rfl, hEs, _, hK2.out.keep (fun _ _ => rfl), hE2.out, hr2.out, ⟨hM2.out.os, hM2.out.tape, hM2.out.output, hM2.out.size, hM2.out.block⟩⟩
      case measure => simp [intOf]; exact hrk.out
end Go.Proofs.Ytjkcffcedbcjmaa

namespace Go.Proofs.Ytjkcffcedbcjmaa
set_option maxRecDepth 100000
open Go.RowKit
theorem KnL.trans {w w1 w2 : World} {B kb cb : Nat} {nv lv rv : Value} {avs : List Value} {ns : List Nd} {E : Nat → Nat} {rs : List Int} (hm : Mo (fun k => lv.ownBlock = some k) w w1) (h : KnL w1 w2 B kb cb nv lv rv avs ns E rs) : KnL w w2 B kb cb nv lv rv avs ns E rs := by
  obtain ⟨L, hk, hl, hm2⟩ := h
  exact ⟨L, hk, hl, hm.trans hm2 (fun x hx => Or.inl hx)⟩
set_option maxHeartbeats 4000000 in
theorem ends_any {w : World} {B kb cb : Nat} {nv lv rv : Value} {avs : List Value} {ns : List Nd} {L : List Nat} {rs : List Int} {E : Nat → Nat} (h : Kn w B kb cb nv lv rv avs ns L rs) (hE : Ld L E) {v : Value} {l : List Int} (hv : Ri w v l) (hvb : ∀ b, l ≠ [] → v.ownBlock = some b → lv.ownBlock ≠ some b) (hv0 : ∀ b o n c, v = .slice (some ⟨b, o, none⟩) n c → o = 0) (hr : ∀ x ∈ l, 0 ≤ x ∧ x < (ns.length : Int)) (hl : l.length ≤ 100000) :
    Calls Try.prog 53 #[.pointer (some ⟨kb, 0, none⟩), v] w fun e w' => (∃ ao c, e = .returned (.slice ao l.length c) ∧ w'.ownsRow w.heap.size 3 1 (.slice ao l.length c) l.length ((l.map (EI E)).map (Value.int .i64))) ∧ KnL w w' B kb cb nv lv rv avs ns E rs := by
  obtain ⟨i0, hi, hz0, hz1, hz2⟩ := info_parts infoI
  have hV : Hid (∀ w', Mo (fun k => lv.ownBlock = some k) w w' → Ri w' v l) := fun w' hm => hv.mo hm hvb hv0
  have hlB : Hid (∀ k, lv.ownBlock = some k → k < w.heap.size) := fun k hk => (h.lt (i := 2) hk).2
  have hkB : Hid (∀ i k, kbl kb nv lv rv avs i = some k → k < w.heap.size) := fun i k hk => (h.lt hk).2
  obtain ⟨va, vc, rfl, _⟩ := hv
  have hS : Hid (KnL w w B kb cb nv lv rv avs ns E rs) := ⟨L, h, hE, Mo.refl _ _⟩
  have hR := hid hr
  clear h hE hvb hv0 hr
  go_enter Try.func53, Try.ntmps53
  go_wp2
  go_loopw [5, 10] (fun x i wr => ∃ (j : Nat) (ao : Option Addr) (c : Nat), j ≤ l.length ∧ i = .int .i64 (j : Int) ∧ x = .slice ao j c ∧ Hid (wr.ownsRow w.heap.size 3 1 (.slice ao j c) j (((l.take j).map (EI E)).map (Value.int .i64))) ∧ Hid (KnL w wr B kb cb nv lv rv avs ns E rs)) (fun _ i _ => l.length - (intOf i).toNat)
  case atStart => exact ⟨0, none, 0, by omega, rfl, rfl, World.ownsRow_nil _ _ _ _, hS⟩
  case round =>
    clear hS
    obtain ⟨j, ao, c, hj, rfl, rfl, ho, hS⟩ := hrel
    by_cases hlt : j < l.length
    · obtain ⟨L', hK, hE, hM⟩ := hS.out
      obtain ⟨va', vc', hve, hvc⟩ := hV.out wr hM
      have hve' : va = va' := by injection hve
      subst hve'
      obtain ⟨b, o, rfl, hu⟩ := hvc j hlt
      have hx := hR.out _ (getD_mem hlt)
      have hst : Hid (((l.take (j + 1)).map (EI E)).map (Value.int .i64) = ((l.take j).map (EI E)).map (Value.int .i64) ++ [.int .i64 (EI E (l.getD j 0))]) := show _ = _ by
        rw [List.take_add_one, List.map_append, List.map_append]
        simp [List.getD, hlt]
      have hzb := lt_of_cell hu
      clear hve hvc hV
      generalize l.getD j 0 = x at *
      obtain ⟨xn, rfl⟩ : ∃ xn : Nat, x = (xn : Int) := ⟨x.toNat, by omega⟩
      have hcall := end_any hK hE xn (by omega)
      have hEI : EI E (xn : Int) = ((E xn : Nat) : Int) := rfl
      rw [hEI] at hst
      have hnx : Hid (∀ w1, KnL wr w1 B kb cb nv lv rv avs ns E rs → w1.ownsRow w.heap.size 3 1 (.slice ao j c) j (((l.take j).map (EI E)).map (Value.int .i64)) ∧ w.heap.size ≤ w1.heap.size ∧ ∀ (w2 : World) (o : Obj), (w1.alloc o).grownBy w2 (Value.slice ao j c).ownBlock → KnL w w2 B kb cb nv lv rv avs ns E rs) := fun w1 hL1 => by
        obtain ⟨L1, hK1, hE1, hM1⟩ := hL1
        have hs1 := hM.size
        have hs2 := hM1.size
        refine ⟨row_keep ho.out (fun k hk => ?_), by omega, fun w2 o hg => ?_⟩
        · have h1 := ho.out.lt k hk
          exact hM1.block k h1.2 (fun e => by have := hlB.out k e; omega)
        · have hM2 := (hM.trans hM1 (fun x hx => Or.inl hx)).alloc o
          refine ⟨L1, (hK1.next (below_alloc w1 o)).keep (fun k ⟨i, hk⟩ => ?_), hE1, hM2.grown hg (fun k hk => Or.inr ((ho.out.lt k hk).1))⟩
          rw [hg.block k (by have := (hK1.lt hk).2; simp; omega) (fun e => ?_)]
          have h1 := ho.out.lt k e.symm
          have := hkB.out i k hk
          omega
      clear hK hE hM hS
      go_wp2_with (first
        | (go_at_call 56; refine hcall.mono ?_; rintro e w1 ⟨rfl, hL1⟩; obtain ⟨ho1, hs1, hnn⟩ := hnx.out w1 hL1; have ho2 := World.ownsRow.alloc ho1 (.cells #[.int .i64 ((E xn : Nat) : Int)] 3))
        | (at_builtin; go_must (refine wpList_append_lies _ rfl _ _ 27 rfl w.heap.size 3 i0 (.int .i64 0) 1 8 Try.underlying27 hi hz0 hz1 hz2 rfl (by decide) _ j _ rfl ho2 ⟨w1.heap.size, 0, none⟩ 1 1 [.int .i64 ((E xn : Nat) : Int)] rfl rfl (cell_one_new w1 _ _) (by simp [Value.oneCell']) (by decide) (by unfold maxLen; omega) (by omega) (by simp; omega) _ rfl ?_; intro g cap w2 hown2 hg2 hat2 hlt2)))
      go_roundw
      case rel => exact ⟨j + 1, _, cap, by omega, by go_num, rfl, (show World.ownsRow _ _ _ _ _ _ _ by rw [hst.out]; exact hown2), hnn w2 _ hg2⟩
      case measure => simp [intOf]; omega
    · obtain rfl : j = l.length := by omega
      have ho' := hid ho.out
      have hS' := hid hS.out
      clear ho hS
      go_wp2
      go_ret
      have h9 := ho'.out
      rw [List.take_length] at h9
      exact ⟨⟨_, _, rfl, h9⟩, hS'.out⟩
set_option maxHeartbeats 2000000 in
theorem bind_any {w : World} {B kb cb : Nat} {nv lv rv : Value} {avs : List Value} {ns : List Nd} {L : List Nat} {rs : List Int} {E : Nat → Nat} (h : Kn w B kb cb nv lv rv avs ns L rs) (hE : Ld L E) (n m : Nat) (hn : n < ns.length) (hm : m < ns.length) (hs : E n = n) :
    Calls Try.prog 52 #[.pointer (some ⟨kb, 0, none⟩), .int .i64 (n : Int), .int .i64 (m : Int)] w fun e w' => e = .returned (.tuple #[]) ∧ KnL w w' B kb cb nv lv rv avs ns (bindE E (n, m)) rs := by
  have hcall := end_any h hE m hm
  by_cases he : E m = n
  · have hb := bind_same (E := E) (p := (n, m)) he
    rw [hb]
    rw [he] at hcall
    clear h hE hs he hb
    go_enter Try.func52, Try.ntmps52
    go_wp2_with (go_at_call 56; refine hcall.mono ?_; rintro e w1 ⟨rfl, hL1⟩)
    exact bodyPost_end (tret_void Try.results52) rfl ⟨rfl, hL1⟩
  · obtain ⟨g, c, rfl⟩ := h.lsome hn
    have hne : ((E m : Nat) : Int) ≠ (n : Int) := by omega
    have hni : (n : Int) < (ns.length : Int) := by omega
    have hnx : Hid (∀ w1, KnL w w1 B kb cb nv (.slice (some ⟨g, 0, none⟩) ns.length c) rv avs ns E rs → ((w1.cell? ⟨kb, 2, none⟩ = some (.slice (some ⟨g, 0, none⟩) ns.length c) ∧ kb < w1.heap.size) ∧ (∃ x, w1.cell? ⟨g, n, none⟩ = some (.int .i64 x)) ∧ w1.frozen? ⟨g, n, none⟩ = false ∧ g < w1.heap.size) ∧ KnL w (w1.setCell ⟨g, n, none⟩ (.int .i64 (m : Int))) B kb cb nv (.slice (some ⟨g, 0, none⟩) ns.length c) rv avs ns (bindE E (n, m)) rs) := fun w1 hL1 => by
      obtain ⟨L1, hK1, hE1, hM1⟩ := hL1
      have hcl := hK1.cells
      obtain ⟨u0, u1⟩ := hK1.lcell hn
      refine ⟨⟨⟨hcl.1.2.2.1, lt_of_block hK1.blk⟩, ⟨_, u0⟩, u1, lt_of_cell u0⟩, _, hK1.led n m, ?_, hM1.setCell (p := ⟨g, n, none⟩) (Or.inl rfl) _⟩
      exact hE1.bind (p := (n, m)) (by rw [hK1.ll]; exact hn) (by rw [hK1.ll]; exact hm) hs he
    clear h hE hs he
    go_enter Try.func52, Try.ntmps52
    go_wp2_with (go_at_call 56; refine hcall.mono ?_; rintro e w1 ⟨rfl, hL1⟩; obtain ⟨⟨⟨q0', q1'⟩, ⟨xx, q2'⟩, q3', q4'⟩, hfin⟩ := hnx.out w1 hL1)
    exact bodyPost_end (tret_void Try.results52) rfl ⟨rfl, hfin⟩
end Go.Proofs.Ytjkcffcedbcjmaa

namespace Go.Proofs.Ytjkcffcedbcjmaa
set_option maxRecDepth 100000
open Go.RowKit
theorem ncells_set : ∀ (ns : List Nd) (vs : List Value) (n : Nat) (al : List Int) (v : Value), vs.length = ns.length → n < ns.length → ncells (setA ns n al) (vs.set n v) = (ncells ns vs).set (n * 4 + 3) v
  | x :: r, u :: vs, 0, al, v, _, _ => by simp [setA, ncells]
  | x :: r, u :: vs, n + 1, al, v, h, hn => by
    have ih := ncells_set r vs n al v (by simpa using h) (by simpa using hn)
    have e : setA (x :: r) (n + 1) al = x :: setA r n al := by simp [setA]
    rw [e, List.set_cons_succ, ncells, ncells, ih]
    rw [show (n + 1) * 4 + 3 = n * 4 + 3 + 1 + 1 + 1 + 1 by omega]
    simp
theorem setA_len (ns : List Nd) (n : Nat) (al : List Int) : (setA ns n al).length = ns.length := by simp [setA]
theorem setA_at {ns : List Nd} {n : Nat} {al : List Int} (hn : n < ns.length) (j : Nat) : (setA ns n al).getD j nd0 = if j = n then { (ns.getD n nd0) with args := al } else ns.getD j nd0 := by
  by_cases e : j = n
  · subst e
    rw [if_pos rfl]
    simp [setA, List.getD, hn]
  · rw [if_neg e]
    simp [setA, List.getD, Ne.symm e]
theorem avs_set {avs : List Value} {n : Nat} {v : Value} (hn : n < avs.length) (j : Nat) : (avs.set n v).getD j undef = if j = n then v else avs.getD j undef := by
  by_cases e : j = n
  · subst e
    rw [if_pos rfl]
    simp [List.getD, hn]
  · rw [if_neg e]
    simp [List.getD, Ne.symm e]
theorem Kn.setArgs {w : World} {B kb cb g c : Nat} {lv rv : Value} {avs : List Value} {ns : List Nd} {L : List Nat} {rs : List Int} (h : Kn w B kb cb (.slice (some ⟨g, 0, none⟩) ns.length c) lv rv avs ns L rs) {n : Nat} (hn : n < ns.length) {ao : Option Addr} {ac : Nat} {al : List Int} (ho : w.ownsRow B 3 1 (.slice ao al.length ac) al.length (al.map (Value.int .i64))) (hd : ∀ k, (Value.slice ao al.length ac).ownBlock = some k → ¬ KnF kb (.slice (some ⟨g, 0, none⟩) ns.length c) lv rv avs k) :
    Kn (w.setCell ⟨g, n * 4 + 3, none⟩ (.slice ao al.length ac)) B kb cb (.slice (some ⟨g, 0, none⟩) ns.length c) lv rv (avs.set n (.slice ao al.length ac)) (setA ns n al) L rs := by
  have hdj := h.dj
  have hlen := h.len
  have hg : kbl kb (.slice (some ⟨g, 0, none⟩) ns.length c) lv rv avs 1 = some g := rfl
  have far : ∀ b, b ≠ g → (w.setCell ⟨g, n * 4 + 3, none⟩ (.slice ao al.length ac)).heap[b]? = w.heap[b]? := fun b hb => Below.heap_setCell _ _ _ _ hb
  have farI : ∀ i b, i ≠ 1 → kbl kb (.slice (some ⟨g, 0, none⟩) ns.length c) lv rv avs i = some b → b ≠ g := fun i b hi hb e => hi (hdj i 1 g (by rw [hb]; exact congrArg some e) hg)
  have hnew : ∀ k, (Value.slice ao al.length ac).ownBlock = some k → k ≠ g := fun k hk e => hd k hk ⟨1, by rw [hg, e]⟩
  refine ⟨(far kb (farI 0 kb (by decide) rfl)).trans h.blk, h.base, ?_, by simp [setA_len, hlen], fun j hj => ?_, row_keep h.l (fun k hk => far k (farI 2 k (by decide) hk)), row_keep h.r (fun k hk => far k (farI 3 k (by decide) hk)), ?_, by rw [setA_len]; exact h.ll⟩
  · rw [setA_len, ncells_set ns avs n al _ hlen hn]
    exact (World.ownsRow.stored h.n (n * 4 + 3) _).1
  · rw [setA_len] at hj
    rw [setA_at hn, avs_set (by omega)]
    by_cases e : j = n
    · rw [if_pos e, if_pos e]
      exact ⟨ao, ac, rfl, row_keep ho (fun k hk => far k (hnew k hk))⟩
    · rw [if_neg e, if_neg e]
      obtain ⟨ao', c', e', ho'⟩ := h.a j hj
      exact ⟨ao', c', e', row_keep ho' (fun k hk => far k (farI (j + 4) k (by omega) (by show (avs.getD j undef).ownBlock = _; rw [e']; exact hk)))⟩
  · have hbl : ∀ i b, kbl kb (.slice (some ⟨g, 0, none⟩) ns.length c) lv rv (avs.set n (.slice ao al.length ac)) i = some b → (i = n + 4 ∧ (Value.slice ao al.length ac).ownBlock = some b) ∨ (i ≠ n + 4 ∧ kbl kb (.slice (some ⟨g, 0, none⟩) ns.length c) lv rv avs i = some b) := fun i b hb => by
      match i, hb with
      | 0, hb => exact Or.inr ⟨by omega, hb⟩
      | 1, hb => exact Or.inr ⟨by omega, hb⟩
      | 2, hb => exact Or.inr ⟨by omega, hb⟩
      | 3, hb => exact Or.inr ⟨by omega, hb⟩
      | j + 4, hb =>
        have hb' : ((avs.set n (Value.slice ao al.length ac)).getD j undef).ownBlock = some b := hb
        rw [avs_set (by omega)] at hb'
        split at hb'
        · rename_i e
          exact Or.inl ⟨by omega, hb'⟩
        · exact Or.inr ⟨by omega, hb'⟩
    intro i j b hi hj
    rcases hbl i b hi with ⟨e1, h1⟩ | ⟨e1, h1⟩
    · rcases hbl j b hj with ⟨e2, h2⟩ | ⟨e2, h2⟩
      · omega
      · exact absurd ⟨j, h2⟩ (hd b h1)
    · rcases hbl j b hj with ⟨e2, h2⟩ | ⟨e2, h2⟩
      · exact absurd ⟨i, h1⟩ (hd b h2)
      · exact hdj i j b h1 h2
theorem knF_set {kb n : Nat} {nv lv rv v : Value} {avs : List Value} (hn : n < avs.length) {k : Nat} (h : KnF kb nv lv rv (avs.set n v) k) : v.ownBlock = some k ∨ KnF kb nv lv rv avs k := by
  obtain ⟨i, hb⟩ := h
  match i, hb with
  | 0, hb => exact Or.inr ⟨0, hb⟩
  | 1, hb => exact Or.inr ⟨1, hb⟩
  | 2, hb => exact Or.inr ⟨2, hb⟩
  | 3, hb => exact Or.inr ⟨3, hb⟩
  | j + 4, hb =>
    have hb' : ((avs.set n v).getD j undef).ownBlock = some k := hb
    rw [avs_set hn] at hb'
    split at hb'
    · exact Or.inl hb'
    · exact Or.inr ⟨j + 4, hb'⟩
mutual
def okX (ns : List ByteArray) : Ex → Prop
  | .mk k n _ xs => ((decide (k = 1) && !isU n) = true → inN ns n = true) ∧ okXs ns xs
def okXs (ns : List ByteArray) : List Ex → Prop
  | [] => True
  | x :: r => okX ns x ∧ okXs ns r
end
theorem okXs_mem {ns : List ByteArray} : ∀ {xs : List Ex}, okXs ns xs → ∀ x ∈ xs, okX ns x
  | [], _, x, h => by cases h
  | y :: r, h, x, hx => by
    rcases List.mem_cons.1 hx with e | e
    · subst e; exact h.1
    · exact okXs_mem h.2 x e
theorem layXs_app (ns : List ByteArray) (st : List Nd) (xs : List Ex) (y : Ex) : layXs ns st (xs ++ [y]) = ((layXs ns st xs).1 ++ [((layX ns (layXs ns st xs).2 y).1 : Int)], (layX ns (layXs ns st xs).2 y).2) := by
  induction xs generalizing st with
  | nil => simp [layXs]
  | cons x r ih => rw [List.cons_append, layXs, ih, layXs]; simp
theorem layXs_len1 (ns : List ByteArray) : ∀ (st : List Nd) (xs : List Ex), (layXs ns st xs).1.length = xs.length
  | st, [] => by rw [layXs]; rfl
  | st, x :: r => by rw [layXs, List.length_cons, layXs_len1 ns _ r, List.length_cons]
mutual
theorem layX_le (ns : List ByteArray) : ∀ (st : List Nd) (x : Ex), st.length ≤ (layX ns st x).2.length ∧ (layX ns st x).2.length ≤ st.length + othX x
  | st, .mk k n m xs => by
    rw [layX, othX]
    split
    · simp
    · split
      · simp
      · simp only [setA_len]
        have := layXs_le ns (st ++ [⟨k, n, m, []⟩]) xs
        simp at this
        omega
theorem layXs_le (ns : List ByteArray) : ∀ (st : List Nd) (xs : List Ex), st.length ≤ (layXs ns st xs).2.length ∧ (layXs ns st xs).2.length ≤ st.length + othXs xs
  | st, [] => by rw [layXs, othXs]; simp
  | st, x :: r => by
    rw [layXs, othXs]
    have h1 := layX_le ns st x
    have h2 := layXs_le ns (layX ns st x).2 r
    simp only
    omega
end
end Go.Proofs.Ytjkcffcedbcjmaa

namespace Go.Proofs.Ytjkcffcedbcjmaa
set_option maxRecDepth 100000
open Go.RowKit Go.Maps
def LayU (w w' : World) (B kb cb : Nat) (nv lv rv : Value) (avs : List Value) (L : List Nat) (ns : List Nd) (rs : List Int) : Prop := ∃ L', KnU w w' B kb cb nv lv rv avs ns L' rs ∧ ∀ E, Ld L E → Ld L' E
def LayC (W0 : World) (cb : Nat) (names : List ByteArray) (x : Ex) : Prop := ∀ (w : World) (ev : Value) (kb : Nat) (nv lv rv : Value) (avs : List Value) (st : List Nd) (L : List Nat) (rs : List Int), Xv W0 x ev → szX x → okX names x → Below W0.heap.size W0 w → Kn w W0.heap.size kb cb nv lv rv avs st L rs → st.length + prtX x ≤ 90000 →
    Calls Try.prog 51 #[.pointer (some ⟨kb, 0, none⟩), ev] w fun e w' => e = .returned (.int .i64 ((layX names st x).1 : Int)) ∧ LayU w w' W0.heap.size kb cb nv lv rv avs L (layX names st x).2 rs
set_option maxHeartbeats 4000000 in
theorem lay_name {W0 : World} {B0 cb cq oth : Nat} {cv : Value} {names : List ByteArray} (hC : Cs W0 B0 cb cv cq names oth) {k : Int} {n : ByteArray} {m : Int} {xs : List Ex} (hn : (decide (k = 1) && !isU n) = true) : LayC W0 cb names (.mk k n m xs) := by
  intro w ev kb nv lv rv avs st L rs hx hz hok hB hK hl
  obtain ⟨av, rfl, hr⟩ := hx.parts
  obtain ⟨ao, c, rfl, _⟩ := hr
  have hb0 := below_alloc w (.cells #[.int .i64 k, .string n, .int .i64 m, .slice ao xs.length c] 48)
  have hin := isNamed_any (hx.next (Below.next hB hb0))
  rw [show nmX (.mk k n m xs) = true from hn] at hin
  have hI := hok.1 hn
  obtain ⟨D, hD, hM⟩ := (hC.next hB).map
  have hCc := (hC.next hB).cells
  have hat0 := hM.2.2 n hI
  have hk := WideMaps.keyOf_string_mk (P := Try.prog) (k := 9) Try.underlying9 (s := n) (by unfold maxLen; have := hz.1; omega)
  have hE : Hid (layX names st (.mk k n m xs) = (ixN names n, st)) := show _ = _ by rw [layX, if_pos hn]
  rw [hE.out]
  have hnx : Hid (∀ w1, Below (w.alloc (.cells #[.int .i64 k, .string n, .int .i64 m, .slice ao xs.length c] 48)).heap.size (w.alloc (.cells #[.int .i64 k, .string n, .int .i64 m, .slice ao xs.length c] 48)) w1 → ((w1.cell? ⟨kb, 0, none⟩ = some (.pointer (some ⟨cb, 0, none⟩)) ∧ kb < w1.heap.size) ∧ (w1.cell? ⟨cb, 1, none⟩ = some (.map (some cq)) ∧ cb < w1.heap.size) ∧ (w1.cell? ⟨w.heap.size, 1, none⟩ = some (.string n) ∧ w.heap.size < w1.heap.size)) ∧ w1.ownsMap Try.prog 9 (plainElem Try.prog 3) cq names.length D ∧ LayU w w1.drew W0.heap.size kb cb nv lv rv avs L st rs) := fun w1 hb1 => by
    have hb := Below.next hb0 hb1
    have hK1 := hK.next hb
    have hbx : w1.heap[w.heap.size]? = _ := (hb1.block w.heap.size (by simp)).trans (heap_alloc_new w _)
    have hcb : cb < w.heap.size := lt_of_block (hC.next hB).blk
    have hC1 := ((hC.next hB).next hb).cells
    refine ⟨⟨⟨hK1.cells.1.1, lt_of_block hK1.blk⟩, ⟨hC1.1.2.1, lt_of_cell hC1.1.2.1⟩, (xblk hbx).1.2.1, lt_of_block hbx⟩, mapI_keep hD (hb.block cq hD.lt), L, ⟨nv, lv, avs, hK1.keep (fun _ _ => rfl), (Mo.ofBelow hb).drew, fun k h => Or.inl h⟩, fun _ h => h⟩
  clear hn hE hx hB hK hC hM hok hI hCc
  go_enter Try.func51, Try.ntmps51
  go_wp2_with (go_at_call 74; refine hin.mono ?_; rintro e w1 ⟨rfl, hb1⟩; obtain ⟨⟨⟨g0, g1⟩, ⟨g2, g3⟩, g4, g5⟩, hD1, hfin⟩ := hnx.out w1 hb1; clear hb1)
  go_still_tail 9, (by kernel_rfl)
  change wpList _ _ _ _ _ w1.drew
  have hD2 := World.ownsMap.drew hD1
  go_wp2_with (at_lookup; refine wpList_lookup_own_int _ rfl _ _ 69 rfl 9 3 .i64 (string_keyed Try.underlying9) Try.underlying69 Try.underlying3 (zeroI _) cq names.length D rfl hD2 _ _ rfl hk ?_; intro c2 hat hwc)
  go_ret
  refine ⟨ret_int ?_, hfin⟩
  rw [hat0] at hat
  injection hat with hat
  injection hat with _ hat
  exact hat.symm
set_option maxHeartbeats 4000000 in
theorem lay_var {W0 : World} {cb : Nat} {names : List ByteArray} {n : ByteArray} {m : Int} {xs : List Ex} (hn : ¬ (decide ((1 : Int) = 1) && !isU n) = true) : LayC W0 cb names (.mk 1 n m xs) := by
  intro w ev kb nv lv rv avs st L rs hx hz hok hB hK hl
  obtain ⟨av, rfl, hr⟩ := hx.parts
  obtain ⟨ao, c, rfl, _⟩ := hr
  have hb0 := below_alloc w (.cells #[.int .i64 1, .string n, .int .i64 m, .slice ao xs.length c] 48)
  have hin := isNamed_any (hx.next (Below.next hB hb0))
  rw [show nmX (.mk 1 n m xs) = false by simpa [nmX] using hn] at hin
  have hE : layX names st (.mk 1 n m xs) = (st.length, st ++ [varN]) := by rw [layX, if_neg hn, if_pos rfl]
  rw [hE]
  have ho := prtX_pos (.mk 1 n m xs)
  have hnx : Hid (∀ w1, Below (w.alloc (.cells #[.int .i64 1, .string n, .int .i64 m, .slice ao xs.length c] 48)).heap.size (w.alloc (.cells #[.int .i64 1, .string n, .int .i64 m, .slice ao xs.length c] 48)) w1 → (w1.cell? ⟨w.heap.size, 0, none⟩ = some (.int .i64 1) ∧ w.heap.size < w1.heap.size) ∧ Calls Try.prog 50 #[.pointer (some ⟨kb, 0, none⟩), .agg #[.int .i64 1, .string ⟨#[]⟩, .int .i64 0, .slice none 0 0]] w1 fun e w' => e = .returned (.int .i64 (st.length : Int)) ∧ LayU w w' W0.heap.size kb cb nv lv rv avs L (st ++ [varN]) rs) := fun w1 hb1 => by
    have hb := Below.next hb0 hb1
    have hs := hb.size
    have hs0 := hB.size
    have hbx : w1.heap[w.heap.size]? = _ := (hb1.block w.heap.size (by simp)).trans (heap_alloc_new w _)
    refine ⟨⟨(xblk hbx).1.1, lt_of_block hbx⟩, (kadd_any (hK.next hb) 1 ⟨#[]⟩ 0 (by omega) (by omega)).mono ?_⟩
    rintro e w' ⟨rfl, hU⟩
    exact ⟨rfl, _, KnU.trans (Mo.ofBelow hb) (fun _ h => Or.inl h) hU, fun E h => h.add⟩
  clear hn hE hx hB hK hok ho
  go_enter Try.func51, Try.ntmps51
  go_wp2_with (first
    | (go_at_call 74; refine hin.mono ?_; rintro e w1 ⟨rfl, hb1⟩; obtain ⟨⟨g0, g1⟩, hcall⟩ := hnx.out w1 hb1; clear hb1)
    | (go_at_call 50; refine hcall.mono ?_; rintro e w2 ⟨rfl, hU⟩))
  go_ret
  exact ⟨rfl, hU⟩
end Go.Proofs.Ytjkcffcedbcjmaa
