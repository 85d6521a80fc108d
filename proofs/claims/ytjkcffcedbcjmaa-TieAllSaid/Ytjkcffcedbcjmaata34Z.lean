/- lay of package tie's knot, at a compound, an atom, an integer. -/
import Derived.Test.Ytjkcffcedbcjmaata32Z
namespace Go.Proofs.Ytjkcffcedbcjmaa
set_option maxRecDepth 100000
open Go.RowKit Go.Maps
structure LayS (w wr : World) (B kb cb : Nat) (nv lv rv : Value) (avs : List Value) (L : List Nat) (st : List Nd) (rs : List Int) (al : List Int) (ao : Option Addr) (j c : Nat) (nv' lv' : Value) (avs' : List Value) (L' : List Nat) : Prop where
  kn : Kn wr B kb cb nv' lv' rv avs' st L' rs
  mo : Mo (KnF kb nv lv rv avs) w wr
  sub : ∀ k, KnF kb nv' lv' rv avs' k → KnF kb nv lv rv avs k ∨ w.heap.size ≤ k
  ld : ∀ E, Ld L E → Ld L' E
  row : wr.ownsRow B 3 1 (.slice ao j c) j (al.map (Value.int .i64))
  far : ∀ k, (Value.slice ao j c).ownBlock = some k → w.heap.size ≤ k ∧ ¬ KnF kb nv' lv' rv avs' k
theorem LayS.step {w wr w2 w3 : World} {B kb cb : Nat} {nv lv rv : Value} {avs : List Value} {L : List Nat} {st st2 : List Nd} {rs al : List Int} {ao : Option Addr} {j c : Nat} {nv' lv' : Value} {avs' : List Value} {L' : List Nat} {o o2 : Obj} {r : Int} {g cap : Nat} (h : LayS w wr B kb cb nv lv rv avs L st rs al ao j c nv' lv' avs' L') (hU : LayU (wr.alloc o) w2 B kb cb nv' lv' rv avs' L' st2 rs)
    (hown : w3.ownsRow B 3 1 (.slice (some ⟨g, 0, none⟩) (j + 1) cap) (j + 1) (al.map (Value.int .i64) ++ [.int .i64 r])) (hg : (w2.alloc o2).grownBy w3 (Value.slice ao j c).ownBlock) (hat : (Value.slice ao j c).ownBlock = some g ∨ g = w2.heap.size + 1) :
    ∃ nv2 lv2 avs2 L2, LayS w w3 B kb cb nv lv rv avs L st2 rs (al ++ [r]) (some ⟨g, 0, none⟩) (j + 1) cap nv2 lv2 avs2 L2 := by
  obtain ⟨L2, ⟨nv2, lv2, avs2, hK2, hM2, hs2⟩, hL2⟩ := hU
  have hz := hM2.size
  simp at hz
  have hz0 := h.mo.size
  -- the row of arguments is none of the knot's
  have hfar2 : ∀ k, (Value.slice ao j c).ownBlock = some k → ¬ KnF kb nv2 lv2 rv avs2 k := fun k hk hf => by
    rcases hs2 k hf with h1 | h1
    · exact (h.far k hk).2 h1
    · have := (h.row.lt k hk).2
      simp at h1
      omega
  have hM3 : Mo (KnF kb nv lv rv avs) w w2 := (h.mo.alloc o).trans hM2 h.sub
  refine ⟨nv2, lv2, avs2, L2, (hK2.next (below_alloc w2 o2)).keep (fun k ⟨i, hk⟩ => ?_), (hM3.alloc o2).grown hg (fun k hk => Or.inr (h.far k hk).1), fun k hf => ?_, fun E hE => hL2 E (h.ld E hE), ?_, fun k hk => ?_⟩
  · have h1 := (hK2.lt hk).2
    exact hg.block k (by simp; omega) (fun e => hfar2 k e.symm ⟨i, hk⟩)
  · rcases hs2 k hf with h1 | h1
    · exact h.sub k h1
    · simp at h1
      exact Or.inr (by omega)
  · rw [List.map_append]
    exact hown
  · have e : g = k := by simpa [Value.ownBlock] using hk
    subst e
    rcases hat with e | e
    · exact ⟨(h.far g e).1, hfar2 g e⟩
    · refine ⟨by omega, fun ⟨i, hk⟩ => ?_⟩
      have := (hK2.lt hk).2
      omega
theorem LayS.done {w wr : World} {B kb cb : Nat} {nv lv rv : Value} {avs : List Value} {L : List Nat} {st : List Nd} {rs al : List Int} {ao : Option Addr} {c : Nat} {nv' lv' : Value} {avs' : List Value} {L' : List Nat} {n g nc : Nat} (h : LayS w wr B kb cb nv lv rv avs L st rs al ao al.length c nv' lv' avs' L') (hn : n < st.length) (hv : nv' = .slice (some ⟨g, 0, none⟩) st.length nc) : LayU w (wr.setCell ⟨g, n * 4 + 3, none⟩ (.slice ao al.length c)) B kb cb nv lv rv avs L (setA st n al) rs := by
  subst hv
  have hK := h.kn
  refine ⟨L', ⟨_, _, _, hK.setArgs hn h.row (fun k hk => (h.far k hk).2), h.mo.setCell (p := ⟨g, n * 4 + 3, none⟩) ?_ _, fun k hf => ?_⟩, h.ld⟩
  · exact h.sub g ⟨1, rfl⟩
  · rcases knF_set (by rw [hK.len]; exact hn) hf with h1 | h1
    · exact Or.inr (h.far k h1).1
    · exact h.sub k h1
set_option maxHeartbeats 4000000 in
theorem lay_comp {W0 : World} {cb : Nat} {names : List ByteArray} {k : Int} {n : ByteArray} {m : Int} {xs : List Ex} (ih : ∀ x ∈ xs, LayC W0 cb names x) (hk1 : k ≠ 1) : LayC W0 cb names (.mk k n m xs) := by
  intro w ev kb nv lv rv avs st L rs hx hz hok hB hK hl
  obtain ⟨i0, hi, hz0, hz1, hz2⟩ := info_parts infoI
  obtain ⟨av, rfl, hr⟩ := hx.parts
  obtain ⟨ao, c, rfl, hat⟩ := hr
  have hAt := hid hat
  have hn : ¬ (decide (k = 1) && !isU n) = true := by simp [hk1]
  have hb0 := below_alloc w (.cells #[.int .i64 k, .string n, .int .i64 m, .slice ao xs.length c] 48)
  have hin := isNamed_any (hx.next (Below.next hB hb0))
  rw [show nmX (.mk k n m xs) = false by simpa [nmX] using hn] at hin
  have hE : layX names st (.mk k n m xs) = (st.length, setA (layXs names (st ++ [⟨k, n, m, []⟩]) xs).2 st.length (layXs names (st ++ [⟨k, n, m, []⟩]) xs).1) := by rw [layX, if_neg hn, if_neg hk1]
  have hxl := prt_len xs
  have hlen : Hid (∀ j, j < xs.length → (layXs names (st ++ [⟨k, n, m, []⟩]) (xs.take j)).2.length + prtX (xs.getD j x0) ≤ 90000) := fun j hj => by
    have h1 := (layXs_le names (st ++ [⟨k, n, m, []⟩]) (xs.take j)).2
    have h2 := othXs_le (xs.take j)
    have h3 := prtXs_take xs (j + 1)
    rw [take_x hj, prtXs_app] at h3
    rw [prtX] at hl
    simp at h1
    omega
  rw [prtX] at hl
  rw [hE]
  have hk' : (k == 1) = false := beq_eq_false_iff_ne.2 hk1
  have hql : Hid (∀ b, KnF kb nv lv rv avs b → b < w.heap.size) := fun b ⟨_, hb⟩ => (hK.lt hb).2
  have HB := hid hB
  have HK := hid hK
  have hzs := hid hz.2
  have hoks := hid hok.2
  have IH := hid ih
  have hst1 : (st ++ [(⟨k, n, m, []⟩ : Nd)]).length = st.length + 1 := by simp
  generalize hS1 : st ++ [(⟨k, n, m, []⟩ : Nd)] = st1 at *
  have hnx : Hid (∀ w1, Below (w.alloc (.cells #[.int .i64 k, .string n, .int .i64 m, .slice ao xs.length c] 48)).heap.size (w.alloc (.cells #[.int .i64 k, .string n, .int .i64 m, .slice ao xs.length c] 48)) w1 → w1.heap[w.heap.size]? = some (.cells #[.int .i64 k, .string n, .int .i64 m, .slice ao xs.length c] 48) ∧ Calls Try.prog 50 #[.pointer (some ⟨kb, 0, none⟩), .agg #[.int .i64 k, .string n, .int .i64 m, .slice none 0 0]] w1 fun e w' => e = .returned (.int .i64 (st.length : Int)) ∧ (w'.heap[w.heap.size]? = some (.cells #[.int .i64 k, .string n, .int .i64 m, .slice ao xs.length c] 48) ∧ ∃ nv' lv' avs' L', LayS w w' W0.heap.size kb cb nv lv rv avs L st1 rs [] none 0 0 nv' lv' avs' L')) := fun w1 hb1 => by
    have hb := Below.next hb0 hb1
    have hs := hb.size
    have hs0 := hB.size
    have hbx : w1.heap[w.heap.size]? = _ := (hb1.block w.heap.size (by simp)).trans (heap_alloc_new w _)
    refine ⟨hbx, (kadd_any (hK.next hb) k n m (by omega) (by omega)).mono ?_⟩
    rintro e w' ⟨rfl, hU⟩
    refine ⟨rfl, ?_, ?_⟩
    · obtain ⟨_, _, _, _, hm, _⟩ := hU
      rw [hm.block _ (lt_of_block hbx) (fun h => Nat.lt_irrefl _ (hql.out _ h))]
      exact hbx
    · have hU2 := KnU.trans (Mo.ofBelow hb) (fun _ h => Or.inl h) hU
      obtain ⟨nv', lv', avs', hK', hm', hs'⟩ := hU2
      rw [hS1] at hK'
      exact ⟨nv', lv', avs', _, hK', hm', hs', fun E h => h.add, World.ownsRow_nil _ _ _ _, fun k hk => by cases hk⟩
  clear hn hE hx hB hK hok hat ih hk1 hz
  go_enter Try.func51, Try.ntmps51
  go_wp2_with (first
    | (go_at_call 74; refine hin.mono ?_; rintro e w1 ⟨rfl, hb1⟩; obtain ⟨hbx1, hcall⟩ := hnx.out w1 hb1; obtain ⟨⟨g0, g1, g2, g3⟩, _⟩ := xblk hbx1; have hzz := lt_of_block hbx1; clear hb1)
    | (go_at_call 50; refine hcall.mono ?_; rintro e w2 ⟨rfl, hbx2, hU⟩; obtain ⟨⟨y0, y1, y2, y3⟩, _⟩ := xblk hbx2; have hzz2 := lt_of_block hbx2))
  have hS0 : Hid (∃ nv' lv' avs' L', LayS w w2 W0.heap.size kb cb nv lv rv avs L (layXs names st1 (xs.take 0)).2 rs (layXs names st1 (xs.take 0)).1 none 0 0 nv' lv' avs' L') := hU
  have hfin : Hid (∀ wr ao c, (∃ nv' lv' avs' L', LayS w wr W0.heap.size kb cb nv lv rv avs L (layXs names st1 xs).2 rs (layXs names st1 xs).1 ao xs.length c nv' lv' avs' L') → ∃ g nc, ((wr.cell? ⟨kb, 1, none⟩ = some (.slice (some ⟨g, 0, none⟩) (layXs names st1 xs).2.length nc) ∧ kb < wr.heap.size) ∧ ((∃ u1 u2 u3, wr.cell? ⟨g, st.length * 4 + 3, none⟩ = some (.slice u1 u2 u3)) ∧ wr.frozen? ⟨g, st.length * 4 + 3, none⟩ = false ∧ g < wr.heap.size) ∧ st.length < (layXs names st1 xs).2.length) ∧ LayU w (wr.setCell ⟨g, st.length * 4 + 3, none⟩ (.slice ao xs.length c)) W0.heap.size kb cb nv lv rv avs L (setA (layXs names st1 xs).2 st.length (layXs names st1 xs).1) rs) := fun wr ao c ⟨nv', lv', avs', L', h⟩ => by
    have hle := (layXs_le names st1 xs).1
    have hl1 := layXs_len1 names st1 xs
    have hn : st.length < (layXs names st1 xs).2.length := by omega
    have hK := h.kn
    rcases hK.n.2 with ⟨_, h0⟩ | ⟨g, nc, cur, rfl, _⟩
    · omega
    · have hca := hK.n.cellAt (st.length * 4 + 3) (by omega)
      have hna := (ncells_at _ avs' st.length hK.len hn).2.2.2
      rw [hna] at hca
      obtain ⟨a1, a2, e, _⟩ := hK.a st.length hn
      rw [e] at hca
      rw [← hl1] at h
      have hd := h.done hn rfl
      rw [hl1] at hd
      exact ⟨g, nc, ⟨⟨hK.cells.1.2.1, lt_of_block hK.blk⟩, ⟨⟨_, _, _, hca⟩, hK.n.frozenAt _, lt_of_cell hca⟩, hn⟩, hd⟩
  clear hU
  go_loopw [6, 41] (fun x i wr => ∃ (j : Nat) (ao : Option Addr) (c : Nat), j ≤ xs.length ∧ i = .int .i64 (j : Int) ∧ x = .slice ao j c ∧ Hid (∃ nv' lv' avs' L', LayS w wr W0.heap.size kb cb nv lv rv avs L (layXs names st1 (xs.take j)).2 rs (layXs names st1 (xs.take j)).1 ao j c nv' lv' avs' L')) (fun _ i _ => xs.length - (intOf i).toNat)
  case atStart => exact ⟨0, none, 0, by omega, rfl, rfl, hS0⟩
  case round =>
    clear hS0
    obtain ⟨j, ra, rc, hj, rfl, rfl, hS⟩ := hrel
    by_cases hlt : j < xs.length
    · obtain ⟨b, o, k', n', m', aa, al, ac, rfl, d0, d1, d2, d3, hx⟩ := hAt.out j hlt
      obtain ⟨nv', lv', avs', L', hS'⟩ := hS.out
      have hBr : Below W0.heap.size W0 wr := HB.out.trans (hS'.mo.below (fun k ⟨_, hk⟩ => (HK.out.lt hk).1) HB.out.size)
      have hz := lt_of_cell d0
      have c0 := ((bcell hBr).1 b _ hz).trans d0
      have c1 := ((bcell hBr).1 b _ hz).trans d1
      have c2 := ((bcell hBr).1 b _ hz).trans d2
      have c3 := ((bcell hBr).1 b _ hz).trans d3
      have hzr : b < wr.heap.size := Nat.lt_of_lt_of_le hz hBr.size
      have hb2 := below_alloc wr (.cells #[.int .i64 k', .string n', .int .i64 m', .slice aa al ac] 48)
      have hsB : W0.heap.size ≤ wr.heap.size := hBr.size
      have hcall := IH.out _ (xs_at hlt) _ _ kb nv' lv' rv avs' _ _ rs hx (szXs_mem hzs.out _ (xs_at hlt)) (okXs_mem hoks.out _ (xs_at hlt)) (Below.next hBr hb2) (hS'.kn.next hb2) (hlen.out j hlt)
      have htk := hid (layXs_app names st1 (xs.take j) (xs.getD j x0))
      rw [← take_x hlt] at htk
      have hstep := hid (fun (w2 w3 : World) (o2 : Obj) (g cap : Nat) hU hown hg hat => LayS.step (w2 := w2) (w3 := w3) (o := .cells #[.int .i64 k', .string n', .int .i64 m', .slice aa al ac] 48) (o2 := o2) (g := g) (cap := cap) (r := ((layX names (layXs names st1 (xs.take j)).2 (xs.getD j x0)).1 : Int)) (st2 := (layX names (layXs names st1 (xs.take j)).2 (xs.getD j x0)).2) hS' hU hown hg hat)
      have hnx2 : Hid (∀ w2, LayU (wr.alloc (.cells #[.int .i64 k', .string n', .int .i64 m', .slice aa al ac] 48)) w2 W0.heap.size kb cb nv' lv' rv avs' L' (layX names (layXs names st1 (xs.take j)).2 (xs.getD j x0)).2 rs → w2.ownsRow W0.heap.size 3 1 (.slice ra j rc) j ((layXs names st1 (xs.take j)).1.map (Value.int .i64)) ∧ W0.heap.size ≤ w2.heap.size) := fun w2 hU => by
        obtain ⟨_, ⟨_, _, _, _, hm, _⟩, _⟩ := hU
        have hs2 := hm.size
        simp at hs2
        refine ⟨row_keep hS'.row (fun k hk => ?_), by omega⟩
        have h1 := (hS'.row.lt k hk).2
        rw [hm.block k (by simp; omega) (hS'.far k hk).2, Below.heap_alloc _ _ _ h1]
      clear d0 d1 d2 d3 hx hz hS hS' hBr hb2
      generalize hY : layX names (layXs names st1 (xs.take j)).2 (xs.getD j x0) = Y at *
      obtain ⟨y1, y2⟩ := Y
      dsimp only at hcall hstep hnx2 htk
      clear hY
      go_wp2_with (first
        | (go_at_call 51; refine hcall.mono ?_; rintro e w3 ⟨rfl, hU3⟩; obtain ⟨ho3, hs3⟩ := hnx2.out w3 hU3; have ho4 := World.ownsRow.alloc ho3 (.cells #[.int .i64 (y1 : Int)] 3))
        | (at_builtin; go_must (refine wpList_append_lies _ rfl _ _ 27 rfl W0.heap.size 3 i0 (.int .i64 0) 1 8 Try.underlying27 hi hz0 hz1 hz2 rfl (by decide) _ j _ rfl ho4 ⟨w3.heap.size, 0, none⟩ 1 1 [.int .i64 (y1 : Int)] rfl rfl (cell_one_new w3 _ _) (by simp [Value.oneCell']) (by decide) (by unfold maxLen; omega) (by omega) (by simp; omega) _ rfl ?_; intro g cap w4 hown4 hg4 hat4 hlt4)))
      go_roundw
      case rel =>
        refine ⟨j + 1, some ⟨g, 0, none⟩, cap, by omega, by go_num, rfl, ?_⟩
        have h9 := hstep.out w3 w4 _ g cap hU3 hown4 hg4 (hat4.imp id (fun e => by simpa using e))
        show ∃ _ _ _ _, LayS _ _ _ _ _ _ _ _ _ _ _ _ _ _ _ _ _ _ _ _
        rw [htk.out]
        exact h9
      case measure => simp [intOf]; omega
    · obtain rfl : j = xs.length := by omega
      have hS9 := hS.out
      rw [List.take_length] at hS9
      obtain ⟨g, nc, ⟨⟨q0', q1'⟩, ⟨⟨u1, u2, u3, q2'⟩, q3', q4'⟩, q5'⟩, hend⟩ := hfin.out wr ra rc hS9
      have q6' : (st.length : Int) < ((layXs names st1 xs).2.length : Int) := by omega
      have hend' := hid hend
      clear hS hS9 hend
      go_wp2
      go_ret
      exact ⟨rfl, hend'.out⟩
end Go.Proofs.Ytjkcffcedbcjmaa

namespace Go.Proofs.Ytjkcffcedbcjmaa
set_option maxRecDepth 100000
open Go.RowKit Go.Maps
theorem lay_any {W0 : World} {B0 cb cq oth : Nat} {cv : Value} {names : List ByteArray} (hC : Cs W0 B0 cb cv cq names oth) (x : Ex) : LayC W0 cb names x := by
  induction x using Ex.ind with
  | h k n m xs ih =>
    by_cases hn : (decide (k = 1) && !isU n) = true
    · exact lay_name hC hn
    · by_cases hk : k = 1
      · subst hk
        exact lay_var hn
      · exact lay_comp ih hk
def KnS (w : World) (B kb cb : Nat) (st : List Nd) (rs : List Int) (E : Nat → Nat) : Prop := ∃ nv lv rv avs L, Kn w B kb cb nv lv rv avs st L rs ∧ Ld L E
theorem KnS.start (W : World) (cb : Nat) : KnS (W.alloc (.cells #[.pointer (some ⟨cb, 0, none⟩), .slice none 0 0, .slice none 0 0, .slice none 0 0] 105)) W.heap.size W.heap.size cb [] [] id := by
  refine ⟨_, _, _, [], [], ⟨heap_alloc_new W _, Nat.le_refl _, World.ownsRow_nil _ _ _ _, rfl, fun _ h => absurd h (Nat.not_lt_zero _), World.ownsRow_nil _ _ _ _, World.ownsRow_nil _ _ _ _, fun i j k hi hj => ?_, rfl⟩, Ld.nil⟩
  have h0 : ∀ i k, kbl W.heap.size (.slice none 0 0) (.slice none 0 0) (.slice none 0 0) [] i = some k → i = 0 := fun i k h => by
    match i, h with
    | 0, _ => rfl
    | 1, h => cases h
    | 2, h => cases h
    | 3, h => cases h
    | j + 4, h => cases (show (([] : List Value).getD j undef).ownBlock = some k from h)
  rw [h0 i k hi, h0 j k hj]
theorem Kn.root {w w2 : World} {B kb cb g cap : Nat} {nv lv rv : Value} {avs : List Value} {ns : List Nd} {L : List Nat} {rs : List Int} {r : Int} {o : Obj} (h : Kn w B kb cb nv lv rv avs ns L rs) (hown : w2.ownsRow B 3 1 (.slice (some ⟨g, 0, none⟩) (rs.length + 1) cap) (rs.length + 1) (rs.map (Value.int .i64) ++ [.int .i64 r])) (hg : (w.alloc o).grownBy w2 rv.ownBlock) (hat : rv.ownBlock = some g ∨ g = w.heap.size + 1) :
    Kn (w2.setCell ⟨kb, 3, none⟩ (.slice (some ⟨g, 0, none⟩) (rs.length + 1) cap)) B kb cb nv lv (.slice (some ⟨g, 0, none⟩) (rs.length + 1) cap) avs ns L (rs ++ [r]) := by
  have hdj := h.dj
  have hs := hg.size
  simp at hs
  have hkb := h.lt (i := 0) (k := kb) rfl
  have far : ∀ i b, i ≠ 3 → i ≠ 0 → kbl kb nv lv rv avs i = some b → (w2.setCell ⟨kb, 3, none⟩ (.slice (some ⟨g, 0, none⟩) (rs.length + 1) cap)).heap[b]? = w.heap[b]? := fun i b hi h0 hb => by
    have hb1 := (h.lt hb).2
    rw [Below.heap_setCell _ _ _ _ (fun e => h0 (hdj i 0 kb (by rw [hb]; exact congrArg some e) rfl)), hg.block b (by simp; omega) (fun e => hi (hdj i 3 b hb e.symm)), Below.heap_alloc _ _ _ hb1]
  have b2 : w2.heap[kb]? = some (.cells #[.pointer (some ⟨cb, 0, none⟩), nv, lv, rv] 105) := by
    rw [hg.block kb (by simp; omega) (fun e => absurd (hdj 0 3 kb rfl e.symm) (by decide)), Below.heap_alloc _ _ _ hkb.2]
    exact h.blk
  have hgk : g ≠ kb := by
    rcases hat with e | e
    · exact fun e2 => absurd (hdj 3 0 kb (by rw [← e2]; exact e) rfl) (by decide)
    · omega
  have hbl : ∀ i b, kbl kb nv lv (.slice (some ⟨g, 0, none⟩) (rs.length + 1) cap) avs i = some b → (i = 3 ∧ b = g) ∨ (i ≠ 3 ∧ kbl kb nv lv rv avs i = some b) := fun i b hb => by
    match i, hb with
    | 0, hb => exact Or.inr ⟨by decide, hb⟩
    | 1, hb => exact Or.inr ⟨by decide, hb⟩
    | 2, hb => exact Or.inr ⟨by decide, hb⟩
    | 3, hb => exact Or.inl ⟨rfl, by simpa [kbl, Value.ownBlock] using hb.symm⟩
    | j + 4, hb => exact Or.inr ⟨by omega, hb⟩
  refine ⟨kn_blk3 _ b2, h.base, row_keep h.n (fun k hk => far 1 k (by decide) (by decide) hk), h.len, fun j hj => ?_, row_keep h.l (fun k hk => far 2 k (by decide) (by decide) hk), ?_, fun i j b hi hj => ?_, h.ll⟩
  · obtain ⟨ao, c, e, ho⟩ := h.a j hj
    exact ⟨ao, c, e, row_keep ho (fun k hk => far (j + 4) k (by omega) (by omega) (by show (avs.getD j undef).ownBlock = _; rw [e]; exact hk))⟩
  · rw [List.map_append, List.length_append]
    refine row_keep (w := w2) hown (fun k hk => ?_)
    have e : g = k := by simpa [Value.ownBlock] using hk
    subst e
    exact Below.heap_setCell _ _ _ _ hgk
  · have hnew : ∀ i b, i ≠ 3 → kbl kb nv lv rv avs i = some b → b ≠ g := fun i b hi hb e => by
      rcases hat with e1 | e1
      · exact hi (hdj i 3 g (by rw [hb, e]) e1)
      · have := (h.lt hb).2; omega
    rcases hbl i b hi with ⟨e1, h1⟩ | ⟨e1, h1⟩
    · rcases hbl j b hj with ⟨e2, h2⟩ | ⟨e2, h2⟩
      · omega
      · exact absurd h1 (hnew j b e2 h2)
    · rcases hbl j b hj with ⟨e2, h2⟩ | ⟨e2, h2⟩
      · exact absurd h2 (hnew i b e1 h1)
      · exact hdj i j b h1 h2
theorem layQ_app (ns : List ByteArray) (st : List Nd) (qs : List (ByteArray × Ex)) (y : ByteArray × Ex) : layQ ns st (qs ++ [y]) = ((layQ ns st qs).1 ++ [(ixN ns y.1, (layX ns (layQ ns st qs).2 y.2).1)], (layX ns (layQ ns st qs).2 y.2).2) := by
  induction qs generalizing st with
  | nil => simp [layQ]
  | cons x r ih => rw [List.cons_append, layQ, ih, layQ]; simp
theorem layQ_le (ns : List ByteArray) : ∀ (st : List Nd) (qs : List (ByteArray × Ex)), st.length ≤ (layQ ns st qs).2.length ∧ (layQ ns st qs).2.length ≤ st.length + othQ qs
  | st, [] => by rw [layQ, othQ]; simp
  | st, q :: r => by
    rw [layQ, othQ]
    have h1 := layX_le ns st q.2
    have h2 := layQ_le ns (layX ns st q.2).2 r
    simp only
    omega
end Go.Proofs.Ytjkcffcedbcjmaa

namespace Go.Proofs.Ytjkcffcedbcjmaa
set_option maxRecDepth 100000
open Go.RowKit Go.Maps
theorem KnS.lay {W w w' : World} {kb cb : Nat} {nv lv rv : Value} {avs : List Value} {st st' : List Nd} {L : List Nat} {rs : List Int} {E : Nat → Nat} (hK : Kn w W.heap.size kb cb nv lv rv avs st L rs) (hE : Ld L E) (hb : Below W.heap.size W w) (hU : LayU w w' W.heap.size kb cb nv lv rv avs L st' rs) : Below W.heap.size W w' ∧ ∃ nv' lv' avs' L', Kn w' W.heap.size kb cb nv' lv' rv avs' st' L' rs ∧ Ld L' E := by
  obtain ⟨L', hU, hL⟩ := hU
  refine ⟨KnU.below hK hU rfl hb, ?_⟩
  obtain ⟨nv', lv', avs', hK', _, _⟩ := hU
  exact ⟨nv', lv', avs', L', hK', hL E hE⟩
theorem bindAll_app (E : Nat → Nat) (ps : List (Nat × Nat)) (p : Nat × Nat) : bindAll E (ps ++ [p]) = bindE (bindAll E ps) p := by simp [bindAll]
theorem bindAll_out : ∀ (ps : List (Nat × Nat)) (E : Nat → Nat) (x : Nat), E x = x → (∀ p ∈ ps, p.1 ≠ x) → bindAll E ps x = x
  | [], E, x, h, _ => h
  | p :: r, E, x, h, hp => by
    refine bindAll_out r (bindE E p) x ?_ (fun q hq => hp q (by simp [hq]))
    unfold bindE
    rw [h, if_neg (fun e => hp p (by simp) e.symm)]
theorem layQ_names (ns : List ByteArray) : ∀ (st : List Nd) (qs : List (ByteArray × Ex)), (layQ ns st qs).1.map (·.1) = qs.map (fun q => ixN ns q.1)
  | st, [] => by rw [layQ]; rfl
  | st, q :: r => by rw [layQ, List.map_cons, layQ_names ns _ r, List.map_cons]
theorem ixN_inj {l : List ByteArray} {s t : ByteArray} (hs : inN l s = true) (ht : inN l t = true) (e : ixN l s = ixN l t) : s = t := by rw [← ixN_at hs, ← ixN_at ht, e]
theorem rep_succ (j : Nat) : List.replicate (j + 1) varN = List.replicate j varN ++ [varN] := List.replicate_succ'
theorem next_self {names : List ByteArray} {st : List Nd} {qs : List (ByteArray × Ex)} (hin : ∀ q ∈ qs, inN names q.1 = true) (hnd : ∀ i j, i < j → j < qs.length → (qs.getD i q0).1 ≠ (qs.getD j q0).1) {j : Nat} (hj : j < qs.length) : bindAll id (layQ names st (qs.take j)).1 (ixN names (qs.getD j q0).1) = ixN names (qs.getD j q0).1 := by
  refine bindAll_out _ _ _ rfl (fun p hp e => ?_)
  have h1 : p.1 ∈ (layQ names st (qs.take j)).1.map (·.1) := List.mem_map.2 ⟨p, hp, rfl⟩
  rw [layQ_names] at h1
  obtain ⟨q, hq, e2⟩ := List.mem_map.1 h1
  rw [e] at e2
  have hqm := List.mem_of_mem_take hq
  have e3 := ixN_inj (hin q hqm) (hin (qs.getD j q0) (by simp [List.getD, hj])) e2
  obtain ⟨i, hi, rfl⟩ := List.getElem_of_mem hq
  have hij : i < j := by simp at hi; omega
  refine hnd i j hij hj ?_
  rw [← e3]
  simp [List.getD, show i < qs.length by omega]
theorem layX_lt {names : List ByteArray} {st : List Nd} {x : Ex} (hok : okX names x) (hst : names.length ≤ st.length) : (layX names st x).1 < (layX names st x).2.length := by
  obtain ⟨k, n, m, xs⟩ := x
  rw [layX]
  split
  · rename_i h
    have := ixN_lt (hok.1 h)
    show ixN names n < st.length
    omega
  · split
    · simp
    · simp only [setA_len]
      have := (layXs_le names (st ++ [⟨k, n, m, []⟩]) xs).1
      simp at this
      omega
set_option maxHeartbeats 8000000 in
theorem knotted_any {W : World} {B0 cb cq oth : Nat} {cv : Value} {names : List ByteArray} (hC : Cs W B0 cb cv cq names oth) {xv qv : Value} {xs : List Ex} {qs : List (ByteArray × Ex)} (hX : Rxs W xv xs) (hQ : Rqs W qv qs) (hzx : szXs xs) (hzq : ∀ q ∈ qs, q.1.size ≤ 281474976710656 ∧ szX q.2) (hokx : okXs names xs) (hokq : ∀ q ∈ qs, inN names q.1 = true ∧ okX names q.2) (hnd : ∀ i j, i < j → j < qs.length → (qs.getD i q0).1 ≠ (qs.getD j q0).1) (hp : names.length + prtXs xs + prtQ qs ≤ 80000) :
    Calls Try.prog 30 #[.pointer (some ⟨cb, 0, none⟩), xv, qv] W fun e w' => (∃ kb, e = .returned (.pointer (some ⟨kb, 0, none⟩)) ∧ KnS w' W.heap.size kb cb (layQ names (layXs names (List.replicate names.length varN) xs).2 qs).2 (layXs names (List.replicate names.length varN) xs).1 (bindAll id (layQ names (layXs names (List.replicate names.length varN) xs).2 qs).1)) ∧ Below W.heap.size W w' := by
  obtain ⟨i0, hi, hz0, hz1, hz2⟩ := info_parts infoI
  obtain ⟨xa, xc, rfl, hXat⟩ := hX
  obtain ⟨qa, qc, rfl, hQat⟩ := hQ
  have hXA := hid hXat
  have hQA := hid hQat
  have hxl := prt_len xs
  have hql := prtQ_len qs
  have hcl := hC.cells
  have hcb := lt_of_block hC.blk
  obtain ⟨na, nc, hcv⟩ := own_sl hC.own
  subst hcv
  have c0 := hcl.1.1
  have HC := hid hC
  have hK0 : Hid (KnS (W.alloc (.cells #[.pointer (some ⟨cb, 0, none⟩), .slice none 0 0, .slice none 0 0, .slice none 0 0] 105)) W.heap.size W.heap.size cb (List.replicate 0 varN) [] id) := KnS.start W cb
  have hB0 := hid (below_alloc W (.cells #[.pointer (some ⟨cb, 0, none⟩), .slice none 0 0, .slice none 0 0, .slice none 0 0] 105))
  have hZX := hid (fun j (hj : j < xs.length) => (⟨szXs_mem hzx _ (xs_at hj), okXs_mem hokx _ (xs_at hj)⟩ : szX (xs.getD j x0) ∧ okX names (xs.getD j x0)))
  have hZQ := hid (fun j (hj : j < qs.length) => (⟨hzq (qs.getD j q0) (by simp [List.getD, hj]), hokq (qs.getD j q0) (by simp [List.getD, hj])⟩ : ((qs.getD j q0).1.size ≤ 281474976710656 ∧ szX (qs.getD j q0).2) ∧ (inN names (qs.getD j q0).1 = true ∧ okX names (qs.getD j q0).2)))
  have hself := hid (fun j (hj : j < qs.length) => next_self (st := (layXs names (List.replicate names.length varN) xs).2) (fun q hq => (hokq q hq).1) hnd hj)
  have hlen : Hid (∀ j, j < xs.length → (layXs names (List.replicate names.length varN) (xs.take j)).2.length + prtX (xs.getD j x0) ≤ 90000) := fun j hj => by
    have h1 := (layXs_le names (List.replicate names.length varN) (xs.take j)).2
    have h2 := othXs_le (xs.take j)
    have h3 := prtXs_take xs (j + 1)
    rw [take_x hj, prtXs_app] at h3
    simp at h1
    omega
  have hlenq : Hid (∀ j, j < qs.length → (layQ names (layXs names (List.replicate names.length varN) xs).2 (qs.take j)).2.length + prtX (qs.getD j q0).2 ≤ 90000 ∧ names.length ≤ (layQ names (layXs names (List.replicate names.length varN) xs).2 (qs.take j)).2.length) := fun j hj => by
    have h0 := layXs_le names (List.replicate names.length varN) xs
    have h1 := layQ_le names (layXs names (List.replicate names.length varN) xs).2 (qs.take j)
    have h2 := othQ_le (qs.take j)
    have h4 := othXs_le xs
    have h3 := prtQ_take qs (j + 1)
    rw [take_q hj, prtQ_app] at h3
    simp at h0
    constructor <;> omega
  clear hXat hQat hzx hzq hokx hokq hnd hC hcl
  go_enter Try.func30, Try.ntmps30
  go_wp2
  go_loopw [20] (fun i wr => ∃ j : Nat, j ≤ names.length ∧ i = .int .i64 (j : Int) ∧ Hid (KnS wr W.heap.size W.heap.size cb (List.replicate j varN) [] id) ∧ Hid (Below W.heap.size W wr)) (fun i _ => names.length - (intOf i).toNat)
  case atStart => exact ⟨0, by omega, rfl, hK0, hB0⟩
  case round =>
    clear hK0 hB0
    obtain ⟨j, hj, rfl, hK, hB⟩ := hrel
    by_cases hlt : j < names.length
    · obtain ⟨nv, lv, rv, avs, L, hKn, hL⟩ := hK.out
      have hcall := kadd_any hKn 1 ⟨#[]⟩ 0 (by simp; omega) hB.out.size
      have hnx : Hid (∀ w', KnU wr w' W.heap.size W.heap.size cb nv lv rv avs (List.replicate j varN ++ [varN]) (L ++ [L.length]) [] → KnS w' W.heap.size W.heap.size cb (List.replicate (j + 1) varN) [] id ∧ Below W.heap.size W w') := fun w' hU => by
        refine ⟨?_, KnU.below hKn hU rfl hB.out⟩
        obtain ⟨nv', lv', avs', hK', _, _⟩ := hU
        rw [rep_succ]
        exact ⟨nv', lv', rv, avs', _, hK', hL.add⟩
      clear hK hKn hL hB
      go_wp2_with (go_at_call 50; refine hcall.mono ?_; rintro e w2 ⟨rfl, hU⟩; obtain ⟨hK2, hB2⟩ := hnx.out w2 hU)
      go_roundw
      case rel => exact ⟨j + 1, by omega, by go_num, hK2, hB2⟩
      case measure => simp [intOf]; omega
    · obtain rfl : j = names.length := by omega
      have hK1 : Hid (KnS wr W.heap.size W.heap.size cb (layXs names (List.replicate names.length varN) (xs.take 0)).2 (layXs names (List.replicate names.length varN) (xs.take 0)).1 id) := hK.out
      have hB1 := hid hB.out
      clear hK hB
      go_wp2
      go_loopw [28] (fun i wr => ∃ j : Nat, j ≤ xs.length ∧ i = .int .i64 (j : Int) ∧ Hid (KnS wr W.heap.size W.heap.size cb (layXs names (List.replicate names.length varN) (xs.take j)).2 (layXs names (List.replicate names.length varN) (xs.take j)).1 id) ∧ Hid (Below W.heap.size W wr)) (fun i _ => xs.length - (intOf i).toNat)
      case atStart => exact ⟨0, by omega, rfl, hK1, hB1⟩
      case round =>
        clear hK1 hB1
        obtain ⟨j, hj, rfl, hK, hB⟩ := hrel
        by_cases hlt : j < xs.length
        · obtain ⟨b, o, k', n', m', aa, al, ac, rfl, d0, d1, d2, d3, hx⟩ := hXA.out j hlt
          obtain ⟨nv, lv, rv, avs, L, hKn, hL⟩ := hK.out
          have hz := lt_of_cell d0
          have c0 := ((bcell hB.out).1 b _ hz).trans d0
          have c1 := ((bcell hB.out).1 b _ hz).trans d1
          have c2 := ((bcell hB.out).1 b _ hz).trans d2
          have c3 := ((bcell hB.out).1 b _ hz).trans d3
          have hzr : b < wr.heap.size := Nat.lt_of_lt_of_le hz hB.out.size
          have hb2 := below_alloc wr (.cells #[.int .i64 k', .string n', .int .i64 m', .slice aa al ac] 48)
          have hB2 := Below.next hB.out hb2
          have hK2 := hKn.next hb2
          obtain ⟨zx, ox⟩ := hZX.out j hlt
          have hcall := lay_any HC.out _ (wr.alloc (.cells #[.int .i64 k', .string n', .int .i64 m', .slice aa al ac] 48)).drew _ W.heap.size nv lv rv avs _ L _ hx zx ox hB2.drew (hK2.keep (fun _ _ => rfl)) (hlen.out j hlt)
          have htk := hid (layXs_app names (List.replicate names.length varN) (xs.take j) (xs.getD j x0))
          rw [← take_x hlt] at htk
          obtain ⟨ra, rc, hrv⟩ := own_sl hKn.r
          have hrl := layXs_len1 names (List.replicate names.length varN) (xs.take j)
          rw [List.length_take, Nat.min_eq_left hj] at hrl
          generalize hY : layX names (layXs names (List.replicate names.length varN) (xs.take j)).2 (xs.getD j x0) = Y at *
          generalize hZ : layXs names (List.replicate names.length varN) (xs.take j) = Z at *
          obtain ⟨y1, y2⟩ := Y
          obtain ⟨rs, st⟩ := Z
          dsimp only at hcall htk hrl hKn hK2 hrv
          subst hrv
          rw [hrl] at hKn hK2 hcall
          have hcl := hK2.cells
          have kc3 := hcl.1.2.2.2
          have hkz := lt_of_block hK2.blk
          have hbx := heap_alloc_new wr (.cells #[.int .i64 k', .string n', .int .i64 m', .slice aa al ac] 48)
          have hsz : wr.heap.size < (wr.alloc (.cells #[.int .i64 k', .string n', .int .i64 m', .slice aa al ac] 48)).heap.size := by simp
          clear hY hZ hK hB hKn hx d0 d1 d2 d3 hb2 hz
          go_wp2
          generalize wr.alloc (.cells #[.int .i64 k', .string n', .int .i64 m', .slice aa al ac] 48) = wb at *
          generalize wr.heap.size = sb at *
          obtain ⟨⟨x0', x1', x2', x3'⟩, _⟩ := xblk hbx
          have hnx : Hid (∀ w2, LayU wb.drew w2 W.heap.size W.heap.size cb nv lv (.slice ra j rc) avs L y2 rs → ((w2.cell? ⟨W.heap.size, 3, none⟩ = some (.slice ra j rc) ∧ W.heap.size < w2.heap.size) ∧ w2.ownsRow W.heap.size 3 1 (.slice ra j rc) j (rs.map (Value.int .i64))) ∧ ∀ (w3 : World) (o : Obj) (g cap : Nat), w3.ownsRow W.heap.size 3 1 (.slice (some ⟨g, 0, none⟩) (j + 1) cap) (j + 1) (rs.map (Value.int .i64) ++ [.int .i64 (y1 : Int)]) → (w2.alloc o).grownBy w3 (Value.slice ra j rc).ownBlock → ((Value.slice ra j rc).ownBlock = some g ∨ g = w2.heap.size + 1) → (w3.cell? ⟨W.heap.size, 3, none⟩ = some (.slice ra j rc) ∧ w3.frozen? ⟨W.heap.size, 3, none⟩ = false ∧ W.heap.size < w3.heap.size) ∧ KnS (w3.setCell ⟨W.heap.size, 3, none⟩ (.slice (some ⟨g, 0, none⟩) (j + 1) cap)) W.heap.size W.heap.size cb y2 (rs ++ [(y1 : Int)]) id ∧ Below W.heap.size W (w3.setCell ⟨W.heap.size, 3, none⟩ (.slice (some ⟨g, 0, none⟩) (j + 1) cap))) := fun w2 hU => by
            obtain ⟨hB3, nv', lv', avs', L', hK3, hL3⟩ := KnS.lay (W := W) (hK2.keep (w' := wb.drew) (fun _ _ => rfl)) hL hB2.drew hU
            have hkz3 := lt_of_block hK3.blk
            have hr3 := hK3.r
            rw [hrl] at hr3
            refine ⟨⟨⟨hK3.cells.1.2.2.2, hkz3⟩, hr3⟩, fun w3 o g cap hown hg hat => ?_⟩
            have hsg := hg.size
            simp at hsg
            have b3 : w3.heap[W.heap.size]? = some (.cells #[.pointer (some ⟨cb, 0, none⟩), nv', lv', .slice ra j rc] 105) := by
              rw [hg.block _ (by simp; omega) (fun e => absurd (hK3.dj 0 3 _ rfl e.symm) (by decide)), Below.heap_alloc _ _ _ hkz3]
              exact hK3.blk
            refine ⟨⟨by simp [World.cell?, b3], by simp [World.frozen?, b3], by omega⟩, ⟨nv', lv', .slice (some ⟨g, 0, none⟩) (j + 1) cap, avs', L', ?_, hL3⟩, ?_⟩
            · have h9 := hK3.root (r := (y1 : Int)) (by rw [hrl]; exact hown) hg hat
              rw [hrl] at h9
              exact h9
            · exact (((hB3.alloc (Nat.le_of_lt hkz3) o).grown hg (by simp; omega) (fun k hk => (hr3.lt k hk).1)).setCell (p := ⟨W.heap.size, 3, none⟩) (Nat.le_refl _) _)
          clear hK2 hL hB2 hcl hbx
          go_region_law
            (first
              | (go_simp; go_at_call 51; refine hcall.mono ?_; rintro e w2 ⟨rfl, hU⟩; obtain ⟨⟨⟨t0, t1⟩, t2⟩, hnn⟩ := hnx.out w2 hU; have t3 := World.ownsRow.alloc t2 (.cells #[.int .i64 (y1 : Int)] 3))
              | (refine step_append_lies _ (by rfl) _ _ _ (by rfl) W.heap.size 3 i0 (.int .i64 0) 1 8 Try.underlying27 hi hz0 hz1 hz2 rfl (by omega) _ j (rs.map (Value.int .i64)) (by rfl) t3 ⟨w2.heap.size, 0, none⟩ 1 1 [.int .i64 (y1 : Int)] (by rfl) (by rfl) (World.news_of_block (cs := #[.int .i64 (y1 : Int)]) (t := 3) (fr := (0, 0)) (heap_alloc_new w2 _)) (by simp [Value.oneCell']) (by omega) (by unfold maxLen; omega) (by omega) (by simp; omega) (w2.heap.size + 1) (by simp) ?_; intro g cap w3 hown3 hg3 hat3 hlt3; obtain ⟨⟨v0, v1, v2⟩, hK4, hB4⟩ := hnn w3 _ g cap hown3 hg3 hat3))
          all_goals go_wp2
          all_goals
            go_roundw
            case rel => exact ⟨j + 1, by omega, by go_num, (show KnS _ _ _ _ _ _ _ by rw [htk.out]; exact hK4), hB4⟩
            case measure => simp [intOf]; omega
        · obtain rfl : j = xs.length := by omega
          have hst1 : Hid (names.length ≤ (layXs names (List.replicate names.length varN) xs).2.length) := by
            have := (layXs_le names (List.replicate names.length varN) xs).1
            simp at this
            exact this
          have hK1 : Hid (KnS wr W.heap.size W.heap.size cb (layQ names (layXs names (List.replicate names.length varN) xs).2 (qs.take 0)).2 (layXs names (List.replicate names.length varN) xs).1 (bindAll id (layQ names (layXs names (List.replicate names.length varN) xs).2 (qs.take 0)).1)) := by
            have h9 := hK.out
            rw [List.take_length] at h9
            exact h9
          have hB1 := hid hB.out
          clear hK hB hlen
          generalize hZ1 : layXs names (List.replicate names.length varN) xs = Z1 at hK1 hself hlenq hst1
          obtain ⟨rs1, st1⟩ := Z1
          have HZ := hid hZ1
          dsimp only at hK1 hself hlenq hst1
          clear hZ1
          go_wp2
          go_loopw [47] (fun i wr => ∃ j : Nat, j ≤ qs.length ∧ i = .int .i64 (j : Int) ∧ Hid (KnS wr W.heap.size W.heap.size cb (layQ names st1 (qs.take j)).2 rs1 (bindAll id (layQ names st1 (qs.take j)).1)) ∧ Hid (Below W.heap.size W wr)) (fun i _ => qs.length - (intOf i).toNat)
          case atStart => exact ⟨0, by omega, rfl, hK1, hB1⟩
          case round =>
            clear hK1 hB1
            obtain ⟨j, hj, rfl, hK, hB⟩ := hrel
            by_cases hlt : j < qs.length
            · obtain ⟨b, o, k', n', m', aa, al, ac, rfl, d0, d1, d2, d3, d4, hx⟩ := hQA.out j hlt
              obtain ⟨nv, lv, rv, avs, L, hKn, hL⟩ := hK.out
              have hz := lt_of_cell d0
              have c0 := ((bcell hB.out).1 b _ hz).trans d0
              have c1 := ((bcell hB.out).1 b _ hz).trans d1
              have c2 := ((bcell hB.out).1 b _ hz).trans d2
              have c3 := ((bcell hB.out).1 b _ hz).trans d3
              have c4 := ((bcell hB.out).1 b _ hz).trans d4
              have hzr : b < wr.heap.size := Nat.lt_of_lt_of_le hz hB.out.size
              obtain ⟨⟨zn, zx⟩, hin, ox⟩ := hZQ.out j hlt
              obtain ⟨hl1, hl2⟩ := hlenq.out j hlt
              have hsf := hself.out j hlt
              have htk := hid (layQ_app names st1 (qs.take j) (qs.getD j q0))
              rw [← take_q hlt] at htk
              have hylt := layX_lt ox hl2
              generalize hQJ : qs.getD j q0 = Q at *
              obtain ⟨nm, r⟩ := Q
              dsimp only at c0 hx zn zx hin ox hl1 hsf htk hylt
              clear hQJ
              have hb2 := below_alloc wr (.cells #[.string nm, .int .i64 k', .string n', .int .i64 m', .slice aa al ac] 51)
              have hB2 := Below.next hB.out hb2
              have hK2 := hKn.next hb2
              have hcall := lay_any HC.out _ (wr.alloc (.cells #[.string nm, .int .i64 k', .string n', .int .i64 m', .slice aa al ac] 51)).drew _ W.heap.size nv lv rv avs _ L _ hx zx ox hB2.drew (hK2.keep (fun _ _ => rfl)) hl1
              have hixl := ixN_lt hin
              generalize hY : layX names (layQ names st1 (qs.take j)).2 r = Y at *
              generalize hZ : layQ names st1 (qs.take j) = Z at *
              obtain ⟨y1, y2⟩ := Y
              obtain ⟨ps, st⟩ := Z
              dsimp only at hcall htk hKn hK2 hL hsf hylt hl2
              have hbx := heap_alloc_new wr (.cells #[.string nm, .int .i64 k', .string n', .int .i64 m', .slice aa al ac] 51)
              have hsz : wr.heap.size < (wr.alloc (.cells #[.string nm, .int .i64 k', .string n', .int .i64 m', .slice aa al ac] 51)).heap.size := by simp
              have hql9 : Hid (∀ k, KnF W.heap.size nv lv rv avs k → k < wr.heap.size) := fun k ⟨_, hk⟩ => (hKn.lt hk).2
              have hly : st.length ≤ y2.length := by
                have := (layX_le names st r).1
                rw [show layX names st r = (y1, y2) by rw [← hY]] at this
                exact this
              have hkey := WideMaps.keyOf_string_mk (P := Try.prog) (k := 9) Try.underlying9 (s := nm) (by unfold maxLen; omega)
              have hlk : Hid (∀ w2, Below W.heap.size W w2 → (Instr.lookup 69 (.map (some cq)) (.string nm) false).run Try.prog w2 = .ok (.int .i64 (ixN names nm : Int)) w2 ∧ w2.cell? ⟨cb, 1, none⟩ = some (.map (some cq)) ∧ cb < w2.heap.size) := fun w2 hb => by
                have hC2 := HC.out.next hb
                obtain ⟨D, hD, hM⟩ := hC2.map
                obtain ⟨c, hrun, hat, _⟩ := hD.lookup_int (string_keyed Try.underlying9) Try.underlying69 Try.underlying3 (zeroI w2) hkey
                rw [hM.2.2 nm hin] at hat
                injection hat with hat
                injection hat with _ hat
                rw [hat]
                exact ⟨hrun, hC2.cells.1.2.1, lt_of_block hC2.blk⟩
              clear hY hZ hK hB hKn hx d0 d1 d2 d3 d4 hb2 hz
              go_wp2
              generalize wr.alloc (.cells #[.string nm, .int .i64 k', .string n', .int .i64 m', .slice aa al ac] 51) = wb at *
              generalize wr.heap.size = sb at *
              obtain ⟨⟨x0', x1', x2', x3', x4'⟩, _⟩ := tblk5 hbx
              obtain ⟨l0, l1, l2⟩ := hlk.out wb.drew hB2.drew
              have l1' : wb.cell? ⟨cb, 1, none⟩ = some (.map (some cq)) := l1
              have l2' : cb < wb.heap.size := l2
              have hnx : Hid (∀ w2, LayU wb.drew w2 W.heap.size W.heap.size cb nv lv rv avs L y2 rs1 → ((Instr.lookup 69 (.map (some cq)) (.string nm) false).run Try.prog w2 = .ok (.int .i64 (ixN names nm : Int)) w2 ∧ w2.cell? ⟨cb, 1, none⟩ = some (.map (some cq)) ∧ cb < w2.heap.size) ∧ w2.heap[sb]? = some (.cells #[.string nm, .int .i64 k', .string n', .int .i64 m', .slice aa al ac] 51) ∧ Calls Try.prog 52 #[.pointer (some ⟨W.heap.size, 0, none⟩), .int .i64 (ixN names nm : Int), .int .i64 (y1 : Int)] w2 fun e w' => e = .returned (.tuple #[]) ∧ KnS w' W.heap.size W.heap.size cb y2 rs1 (bindE (bindAll id ps) (ixN names nm, y1)) ∧ Below W.heap.size W w') := fun w2 hU => by
                obtain ⟨hB3, nv', lv', avs', L', hK3, hL3⟩ := KnS.lay (W := W) (hK2.keep (w' := wb.drew) (fun _ _ => rfl)) hL hB2.drew hU
                refine ⟨hlk.out w2 hB3, ?_, (bind_any hK3 hL3 (ixN names nm) y1 (by omega) hylt hsf).mono ?_⟩
                · obtain ⟨_, ⟨_, _, _, _, hm, _⟩, _⟩ := hU
                  rw [hm.block sb hsz (fun h => Nat.lt_irrefl _ (hql9.out _ h))]
                  exact hbx
                · rintro e w' ⟨rfl, L4, hK4, hL4, hM4⟩
                  exact ⟨rfl, ⟨_, _, _, _, L4, hK4, hL4⟩, hB3.trans (hM4.below (fun k hk => (hK3.lt (i := 2) hk).1) hB3.size)⟩
              clear hK2 hL hB2 hbx
              go_region_law
                (first
                  | (go_simp; go_at_call 51; refine hcall.mono ?_; rintro e w2 ⟨rfl, hU⟩; obtain ⟨⟨p0, p1, p2⟩, hbx2, hbind⟩ := hnx.out w2 hU; obtain ⟨⟨t0, t1, t2, t3, t4⟩, _⟩ := tblk5 hbx2; have hzz2 := lt_of_block hbx2)
                  | (go_simp; go_at_call 52; refine hbind.mono ?_; rintro e w3 ⟨rfl, hK4, hB4⟩))
              all_goals go_wp2
              all_goals
                go_roundw
                case rel => exact ⟨j + 1, by omega, by go_num, (show KnS _ _ _ _ _ _ _ by rw [htk.out, bindAll_app]; exact hK4), hB4⟩
                case measure => simp [intOf]; omega
            · obtain rfl : j = qs.length := by omega
              have hK9 := hK.out
              rw [List.take_length] at hK9
              have hK8 := hid hK9
              have hB8 := hid hB.out
              clear hK hB hK9
              go_wp2
              go_ret
              refine ⟨⟨_, rfl, ?_⟩, hB8.out⟩
              rw [HZ.out]
              exact hK8.out
end Go.Proofs.Ytjkcffcedbcjmaa

namespace Go.Proofs.Ytjkcffcedbcjmaa
set_option maxRecDepth 100000
open Go.RowKit
theorem map_getD0 {l : List Int} {F : Int → Int} {k : Nat} (h : k < l.length) : (l.map F).getD k 0 = F (l.getD k 0) := by simp [List.getD, h]
def Born (g : Gf) (m : List Int) : Prop := ∀ i, i < m.length → m.getD i 0 ∈ g.roots ∨ ∃ j, j < i ∧ m.getD i 0 ∈ g.argsOf (m.getD j 0)
theorem Born.snoc {g : Gf} {m : List Int} {n : Int} (h : Born g m) (hn : n ∈ g.roots ∨ ∃ y ∈ m, n ∈ g.argsOf y) : Born g (m ++ [n]) := fun i hi => by
  have e : ∀ k, k < m.length → (m ++ [n]).getD k 0 = m.getD k 0 := fun k hk => by simp [List.getD, List.getElem?_append_left hk]
  by_cases hlt : i < m.length
  · rw [e i hlt]
    rcases h i hlt with h1 | ⟨j, hj, h1⟩
    · exact Or.inl h1
    · exact Or.inr ⟨j, hj, by rw [e j (by omega)]; exact h1⟩
  · have ei : i = m.length := by simp at hi; omega
    subst ei
    have e2 : (m ++ [n]).getD m.length 0 = n := by simp [List.getD]
    rw [e2]
    rcases hn with h1 | ⟨y, hy, h1⟩
    · exact Or.inl h1
    · obtain ⟨j, hj, rfl⟩ := list_mem_getD hy
      exact Or.inr ⟨j, hj, by rw [e j hj]; exact h1⟩
theorem meet_born (g : Gf) : ∀ (f : Nat) (l m : List Int), (∀ x ∈ l, x ∈ g.roots ∨ ∃ y ∈ m, x ∈ g.argsOf y) → Born g m → Born g (meetF g f l m) ∧ ∀ x ∈ m, x ∈ meetF g f l m
  | 0, l, m, _, h => ⟨h, fun _ hx => hx⟩
  | f + 1, l, m, hl, h => by
    rw [meetF_succ]
    induction l generalizing m with
    | nil => exact ⟨h, fun _ hx => hx⟩
    | cons n r ih =>
      rw [List.foldl_cons]
      have hs : Born g (stepF g f m n) ∧ ∀ x ∈ m, x ∈ stepF g f m n := by
        unfold stepF
        split
        · exact ⟨h, fun _ hx => hx⟩
        · have h1 := meet_born g f (g.argsOf n) (m ++ [n]) (fun x hx => Or.inr ⟨n, by simp, hx⟩) (h.snoc (hl n (by simp)))
          exact ⟨h1.1, fun x hx => h1.2 x (by simp [hx])⟩
      have h2 := ih (stepF g f m n) (fun x hx => by
        rcases hl x (by simp [hx]) with h3 | ⟨y, hy, h3⟩
        · exact Or.inl h3
        · exact Or.inr ⟨y, hs.2 y hy, h3⟩) hs.1
      exact ⟨h2.1, fun x hx => h2.2 x (hs.2 x hx)⟩
theorem met_born (g : Gf) : Born g (metF g) := (meet_born g _ _ _ (fun x hx => Or.inl hx) (fun i hi => by simp at hi)).1
def Lke (e : Nat → Nat → Bool) (g : Gf) (x : Nat) (i : Nat) : Prop := isN g (x : Int) ∧ clsI e g.nodes.length (x : Int) = (metF (quoF e g)).getD i 0
section
variable {e : Nat → Nat → Bool} {g : Gf}
theorem posF_getD {m : List Int} (h : m.Nodup) {i : Nat} (hi : i < m.length) : posF m (m.getD i 0) = (i : Int) := by
  unfold posF
  rw [if_pos (by simp [List.getD, hi]), pos_of_getD h hi]
theorem getD_posF {m : List Int} {x : Int} (h : x ∈ m) : m.getD (posF m x).toNat 0 = x ∧ (posF m x).toNat < m.length ∧ 0 ≤ posF m x := by
  unfold posF
  rw [if_pos h]
  refine ⟨?_, by simpa using pos_lt h, by omega⟩
  simp only [Int.toNat_natCast]
  induction m with
  | nil => cases h
  | cons y r ih =>
    by_cases e : y = x
    · simp [pos, e]
    · have h' : x ∈ r := by
        rcases List.mem_cons.1 h with h | h
        · exact absurd h.symm e
        · exact h
      simp only [pos, if_neg e, List.getD_cons_succ]
      exact ih h'
theorem lke_root (hg : Good g) (hd : ∀ x y : Nat, (e x y = true ↔ Al g (x : Int) (y : Int))) {k : Nat} (hk : k < g.roots.length) : Lke e g (g.roots.getD k 0).toNat ((trimF (quoF e g)).roots.getD k 0).toNat ∧ 0 ≤ (trimF (quoF e g)).roots.getD k 0 ∧ ((trimF (quoF e g)).roots.getD k 0).toNat < (metF (quoF e g)).length := by
  have hm := met_root (quo_good hg (al_eqv hg hd)) (clsI e g.nodes.length (g.roots.getD k 0)) (List.mem_map.2 ⟨_, getD_mem hk, rfl⟩)
  have hr : (trimF (quoF e g)).roots.getD k 0 = posF (metF (quoF e g)) (clsI e g.nodes.length (g.roots.getD k 0)) := by
    simp [trimF, quoF, List.getD, hk]
  have hx := hg.root _ (getD_mem hk)
  obtain ⟨h1, h2, h3⟩ := getD_posF hm
  rw [hr]
  refine ⟨⟨by rw [show (((g.roots.getD k 0).toNat : Nat) : Int) = g.roots.getD k 0 by omega]; exact hx, ?_⟩, h3, h2⟩
  rw [show (((g.roots.getD k 0).toNat : Nat) : Int) = g.roots.getD k 0 by omega, h1]
theorem lke_nd (hg : Good g) (hd : ∀ x y : Nat, (e x y = true ↔ Al g (x : Int) (y : Int))) {x i : Nat} (hi : i < (metF (quoF e g)).length) (h : Lke e g x i) : (trimF (quoF e g)).nodes.getD i nd0 = renum (fun y => posF (metF (quoF e g)) (clsI e g.nodes.length y)) (g.nodes.getD x nd0) := by
  have hq := quo_good hg (al_eqv hg hd)
  have hmem : (metF (quoF e g)).getD i 0 ∈ metF (quoF e g) := getD_mem hi
  have h1 := trim_node hq _ hmem
  rw [posF_getD (met_ok hq).nodup hi, Int.toNat_natCast] at h1
  have h2 := quo_nd hg hd h.1
  rw [h.2] at h2
  unfold Gf.nd at h2
  rw [Int.toNat_natCast] at h2
  rw [h1, h2]
  unfold renum
  simp only [List.map_map]
  rfl
theorem lke_arg (hg : Good g) (hd : ∀ x y : Nat, (e x y = true ↔ Al g (x : Int) (y : Int))) {x i : Nat} (hi : i < (metF (quoF e g)).length) (h : Lke e g x i) {k : Nat} (hk : k < (g.nodes.getD x nd0).args.length) : Lke e g ((g.nodes.getD x nd0).args.getD k 0).toNat (((trimF (quoF e g)).nodes.getD i nd0).args.getD k 0).toNat ∧ 0 ≤ (g.nodes.getD x nd0).args.getD k 0 ∧ 0 ≤ ((trimF (quoF e g)).nodes.getD i nd0).args.getD k 0 ∧ (((trimF (quoF e g)).nodes.getD i nd0).args.getD k 0).toNat < (metF (quoF e g)).length := by
  have hq := quo_good hg (al_eqv hg hd)
  have hmem : (metF (quoF e g)).getD i 0 ∈ metF (quoF e g) := getD_mem hi
  have hnd := lke_nd hg hd hi h
  have hargs : (quoF e g).argsOf ((metF (quoF e g)).getD i 0) = (g.nodes.getD x nd0).args.map (clsI e g.nodes.length) := by
    have h2 := quo_nd hg hd h.1
    rw [h.2] at h2
    show ((quoF e g).nd _).args = _
    rw [h2]
    unfold renum Gf.nd
    rw [Int.toNat_natCast]
  have hy := met_arg hq _ hmem (clsI e g.nodes.length ((g.nodes.getD x nd0).args.getD k 0)) (by rw [hargs]; exact List.mem_map.2 ⟨_, getD_mem hk, rfl⟩)
  have hrng := (hg.args h.1.1 h.1.2).1 ((g.nodes.getD x nd0).args.getD k 0) (by unfold Gf.argsOf; rw [Int.toNat_natCast]; exact getD_mem hk)
  have ht : ((trimF (quoF e g)).nodes.getD i nd0).args.getD k 0 = posF (metF (quoF e g)) (clsI e g.nodes.length ((g.nodes.getD x nd0).args.getD k 0)) := by
    rw [hnd]
    exact map_getD0 hk
  obtain ⟨h1, h2, h3⟩ := getD_posF hy
  rw [ht]
  refine ⟨⟨?_, ?_⟩, hrng.1, h3, h2⟩
  · rw [show ((((g.nodes.getD x nd0).args.getD k 0).toNat : Nat) : Int) = (g.nodes.getD x nd0).args.getD k 0 by omega]
    exact ⟨hrng.1, hrng.2⟩
  · rw [show ((((g.nodes.getD x nd0).args.getD k 0).toNat : Nat) : Int) = (g.nodes.getD x nd0).args.getD k 0 by omega, h1]
def Seen (e : Nat → Nat → Bool) (g : Gf) (n c : Nat) (i : Nat) : Prop := (∃ k, k < g.roots.length ∧ ((trimF (quoF e g)).roots.getD k 0).toNat = i) ∨ (∃ j k, j < n ∧ k < ((trimF (quoF e g)).nodes.getD j nd0).args.length ∧ (((trimF (quoF e g)).nodes.getD j nd0).args.getD k 0).toNat = i) ∨ (∃ k, k < c ∧ (((trimF (quoF e g)).nodes.getD n nd0).args.getD k 0).toNat = i)
theorem seen_self (hg : Good g) (hd : ∀ x y : Nat, (e x y = true ↔ Al g (x : Int) (y : Int))) {n : Nat} (hn : n < (metF (quoF e g)).length) : Seen e g n 0 n := by
  have hq := quo_good hg (al_eqv hg hd)
  have hnd := (met_ok hq).nodup
  rcases met_born (quoF e g) n hn with h | ⟨j, hj, h⟩
  · obtain ⟨k, hk, ek⟩ := list_mem_getD h
    refine Or.inl ⟨k, by simpa [quoF] using hk, ?_⟩
    have e1 : (trimF (quoF e g)).roots.getD k 0 = posF (metF (quoF e g)) ((quoF e g).roots.getD k 0) := by simp [trimF, List.getD, hk]
    rw [e1, ek, posF_getD hnd hn, Int.toNat_natCast]
  · have hj' : j < (metF (quoF e g)).length := by omega
    have h1 := trim_args hq _ (getD_mem hj')
    rw [posF_getD hnd hj'] at h1
    unfold Gf.argsOf at h1
    rw [Int.toNat_natCast] at h1
    obtain ⟨k, hk, ek⟩ := list_mem_getD h
    have hk' : k < ((quoF e g).nodes.getD ((metF (quoF e g)).getD j 0).toNat nd0).args.length := hk
    have ek' : ((quoF e g).nodes.getD ((metF (quoF e g)).getD j 0).toNat nd0).args.getD k 0 = (metF (quoF e g)).getD n 0 := ek
    refine Or.inr (Or.inl ⟨j, k, hj, by rw [h1]; simpa using hk', ?_⟩)
    rw [h1]
    have e2 : (((quoF e g).nodes.getD ((metF (quoF e g)).getD j 0).toNat nd0).args.map (posF (metF (quoF e g)))).getD k 0 = posF (metF (quoF e g)) (((quoF e g).nodes.getD ((metF (quoF e g)).getD j 0).toNat nd0).args.getD k 0) := map_getD0 hk'
    rw [e2, ek', posF_getD hnd hn, Int.toNat_natCast]
theorem seen_next {n i : Nat} (h : Seen e g (n + 1) 0 i) : Seen e g n ((trimF (quoF e g)).nodes.getD n nd0).args.length i := by
  rcases h with h | ⟨j, k, hj, hk, h⟩ | ⟨k, hk, _⟩
  · exact Or.inl h
  · by_cases e : j = n
    · subst e
      exact Or.inr (Or.inr ⟨k, hk, h⟩)
    · exact Or.inr (Or.inl ⟨j, k, by omega, hk, h⟩)
  · omega
end
end Go.Proofs.Ytjkcffcedbcjmaa
