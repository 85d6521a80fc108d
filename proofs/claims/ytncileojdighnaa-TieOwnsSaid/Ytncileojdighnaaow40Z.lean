/- lay of package tie's knot, at a compound, an atom, an integer. -/
import Derived.Test.Ytncileojdighnaaow39Z
namespace Go.Proofs.Ytncileojdighnaa
set_option maxRecDepth 100000
open Go.RowKit Go.Maps
structure LayS (w wr : World) (B kb cb : Nat) (nv lv rv : Value) (avs : List Value) (L : List Nat) (st : List Nd) (rs : List Int) (al : List Int) (ao : Option Addr) (j c : Nat) (nv' lv' : Value) (avs' : List Value) (L' : List Nat) : Prop where
  kn : Kn wr B kb cb nv' lv' rv avs' st L' rs
  mo : Mo (KnF kb nv lv rv avs) w wr
  sub : ∀ k, KnF kb nv' lv' rv avs' k → KnF kb nv lv rv avs k ∨ w.heap.size ≤ k
  ld : ∀ E, Ld L E → Ld L' E
  row : wr.ownsRow B 3 1 (.slice ao j c) j (al.map (Value.int .i64))
  far : ∀ k, (Value.slice ao j c).ownBlock = some k → w.heap.size ≤ k ∧ ¬ KnF kb nv' lv' rv avs' k
theorem LayS.step {w wr w2 w3 : World} {B kb cb : Nat} {nv lv rv : Value} {avs : List Value} {L : List Nat} {st st2 : List Nd} {rs al : List Int} {ao : Option Addr} {j c : Nat} {nv' lv' : Value} {avs' : List Value} {L' : List Nat} {o o2 : Obj} {r : Int} {g cap : Nat} (h : LayS w wr B kb cb nv lv rv avs L st rs al ao j c nv' lv' avs' L') (hU : LayU (wr.alloc o) w2 B kb cb nv' lv' rv avs' L' st2 rs)
    (hown : w3.ownsRow B 3 1 (.slice (some ⟨g, 0, none⟩) (j + 1) cap) (j + 1) (al.map (Value.int .i64) ++ [.int .i64 r])) (hg : (w2.alloc o2).grownBy w3 (Value.slice ao j c).ownBlock) (hat : (Value.slice ao j c).ownBlock = some g ∨ g = w2.heap.size + 1) :
    ∃ nv2 lv2 avs2 L2, LayS w w3 B kb cb nv lv rv avs L st2 rs (al ++ [r]) (some ⟨g, 0, none⟩) (j + 1) cap nv2 lv2 avs2 L2 := by
  obtain ⟨L2, ⟨nv2, lv2, avs2, hK2, hM2, hs2⟩, hL2⟩ := hU
  have hz := hM2.size
  simp at hz
  have hz0 := h.mo.size
  -- the row of arguments is none of the knot's
  have hfar2 : ∀ k, (Value.slice ao j c).ownBlock = some k → ¬ KnF kb nv2 lv2 rv avs2 k := fun k hk hf => by
    rcases hs2 k hf with h1 | h1
    · exact (h.far k hk).2 h1
    · have := (h.row.lt k hk).2
      simp at h1
      omega
  have hM3 : Mo (KnF kb nv lv rv avs) w w2 := (h.mo.alloc o).trans hM2 h.sub
  refine ⟨nv2, lv2, avs2, L2, (hK2.next (below_alloc w2 o2)).keep (fun k ⟨i, hk⟩ => ?_), (hM3.alloc o2).grown hg (fun k hk => Or.inr (h.far k hk).1), fun k hf => ?_, fun E hE => hL2 E (h.ld E hE), ?_, fun k hk => ?_⟩
  · have h1 := (hK2.lt hk).2
    exact hg.block k (by simp; omega) (fun e => hfar2 k e.symm ⟨i, hk⟩)
  · rcases hs2 k hf with h1 | h1
    · exact h.sub k h1
    · simp at h1
      exact Or.inr (by omega)
  · rw [List.map_append]
    exact hown
  · have e : g = k := by simpa [Value.ownBlock] using hk
    subst e
    rcases hat with e | e
    · exact ⟨(h.far g e).1, hfar2 g e⟩
    · refine ⟨by omega, fun ⟨i, hk⟩ => ?_⟩
      have := (hK2.lt hk).2
      omega
theorem LayS.done {w wr : World} {B kb cb : Nat} {nv lv rv : Value} {avs : List Value} {L : List Nat} {st : List Nd} {rs al : List Int} {ao : Option Addr} {c : Nat} {nv' lv' : Value} {avs' : List Value} {L' : List Nat} {n g nc : Nat} (h : LayS w wr B kb cb nv lv rv avs L st rs al ao al.length c nv' lv' avs' L') (hn : n < st.length) (hv : nv' = .slice (some ⟨g, 0, none⟩) st.length nc) : LayU w (wr.setCell ⟨g, n * 4 + 3, none⟩ (.slice ao al.length c)) B kb cb nv lv rv avs L (setA st n al) rs := by
  subst hv
  have hK := h.kn
  refine ⟨L', ⟨_, _, _, hK.setArgs hn h.row (fun k hk => (h.far k hk).2), h.mo.setCell (p := ⟨g, n * 4 + 3, none⟩) ?_ _, fun k hf => ?_⟩, h.ld⟩
  · exact h.sub g ⟨1, rfl⟩
  · rcases knF_set (by rw [hK.len]; exact hn) hf with h1 | h1
    · exact Or.inr (h.far k h1).1
    · exact h.sub k h1
set_option maxHeartbeats 4000000 in
theorem lay_comp {W0 : World} {cb : Nat} {names : List ByteArray} {k : Int} {n : ByteArray} {m : Int} {xs : List Ex} (ih : ∀ x ∈ xs, LayC W0 cb names x) (hk1 : k ≠ 1) : LayC W0 cb names (.mk k n m xs) := by
  intro w ev kb nv lv rv avs st L rs hx hz hok hB hK hl
  obtain ⟨i0, hi, hz0, hz1, hz2⟩ := info_parts infoI
  obtain ⟨av, rfl, hr⟩ := hx.parts
  obtain ⟨ao, c, rfl, hat⟩ := hr
  have hAt := hid hat
  have hn : ¬ (decide (k = 1) && !isU n) = true := by simp [hk1]
  have hb0 := below_alloc w (.cells #[.int .i64 k, .string n, .int .i64 m, .slice ao xs.length c] 48)
  have hin := isNamed_any (hx.next (Below.next hB hb0))
  rw [show nmX (.mk k n m xs) = false by simpa [nmX] using hn] at hin
  have hE : layX names st (.mk k n m xs) = (st.length, setA (layXs names (st ++ [⟨k, n, m, []⟩]) xs).2 st.length (layXs names (st ++ [⟨k, n, m, []⟩]) xs).1) := by rw [layX, if_neg hn, if_neg hk1]
  have hxl := prt_len xs
  have hlen : Hid (∀ j, j < xs.length → (layXs names (st ++ [⟨k, n, m, []⟩]) (xs.take j)).2.length + prtX (xs.getD j x0) ≤ 90000) := fun j hj => by
    have h1 := (layXs_le names (st ++ [⟨k, n, m, []⟩]) (xs.take j)).2
    have h2 := othXs_le (xs.take j)
    have h3 := prtXs_take xs (j + 1)
    rw [take_x hj, prtXs_app] at h3
    rw [prtX] at hl
    simp at h1
    omega
  rw [prtX] at hl
  rw [hE]
  have hk' : (k == 1) = false := beq_eq_false_iff_ne.2 hk1
  have hql : Hid (∀ b, KnF kb nv lv rv avs b → b < w.heap.size) := fun b ⟨_, hb⟩ => (hK.lt hb).2
  have HB := hid hB
  have HK := hid hK
  have hzs := hid hz.2
  have hoks := hid hok.2
  have IH := hid ih
  have hst1 : (st ++ [(⟨k, n, m, []⟩ : Nd)]).length = st.length + 1 := by simp
  generalize hS1 : st ++ [(⟨k, n, m, []⟩ : Nd)] = st1 at *
  have hnx : Hid (∀ w1, Below (w.alloc (.cells #[.int .i64 k, .string n, .int .i64 m, .slice ao xs.length c] 48)).heap.size (w.alloc (.cells #[.int .i64 k, .string n, .int .i64 m, .slice ao xs.length c] 48)) w1 → w1.heap[w.heap.size]? = some (.cells #[.int .i64 k, .string n, .int .i64 m, .slice ao xs.length c] 48) ∧ Calls Try.prog 50 #[.pointer (some ⟨kb, 0, none⟩), .agg #[.int .i64 k, .string n, .int .i64 m, .slice none 0 0]] w1 fun e w' => e = .returned (.int .i64 (st.length : Int)) ∧ (w'.heap[w.heap.size]? = some (.cells #[.int .i64 k, .string n, .int .i64 m, .slice ao xs.length c] 48) ∧ ∃ nv' lv' avs' L', LayS w w' W0.heap.size kb cb nv lv rv avs L st1 rs [] none 0 0 nv' lv' avs' L')) := fun w1 hb1 => by
    have hb := Below.next hb0 hb1
    have hs := hb.size
    have hs0 := hB.size
    have hbx : w1.heap[w.heap.size]? = _ := (hb1.block w.heap.size (by simp)).trans (heap_alloc_new w _)
    refine ⟨hbx, (kadd_any (hK.next hb) k n m (by omega) (by omega)).mono ?_⟩
    rintro e w' ⟨rfl, hU⟩
    refine ⟨rfl, ?_, ?_⟩
    · obtain ⟨_, _, _, _, hm, _⟩ := hU
      rw [hm.block _ (lt_of_block hbx) (fun h => Nat.lt_irrefl _ (hql.out _ h))]
      exact hbx
    · have hU2 := KnU.trans (Mo.ofBelow hb) (fun _ h => Or.inl h) hU
      obtain ⟨nv', lv', avs', hK', hm', hs'⟩ := hU2
      rw [hS1] at hK'
      exact ⟨nv', lv', avs', _, hK', hm', hs', fun E h => h.add, World.ownsRow_nil _ _ _ _, fun k hk => by cases hk⟩
  clear hn hE hx hB hK hok hat ih hk1 hz
  go_enter Try.func51, Try.ntmps51
  go_wp2_with (first
    | (go_at_call 74; refine hin.mono ?_; rintro e w1 ⟨rfl, hb1⟩; obtain ⟨hbx1, hcall⟩ := hnx.out w1 hb1; obtain ⟨⟨g0, g1, g2, g3⟩, _⟩ := xblk hbx1; have hzz := lt_of_block hbx1; clear hb1)
    | (go_at_call 50; refine hcall.mono ?_; rintro e w2 ⟨rfl, hbx2, hU⟩; obtain ⟨⟨y0, y1, y2, y3⟩, _⟩ := xblk hbx2; have hzz2 := lt_of_block hbx2))
  have hS0 : Hid (∃ nv' lv' avs' L', LayS w w2 W0.heap.size kb cb nv lv rv avs L (layXs names st1 (xs.take 0)).2 rs (layXs names st1 (xs.take 0)).1 none 0 0 nv' lv' avs' L') := hU
  have hfin : Hid (∀ wr ao c, (∃ nv' lv' avs' L', LayS w wr W0.heap.size kb cb nv lv rv avs L (layXs names st1 xs).2 rs (layXs names st1 xs).1 ao xs.length c nv' lv' avs' L') → ∃ g nc, ((wr.cell? ⟨kb, 1, none⟩ = some (.slice (some ⟨g, 0, none⟩) (layXs names st1 xs).2.length nc) ∧ kb < wr.heap.size) ∧ ((∃ u1 u2 u3, wr.cell? ⟨g, st.length * 4 + 3, none⟩ = some (.slice u1 u2 u3)) ∧ wr.frozen? ⟨g, st.length * 4 + 3, none⟩ = false ∧ g < wr.heap.size) ∧ st.length < (layXs names st1 xs).2.length) ∧ LayU w (wr.setCell ⟨g, st.length * 4 + 3, none⟩ (.slice ao xs.length c)) W0.heap.size kb cb nv lv rv avs L (setA (layXs names st1 xs).2 st.length (layXs names st1 xs).1) rs) := fun wr ao c ⟨nv', lv', avs', L', h⟩ => by
    have hle := (layXs_le names st1 xs).1
    have hl1 := layXs_len1 names st1 xs
    have hn : st.length < (layXs names st1 xs).2.length := by omega
    have hK := h.kn
    rcases hK.n.2 with ⟨_, h0⟩ | ⟨g, nc, cur, rfl, _⟩
    · omega
    · have hca := hK.n.cellAt (st.length * 4 + 3) (by omega)
      have hna := (ncells_at _ avs' st.length hK.len hn).2.2.2
      rw [hna] at hca
      obtain ⟨a1, a2, e, _⟩ := hK.a st.length hn
      rw [e] at hca
      rw [← hl1] at h
      have hd := h.done hn rfl
      rw [hl1] at hd
      exact ⟨g, nc, ⟨⟨hK.cells.1.2.1, lt_of_block hK.blk⟩, ⟨⟨_, _, _, hca⟩, hK.n.frozenAt _, lt_of_cell hca⟩, hn⟩, hd⟩
  clear hU
  go_loopw [6, 41] (fun x i wr => ∃ (j : Nat) (ao : Option Addr) (c : Nat), j ≤ xs.length ∧ i = .int .i64 (j : Int) ∧ x = .slice ao j c ∧ Hid (∃ nv' lv' avs' L', LayS w wr W0.heap.size kb cb nv lv rv avs L (layXs names st1 (xs.take j)).2 rs (layXs names st1 (xs.take j)).1 ao j c nv' lv' avs' L')) (fun _ i _ => xs.length - (intOf i).toNat)
  case atStart => exact ⟨0, none, 0, by omega, rfl, rfl, hS0⟩
  case round =>
    clear hS0
    obtain ⟨j, ra, rc, hj, rfl, rfl, hS⟩ := hrel
    by_cases hlt : j < xs.length
    · obtain ⟨b, o, k', n', m', aa, al, ac, rfl, d0, d1, d2, d3, hx⟩ := hAt.out j hlt
      obtain ⟨nv', lv', avs', L', hS'⟩ := hS.out
      have hBr : Below W0.heap.size W0 wr := HB.out.trans (hS'.mo.below (fun k ⟨_, hk⟩ => (HK.out.lt hk).1) HB.out.size)
      have hz := lt_of_cell d0
      have c0 := ((bcell hBr).1 b _ hz).trans d0
      have c1 := ((bcell hBr).1 b _ hz).trans d1
      have c2 := ((bcell hBr).1 b _ hz).trans d2
      have c3 := ((bcell hBr).1 b _ hz).trans d3
      have hzr : b < wr.heap.size := Nat.lt_of_lt_of_le hz hBr.size
      have hb2 := below_alloc wr (.cells #[.int .i64 k', .string n', .int .i64 m', .slice aa al ac] 48)
      have hsB : W0.heap.size ≤ wr.heap.size := hBr.size
      have hcall := IH.out _ (xs_at hlt) _ _ kb nv' lv' rv avs' _ _ rs hx (szXs_mem hzs.out _ (xs_at hlt)) (okXs_mem hoks.out _ (xs_at hlt)) (Below.next hBr hb2) (hS'.kn.next hb2) (hlen.out j hlt)
      have htk := hid (layXs_app names st1 (xs.take j) (xs.getD j x0))
      rw [← take_x hlt] at htk
      have hstep := hid (fun (w2 w3 : World) (o2 : Obj) (g cap : Nat) hU hown hg hat => LayS.step (w2 := w2) (w3 := w3) (o := .cells #[.int .i64 k', .string n', .int .i64 m', .slice aa al ac] 48) (o2 := o2) (g := g) (cap := cap) (r := ((layX names (layXs names st1 (xs.take j)).2 (xs.getD j x0)).1 : Int)) (st2 := (layX names (layXs names st1 (xs.take j)).2 (xs.getD j x0)).2) hS' hU hown hg hat)
      have hnx2 : Hid (∀ w2, LayU (wr.alloc (.cells #[.int .i64 k', .string n', .int .i64 m', .slice aa al ac] 48)) w2 W0.heap.size kb cb nv' lv' rv avs' L' (layX names (layXs names st1 (xs.take j)).2 (xs.getD j x0)).2 rs → w2.ownsRow W0.heap.size 3 1 (.slice ra j rc) j ((layXs names st1 (xs.take j)).1.map (Value.int .i64)) ∧ W0.heap.size ≤ w2.heap.size) := fun w2 hU => by
        obtain ⟨_, ⟨_, _, _, _, hm, _⟩, _⟩ := hU
        have hs2 := hm.size
        simp at hs2
        refine ⟨row_keep hS'.row (fun k hk => ?_), by omega⟩
        have h1 := (hS'.row.lt k hk).2
        rw [hm.block k (by simp; omega) (hS'.far k hk).2, Below.heap_alloc _ _ _ h1]
      clear d0 d1 d2 d3 hx hz hS hS' hBr hb2
      generalize hY : layX names (layXs names st1 (xs.take j)).2 (xs.getD j x0) = Y at *
      obtain ⟨y1, y2⟩ := Y
      dsimp only at hcall hstep hnx2 htk
      clear hY
      go_wp2_with (first
        | (go_at_call 51; refine hcall.mono ?_; rintro e w3 ⟨rfl, hU3⟩; obtain ⟨ho3, hs3⟩ := hnx2.out w3 hU3; have ho4 := World.ownsRow.alloc ho3 (.cells #[.int .i64 (y1 : Int)] 3))
        | (at_builtin; go_must (refine wpList_append_lies _ rfl _ _ 27 rfl W0.heap.size 3 i0 (.int .i64 0) 1 8 Try.underlying27 hi hz0 hz1 hz2 rfl (by decide) _ j _ rfl ho4 ⟨w3.heap.size, 0, none⟩ 1 1 [.int .i64 (y1 : Int)] rfl rfl (cell_one_new w3 _ _) (by simp [Value.oneCell']) (by decide) (by unfold maxLen; omega) (by omega) (by simp; omega) _ rfl ?_; intro g cap w4 hown4 hg4 hat4 hlt4)))
      go_roundw
      case rel =>
        refine ⟨j + 1, some ⟨g, 0, none⟩, cap, by omega, by go_num, rfl, ?_⟩
        have h9 := hstep.out w3 w4 _ g cap hU3 hown4 hg4 (hat4.imp id (fun e => by simpa using e))
        show ∃ _ _ _ _, LayS _ _ _ _ _ _ _ _ _ _ _ _ _ _ _ _ _ _ _ _
        rw [htk.out]
        exact h9
      case measure => simp [intOf]; omega
    · obtain rfl : j = xs.length := by omega
      have hS9 := hS.out
      rw [List.take_length] at hS9
      obtain ⟨g, nc, ⟨⟨q0', q1'⟩, ⟨⟨u1, u2, u3, q2'⟩, q3', q4'⟩, q5'⟩, hend⟩ := hfin.out wr ra rc hS9
      have q6' : (st.length : Int) < ((layXs names st1 xs).2.length : Int) := by omega
      have hend' := hid hend
      clear hS hS9 hend
      go_wp2
      go_ret
      exact ⟨rfl, hend'.out⟩
end Go.Proofs.Ytncileojdighnaa

namespace Go.Proofs.Ytncileojdighnaa
set_option maxRecDepth 100000
open Go.RowKit Go.Maps
theorem lay_any {W0 : World} {B0 cb cq oth : Nat} {cv : Value} {names : List ByteArray} (hC : Cs W0 B0 cb cv cq names oth) (x : Ex) : LayC W0 cb names x := by
  induction x using Ex.ind with
  | h k n m xs ih =>
    by_cases hn : (decide (k = 1) && !isU n) = true
    · exact lay_name hC hn
    · by_cases hk : k = 1
      · subst hk
        exact lay_var hn
      · exact lay_comp ih hk
def KnS (w : World) (B kb cb : Nat) (st : List Nd) (rs : List Int) (E : Nat → Nat) : Prop := ∃ nv lv rv avs L, Kn w B kb cb nv lv rv avs st L rs ∧ Ld L E
theorem KnS.start (W : World) (cb : Nat) : KnS (W.alloc (.cells #[.pointer (some ⟨cb, 0, none⟩), .slice none 0 0, .slice none 0 0, .slice none 0 0] 105)) W.heap.size W.heap.size cb [] [] id := by
  refine ⟨_, _, _, [], [], ⟨heap_alloc_new W _, Nat.le_refl _, World.ownsRow_nil _ _ _ _, rfl, fun _ h => absurd h (Nat.not_lt_zero _), World.ownsRow_nil _ _ _ _, World.ownsRow_nil _ _ _ _, fun i j k hi hj => ?_, rfl⟩, Ld.nil⟩
  have h0 : ∀ i k, kbl W.heap.size (.slice none 0 0) (.slice none 0 0) (.slice none 0 0) [] i = some k → i = 0 := fun i k h => by
    match i, h with
    | 0, _ => rfl
    | 1, h => cases h
    | 2, h => cases h
    | 3, h => cases h
    | j + 4, h => cases (show (([] : List Value).getD j undef).ownBlock = some k from h)
  rw [h0 i k hi, h0 j k hj]
theorem Kn.root {w w2 : World} {B kb cb g cap : Nat} {nv lv rv : Value} {avs : List Value} {ns : List Nd} {L : List Nat} {rs : List Int} {r : Int} {o : Obj} (h : Kn w B kb cb nv lv rv avs ns L rs) (hown : w2.ownsRow B 3 1 (.slice (some ⟨g, 0, none⟩) (rs.length + 1) cap) (rs.length + 1) (rs.map (Value.int .i64) ++ [.int .i64 r])) (hg : (w.alloc o).grownBy w2 rv.ownBlock) (hat : rv.ownBlock = some g ∨ g = w.heap.size + 1) :
    Kn (w2.setCell ⟨kb, 3, none⟩ (.slice (some ⟨g, 0, none⟩) (rs.length + 1) cap)) B kb cb nv lv (.slice (some ⟨g, 0, none⟩) (rs.length + 1) cap) avs ns L (rs ++ [r]) := by
  have hdj := h.dj
  have hs := hg.size
  simp at hs
  have hkb := h.lt (i := 0) (k := kb) rfl
  have far : ∀ i b, i ≠ 3 → i ≠ 0 → kbl kb nv lv rv avs i = some b → (w2.setCell ⟨kb, 3, none⟩ (.slice (some ⟨g, 0, none⟩) (rs.length + 1) cap)).heap[b]? = w.heap[b]? := fun i b hi h0 hb => by
    have hb1 := (h.lt hb).2
    rw [Below.heap_setCell _ _ _ _ (fun e => h0 (hdj i 0 kb (by rw [hb]; exact congrArg some e) rfl)), hg.block b (by simp; omega) (fun e => hi (hdj i 3 b hb e.symm)), Below.heap_alloc _ _ _ hb1]
  have b2 : w2.heap[kb]? = some (.cells #[.pointer (some ⟨cb, 0, none⟩), nv, lv, rv] 105) := by
    rw [hg.block kb (by simp; omega) (fun e => absurd (hdj 0 3 kb rfl e.symm) (by decide)), Below.heap_alloc _ _ _ hkb.2]
    exact h.blk
  have hgk : g ≠ kb := by
    rcases hat with e | e
    · exact fun e2 => absurd (hdj 3 0 kb (by rw [← e2]; exact e) rfl) (by decide)
    · omega
  have hbl : ∀ i b, kbl kb nv lv (.slice (some ⟨g, 0, none⟩) (rs.length + 1) cap) avs i = some b → (i = 3 ∧ b = g) ∨ (i ≠ 3 ∧ kbl kb nv lv rv avs i = some b) := fun i b hb => by
    match i, hb with
    | 0, hb => exact Or.inr ⟨by decide, hb⟩
    | 1, hb => exact Or.inr ⟨by decide, hb⟩
    | 2, hb => exact Or.inr ⟨by decide, hb⟩
    | 3, hb => exact Or.inl ⟨rfl, by simpa [kbl, Value.ownBlock] using hb.symm⟩
    | j + 4, hb => exact Or.inr ⟨by omega, hb⟩
  refine ⟨kn_blk3 _ b2, h.base, row_keep h.n (fun k hk => far 1 k (by decide) (by decide) hk), h.len, fun j hj => ?_, row_keep h.l (fun k hk => far 2 k (by decide) (by decide) hk), ?_, fun i j b hi hj => ?_, h.ll⟩
  · obtain ⟨ao, c, e, ho⟩ := h.a j hj
    exact ⟨ao, c, e, row_keep ho (fun k hk => far (j + 4) k (by omega) (by omega) (by show (avs.getD j undef).ownBlock = _; rw [e]; exact hk))⟩
  · rw [List.map_append, List.length_append]
    refine row_keep (w := w2) hown (fun k hk => ?_)
    have e : g = k := by simpa [Value.ownBlock] using hk
    subst e
    exact Below.heap_setCell _ _ _ _ hgk
  · have hnew : ∀ i b, i ≠ 3 → kbl kb nv lv rv avs i = some b → b ≠ g := fun i b hi hb e => by
      rcases hat with e1 | e1
      · exact hi (hdj i 3 g (by rw [hb, e]) e1)
      · have := (h.lt hb).2; omega
    rcases hbl i b hi with ⟨e1, h1⟩ | ⟨e1, h1⟩
    · rcases hbl j b hj with ⟨e2, h2⟩ | ⟨e2, h2⟩
      · omega
      · exact absurd h1 (hnew j b e2 h2)
    · rcases hbl j b hj with ⟨e2, h2⟩ | ⟨e2, h2⟩
      · exact absurd h2 (hnew i b e1 h1)
      · exact hdj i j b h1 h2
theorem layQ_app (ns : List ByteArray) (st : List Nd) (qs : List (ByteArray × Ex)) (y : ByteArray × Ex) : layQ ns st (qs ++ [y]) = ((layQ ns st qs).1 ++ [(ixN ns y.1, (layX ns (layQ ns st qs).2 y.2).1)], (layX ns (layQ ns st qs).2 y.2).2) := by
  induction qs generalizing st with
  | nil => simp [layQ]
  | cons x r ih => rw [List.cons_append, layQ, ih, layQ]; simp
theorem layQ_le (ns : List ByteArray) : ∀ (st : List Nd) (qs : List (ByteArray × Ex)), st.length ≤ (layQ ns st qs).2.length ∧ (layQ ns st qs).2.length ≤ st.length + othQ qs
  | st, [] => by rw [layQ, othQ]; simp
  | st, q :: r => by
    rw [layQ, othQ]
    have h1 := layX_le ns st q.2
    have h2 := layQ_le ns (layX ns st q.2).2 r
    simp only
    omega
end Go.Proofs.Ytncileojdighnaa
