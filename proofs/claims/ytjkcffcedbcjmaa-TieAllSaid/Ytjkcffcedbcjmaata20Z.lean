/- Labels as keys of a map. -/
import Derived.Maps.OwnSet
import Derived.Maps.OwnOps
import Derived.DeepKeys4
import Derived.Test.Ytjkcffcedbcjmaata17Z
import Derived.Test.Ytjkcffcedbcjmaata14Z
import Derived.Test.Ytjkcffcedbcjmaata16Z
import Derived.Test.Ytjkcffcedbcjmaata15Z
namespace Go.Proofs.Ytjkcffcedbcjmaa
set_option maxRecDepth 100000
open Go.RowKit Go.Maps
theorem labRow : (157 : TypeId) < Try.prog.types.size := of_decide_eq_true (by kernel_rfl)
theorem labWide : (match Try.prog.underlying 157 with | some (.array _ _) | some (.struct _) => true | _ => false) = true := by kernel_rfl
theorem labLaid : laidOutB Try.prog = true := by kernel_rfl
theorem labLaw : Keyed Try.prog 157 := Keyed.of_law (deep_law_laid labLaid (m := 3) (by omega) labRow (by kernel_rfl) labWide)
theorem labKt : Try.prog.keyType 157 = true := by kernel_rfl
theorem labCells : Try.prog.cellsOf 157 = 5 := by kernel_rfl
theorem intCells : Try.prog.cellsOf 3 = 1 := by kernel_rfl
theorem strCells : Try.prog.cellsOf 9 = 1 := by kernel_rfl
theorem label_lits (d : Nat) (a b c e : Int) (s : ByteArray) (ha : (Lit.int .i64 a).wf = true) (hb : (Lit.int .i64 b).wf = true) (hc : (Lit.int .i64 c).wf = true) (he : (Lit.int .i64 e).wf = true) (hs : s.size ≤ maxLen) :
    Try.prog.keyLits (d + 1 + 1) 157 [.int .i64 a, .int .i64 b, .int .i64 c, .int .i64 e, .string s] = some [.int .i64 a, .int .i64 b, .int .i64 c, .int .i64 e, .string s.data.toList] := by
  simp [Program.keyLits, Try.underlying157, Try.underlying3, Try.underlying9, labCells, intCells, strCells, ha, hb, hc, he, hs]
theorem label_key (a b c e : Int) (s : ByteArray) (ha : (Lit.int .i64 a).wf = true) (hb : (Lit.int .i64 b).wf = true) (hc : (Lit.int .i64 c).wf = true) (he : (Lit.int .i64 e).wf = true) (hs : s.size ≤ maxLen) :
    ∃ kl, keyOf Try.prog 157 (.agg #[.int .i64 a, .int .i64 b, .int .i64 c, .int .i64 e, .string s]) = some kl := by
  obtain ⟨d, hd⟩ : ∃ d, Try.prog.types.size = d + 1 := Nat.exists_eq_add_one.2 (Nat.lt_of_le_of_lt (Nat.zero_le _) labRow)
  unfold keyOf
  simp only [Try.underlying157]
  have hf : (Value.agg #[.int .i64 a, .int .i64 b, .int .i64 c, .int .i64 e, .string s]).formed Try.prog 157 = true := by
    simp [Value.formed, Try.underlying157, labCells]
  rw [labKt, hf, hd]
  have := label_lits d a b c e s ha hb hc he hs
  exact ⟨.string (keyBytes [.int .i64 a, .int .i64 b, .int .i64 c, .int .i64 e, .string s.data.toList]), by simp [Value.cells, this]⟩
end Go.Proofs.Ytjkcffcedbcjmaa

namespace Go.Proofs.Ytjkcffcedbcjmaa
set_option maxRecDepth 100000
open Go.RowKit
theorem mem_blocks_tail {nv : Value} {avs : List Value} {k : Nat} (h : k ∈ blocks avs) : k ∈ blocks (nv :: avs) := by
  obtain ⟨v, hv, e⟩ := List.mem_filterMap.1 h
  exact List.mem_filterMap.2 ⟨v, by simp [hv], e⟩
theorem Og.push {w w1 w2 : World} {B : Nat} {nv rv : Value} {avs : List Value} {acc : Gf} {n : Nd} {ao : Option Addr} {c g cap : Nat} (h : Og w B nv rv avs acc) (hb : Below w.heap.size w w1)
    (ha : w1.ownsRow w.heap.size 3 1 (.slice ao n.args.length c) n.args.length (n.args.map (Value.int .i64))) (hB : B ≤ w.heap.size)
    (hg : w1.grownBy w2 nv.ownBlock) (hown : w2.ownsRow B 63 4 (.slice (some ⟨g, 0, none⟩) (acc.nodes.length + 1) cap) (acc.nodes.length + 1) (ncells acc.nodes avs ++ [.int .i64 n.kind, .string n.name, .int .i64 n.num, .slice ao n.args.length c]))
    (hat : nv.ownBlock = some g ∨ w1.heap.size ≤ g) : Og w2 B (.slice (some ⟨g, 0, none⟩) (acc.nodes.length + 1) cap) rv (avs ++ [.slice ao n.args.length c]) ⟨acc.nodes ++ [n], acc.roots⟩ := by
  obtain ⟨ro, rc, rfl, hr⟩ := h.r
  have hz := hb.size
  have hnvr : ∀ k, Value.ownBlock (.slice ro acc.roots.length rc) = some k → nv.ownBlock ≠ some k := fun k e e' => h.ap k e (List.mem_filterMap.2 ⟨nv, by simp, e'⟩)
  refine ⟨h.on.push hb ha hB hg hown hat, ⟨some ⟨g, 0, none⟩, cap, by simp⟩, ⟨ro, rc, rfl, own_block (own_below hr hb) (fun k e => hg.block k (by have := (hr.lt k e).2; omega) (fun e' => hnvr k e e'.symm))⟩, fun k e hk => ?_⟩
  have hkl := (hr.lt k e).2
  have hcons : blocks (.slice (some ⟨g, 0, none⟩) (acc.nodes.length + 1) cap :: (avs ++ [.slice ao n.args.length c])) = g :: (blocks avs ++ blocks [.slice ao n.args.length c]) := by simp [blocks, Value.ownBlock]
  rw [hcons] at hk
  rcases List.mem_cons.1 hk with e1 | hk
  · subst e1
    rcases hat with e2 | e2
    · exact hnvr k e e2
    · omega
  · rcases List.mem_append.1 hk with hk | hk
    · exact h.ap k e (mem_blocks_tail hk)
    · obtain ⟨v, hv, e3⟩ := List.mem_filterMap.1 hk
      simp at hv
      subst hv
      have := (ha.lt k e3).1
      omega
theorem Og.roots {w w1 w2 : World} {B : Nat} {nv rv : Value} {avs : List Value} {acc : Gf} {l : List Int} {g cap m : Nat} (h : Og w B nv rv avs acc) (hb : Below w.heap.size w w1) (hm : l.length = m)
    (hg : w1.grownBy w2 rv.ownBlock) (hown : w2.ownsRow B 3 1 (.slice (some ⟨g, 0, none⟩) (acc.roots.length + m) cap) (acc.roots.length + m) (acc.roots.map (Value.int .i64) ++ l.map (Value.int .i64)))
    (hat : rv.ownBlock = some g ∨ w1.heap.size ≤ g) : Og w2 B nv (.slice (some ⟨g, 0, none⟩) (acc.roots.length + m) cap) avs ⟨acc.nodes, acc.roots ++ l⟩ := by
  subst hm
  have hz := hb.size
  refine ⟨(h.on.below hb).keep (fun k hk => hg.block k (by have := (h.on.lt k hk).2; omega) (fun e => h.ap k e.symm hk)), h.nsl, ⟨some ⟨g, 0, none⟩, cap, by simp, by simpa using hown⟩, fun k e hk => ?_⟩
  have e' : g = k := by simpa [Value.ownBlock] using e
  subst e'
  rcases hat with e2 | e2
  · exact h.ap g e2 hk
  · have := (h.on.lt g hk).2
    omega
theorem Og.keep {w w' : World} {B : Nat} {nv rv : Value} {avs : List Value} {g : Gf} (h : Og w B nv rv avs g) (hb : ∀ k, B ≤ k → k < w.heap.size → w'.heap[k]? = w.heap[k]?) : Og w' B nv rv avs g := by
  obtain ⟨ro, rc, rfl, hr⟩ := h.r
  exact ⟨h.on.keep (fun k hk => hb k (h.on.lt k hk).1 (h.on.lt k hk).2), h.nsl, ⟨ro, rc, rfl, own_block hr (fun k e => hb k (hr.lt k e).1 (hr.lt k e).2)⟩, h.ap⟩
theorem Og.below {w w' : World} {B : Nat} {nv rv : Value} {avs : List Value} {g : Gf} (h : Og w B nv rv avs g) (hb : Below w.heap.size w w') : Og w' B nv rv avs g := h.keep (fun k _ hk => hb.block k hk)
end Go.Proofs.Ytjkcffcedbcjmaa

namespace Go.Proofs.Ytjkcffcedbcjmaa
set_option maxRecDepth 100000
open Go.RowKit
theorem keepJ {w w' : World} {q : Nat} {o : Obj} (h : w.heap[q]? = some o) (hb : Below w.heap.size w w') : w'.heap[q]? = some o := by
  rw [hb.block q (lt_of_block h)]
  exact h
structure J (w3 w : World) (acc : Gf) (ao : Option Addr) (c : Nat) (ro : Option Addr) (rc : Nat) (avs : List Value) : Prop where
  b : Below w3.heap.size w3 w
  out : w.heap[w3.heap.size]? = some (.cells #[.slice ao acc.nodes.length c, .slice ro acc.roots.length rc] 29 (0, 0))
  og : Og w (w3.heap.size + 1) (.slice ao acc.nodes.length c) (.slice ro acc.roots.length rc) avs acc
theorem J.push {w3 w w4 w5 : World} {acc : Gf} {n : Nd} {F : Int → Int} {ao aa ro : Option Addr} {c ac g cap rc nl : Nat} {avs : List Value} (hJ : J w3 w acc ao c ro rc avs) (hL : acc.nodes.length = nl) (hb : Below w.heap.size w w4)
    (ha : w4.ownsRow w.heap.size 3 1 (.slice aa n.args.length ac) n.args.length ((n.args.map F).map (Value.int .i64))) (o : Obj)
    (hg : (w4.alloc o).grownBy w5 (Value.ownBlock (.slice ao nl c))) (hown : w5.ownsRow (w3.heap.size + 1) 63 4 (.slice (some ⟨g, 0, none⟩) (nl + 1) cap) (nl + 1) (ncells acc.nodes avs ++ [.int .i64 n.kind, .string n.name, .int .i64 n.num, .slice aa n.args.length ac]))
    (hat : Value.ownBlock (.slice ao nl c) = some g ∨ g = w4.heap.size + 1) :
    J w3 (w5.setCell ⟨w3.heap.size, 0, none⟩ (.slice (some ⟨g, 0, none⟩) (nl + 1) cap)) ⟨acc.nodes ++ [renum F n], acc.roots⟩ (some ⟨g, 0, none⟩) cap ro rc (avs ++ [.slice aa n.args.length ac]) ∧
      (∀ a o', a < w.heap.size → a ≠ w3.heap.size → Value.ownBlock (.slice ao nl c) ≠ some a → w.heap[a]? = some o' → (w5.setCell ⟨w3.heap.size, 0, none⟩ (.slice (some ⟨g, 0, none⟩) (nl + 1) cap)).heap[a]? = some o') := by
  subst hL
  have hl : (renum F n).args.length = n.args.length := by simp [renum]
  have hz := lt_of_block hJ.out
  have hz4 := hb.size
  have hnv : ∀ k, Value.ownBlock (.slice ao acc.nodes.length c) = some k → w3.heap.size + 1 ≤ k := fun k e => (hJ.og.on.n.lt k e).1
  have hP : Og w5 (w3.heap.size + 1) (.slice (some ⟨g, 0, none⟩) (acc.nodes.length + 1) cap) (.slice ro acc.roots.length rc) (avs ++ [.slice aa n.args.length ac]) ⟨acc.nodes ++ [renum F n], acc.roots⟩ := by
    have hP := Og.push (n := renum F n) (ao := aa) (c := ac) (g := g) (cap := cap) hJ.og (hb.alloc hz4 o) (by rw [hl]; exact ha.alloc o) (by omega) hg (by rw [hl]; exact hown) (by
      rcases hat with e | e
      · exact Or.inl e
      · exact Or.inr (by simp; omega))
    rw [hl] at hP
    exact hP
  have hkeep : ∀ a o', a < w.heap.size → Value.ownBlock (.slice ao acc.nodes.length c) ≠ some a → w.heap[a]? = some o' → w5.heap[a]? = some o' := fun a o' h1 h2 h3 => by
    rw [hg.block a (by simp; omega) (fun e => h2 e.symm), Below.heap_alloc _ _ _ (by omega), hb.block a h1]
    exact h3
  have h5 := hkeep w3.heap.size _ hz (fun e => by have := hnv _ e; omega) hJ.out
  refine ⟨⟨?_, ?_, ?_⟩, fun a o' h1 h2 h3 h4 => ?_⟩
  · have h1 : Below w3.heap.size w3 (w4.alloc o) := (Below.next hJ.b hb).alloc (by have := hJ.b.size; omega) o
    exact (h1.grown hg (by simp; omega) (fun k e => by have := hnv k e; omega)).setCell (Nat.le_refl _) _
  · rw [blk2_set0 h5]
    simp
  · rw [List.length_append, List.length_singleton]
    exact hP.keep (fun k h1 _ => Below.heap_setCell _ _ _ _ (by show k ≠ w3.heap.size; omega))
  · rw [Below.heap_setCell _ _ _ _ h2]
    exact hkeep a o' h1 h3 h4
theorem J.more {w3 w w4 w5 : World} {acc : Gf} {l : List Int} {ao ro : Option Addr} {c g cap rc rl : Nat} {avs : List Value} (hJ : J w3 w acc ao c ro rc avs) (hL : acc.roots.length = rl) (hb : Below w.heap.size w w4)
    (hg : w4.grownBy w5 (Value.ownBlock (.slice ro rl rc))) (hown : w5.ownsRow (w3.heap.size + 1) 3 1 (.slice (some ⟨g, 0, none⟩) (rl + l.length) cap) (rl + l.length) (acc.roots.map (Value.int .i64) ++ l.map (Value.int .i64)))
    (hat : Value.ownBlock (.slice ro rl rc) = some g ∨ g = w4.heap.size) :
    J w3 (w5.setCell ⟨w3.heap.size, 1, none⟩ (.slice (some ⟨g, 0, none⟩) (rl + l.length) cap)) ⟨acc.nodes, acc.roots ++ l⟩ ao c (some ⟨g, 0, none⟩) cap avs := by
  subst hL
  have hz := lt_of_block hJ.out
  have hz4 := hb.size
  obtain ⟨ro', rc', he, hr⟩ := hJ.og.r
  have hrv : ∀ k, Value.ownBlock (.slice ro acc.roots.length rc) = some k → w3.heap.size + 1 ≤ k := fun k e => by
    rw [he] at e
    exact (hr.lt k e).1
  have hP := hJ.og.roots (l := l) (g := g) (cap := cap) (m := l.length) hb rfl hg hown (by
    rcases hat with e | e
    · exact Or.inl e
    · exact Or.inr (by omega))
  have h5 : w5.heap[w3.heap.size]? = some (.cells #[.slice ao acc.nodes.length c, .slice ro acc.roots.length rc] 29) := by
    rw [hg.block _ (by omega) (fun e => by have := hrv _ e.symm; omega), hb.block _ hz]
    exact hJ.out
  refine ⟨?_, ?_, ?_⟩
  · exact ((Below.next hJ.b hb).grown hg (by have := hJ.b.size; omega) (fun k e => by have := hrv k e; omega)).setCell (Nat.le_refl _) _
  · rw [blk2_set1 h5]
    simp
  · have hP' := hP.keep (w' := w5.setCell ⟨w3.heap.size, 1, none⟩ (.slice (some ⟨g, 0, none⟩) (acc.roots.length + l.length) cap)) (fun k h1 _ => Below.heap_setCell _ _ _ _ (by show k ≠ w3.heap.size; omega))
    simpa using hP'
end Go.Proofs.Ytjkcffcedbcjmaa

namespace Go.Proofs.Ytjkcffcedbcjmaa
set_option maxRecDepth 100000
open Go.RowKit
set_option maxHeartbeats 4000000 in
theorem turned_any {W : World} {lv : Value} {l m : List Int} {r N : Nat} (hl : Ri W lv l) (hlr : ∀ x ∈ l, 0 ≤ x ∧ x < (N : Int)) (hlen : l.length ≤ 5000) (hrow : W.heap[r]? = some (.cells (anewArr N m) 3 (0, 0))) :
    Calls Try.prog 79 #[lv, .slice (some ⟨r, 0, none⟩) N N] W fun e w' => (∃ ao c, e = .returned (.slice ao l.length c) ∧ w'.ownsRow W.heap.size 3 1 (.slice ao l.length c) l.length ((l.map (posF m)).map (Value.int .i64))) ∧ Below W.heap.size W w' := by
  obtain ⟨i0, hi, hz0, hz1, hz2⟩ := info_parts infoI
  obtain ⟨la, lc, rfl, hlc⟩ := hl
  go_enter Try.func79, Try.ntmps79
  go_wp2
  go_loopw [5, 6] (fun x i wr => ∃ (k : Nat) (ao : Option Addr) (c : Nat), k ≤ l.length ∧ i = .int .i64 k ∧ x = .slice ao k c ∧ Hid (Below W.heap.size W wr) ∧ Hid (wr.ownsRow W.heap.size 3 1 (.slice ao k c) k (((l.take k).map (posF m)).map (Value.int .i64)))) (fun _ i _ => l.length - (intOf i).toNat)
  case atStart => exact ⟨0, none, 0, Nat.zero_le _, rfl, rfl, Below.refl _ _, World.ownsRow_nil _ _ _ _⟩
  case round =>
    obtain ⟨k, ao, c, hk, rfl, rfl, hb, ho⟩ := hrel
    by_cases hlt : k < l.length
    · obtain ⟨lb, lo, rfl, hc⟩ := hlc k hlt
      have hx := hlr _ (getD_mem hlt)
      obtain ⟨n, hn⟩ : ∃ n : Nat, l.getD k 0 = (n : Int) := ⟨(l.getD k 0).toNat, by omega⟩
      have hts := take_snoc hlt
      rw [hn] at hx hc hts
      have hnN : n < N := by omega
      have dl : wr.cell? ⟨lb, lo + k, none⟩ = some (.int .i64 (n : Int)) := by rw [hb.out.cell (p := ⟨lb, lo + k, none⟩) (lt_of_cell hc)]; exact hc
      have dr : wr.cell? ⟨r, n, none⟩ = some (.int .i64 (posF m (n : Int))) := by
        rw [cell_of_row wr r n _ _ _ ((hb.out.block r (lt_of_block hrow)).trans hrow)]
        exact anew_at hnN
      have hst : Hid (((l.take k).map (posF m)).map (Value.int .i64) ++ [.int .i64 (posF m (n : Int))] = ((l.take (k + 1)).map (posF m)).map (Value.int .i64)) := by
        show _ = _
        rw [hts]
        simp
      generalize posF m (n : Int) = y at dr hst
      have hbd : Below W.heap.size W wr := hb.out
      have hod := ho.out
      generalize ((l.take k).map (posF m)).map (Value.int .i64) = XS at hod hst
      have hbs := hbd.size
      have ho1 := World.ownsRow.alloc hod (.cells #[.int .i64 y] 3)
      clear hc hn hts hb ho
      go_wp2_with (at_builtin; refine wpList_append_lies _ rfl _ _ _ rfl W.heap.size 3 i0 (.int .i64 0) 1 8 Try.underlying27 hi hz0 hz1 hz2 rfl (by decide) _ k XS rfl ho1 ⟨wr.heap.size, 0, none⟩ 1 1 [.int .i64 y] rfl rfl (World.news_of_block (cs := #[.int .i64 y]) (t := 3) (fr := (0, 0)) (heap_alloc_new wr _)) (by simp [Value.oneCell']) (by omega) (by unfold maxLen; omega) (by omega) (by simp; omega) (wr.heap.size + 1) (by simp) ?_; intro gg cap w2 hown2 hgr hat hltg)
      go_roundw
      case rel =>
        refine ⟨k + 1, some ⟨gg, 0, none⟩, cap, by omega, congrArg (Value.int .i64) (by omega), rfl, ?_, ?_⟩
        · have h1 : Below W.heap.size W (wr.alloc (.cells #[.int .i64 y] 3)) := hbd.alloc (by omega) _
          exact h1.grown hgr (by simp; omega) (fun j e => (hod.lt j e).1)
        · show World.ownsRow _ _ _ _ _ _ _
          rw [← hst.out]
          exact hown2
      case measure => simp [intOf]; omega
    · have hkl : k = l.length := by omega
      have ho' := ho.out
      rw [hkl, List.take_of_length_le (Nat.le_refl _)] at ho'
      have hb' := hb.out
      clear hb ho
      subst hkl
      go_wp2
      go_ret
      exact ⟨⟨ao, c, rfl, ho'⟩, hb'⟩
structure R1 (w1 w : World) (N : Nat) (m : List Int) : Prop where
  b : Below w1.heap.size w1 w
  row : w.heap[w1.heap.size]? = some (.cells (anewArr N m) 3 (0, 0))
theorem R1.start (w1 : World) (N : Nat) : R1 w1 (w1.alloc (.cells (anewArr N []) 3)) N [] := ⟨below_alloc w1 _, heap_alloc_new w1 _⟩
theorem R1.step {w1 w : World} {N : Nat} {m : List Int} {n : Nat} (h : R1 w1 w N m) (hn : (n : Int) ∉ m) : R1 w1 (w.setCell ⟨w1.heap.size, n, none⟩ (.int .i64 (m.length : Int))) N (m ++ [(n : Int)]) :=
  ⟨h.b.setCell (Nat.le_refl _) _, by rw [heap_setCell_same w _ n _ _ _ h.row, anew_set hn]⟩
theorem ret_g1 {w : World} {fn : Func} {t : Tmp} (hfn : fn.results = #[.cell t 29]) {tmps : Array Value} {q : Nat} {u0 u1 : Value} (h4 : tmps[t]?.getD undef = .pointer (some ⟨q, 0, none⟩)) (hq : w.heap[q]? = some (.cells #[u0, u1] 29)) : (results fn tmps).run Try.prog w = .ok (.agg #[u0, u1]) w := by
  obtain ⟨⟨z0, z1⟩, _⟩ := blk2 hq
  simp [results, hfn, go_sem, h4, z0, z1]
theorem rmet_met {g : Gf} (hg : Good g) : meetF g (g.nodes.length + 1) g.roots [] = metF g := by
  have hl := (met_ok hg).le
  exact meet_fuel (met_arg hg) (g.nodes.length + 1) g.nodes.length g.roots [] (met_root hg) ⟨List.nodup_nil, by simp⟩ (by simp; omega) (by simp; omega)
set_option maxHeartbeats 4000000 in
theorem rtrim_any {W : World} {nv rv : Value} {g : Gf} (hg : Good g) (hG : Gr W nv rv g) :
    Calls Try.prog 63 #[.agg #[nv, rv]] W fun e w' => (∃ nv' rv' avs, e = .returned (.agg #[nv', rv']) ∧ Og w' W.heap.size nv' rv' avs (trimF g)) ∧ Below W.heap.size W w' := by
  have hb2 : Below W.heap.size W ((W.alloc (.cells #[nv, rv] 29)).alloc (.cells #[.slice none 0 0, .slice none 0 0] 29)) := (below_alloc W _).alloc (by simp) _
  have hgn := hg.nodes
  have hgr0 := hg.roots
  have hrc := rmet_any hg (hG.below hb2) (hG.2.below hb2) hg.root (by omega)
  rw [rmet_met hg] at hrc
  have hmet := met_ok hg
  have hml := hmet.le
  have hmk := make_ints g.nodes.length (by omega)
  obtain ⟨na, nc, rfl, hNc⟩ := hG.1
  obtain ⟨ra, rc, rfl, _⟩ := hG.2
  have hC : ∀ w1 : World, Below ((W.alloc (.cells #[.slice na g.nodes.length nc, .slice ra g.roots.length rc] 29)).alloc (.cells #[.slice none 0 0, .slice none 0 0] 29)).heap.size ((W.alloc (.cells #[.slice na g.nodes.length nc, .slice ra g.roots.length rc] 29)).alloc (.cells #[.slice none 0 0, .slice none 0 0] 29)) w1 →
      w1.heap[W.heap.size + 1]? = some (.cells #[.slice none 0 0, .slice none 0 0] 29) ∧ w1.heap[W.heap.size]? = some (.cells #[.slice na g.nodes.length nc, .slice ra g.roots.length rc] 29) ∧ W.heap.size + 1 < w1.heap.size := fun w1 hb => by
    refine ⟨?_, ?_, ?_⟩
    · rw [hb.block _ (by simp)]
      simpa using heap_alloc_new (W.alloc (.cells #[.slice na g.nodes.length nc, .slice ra g.roots.length rc] 29)) (.cells #[.slice none 0 0, .slice none 0 0] 29)
    · rw [hb.block _ (by simp <;> omega), Below.heap_alloc _ _ _ (by simp)]
      exact heap_alloc_new W _
    · have := hb.size
      simp at this
      omega
  go_enter Try.func63, Try.ntmps63
  go_wp2_with (go_at_call 65; refine hrc.mono ?_; rintro e w1 ⟨⟨mo, mc, rfl, hmo⟩, hb1⟩; obtain ⟨k1, k0, k2⟩ := hC w1 hb1; obtain ⟨⟨c0, c1⟩, _⟩ := blk2 k0)
  have hRi := Ri.ofOwn hmo
  have hbw := Below.next hb2 hb1
  generalize hmd : metF g = met at *
  have hT0 := hid (R1.start w1 g.nodes.length)
  clear hrc hC hmk hb2 hb1 c0 c1
  go_loopw [5] (fun i wr => ∃ k : Nat, k ≤ met.length ∧ i = .int .i64 k ∧ Hid (R1 w1 wr g.nodes.length (met.take k))) (fun i _ => met.length - (intOf i).toNat)
  case atStart => exact ⟨0, Nat.zero_le _, rfl, by simpa [Hid] using hT0⟩
  case round =>
    clear hT0
    obtain ⟨k, hk, rfl, hT⟩ := hrel
    by_cases hlt : k < met.length
    · have hx := hmet.rng _ (getD_mem hlt)
      have hnd := nodup_take_snoc hmet.nodup hlt
      have hts := take_snoc hlt
      obtain ⟨n, hn⟩ : ∃ n : Nat, met.getD k 0 = (n : Int) := ⟨(met.getD k 0).toNat, by omega⟩
      rw [hn] at hx hnd hts
      obtain ⟨lb, lo, hlc⟩ : ∃ lb lo, mo = some ⟨lb, lo, none⟩ ∧ wr.cell? ⟨lb, lo + k, none⟩ = some (.int .i64 (n : Int)) := by
        obtain ⟨ao', c', h1, h2⟩ := hRi.below hT.out.b
        obtain ⟨lb, lo, h3, h4⟩ := h2 k hlt
        injection h1 with h1 _ _
        exact ⟨lb, lo, h1.trans h3, by rw [h4, hn]⟩
      obtain ⟨rfl, hlc⟩ := hlc
      have hnN : n < g.nodes.length := by omega
      have s1 : wr.cell? ⟨w1.heap.size, n, none⟩ = some (.int .i64 (posF (met.take k) (n : Int))) := by
        rw [cell_of_row wr _ n _ _ _ hT.out.row]
        exact anew_at hnN
      have z1 : wr.frozen? ⟨w1.heap.size, n, none⟩ = false := by simp [World.frozen?, hT.out.row]
      have hT' := R1.step hT.out hnd
      have hlk : (met.take k).length = k := by simp; omega
      rw [hlk, ← hts] at hT'
      have hT'' := hid hT'
      clear hT' hT hn hts hnd hlk
      go_wp2
      go_roundw
      case rel => exact ⟨k + 1, by omega, congrArg (Value.int .i64) (by omega), hT''⟩
      case measure => simp [intOf]; omega
    · have hTl : Hid (R1 w1 wr g.nodes.length met) := by
        have := hT.out
        rw [List.take_of_length_le (by omega)] at this
        exact this
      clear hT
      obtain ⟨w3, hw3⟩ : ∃ w3, w3 = wr := ⟨wr, rfl⟩
      subst hw3
      have hbW3 := Below.next hbw hTl.out.b
      have k0' : w3.heap[W.heap.size]? = some (.cells #[.slice na g.nodes.length nc, .slice ra g.roots.length rc] 29) := by rw [hTl.out.b.block _ (by omega)]; exact k0
      have k1' : w3.heap[W.heap.size + 1]? = some (.cells #[.slice none 0 0, .slice none 0 0] 29) := by rw [hTl.out.b.block _ k2]; exact k1
      have hz3 : w1.heap.size < w3.heap.size := lt_of_block hTl.out.row
      have htab : ∀ w : World, Below w3.heap.size w3 w → w.heap[w1.heap.size]? = some (.cells (anewArr g.nodes.length met) 3 (0, 0)) := fun w hb => by rw [hb.block _ hz3]; exact hTl.out.row
      have hRi3 := hRi.below hTl.out.b
      have hT0 : Hid (T2 w3 (w3.alloc (.cells #[.slice none 0 0, .slice none 0 0] 29)) [] none 0 []) := ⟨below_alloc _ _, heap_alloc_new w3 _, On.nil _ _⟩
      go_wp2
      go_loopw [7] (fun i wr => ∃ (k : Nat) (ao : Option Addr) (c : Nat) (avs : List Value), k ≤ met.length ∧ i = .int .i64 k ∧ Hid (T2 w3 wr ((met.take k).map (fun x => renum (posF met) (g.nodes.getD x.toNat nd0))) ao c avs)) (fun i _ => met.length - (intOf i).toNat)
      case atStart => exact ⟨0, none, 0, [], Nat.zero_le _, rfl, by simpa [Hid] using hT0⟩
      case round =>
        clear hT0
        obtain ⟨j, ao, c, avs, hj, rfl, hT⟩ := hrel
        by_cases hjl : j < met.length
        · obtain ⟨i1, hi1, hy0, hy1, hy2⟩ := info_parts infoN
          have hx := hmet.rng _ (getD_mem hjl)
          have hts := take_snoc hjl
          obtain ⟨n, hn⟩ : ∃ n : Nat, met.getD j 0 = (n : Int) := ⟨(met.getD j 0).toNat, by omega⟩
          rw [hn] at hx hts
          have hnN : n < g.nodes.length := by omega
          obtain ⟨lb, lo, hlc⟩ : ∃ lb lo, mo = some ⟨lb, lo, none⟩ ∧ wr.cell? ⟨lb, lo + j, none⟩ = some (.int .i64 (n : Int)) := by
            obtain ⟨ao', c', h1, h2⟩ := hRi3.below hT.out.b
            obtain ⟨lb, lo, h3, h4⟩ := h2 j hjl
            injection h1 with h1 _ _
            exact ⟨lb, lo, h1.trans h3, by rw [h4, hn]⟩
          obtain ⟨rfl, hlc⟩ := hlc
          have hbe := Below.next hbW3 hT.out.b
          obtain ⟨nb, no, av, rfl, hnd⟩ := hNc n hnN
          obtain ⟨n0, n1, n2, n3, hA⟩ := hnd.below hbe
          have hga := good_args (hg.node (g.nodes.getD n nd0) (by simp [List.getD, hnN]))
          have hNS : Hid ((met.take (j + 1)).map (fun x => renum (posF met) (g.nodes.getD x.toNat nd0)) = (met.take j).map (fun x => renum (posF met) (g.nodes.getD x.toNat nd0)) ++ [renum (posF met) (g.nodes.getD n nd0)]) := by
            show _ = _
            rw [hts]
            simp
          have hL : ((met.take j).map (fun x => renum (posF met) (g.nodes.getD x.toNat nd0))).length = j := by simp; omega
          generalize (met.take j).map (fun x => renum (posF met) (g.nodes.getD x.toNat nd0)) = NS at hT hNS hL
          have hcp : ∀ w : World, Below wr.heap.size wr w → _ := fun w hb => turned_any (W := w) (hA.below hb) hga.1 (by omega) (htab w (Below.next hT.out.b hb))
          have e0 : wr.heap[W.heap.size]? = some (.cells #[.slice (some ⟨nb, no, none⟩) g.nodes.length nc, .slice ra g.roots.length rc] 29) := by rw [hT.out.b.block _ (by omega)]; exact k0'
          obtain ⟨⟨c0, _⟩, _⟩ := blk2 e0
          have hon := hT.out.on
          rw [hL] at hon
          have honn := hon.n
          rw [hL] at honn
          have hz4 := hT.out.b.size
          have hzo := lt_of_block hT.out.out
          have hout := hT.out.out
          rw [hL] at hout
          have hnv : ∀ k, Value.ownBlock (.slice ao j c) = some k → w3.heap.size + 1 ≤ k := fun k e => (hon.n.lt k e).1
          have hstep := hid (fun (w4 w5 : World) (aa : Option Addr) (ac gg cap : Nat) => trim_step (w4 := w4) (w5 := w5) (aa := aa) (ac := ac) (g := gg) (cap := cap) (F := posF met) (n := g.nodes.getD n nd0) hT.out hL)
          have hal := hga.2
          generalize g.nodes.getD n nd0 = x at n0 n1 n2 n3 hcp hNS hstep hA hal
          obtain ⟨kind, name, num, args⟩ := x
          dsimp only at n0 n1 n2 n3 hcp hstep hA hal
          obtain ⟨aa0, ac0, rfl, _⟩ := hA
          have p0 := cell1 c0
          have p1 := cell1 hlc
          have q0 := cell1 n0
          have q1 := cell1 n1
          have q2 := cell1 n2
          have q3 := cell1 n3
          clear hRi hRi3 hmo hG k0 k1 k0' k1' e0 hnd hga hNc hT hTl htab hts hn
          go_wp2
          go_big_region
          have hbd : Below wr.heap.size wr (wr.alloc (.cells #[.int .i64 kind, .string name, .int .i64 num, .slice aa0 args.length ac0] 63)).drew := (below_alloc wr _).drew
          have hnw : (wr.alloc (.cells #[.int .i64 kind, .string name, .int .i64 num, .slice aa0 args.length ac0] 63)).drew.heap[wr.heap.size]? = some (.cells #[.int .i64 kind, .string name, .int .i64 num, .slice aa0 args.length ac0] 63) := heap_alloc_new wr _
          generalize (wr.alloc (.cells #[.int .i64 kind, .string name, .int .i64 num, .slice aa0 args.length ac0] 63)).drew = wd at hbd hnw ⊢
          have hcall := hcp wd hbd
          have hzd := lt_of_block hnw
          obtain ⟨⟨_, _, _, r3⟩, _⟩ := blk4 hnw
          have hfacts := hid (fun (w4 : World) (aa : Option Addr) (ac : Nat) (hb4 : Below wd.heap.size wd w4) (hao : w4.ownsRow wd.heap.size 3 1 (.slice aa args.length ac) args.length ((args.map (posF met)).map (Value.int .i64))) => (show (w4.heap[wr.heap.size]? = some (.cells #[.int .i64 kind, .string name, .int .i64 num, .slice aa0 args.length ac0] 63)) ∧ Below wr.heap.size wr (w4.setCell ⟨wr.heap.size, 3, none⟩ (.slice aa args.length ac)) ∧ (w4.setCell ⟨wr.heap.size, 3, none⟩ (.slice aa args.length ac)).ownsRow wr.heap.size 3 1 (.slice aa args.length ac) args.length ((args.map (posF met)).map (Value.int .i64)) from
            ⟨by rw [hb4.block _ hzd]; exact hnw, (Below.next hbd hb4).setCell (Nat.le_refl _) _, own_base (own_block hao (fun k e => Below.heap_setCell _ _ _ _ (by have := (hao.lt k e).1; show k ≠ wr.heap.size; omega))) (by omega)⟩))
          clear hcp p0 p1 q0 q1 q2 q3 c0 hlc n0 n1 n2 n3
          go_wp2_with (first
            | (go_at_call 79; refine hcall.mono ?_; rintro e w4 ⟨⟨aa, ac, rfl, hao⟩, hb4⟩; obtain ⟨f0, hb4s, haos⟩ := hfacts.out w4 aa ac hb4 hao; obtain ⟨⟨f1, f2, f3, f4⟩, f5, f6, f7, f8⟩ := blk4 f0; have hon4 := World.ownsRow.alloc (own_below honn hb4s) (.cells #[.int .i64 kind, .string name, .int .i64 num, .slice aa args.length ac] 63); have d4 : (w4.setCell ⟨wr.heap.size, 3, none⟩ (.slice aa args.length ac)).heap[w3.heap.size]? = some (.cells #[.slice ao j c, .slice none 0 0] 29) := (by rw [hb4s.block _ hzo]; exact hout); obtain ⟨⟨g0, _⟩, g1, _⟩ := blk2 d4; obtain ⟨⟨gg0, _⟩, gg1, _⟩ := blk2 (((Below.next hbd hb4).block _ hzo).trans hout); have hsz4 : (w4.setCell ⟨wr.heap.size, 3, none⟩ (.slice aa args.length ac)).heap.size = w4.heap.size := (by simp); have hz5 := hb4s.size; rw [hsz4] at hz5; have hnews := heap_alloc_new (w4.setCell ⟨wr.heap.size, 3, none⟩ (.slice aa args.length ac)) (.cells #[.int .i64 kind, .string name, .int .i64 num, .slice aa args.length ac] 63); rw [hsz4] at hnews; clear hao hb4 hfacts hcall)
            | (at_builtin; refine wpList_append_lies _ rfl _ _ _ rfl (w3.heap.size + 1) 63 i1 (.agg #[.int .i64 0, .string ⟨#[]⟩, .int .i64 0, .slice none 0 0]) 4 56 Try.underlying26 hi1 hy0 hy1 hy2 rfl (by omega) _ j (ncells NS avs) rfl hon4 ⟨w4.heap.size, 0, none⟩ 1 1 [.int .i64 kind, .string name, .int .i64 num, .slice aa args.length ac] rfl rfl (World.news_of_block (cs := #[.int .i64 kind, .string name, .int .i64 num, .slice aa args.length ac]) (t := 63) (fr := (0, 0)) hnews) (by simp [Value.oneCell']) (by omega) (by unfold maxLen; omega) (by omega) (by simp; omega) (w4.heap.size + 1) (by simp) ?_; intro gg cap w5 hown5 hgr5 hat hlt5; have d5 : w5.heap[w3.heap.size]? = some (.cells #[.slice ao j c, .slice none 0 0] 29) := (by rw [hgr5.block _ (by simp; omega) (fun e => by have := hnv _ e.symm; omega), Below.heap_alloc _ _ _ (by simp; omega)]; exact d4); obtain ⟨⟨d0', _⟩, d1', _⟩ := blk2 d5))
          go_roundw
          case rel =>
            refine ⟨j + 1, some ⟨gg, 0, none⟩, cap, avs ++ [.slice aa args.length ac], by omega, congrArg (Value.int .i64) (by omega), ?_⟩
            show T2 _ _ _ _ _ _
            rw [hNS.out]
            exact hstep.out _ w5 aa ac gg cap hb4s haos _ hgr5 hown5 (by rw [hsz4]; exact hat)
          case measure => simp [intOf]; omega
        · have hTe : Hid (T2 w3 wr (met.map (fun x => renum (posF met) (g.nodes.getD x.toNat nd0))) ao c avs) := by
            have := hT.out
            rw [List.take_of_length_le (by omega)] at this
            exact this
          clear hT
          have htf := hid (show trimF g = ⟨met.map (fun x => renum (posF met) (g.nodes.getD x.toNat nd0)), g.roots.map (posF met)⟩ by unfold trimF; rw [hmd])
          have hL : (met.map (fun x => renum (posF met) (g.nodes.getD x.toNat nd0))).length = met.length := by simp
          generalize met.map (fun x => renum (posF met) (g.nodes.getD x.toNat nd0)) = NS at hTe htf hL
          have hbe := Below.next hbW3 hTe.out.b
          have hz4 := hTe.out.b.size
          have hnr := turned_any (W := wr) (hG.2.below hbe) hg.root (by omega) (htab wr hTe.out.b)
          have e0 : wr.heap[W.heap.size]? = some (.cells #[.slice na g.nodes.length nc, .slice ra g.roots.length rc] 29) := by rw [hTe.out.b.block _ (by omega)]; exact k0'
          have e1 : wr.heap[W.heap.size + 1]? = some (.cells #[.slice none 0 0, .slice none 0 0] 29) := by rw [hTe.out.b.block _ (by omega)]; exact k1'
          obtain ⟨⟨_, c1⟩, _⟩ := blk2 e0
          have hF : ∀ w5 : World, Below wr.heap.size wr w5 → w5.heap[w3.heap.size]? = some (.cells #[.slice ao NS.length c, .slice none 0 0] 29) ∧ w5.heap[W.heap.size + 1]? = some (.cells #[.slice none 0 0, .slice none 0 0] 29) := fun w5 hb =>
            ⟨by rw [hb.block _ (lt_of_block hTe.out.out)]; exact hTe.out.out, by rw [hb.block _ (lt_of_block e1)]; exact e1⟩
          have hne : ¬ W.heap.size + 1 = w3.heap.size := by omega
          clear htab hRi hRi3 hmo hG k0 k1 k0' k1' e0 e1
          go_wp2_with (go_at_call 79; refine hnr.mono ?_; rintro e w5 ⟨⟨ro, rcc, rfl, hro⟩, hb5⟩; obtain ⟨j0, j1⟩ := hF w5 hb5; obtain ⟨⟨p0, p1⟩, q0, q1⟩ := blk2 j0; obtain ⟨⟨r0, r1⟩, s0, s1⟩ := blk2 j1)
          have hO := trim_end hTe.out hb5 (R := g.roots.map (posF met)) hro (by simp) hL (by omega : W.heap.size + 1 < w3.heap.size)
          rw [← htf.out] at hO
          refine bodyPost_ret (ret_g1 Try.results63 (by rfl) (blk2_set (by rw [Below.heap_setCell _ _ _ _ hne]; exact j1))) rfl ⟨⟨_, _, _, rfl, hO⟩, ?_⟩
          exact (((Below.next hbe hb5).setCell (by simp; omega) _).setCell (by simp) _).setCell (by simp) _
end Go.Proofs.Ytjkcffcedbcjmaa
