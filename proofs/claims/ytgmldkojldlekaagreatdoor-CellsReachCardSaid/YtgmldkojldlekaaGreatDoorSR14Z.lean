/- The small functions of layer 5: faults, labels, the classes of a list of nodes. -/
import Derived.Maps.OwnSet
import Derived.Maps.OwnOps
import Derived.DeepKeys4
import Derived.Test.YtgmldkojldlekaaGreatDoorSR13Z
namespace Go.Proofs.YtgmldkojldlekaaGreatDoor
set_option maxRecDepth 100000
open Go.RowKit
def labV (x : Int) (n : Nd) : Value := .agg #[.int .i64 n.kind, .int .i64 n.num, .int .i64 n.args.length, .int .i64 (if n.kind = 1 then x else 0), .string n.name]
theorem ret_lab {w : World} {fn : Func} {t : Tmp} (hfn : fn.results = #[.cell t 221]) {tmps : Array Value} {q : Nat} {u0 u1 u2 u3 u4 : Value} (h4 : tmps[t]?.getD undef = .pointer (some ⟨q, 0, none⟩)) (hq : w.heap[q]? = some (.cells #[u0, u1, u2, u3, u4] 221)) : (results fn tmps).run Tryz.prog w = .ok (.agg #[u0, u1, u2, u3, u4]) w := by
  have z0 : w.cell? ⟨q, 0, none⟩ = some u0 := by simp [World.cell?, hq]
  have z1 : w.cell? ⟨q, 1, none⟩ = some u1 := by simp [World.cell?, hq]
  have z2 : w.cell? ⟨q, 2, none⟩ = some u2 := by simp [World.cell?, hq]
  have z3 : w.cell? ⟨q, 3, none⟩ = some u3 := by simp [World.cell?, hq]
  have z4 : w.cell? ⟨q, 4, none⟩ = some u4 := by simp [World.cell?, hq]
  simp [results, hfn, go_sem, h4, z0, z1, z2, z3, z4]
set_option maxHeartbeats 1000000 in
theorem label_any (x : Int) (n : Nd) (aa : Option Addr) (ac : Nat) (w : World) (hl : n.args.length ≤ 5000) :
    Calls Tryz.prog 132 #[.int .i64 x, .agg #[.int .i64 n.kind, .string n.name, .int .i64 n.num, .slice aa n.args.length ac]] w fun e w' => e = .returned (labV x n) ∧ Below w.heap.size w w' := by
  obtain ⟨kind, name, num, args⟩ := n
  dsimp only at hl ⊢
  unfold labV
  dsimp only
  by_cases hk : kind = 1
  · subst hk
    go_enter Tryz.func132, Tryz.ntmps132
    go_wp2
    refine bodyPost_ret (ret_lab Tryz.results132 (by rfl) ?_) rfl ⟨rfl, ((below_alloc w _).alloc (by simp) _).alloc (by simp <;> omega) _⟩
    rw [Below.heap_alloc _ _ _ (by simp)]
    exact (by simpa using heap_alloc_new (w.alloc _) _)
  · go_enter Tryz.func132, Tryz.ntmps132
    go_wp2
    refine bodyPost_ret (ret_lab Tryz.results132 (by rfl) ?_) rfl ⟨rfl, ((below_alloc w _).alloc (by simp) _).alloc (by simp <;> omega) _⟩
    rw [Below.heap_alloc _ _ _ (by simp)]
    exact (by simpa using heap_alloc_new (w.alloc _) _)
set_option maxHeartbeats 2000000 in
theorem classesOf_any {W : World} {lv cv : Value} {l cl : List Int} (hl : Ri W lv l) (hc : Ri W cv cl) (hlr : ∀ x ∈ l, 0 ≤ x ∧ x < (cl.length : Int)) (hlen : l.length ≤ 5000) :
    Calls Tryz.prog 88 #[lv, cv] W fun e w' => (∃ ao c, e = .returned (.slice ao l.length c) ∧ w'.ownsRow W.heap.size 3 1 (.slice ao l.length c) l.length ((l.map (fun x => cl.getD x.toNat 0)).map (Value.int .i64))) ∧ Below W.heap.size W w' := by
  obtain ⟨i0, hi, hz0, hz1, hz2⟩ := info_parts infoI
  obtain ⟨la, lc, rfl, hlc⟩ := hl
  obtain ⟨ca, cc, rfl, hcc⟩ := hc
  go_enter Tryz.func88, Tryz.ntmps88
  go_wp2
  go_loopw [5, 10] (fun x i wr => ∃ (k : Nat) (ao : Option Addr) (c : Nat), k ≤ l.length ∧ i = .int .i64 k ∧ x = .slice ao k c ∧ Hid (Below W.heap.size W wr) ∧ Hid (wr.ownsRow W.heap.size 3 1 (.slice ao k c) k (((l.take k).map (fun x => cl.getD x.toNat 0)).map (Value.int .i64)))) (fun _ i _ => l.length - (intOf i).toNat)
  case atStart => exact ⟨0, none, 0, Nat.zero_le _, rfl, rfl, Below.refl _ _, World.ownsRow_nil _ _ _ _⟩
  case round =>
    obtain ⟨k, ao, c, hk, rfl, rfl, hb, ho⟩ := hrel
    by_cases hlt : k < l.length
    · obtain ⟨lb, lo, rfl, hc⟩ := hlc k hlt
      have hx := hlr _ (getD_mem hlt)
      obtain ⟨n, hn⟩ : ∃ n : Nat, l.getD k 0 = (n : Int) := ⟨(l.getD k 0).toNat, by omega⟩
      have hts := take_snoc hlt
      rw [hn] at hx hc hts
      have hnN : n < cl.length := by omega
      obtain ⟨cb, co, rfl, hcn⟩ := hcc n hnN
      have dl : wr.cell? ⟨lb, lo + k, none⟩ = some (.int .i64 (n : Int)) := by rw [hb.out.cell (p := ⟨lb, lo + k, none⟩) (lt_of_cell hc)]; exact hc
      have dr : wr.cell? ⟨cb, co + n, none⟩ = some (.int .i64 (cl.getD n 0)) := by rw [hb.out.cell (p := ⟨cb, co + n, none⟩) (lt_of_cell hcn)]; exact hcn
      have hst : Hid (((l.take k).map (fun x => cl.getD x.toNat 0)).map (Value.int .i64) ++ [.int .i64 (cl.getD n 0)] = ((l.take (k + 1)).map (fun x => cl.getD x.toNat 0)).map (Value.int .i64)) := by
        show _ = _
        rw [hts]
        simp
      generalize cl.getD n 0 = y at dr hst
      have hbd : Below W.heap.size W wr := hb.out
      have hod := ho.out
      generalize ((l.take k).map (fun x => cl.getD x.toNat 0)).map (Value.int .i64) = XS at hod hst
      have hbs := hbd.size
      have ho1 := World.ownsRow.alloc hod (.cells #[.int .i64 y] 3)
      clear hc hcn hn hts hb ho
      go_wp2_with (at_builtin; refine wpList_append_lies _ rfl _ _ _ rfl W.heap.size 3 i0 (.int .i64 0) 1 8 Tryz.underlying28 hi hz0 hz1 hz2 rfl (by decide) _ k XS rfl ho1 ⟨wr.heap.size, 0, none⟩ 1 1 [.int .i64 y] rfl rfl (World.news_of_block (cs := #[.int .i64 y]) (t := 3) (fr := (0, 0)) (heap_alloc_new wr _)) (by simp [Value.oneCell']) (by omega) (by unfold maxLen; omega) (by omega) (by simp; omega) (wr.heap.size + 1) (by simp) ?_; intro gg cap w2 hown2 hgr hat hltg)
      go_roundw
      case rel =>
        refine ⟨k + 1, some ⟨gg, 0, none⟩, cap, by omega, congrArg (Value.int .i64) (by omega), rfl, ?_, ?_⟩
        · have h1 : Below W.heap.size W (wr.alloc (.cells #[.int .i64 y] 3)) := hbd.alloc (by omega) _
          exact h1.grown hgr (by simp; omega) (fun j e => (hod.lt j e).1)
        · show World.ownsRow _ _ _ _ _ _ _
          rw [← hst.out]
          exact hown2
      case measure => simp [intOf]; omega
    · have hkl : k = l.length := by omega
      have ho' := ho.out
      rw [hkl, List.take_of_length_le (Nat.le_refl _)] at ho'
      have hb' := hb.out
      clear hb ho
      subst hkl
      go_wp2
      go_ret
      exact ⟨⟨ao, c, rfl, ho'⟩, hb'⟩
end Go.Proofs.YtgmldkojldlekaaGreatDoor

namespace Go.Proofs.YtgmldkojldlekaaGreatDoor
set_option maxRecDepth 100000
open Go.RowKit
theorem islice_nil_in {P : Program} (w : World) (d : Nat) (t : TypeId) {e : TypeId} (h : P.underlying t = some (.slice e)) (ao : Option Addr) (n c : Nat) : (Op.equalIn (d + 1) t (.slice ao n c) (.slice none 0 0)).run P w = .ok ao.isNone w := by
  cases ao <;> simp [Op.equalIn, run_underlying h]
theorem islice_nil (w : World) (ao : Option Addr) (n c : Nat) : (binOp .eql 28 (.slice ao n c) (.slice none 0 0)).run Tryz.prog w = .ok (.bool ao.isNone) w := by
  simp only [binOp]
  simp [show Op.equal 28 (.slice ao n c) (.slice none 0 0) = Op.equalIn (9999 + 1) 28 (.slice ao n c) (.slice none 0 0) from rfl, islice_nil_in w 9999 28 Tryz.underlying28]
theorem ints_one (l : List Int) : ∀ u ∈ l.map (Value.int .i64), u.oneCell' = true := fun u hu => by
  obtain ⟨s, _, rfl⟩ := List.mem_map.1 hu
  simp [Value.oneCell']
set_option maxHeartbeats 1000000 in
theorem iclone_any {w : World} {b o c : Nat} {l : List Int} (h : ∀ j, j < l.length → w.cell? ⟨b, o + j, none⟩ = some (.int .i64 (l.getD j 0))) (hl : l.length ≤ 5000) :
    Calls Tryz.prog 128 #[.slice (some ⟨b, o, none⟩) l.length c] w fun e w' => ∃ v', e = .returned v' ∧ w'.ownsRow w.heap.size 3 1 v' l.length (l.map (Value.int .i64)) ∧ Below w.heap.size w w' := by
  obtain ⟨i0, hi, hz0, hz1, hz2⟩ := info_parts infoI
  have hnews : ∀ j u, (l.map (Value.int .i64))[j]? = some u → (w.alloc (.cells #[] 3)).cell? ((⟨b, o, none⟩ : Addr).add j) = some u := fun j u hj => by
    have hjl : j < l.length := by
      by_cases e : j < l.length
      · exact e
      · have : (l.map (Value.int .i64))[j]? = none := by simp; omega
        rw [this] at hj
        cases hj
    have h1 := h j hjl
    have h2 : u = .int .i64 (l.getD j 0) := by
      simp [hjl] at hj
      simp [List.getD, hjl, hj]
    rw [h2, Addr.add_lit, (below_alloc w _).cell (p := ⟨b, o + j, none⟩) (lt_of_cell h1)]
    exact h1
  have hown : (w.alloc (.cells #[] 3)).ownsRow w.heap.size 3 1 (.slice (some ⟨w.heap.size, 0, none⟩) 0 0) 0 [] := ⟨rfl, Or.inr ⟨w.heap.size, 0, #[], rfl, Nat.le_refl _, heap_alloc_new w _, Nat.le_refl _, Nat.zero_le _, rfl, rfl⟩⟩
  have hsn := fun w : World => islice_nil w (some ⟨b, o, none⟩) l.length c
  clear h
  go_enter Tryz.func128, Tryz.ntmps128
  go_wp2_with (at_builtin; refine wpList_append_own _ rfl _ _ 28 rfl w.heap.size 3 i0 (.int .i64 0) 1 8 Tryz.underlying28 hi hz0 hz1 hz2 rfl (by decide) (.slice (some ⟨w.heap.size, 0, none⟩) 0 0) 0 [] rfl hown ⟨b, o, none⟩ l.length c (l.map (Value.int .i64)) rfl (by simp) hnews (ints_one l) (by unfold maxLen; omega) (by omega) (by simp) ?_; intro v' w1 hown' hgrow _)
  go_ret
  refine ⟨v', rfl, by simpa using hown', ?_⟩
  exact (below_alloc w _).grown hgrow (by simp) (fun k e => by
    have e' : k = w.heap.size := by simpa [Value.ownBlock] using e.symm
    omega)
end Go.Proofs.YtgmldkojldlekaaGreatDoor

namespace Go.Proofs.YtgmldkojldlekaaGreatDoor
set_option maxRecDepth 100000
open Go.RowKit
structure Ch (K : List Nat) (w w' : World) : Prop where
  os : w'.os = w.os
  tape : w'.tape = w.tape
  output : w'.output = w.output
  size : w.heap.size ≤ w'.heap.size
  far : ∀ k, k < w.heap.size → k ∉ K → w'.heap[k]? = w.heap[k]?
theorem Ch.refl (K : List Nat) (w : World) : Ch K w w := ⟨rfl, rfl, rfl, Nat.le_refl _, fun _ _ _ => rfl⟩
theorem Ch.trans {K K' : List Nat} {w w1 w2 : World} (h : Ch K w w1) (h' : Ch K' w1 w2) (hK : ∀ k ∈ K', k ∈ K ∨ w.heap.size ≤ k) : Ch K w w2 :=
  ⟨h'.os.trans h.os, h'.tape.trans h.tape, h'.output.trans h.output, Nat.le_trans h.size h'.size, fun k hk hn => (h'.far k (by have := h.size; omega) (fun hm => by
    rcases hK k hm with h1 | h1
    · exact hn h1
    · omega)).trans (h.far k hk hn)⟩
theorem Ch.below {K : List Nat} {W w w' : World} (hb : Below W.heap.size W w) (h : Ch K w w') (hK : ∀ k ∈ K, W.heap.size ≤ k) : Below W.heap.size W w' :=
  ⟨h.os.trans hb.os, h.tape.trans hb.tape, h.output.trans hb.output, Nat.le_trans hb.size h.size, fun k hk => (h.far k (by have := hb.size; omega) (fun hm => by have := hK k hm; omega)).trans (hb.block k hk)⟩
theorem Ch.of {K : List Nat} {w w' : World} (h : Below w.heap.size w w') : Ch K w w' := ⟨h.os, h.tape, h.output, h.size, fun k hk _ => h.block k hk⟩
theorem Ch.set {K : List Nat} {w : World} {q i : Nat} {v : Value} (hq : q ∈ K) : Ch K w (w.setCell ⟨q, i, none⟩ v) :=
  ⟨rfl, rfl, rfl, by simp, fun k _ hn => Below.heap_setCell _ _ _ _ (fun e => hn (by
    have e' : k = q := e
    rw [e']
    exact hq))⟩
theorem Ch.grown {K : List Nat} {w w1 w2 : World} {row : Option Nat} (h : Ch K w w1) (hg : w1.grownBy w2 row) (hr : ∀ r, row = some r → r ∈ K ∨ w.heap.size ≤ r) : Ch K w w2 :=
  ⟨hg.os.trans h.os, hg.tape.trans h.tape, hg.output.trans h.output, Nat.le_trans h.size hg.size, fun k hk hn => (hg.block k (by have := h.size; omega) (fun e => by
    rcases hr k e.symm with h1 | h1
    · exact hn h1
    · omega)).trans (h.far k hk hn)⟩
structure Fm (w : World) (B : Nat) (vs : List Value) (f : Nat → List Int) : Prop where
  own : ∀ i, i < vs.length → w.ownsRow B 3 1 (vs.getD i undef) (f i).length ((f i).map (Value.int .i64))
  nd : ND vs
theorem Fm.keep {w w' : World} {B : Nat} {vs : List Value} {f : Nat → List Int} (h : Fm w B vs f) (hk : ∀ k ∈ blocks vs, w'.heap[k]? = w.heap[k]?) : Fm w' B vs f :=
  ⟨fun i hi => own_block (h.own i hi) (fun k e => hk k (mem_blocks hi e)), h.nd⟩
theorem Fm.lt {w : World} {B : Nat} {vs : List Value} {f : Nat → List Int} (h : Fm w B vs f) : ∀ k ∈ blocks vs, B ≤ k ∧ k < w.heap.size := fun k hk => by
  obtain ⟨v, hv, e⟩ := List.mem_filterMap.1 hk
  obtain ⟨i, hi, rfl⟩ := List.getElem_of_mem hv
  have e1 : vs.getD i undef = vs[i] := by simp [List.getD, hi]
  exact (h.own i hi).lt k (by rw [e1]; exact e)
theorem Fm.below {w w' : World} {B : Nat} {vs : List Value} {f : Nat → List Int} (h : Fm w B vs f) (hb : Below w.heap.size w w') : Fm w' B vs f := h.keep (fun k hk => hb.block k (h.lt k hk).2)
theorem Fm.ty {w : World} {B q : Nat} {vs : List Value} {f : Nat → List Int} {cs : Array Value} {T : TypeId} (h : Fm w B vs f) (hq : w.heap[q]? = some (.cells cs T (0, 0))) (hT : T ≠ 3) : q ∉ blocks vs := fun hk => by
  obtain ⟨v, hv, e⟩ := List.mem_filterMap.1 hk
  obtain ⟨i, hi, rfl⟩ := List.getElem_of_mem hv
  have e1 : vs.getD i undef = vs[i] := by simp [List.getD, hi]
  obtain ⟨cur, hc, _⟩ := own_block_obj (h.own i hi) (by rw [e1]; exact e)
  rw [hq] at hc
  simp at hc
  exact hT hc.2
theorem Fm.set {w : World} {B : Nat} {vs : List Value} {f : Nat → List Int} (h : Fm w B vs f) {i t q c : Nat} (hi : i < vs.length) (hv : vs.getD i undef = .slice (some ⟨q, 0, none⟩) (f i).length c) (x : Int) : Fm (w.setCell ⟨q, t, none⟩ (.int .i64 x)) B vs (upd f i ((f i).set t x)) := by
  have hb : (vs.getD i undef).ownBlock = some q := by rw [hv]; rfl
  refine ⟨fun j hj => ?_, h.nd⟩
  by_cases e : j = i
  · subst e
    rw [upd_same, List.map_set, List.length_set]
    have := h.own j hj
    rw [hv] at this ⊢
    exact own_set this _
  · rw [upd_other _ _ e]
    exact own_block (h.own j hj) (fun k ek => Below.heap_setCell _ _ _ _ (h.nd j i k q hj hi e ek hb))
theorem Fm.push {w w2 : World} {B : Nat} {vs : List Value} {f : Nat → List Int} {k g cap : Nat} {o : Obj} {x : Int} (h : Fm w B vs f) (hk : k < vs.length)
    (hown : w2.ownsRow B 3 1 (.slice (some ⟨g, 0, none⟩) ((f k).length + 1) cap) ((f k).length + 1) ((f k ++ [x]).map (Value.int .i64))) (hgr : (w.alloc o).grownBy w2 (vs.getD k undef).ownBlock) (hat : (vs.getD k undef).ownBlock = some g ∨ g = w.heap.size + 1) :
    Fm w2 B (vs.set k (.slice (some ⟨g, 0, none⟩) ((f k).length + 1) cap)) (upd f k (f k ++ [x])) := by
  have gs : (vs.set k (.slice (some ⟨g, 0, none⟩) ((f k).length + 1) cap)).getD k undef = .slice (some ⟨g, 0, none⟩) ((f k).length + 1) cap := by simp [List.getD, hk]
  have go : ∀ i, i ≠ k → (vs.set k (.slice (some ⟨g, 0, none⟩) ((f k).length + 1) cap)).getD i undef = vs.getD i undef := fun i e => by simp [List.getD, List.getElem?_set_ne (fun e' => e e'.symm)]
  have hne : ∀ a pa, a < vs.length → a ≠ k → (vs.getD a undef).ownBlock = some pa → pa ≠ g := fun a pa ha e hpa e' => by
    rcases hat with h1 | h1
    · exact h.nd a k pa g ha hk e hpa h1 e'
    · have := ((h.own a ha).lt pa hpa).2
      omega
  refine ⟨fun i hi => ?_, fun i j p q hi hj hij hp hq => ?_⟩
  · have hi' : i < vs.length := by simpa using hi
    by_cases e : i = k
    · subst e
      rw [gs, upd_same, List.length_append, List.length_singleton]
      exact hown
    · rw [go i e, upd_other _ _ e]
      refine own_block (h.own i hi') (fun q eq => ?_)
      have hq := ((h.own i hi').lt q eq).2
      rw [hgr.block q (by simp; omega) (fun e' => h.nd i k q q hi' hk e eq e'.symm rfl), Below.heap_alloc _ _ _ hq]
  · have hi' : i < vs.length := by simpa using hi
    have hj' : j < vs.length := by simpa using hj
    by_cases ei : i = k
    · subst ei
      rw [gs] at hp
      rw [go j (fun e => hij e.symm)] at hq
      have ep : g = p := by simpa [Value.ownBlock] using hp
      subst ep
      exact fun e => hne j q hj' (fun e => hij e.symm) hq e.symm
    · by_cases ej : j = k
      · subst ej
        rw [gs] at hq
        rw [go i ei] at hp
        have ep : g = q := by simpa [Value.ownBlock] using hq
        subst ep
        exact hne i p hi' ei hp
      · rw [go i ei] at hp
        rw [go j ej] at hq
        exact h.nd i j p q hi' hj' hij hp hq
structure Pt (w : World) (B pb : Nat) (v0 v1 v2 v3 v4 v5 : Value) (f : Nat → List Int) : Prop where
  blk : w.heap[pb]? = some (.cells #[v0, v1, v2, v3, v4, v5] 193 (0, 0))
  fm : Fm w B [v0, v1, v2, v3, v4, v5] f
  ge : B ≤ pb
theorem Pt.below {w w' : World} {B pb : Nat} {v0 v1 v2 v3 v4 v5 : Value} {f : Nat → List Int} (h : Pt w B pb v0 v1 v2 v3 v4 v5 f) (hb : Below w.heap.size w w') : Pt w' B pb v0 v1 v2 v3 v4 v5 f :=
  ⟨by rw [hb.block pb (lt_of_block h.blk)]; exact h.blk, h.fm.below hb, h.ge⟩
theorem Pt.sl {w : World} {B pb : Nat} {v0 v1 v2 v3 v4 v5 : Value} {f : Nat → List Int} (h : Pt w B pb v0 v1 v2 v3 v4 v5 f) : (∃ a c, v0 = .slice a (f 0).length c) ∧ (∃ a c, v1 = .slice a (f 1).length c) ∧ (∃ a c, v2 = .slice a (f 2).length c) ∧ (∃ a c, v3 = .slice a (f 3).length c) ∧ (∃ a c, v4 = .slice a (f 4).length c) ∧ ∃ a c, v5 = .slice a (f 5).length c :=
  ⟨own_sl (h.fm.own 0 (by simp)), own_sl (h.fm.own 1 (by simp)), own_sl (h.fm.own 2 (by simp)), own_sl (h.fm.own 3 (by simp)), own_sl (h.fm.own 4 (by simp)), own_sl (h.fm.own 5 (by simp))⟩
end Go.Proofs.YtgmldkojldlekaaGreatDoor

namespace Go.Proofs.YtgmldkojldlekaaGreatDoor
set_option maxRecDepth 100000
open Go.RowKit Go.Maps
theorem labRow : (221 : TypeId) < Tryz.prog.types.size := of_decide_eq_true (by kernel_rfl)
theorem labWide : (match Tryz.prog.underlying 221 with | some (.array _ _) | some (.struct _) => true | _ => false) = true := by kernel_rfl
theorem labLaid : laidOutB Tryz.prog = true := by kernel_rfl
theorem labLaw : Keyed Tryz.prog 221 := Keyed.of_law (deep_law_laid labLaid (m := 3) (by omega) labRow (by kernel_rfl) labWide)
theorem labKt : Tryz.prog.keyType 221 = true := by kernel_rfl
theorem labCells : Tryz.prog.cellsOf 221 = 5 := by kernel_rfl
theorem intCells : Tryz.prog.cellsOf 3 = 1 := by kernel_rfl
theorem strCells : Tryz.prog.cellsOf 9 = 1 := by kernel_rfl
theorem label_lits (d : Nat) (a b c e : Int) (s : ByteArray) (ha : (Lit.int .i64 a).wf = true) (hb : (Lit.int .i64 b).wf = true) (hc : (Lit.int .i64 c).wf = true) (he : (Lit.int .i64 e).wf = true) (hs : s.size ≤ maxLen) :
    Tryz.prog.keyLits (d + 1 + 1) 221 [.int .i64 a, .int .i64 b, .int .i64 c, .int .i64 e, .string s] = some [.int .i64 a, .int .i64 b, .int .i64 c, .int .i64 e, .string s.data.toList] := by
  simp [Program.keyLits, Tryz.underlying221, Tryz.underlying3, Tryz.underlying9, labCells, intCells, strCells, ha, hb, hc, he, hs]
theorem label_key (a b c e : Int) (s : ByteArray) (ha : (Lit.int .i64 a).wf = true) (hb : (Lit.int .i64 b).wf = true) (hc : (Lit.int .i64 c).wf = true) (he : (Lit.int .i64 e).wf = true) (hs : s.size ≤ maxLen) :
    ∃ kl, keyOf Tryz.prog 221 (.agg #[.int .i64 a, .int .i64 b, .int .i64 c, .int .i64 e, .string s]) = some kl := by
  obtain ⟨d, hd⟩ : ∃ d, Tryz.prog.types.size = d + 1 := Nat.exists_eq_add_one.2 (Nat.lt_of_le_of_lt (Nat.zero_le _) labRow)
  unfold keyOf
  simp only [Tryz.underlying221]
  have hf : (Value.agg #[.int .i64 a, .int .i64 b, .int .i64 c, .int .i64 e, .string s]).formed Tryz.prog 221 = true := by
    simp [Value.formed, Tryz.underlying221, labCells]
  rw [labKt, hf, hd]
  have := label_lits d a b c e s ha hb hc he hs
  exact ⟨.string (keyBytes [.int .i64 a, .int .i64 b, .int .i64 c, .int .i64 e, .string s.data.toList]), by simp [Value.cells, this]⟩
end Go.Proofs.YtgmldkojldlekaaGreatDoor
