/- labelled of package bisim, walked. -/
import Derived.Deep.CutRange
import Derived.Test.Ytjkcffcedbcjmaata22Z
import Derived.Test.Ytjkcffcedbcjmaata21Z
import Derived.Test.Ytjkcffcedbcjmaata17Z
namespace Go.Proofs.Ytjkcffcedbcjmaa
set_option maxRecDepth 100000
open Go.RowKit Go.Maps
theorem zeroInt (w : World) : (zeroValue 3).run Try.prog w = .ok (.int .i64 0) w := by kernel_rfl
structure Lb (W wr : World) (g : Gf) (m C : Nat) (cl : Nat → Nat) (D : DataW Unit) (mv : Value) (vs : Nat → Value) : Prop where
  b : Below W.heap.size W wr
  map : wr.ownsMap Try.prog 157 (plainElem Try.prog 3) W.heap.size m D
  la : La g m C cl D
  mb : Mb wr (W.heap.size + 1) mv C vs (mF cl m)
  sz : W.heap.size + 1 ≤ wr.heap.size
theorem map_at {w w' : World} {q n : Nat} {D : DataW Unit} (h : w.ownsMap Try.prog 157 (plainElem Try.prog 3) q n D) (e : w'.heap[q]? = w.heap[q]?) : w'.ownsMap Try.prog 157 (plainElem Try.prog 3) q n D := by
  obtain ⟨es, clock, hb, F, hs, hD⟩ := h
  exact ⟨es, clock, e.trans hb, F, hs, hD⟩
theorem La.old2 {g : Gf} {m C : Nat} {cl : Nat → Nat} {D : DataW Unit} (h : La g m C cl D) {kl : Lit} (hk : keyOf Try.prog 157 (lv g m) = some kl) (hh : Maps.has D kl = true) :
    ∃ x : Nat, D.atKey kl (.lit (.int .i64 0)) = .lit (.int .i64 (x : Int)) ∧ x < C ∧ La g (m + 1) C (upd cl m x) D := by
  obtain ⟨n0, hn0, e0⟩ := (h.has _ _ hk).1 hh
  have h1 := h.key n0 kl hn0 (by rw [e0]; exact hk)
  obtain ⟨x, hx, h2, h3⟩ := h.old hk hh h1
  exact ⟨x, by rw [h1, hx], h2, h3⟩
theorem own_last {w : World} {B C g cap : Nat} {e : TypeId} {xs : List Value} {v : Value} (hl : xs.length = C) (h : w.ownsRow B e 1 (.slice (some ⟨g, 0, none⟩) (C + 1) cap) (C + 1) (xs ++ [v])) : w.cell? ⟨g, C, none⟩ = some v ∧ w.frozen? ⟨g, C, none⟩ = false ∧ g < w.heap.size := by
  refine ⟨?_, ?_, (h.lt g rfl).2⟩
  · have := h.cells (g := g) rfl C v (by simp [← hl])
    rw [Addr.add_lit, Nat.zero_add] at this
    exact this
  · obtain ⟨cur, h1, _⟩ := own_block_obj h (q := g) rfl
    simp [World.frozen?, h1]
theorem far_none {w w5 : World} {g i : Nat} {v : Value} {o : Obj} (hg : g < w.heap.size) (h1 : w.cell? ⟨g, i, none⟩ = some v) (h2 : w.frozen? ⟨g, i, none⟩ = false) (hgr : (w.alloc o).grownBy w5 none) : w5.cell? ⟨g, i, none⟩ = some v ∧ w5.frozen? ⟨g, i, none⟩ = false := by
  have h : w5.heap[g]? = w.heap[g]? := by rw [hgr.block g (by simp; omega) (by simp), Below.heap_alloc _ _ _ hg]
  refine ⟨by rw [World.cell?_of_block (a := ⟨g, i, none⟩) h]; exact h1, ?_⟩
  simpa [World.frozen?, h] using h2
theorem Lb.old {W wr w2 w5 : World} {g : Gf} {m C x mb mc gg cap : Nat} {cl : Nat → Nat} {D : DataW Unit} {vs : Nat → Value} {o : Obj} (h : Lb W wr g m C cl D (.slice (some ⟨mb, 0, none⟩) C mc) vs) (hb2 : Below wr.heap.size wr w2) (hx : x < C) (hLa : La g (m + 1) C (upd cl m x) D)
    (hown : w5.ownsRow (W.heap.size + 1) 3 1 (.slice (some ⟨gg, 0, none⟩) ((mF cl m x).length + 1) cap) ((mF cl m x).length + 1) ((ints (mF cl m x)).map (Value.int .i64) ++ [.int .i64 (m : Int)])) (hgr : (w2.alloc o).grownBy w5 (vs x).ownBlock) (hat : (vs x).ownBlock = some gg ∨ gg = w2.heap.size + 1) :
    Lb W (w5.setCell ⟨mb, x, none⟩ (.slice (some ⟨gg, 0, none⟩) ((mF cl m x).length + 1) cap)) g (m + 1) C (upd cl m x) D (.slice (some ⟨mb, 0, none⟩) C mc) (upd vs x (.slice (some ⟨gg, 0, none⟩) ((mF cl m x).length + 1) cap)) := by
  have hm2 := h.mb.below hb2
  have hs := h.sz
  have hs2 := hb2.size
  have hs5 := hgr.size
  simp at hs5
  have hmb := (h.mb.top.lt mb rfl).1
  have hbW := Below.next h.b hb2
  refine ⟨?_, ?_, hLa, (hm2.add hx hown hgr hat).congr (fun c hc => ?_), by simp; omega⟩
  · refine Below.setCell ?_ (by show W.heap.size ≤ mb; omega) _
    exact (hbW.alloc hbW.size _).grown hgr (by simp; omega) (fun q e => by have := ((hm2.own x hx).lt q e).1; omega)
  · refine map_at (h.map.mono (Nat.le_succ m)) ?_
    rw [Below.heap_setCell _ _ _ _ (by show W.heap.size ≠ mb; omega), hgr.block _ (by simp; omega) (fun e => by have := ((hm2.own x hx).lt _ e.symm).1; omega), Below.heap_alloc _ _ _ (by omega), hb2.block _ (by omega)]
  · rw [mF_succ]
    by_cases e : c = x
    · subst e
      rw [upd_same, if_pos rfl]
    · rw [upd_other _ _ e, if_neg (fun e' => e e'.symm), List.append_nil]
theorem Lb.new {W wr w2 w3 w4 w5 : World} {g : Gf} {m C mb mc gg cap : Nat} {cl : Nat → Nat} {D : DataW Unit} {mv : Value} {vs : Nat → Value} {o o' : Obj} {kl : Lit} (h : Lb W wr g m C cl D mv vs) (hk : keyOf Try.prog 157 (lv g m) = some kl) (hh : Maps.has D kl = false) (hb2 : Below wr.heap.size wr w2)
    (hm3 : w3.ownsMap Try.prog 157 (plainElem Try.prog 3) W.heap.size (m + 1) (D.put kl (.lit (.int .i64 (C : Int))))) (hg3 : w2.grownBy w3 (some W.heap.size))
    (hown4 : w4.ownsRow (W.heap.size + 1) 27 1 (.slice (some ⟨mb, 0, none⟩) (C + 1) mc) (C + 1) ((List.range C).map vs ++ [.slice none 0 0])) (hg4 : (w3.alloc o).grownBy w4 mv.ownBlock)
    (hown : w5.ownsRow (W.heap.size + 1) 3 1 (.slice (some ⟨gg, 0, none⟩) 1 cap) 1 [.int .i64 (m : Int)]) (hgr : (w4.alloc o').grownBy w5 none) (hat : gg = w4.heap.size + 1) :
    Lb W (w5.setCell ⟨mb, C, none⟩ (.slice (some ⟨gg, 0, none⟩) 1 cap)) g (m + 1) (C + 1) (upd cl m C) (D.put kl (.lit (.int .i64 (C : Int)))) (.slice (some ⟨mb, 0, none⟩) (C + 1) mc) (upd (upd vs C (.slice none 0 0)) C (.slice (some ⟨gg, 0, none⟩) 1 cap)) := by
  have hs := h.sz
  have hs2 := hb2.size
  have hs3 := hg3.size
  have hs4 := hg4.size
  have hs5 := hgr.size
  simp at hs4 hs5
  have hM2 := h.mb.below hb2
  have hM3 : Mb w3 (W.heap.size + 1) mv C vs (mF cl m) := hM2.keep (fun k e => hg3.block k (by
    rcases e with e | ⟨c, hc, e⟩
    · exact (hM2.top.lt k e).2
    · exact ((hM2.own c hc).lt k e).2) (fun e' => by
    have e2 : k = W.heap.size := by injection e'
    rcases e with e | ⟨c, hc, e⟩
    · have := (hM2.top.lt k e).1
      omega
    · have := ((hM2.own c hc).lt k e).1
      omega))
  have hM4 := hM3.push hown4 hg4
  have hM5 := hM4.add (c := C) (n := m) (g := gg) (cap := cap) (o := o') (w2 := w5) (by omega) (by rw [upd_same]; exact hown) (by rw [upd_same]; exact hgr) (Or.inr hat)
  have hmb := (hown4.lt mb rfl).1
  have hbW := Below.next h.b hb2
  have hb3 : Below W.heap.size W w3 := hbW.grown hg3 hbW.size (fun q e => by
    have e2 : W.heap.size = q := by injection e
    omega)
  have hb4 : Below W.heap.size W w4 := (hb3.alloc hb3.size _).grown hg4 (by simp; omega) (fun q e => by have := (hM3.top.lt q e).1; omega)
  have hb5 : Below W.heap.size W w5 := (hb4.alloc hb4.size _).grown hgr (by simp; omega) (fun q e => by cases e)
  refine ⟨hb5.setCell (by show W.heap.size ≤ mb; omega) _, ?_, h.la.new hk hh, ?_, by simp; omega⟩
  · refine map_at hm3 ?_
    rw [Below.heap_setCell _ _ _ _ (by show W.heap.size ≠ mb; omega), hgr.block _ (by simp; omega) (by simp), Below.heap_alloc _ _ _ (by omega), hg4.block _ (by simp; omega) (fun e => by have := (hM3.top.lt _ e.symm).1; omega), Below.heap_alloc _ _ _ (by omega)]
  · have e0 : (upd (mF cl m) C [] C).length = 0 := by rw [upd_same]; rfl
    rw [e0] at hM5
    refine hM5.congr (fun c hc => ?_)
    rw [mF_succ]
    by_cases e : c = C
    · subst e
      rw [upd_same, upd_same, if_pos rfl]
      have : mF cl m c = [] := by
        rw [List.eq_nil_iff_forall_not_mem]
        intro n hn
        have h1 := mF_mem.1 hn
        have := h.la.lt n h1.1
        omega
      rw [this]
    · rw [upd_other _ _ e, upd_other _ _ e, if_neg (fun e' => e e'.symm), List.append_nil]
theorem Fm.grow {w w2 : World} {B : Nat} {vs : List Value} {f : Nat → List Int} {k g cap : Nat} {l : List Int} (h : Fm w B vs f) (hk : k < vs.length)
    (hown : w2.ownsRow B 3 1 (.slice (some ⟨g, 0, none⟩) l.length cap) l.length (l.map (Value.int .i64))) (hgr : w.grownBy w2 (vs.getD k undef).ownBlock) (hat : (vs.getD k undef).ownBlock = some g ∨ g = w.heap.size) :
    Fm w2 B (vs.set k (.slice (some ⟨g, 0, none⟩) l.length cap)) (upd f k l) := by
  have gs : (vs.set k (.slice (some ⟨g, 0, none⟩) l.length cap)).getD k undef = .slice (some ⟨g, 0, none⟩) l.length cap := by simp [List.getD, hk]
  have go : ∀ i, i ≠ k → (vs.set k (.slice (some ⟨g, 0, none⟩) l.length cap)).getD i undef = vs.getD i undef := fun i e => by simp [List.getD, List.getElem?_set_ne (fun e' => e e'.symm)]
  have hne : ∀ a pa, a < vs.length → a ≠ k → (vs.getD a undef).ownBlock = some pa → pa ≠ g := fun a pa ha e hpa e' => by
    rcases hat with h1 | h1
    · exact h.nd a k pa g ha hk e hpa h1 e'
    · have := ((h.own a ha).lt pa hpa).2
      omega
  refine ⟨fun i hi => ?_, fun i j p q hi hj hij hp hq => ?_⟩
  · have hi' : i < vs.length := by simpa using hi
    by_cases e : i = k
    · subst e
      rw [gs, upd_same]
      exact hown
    · rw [go i e, upd_other _ _ e]
      refine own_block (h.own i hi') (fun q eq => ?_)
      have hq := ((h.own i hi').lt q eq).2
      rw [hgr.block q hq (fun e' => h.nd i k q q hi' hk e eq e'.symm rfl)]
  · have hi' : i < vs.length := by simpa using hi
    have hj' : j < vs.length := by simpa using hj
    by_cases ei : i = k
    · subst ei
      rw [gs] at hp
      rw [go j (fun e => hij e.symm)] at hq
      have ep : g = p := by simpa [Value.ownBlock] using hp
      subst ep
      exact fun e => hne j q hj' (fun e => hij e.symm) hq e.symm
    · by_cases ej : j = k
      · subst ej
        rw [gs] at hq
        rw [go i ei] at hp
        have ep : g = q := by simpa [Value.ownBlock] using hq
        subst ep
        exact hne i p hi' ei hp
      · rw [go i ei] at hp
        rw [go j ej] at hq
        exact h.nd i j p q hi' hj' hij hp hq
theorem Pt.grow0 {w w2 : World} {B pb g cap : Nat} {v0 v1 v2 v3 v4 v5 : Value} {f : Nat → List Int} {l : List Int} (h : Pt w B pb v0 v1 v2 v3 v4 v5 f) (hown : w2.ownsRow B 3 1 (.slice (some ⟨g, 0, none⟩) l.length cap) l.length (l.map (Value.int .i64))) (hgr : w.grownBy w2 v0.ownBlock) (hat : v0.ownBlock = some g ∨ g = w.heap.size) :
    w2.heap[pb]? = some (.cells #[v0, v1, v2, v3, v4, v5] 126 (0, 0)) ∧ Pt (w2.setCell ⟨pb, 0, none⟩ (.slice (some ⟨g, 0, none⟩) l.length cap)) B pb (.slice (some ⟨g, 0, none⟩) l.length cap) v1 v2 v3 v4 v5 (upd f 0 l) := by
  have hpb := lt_of_block h.blk
  have hrow : v0.ownBlock ≠ some pb := fun e => h.fm.ty h.blk (by decide) (mem_blocks (i := 0) (by simp) e)
  have hF := Fm.grow (k := 0) h.fm (by simp) hown hgr hat
  have h2 : w2.heap[pb]? = some (.cells #[v0, v1, v2, v3, v4, v5] 126 (0, 0)) := by
    rw [hgr.block pb hpb (fun e => hrow e.symm)]
    exact h.blk
  refine ⟨h2, heap_setCell_same w2 pb 0 _ _ _ h2, ?_, h.ge⟩
  exact hF.keep (fun k hk => Below.heap_setCell _ _ _ _ (fun e => hF.ty h2 (by decide) (by
    have e' : k = pb := e
    rw [← e']
    exact hk)))
theorem Pt.base {w : World} {B B' pb : Nat} {v0 v1 v2 v3 v4 v5 : Value} {f : Nat → List Int} (h : Pt w B pb v0 v1 v2 v3 v4 v5 f) (hB : B' ≤ B) : Pt w B' pb v0 v1 v2 v3 v4 v5 f :=
  ⟨h.blk, ⟨fun i hi => own_base (h.fm.own i hi) hB, h.fm.nd⟩, Nat.le_trans hB h.ge⟩
theorem enter_z {w : World} {B pb a b : Nat} {v0 v1 v2 v3 v4 v5 : Value} {f : Nat → List Int} (hP : Pt w B pb v0 v1 v2 v3 v4 v5 f) (hab : a < b) (hb : b ≤ (f 0).length) (hl : ∀ i, (f i).length ≤ 4500) (hr : ∀ x ∈ f 0, 0 ≤ x ∧ x < ((f 2).length : Int)) (hB : B ≤ w.heap.size) {x y : Int} (hx : x = (a : Int)) (hy : y = (b : Int)) :
    Calls Try.prog 102 #[.pointer (some ⟨pb, 0, none⟩), .int .i64 x, .int .i64 y] w fun e w' => e = .returned (.tuple #[]) ∧ ∃ u3 u4 u5, Pt w' B pb v0 v1 v2 u3 u4 u5 (upd (upd (upd (upd f 2 (setL (f 2) (((f 0).drop a).take (b - a)) (f 3).length)) 3 (f 3 ++ [(a : Int)])) 4 (f 4 ++ [(b : Int)])) 5 (f 5 ++ [0])) ∧ Ch (pb :: blocks [v0, v1, v2, v3, v4, v5]) w w' ∧ ∀ k ∈ blocks [u3, u4, u5], k ∈ blocks [v0, v1, v2, v3, v4, v5] ∨ w.heap.size ≤ k := by
  subst hx hy
  exact enter_any hP hab hb hl hr hB
theorem made_own {w : World} {B b N : Nat} (hb : w.heap[b]? = some (.cells (anewArr N []) 3 (0, 0))) (hB : B ≤ b) (hN : N ≤ 5000) : w.ownsRow B 3 1 (.slice (some ⟨b, 0, none⟩) N N) N ((rowF N (fun _ => 0)).map (Value.int .i64)) := by
  refine ⟨by simp [rowF], Or.inr ⟨b, N, anewArr N [], rfl, hB, hb, Nat.le_refl _, by unfold maxLen; omega, by simp [anew_size], ?_⟩⟩
  apply List.ext_getElem
  · simp [anew_size, rowF]
  · intro i h1 h2
    simp [anewArr, rowF, posF]
theorem Pt_made {w : World} {B b1 b2 pb N : Nat} (cl : Nat → Nat) (hp : w.heap[pb]? = some (.cells #[.slice none 0 0, .slice (some ⟨b1, 0, none⟩) N N, .slice (some ⟨b2, 0, none⟩) N N, .slice none 0 0, .slice none 0 0, .slice none 0 0] 126 (0, 0))) (h1 : w.heap[b1]? = some (.cells (anewArr N []) 3 (0, 0))) (h2 : w.heap[b2]? = some (.cells (anewArr N []) 3 (0, 0)))
    (hne : b1 ≠ b2) (hB : B ≤ b1 ∧ B ≤ b2 ∧ B ≤ pb) (hN : N ≤ 5000) : Pt w B pb (.slice none 0 0) (.slice (some ⟨b1, 0, none⟩) N N) (.slice (some ⟨b2, 0, none⟩) N N) (.slice none 0 0) (.slice none 0 0) (.slice none 0 0) (catR cl N 0) := by
  refine ⟨hp, ⟨fun i hi => ?_, ?_⟩, hB.2.2⟩
  · have hi' : i < 6 := by simpa using hi
    revert hi'
    refine six (P := fun i => w.ownsRow B 3 1 ([Value.slice none 0 0, .slice (some ⟨b1, 0, none⟩) N N, .slice (some ⟨b2, 0, none⟩) N N, .slice none 0 0, .slice none 0 0, .slice none 0 0].getD i undef) (catR cl N 0 i).length ((catR cl N 0 i).map (Value.int .i64))) ?_ ?_ ?_ ?_ ?_ ?_ i
    · exact World.ownsRow_nil _ _ _ _
    · have := made_own h1 hB.1 hN
      show w.ownsRow B 3 1 _ (rowF N (fun _ => 0)).length _
      rw [rowF_len]
      exact this
    · have := made_own h2 hB.2.1 hN
      have e : catR cl N 0 2 = rowF N (fun _ => 0) := rowF_congr (fun n _ => if_neg (Nat.not_lt_zero _))
      rw [e, rowF_len]
      exact this
    · exact World.ownsRow_nil _ _ _ _
    · exact World.ownsRow_nil _ _ _ _
    · exact World.ownsRow_nil _ _ _ _
  · intro i j p q hi hj hij hp' hq'
    have hi' : i < 6 := by simpa using hi
    have hj' : j < 6 := by simpa using hj
    have e1 : ∀ i p, i < 6 → ([Value.slice none 0 0, .slice (some ⟨b1, 0, none⟩) N N, .slice (some ⟨b2, 0, none⟩) N N, .slice none 0 0, .slice none 0 0, .slice none 0 0].getD i undef).ownBlock = some p → (i = 1 ∧ p = b1) ∨ (i = 2 ∧ p = b2) := fun i p hi => by
      revert p
      refine six (P := fun i => ∀ p, ([Value.slice none 0 0, .slice (some ⟨b1, 0, none⟩) N N, .slice (some ⟨b2, 0, none⟩) N N, .slice none 0 0, .slice none 0 0, .slice none 0 0].getD i undef).ownBlock = some p → (i = 1 ∧ p = b1) ∨ (i = 2 ∧ p = b2)) ?_ ?_ ?_ ?_ ?_ ?_ i hi
      · intro p h
        cases h
      · intro p h
        exact Or.inl ⟨rfl, (by simpa [Value.ownBlock] using h.symm)⟩
      · intro p h
        exact Or.inr ⟨rfl, (by simpa [Value.ownBlock] using h.symm)⟩
      · intro p h
        cases h
      · intro p h
        cases h
      · intro p h
        cases h
    rcases e1 i p hi' hp' with ⟨ei, ep⟩ | ⟨ei, ep⟩ <;> rcases e1 j q hj' hq' with ⟨ej, eq⟩ | ⟨ej, eq⟩ <;> omega
theorem made3 {w : World} {N b1 b2 : Nat} (cl : Nat → Nat) (hN : N ≤ 5000) (hb : (b1 = w.heap.size ∧ b2 = w.heap.size + 1) ∨ (b1 = w.heap.size + 1 ∧ b2 = w.heap.size)) :
    Pt (((w.alloc (.cells (anewArr N []) 3)).alloc (.cells (anewArr N []) 3)).alloc (.cells #[.slice none 0 0, .slice (some ⟨b1, 0, none⟩) N N, .slice (some ⟨b2, 0, none⟩) N N, .slice none 0 0, .slice none 0 0, .slice none 0 0] 126)).drew w.heap.size (w.heap.size + 1 + 1) (.slice none 0 0) (.slice (some ⟨b1, 0, none⟩) N N) (.slice (some ⟨b2, 0, none⟩) N N) (.slice none 0 0) (.slice none 0 0) (.slice none 0 0) (catR cl N 0) ∧ Below w.heap.size w (((w.alloc (.cells (anewArr N []) 3)).alloc (.cells (anewArr N []) 3)).alloc (.cells #[.slice none 0 0, .slice (some ⟨b1, 0, none⟩) N N, .slice (some ⟨b2, 0, none⟩) N N, .slice none 0 0, .slice none 0 0, .slice none 0 0] 126)).drew := by
  have h1 : (((w.alloc (.cells (anewArr N []) 3)).alloc (.cells (anewArr N []) 3)).alloc (.cells #[.slice none 0 0, .slice (some ⟨b1, 0, none⟩) N N, .slice (some ⟨b2, 0, none⟩) N N, .slice none 0 0, .slice none 0 0, .slice none 0 0] 126)).heap[w.heap.size]? = some (.cells (anewArr N []) 3 (0, 0)) := by
    rw [Below.heap_alloc _ _ _ (by simp <;> omega), Below.heap_alloc _ _ _ (by simp)]
    exact heap_alloc_new w _
  have h2 : (((w.alloc (.cells (anewArr N []) 3)).alloc (.cells (anewArr N []) 3)).alloc (.cells #[.slice none 0 0, .slice (some ⟨b1, 0, none⟩) N N, .slice (some ⟨b2, 0, none⟩) N N, .slice none 0 0, .slice none 0 0, .slice none 0 0] 126)).heap[w.heap.size + 1]? = some (.cells (anewArr N []) 3 (0, 0)) := by
    rw [Below.heap_alloc _ _ _ (by simp)]
    simpa using heap_alloc_new (w.alloc (.cells (anewArr N []) 3)) (.cells (anewArr N []) 3)
  have h3 : (((w.alloc (.cells (anewArr N []) 3)).alloc (.cells (anewArr N []) 3)).alloc (.cells #[.slice none 0 0, .slice (some ⟨b1, 0, none⟩) N N, .slice (some ⟨b2, 0, none⟩) N N, .slice none 0 0, .slice none 0 0, .slice none 0 0] 126)).heap[w.heap.size + 1 + 1]? = some (.cells #[.slice none 0 0, .slice (some ⟨b1, 0, none⟩) N N, .slice (some ⟨b2, 0, none⟩) N N, .slice none 0 0, .slice none 0 0, .slice none 0 0] 126) := by
    simpa using heap_alloc_new ((w.alloc (.cells (anewArr N []) 3)).alloc (.cells (anewArr N []) 3)) (.cells #[.slice none 0 0, .slice (some ⟨b1, 0, none⟩) N N, .slice (some ⟨b2, 0, none⟩) N N, .slice none 0 0, .slice none 0 0, .slice none 0 0] 126)
  refine ⟨?_, ?_⟩
  · rcases hb with ⟨rfl, rfl⟩ | ⟨rfl, rfl⟩
    · exact (Pt_made cl h3 h1 h2 (by omega) (by omega) hN).drew
    · exact (Pt_made cl h3 h2 h1 (by omega) (by omega) hN).drew
  · exact (((below_alloc w _).alloc (by simp) _).alloc (by simp <;> omega) _).drew
set_option maxHeartbeats 4000000 in
theorem labelled_any {W : World} {nv : Value} {g : Gf} (hn : Rn W nv g.nodes) (hg : Good g) (hS : Sized g) :
    Calls Try.prog 88 #[nv] W fun e w' => (∃ pb v0 v1 v2 v3 v4 v5 S, e = .returned (.pointer (some ⟨pb, 0, none⟩)) ∧ Pt w' W.heap.size pb v0 v1 v2 v3 v4 v5 (S.rows g.nodes.length) ∧ Iv g.nodes.length S ∧ (∀ c, c < S.C → S.mq c = 0) ∧ ∀ x y, x < g.nodes.length → y < g.nodes.length → (S.cl x = S.cl y ↔ lv g x = lv g y)) ∧ Below W.heap.size W w' := by
  obtain ⟨i0, hi, hz0, hz1, hz2⟩ := info_parts infoI
  obtain ⟨i1, hi1, hy0, hy1, hy2⟩ := info_parts infoIS
  have hnl := hg.nodes
  obtain ⟨na, nc, rfl, hNc⟩ := hn
  have hmm := @run_makeMap Try.prog
  have hst : Hid (Lb W (W.alloc (.map #[] 0)) g 0 0 (fun _ => 0) (.map []) (.slice none 0 0) (fun _ => .slice none 0 0)) :=
    ⟨below_alloc W _, World.ownsMap_made _ _ _ _, La.start g, (Mb.start _ _).congr (fun c hc => absurd hc (Nat.not_lt_zero _)), by simp⟩
  have hke := hid (fun n (h : n < g.nodes.length) => label_wf hg h hS)
  generalize hNN : g.nodes.length = N at *
  go_enter Try.func88, Try.ntmps88
  go_wp2
  go_loopw [4, 18] (fun t i wr => ∃ (m C : Nat) (ma : Option Addr) (mc : Nat), m ≤ N ∧ C ≤ m ∧ i = .int .i64 m ∧ t = .slice ma C mc ∧ Hid (∃ cl D vs, Lb W wr g m C cl D (.slice ma C mc) vs)) (fun _ i _ => N - (intOf i).toNat)
  case atStart => exact ⟨0, 0, none, 0, Nat.zero_le _, Nat.le_refl _, rfl, rfl, ⟨_, _, _, hst.out⟩⟩
  case round =>
    clear hst hmm
    obtain ⟨m, C, ma, mc, hm, hCm, rfl, rfl, hlb⟩ := hrel
    by_cases hltm : m < N
    · obtain ⟨cl, D, vs, hLb⟩ := hlb.out
      obtain ⟨nb, no, av, rfl, hnd⟩ := hNc m (by omega)
      obtain ⟨kl, hkl⟩ := hke.out m hltm
      obtain ⟨n0, n1, n2, n3, n4⟩ := hnd
      have hb := hLb.b
      have d0 : wr.cell? ⟨nb, no + m * 4, none⟩ = _ := (hb.cell (p := ⟨nb, no + m * 4, none⟩) (lt_of_cell n0)).trans n0
      have d1 : wr.cell? ⟨nb, no + m * 4 + 1, none⟩ = _ := (hb.cell (p := ⟨nb, no + m * 4 + 1, none⟩) (lt_of_cell n0)).trans n1
      have d2 : wr.cell? ⟨nb, no + m * 4 + 2, none⟩ = _ := (hb.cell (p := ⟨nb, no + m * 4 + 2, none⟩) (lt_of_cell n0)).trans n2
      have d3 : wr.cell? ⟨nb, no + m * 4 + 3, none⟩ = _ := (hb.cell (p := ⟨nb, no + m * 4 + 3, none⟩) (lt_of_cell n0)).trans n3
      obtain ⟨aa, ac, rfl, hac⟩ := n4
      have hal : (g.nodes.getD m nd0).args.length ≤ 8 := (hg.args (x := (m : Int)) (by omega) (by omega)).2
      have hlv : lv g m = .agg #[.int .i64 (g.nodes.getD m nd0).kind, .int .i64 (g.nodes.getD m nd0).num, .int .i64 (g.nodes.getD m nd0).args.length, .int .i64 (if (g.nodes.getD m nd0).kind = 1 then (m : Int) else 0), .string (g.nodes.getD m nd0).name] := rfl
      have hlab := hid (fun w => label_any (m : Int) (g.nodes.getD m nd0) aa ac w (by omega))
      unfold labV at hlab
      have hHL := hid hLb
      have hkl' := hkl
      rw [hlv] at hkl
      clear hlv n0 n1 n2 n3 hac hlb
      generalize g.nodes.getD m nd0 = nod at *
      obtain ⟨kind, name, num, args⟩ := nod
      dsimp only at *
      generalize (if kind = 1 then (m : Int) else 0) = xx at *
      have hmap : ∀ w1, Below (wr.alloc (.cells #[.int .i64 kind, .string name, .int .i64 num, .slice aa args.length ac] 63)).heap.size (wr.alloc (.cells #[.int .i64 kind, .string name, .int .i64 num, .slice aa args.length ac] 63)) w1 → ∀ o, (w1.alloc o).ownsMap Try.prog 157 (plainElem Try.prog 3) W.heap.size m D := fun w1 h1 o => by
        have h2 := hHL.out.map.alloc (.cells #[.int .i64 kind, .string name, .int .i64 num, .slice aa args.length ac] 63)
        exact (h2.kept (row := none) ⟨h1.os, h1.tape, h1.output, h1.size, fun k hk _ => h1.block k hk⟩ (by simp)).alloc o
      have hHm := hid hmap
      clear hmap hLb hb
      have hbel : Hid (∀ w1, Below (wr.alloc (.cells #[.int .i64 kind, .string name, .int .i64 num, .slice aa args.length ac] 63)).heap.size (wr.alloc (.cells #[.int .i64 kind, .string name, .int .i64 num, .slice aa args.length ac] 63)) w1 → Below wr.heap.size wr (w1.alloc (.cells #[.int .i64 kind, .int .i64 num, .int .i64 args.length, .int .i64 xx, .string name] 157))) := fun w1 h1 => (Below.next (below_alloc wr _) h1).alloc (by have := h1.size; simp at this; omega) _
      have hnewN : Hid (∀ w1 : World, ((w1.alloc (.cells #[.int .i64 kind, .int .i64 num, .int .i64 args.length, .int .i64 xx, .string name] 157)).alloc (.cells #[.int .i64 (m : Int)] 3)).heap[w1.heap.size + 1]? = some (.cells #[.int .i64 (m : Int)] 3)) := fun w1 => by
        have h := heap_alloc_new (w1.alloc (.cells #[.int .i64 kind, .int .i64 num, .int .i64 args.length, .int .i64 xx, .string name] 157)) (.cells #[.int .i64 (m : Int)] 3)
        have hss : (w1.alloc (.cells #[.int .i64 kind, .int .i64 num, .int .i64 args.length, .int .i64 xx, .string name] 157)).heap.size = w1.heap.size + 1 := by simp
        rw [hss] at h
        exact h
      by_cases hh : Maps.has D kl = true
      · obtain ⟨x, hatx, hxC, hLa'⟩ := hHL.out.la.old2 hkl' hh
        obtain ⟨mb, mc', hma⟩ := hHL.out.mb.form (by omega)
        injection hma with hma _ hmc
        subst hma hmc
        obtain ⟨k1, k1f⟩ := hHL.out.mb.cell hxC
        have hown := hHL.out.mb.own x hxC
        obtain ⟨va, vc, hva⟩ := own_sl hown
        have hmbs := (hHL.out.mb.top.lt mb rfl).2
        have hend := hid (fun w2 w5 gg cap o (h2 : Below wr.heap.size wr w2) => Lb.old (w2 := w2) (w5 := w5) (gg := gg) (cap := cap) (o := o) hHL.out h2 hxC hLa')
        have hfar := hid (fun w2 w5 o (h2 : Below wr.heap.size wr w2) => Mb.far (w := w2) (w2 := w5) (o := o) (hHL.out.mb.below h2) hxC)
        have hcell := hid (fun w2 (h2 : Below wr.heap.size wr w2) => Mb.cell (hHL.out.mb.below h2) hxC)
        have howB := hid (fun w2 (h2 : Below wr.heap.size wr w2) => (hHL.out.mb.below h2).own x hxC)
        rw [hva] at hend hfar hcell howB
        have hml := mF_len cl m x
        have hcx : Hid (∀ c : Int, D.atKey kl (.lit (.int .i64 0)) = .lit (.int .i64 c) → c = (x : Int)) := fun c hc => by
          rw [hatx] at hc
          simpa using hc.symm
        have hsz := hHL.out.sz
        have hvb := hid hva
        have hHa := hid hLa'
        have hHatx := hid hatx
        clear hva hatx hLa' hkl' k1 k1f hown
        generalize mF cl m x = FF at *
        have hxi : (x : Int) < (C : Int) := by omega
        go_wp2_with (first
          | (go_at_call 101; refine (hlab.out _).mono ?_; rintro e w1 ⟨rfl, hb1⟩; have hmp := hHm.out w1 hb1 (.cells #[.int .i64 kind, .int .i64 num, .int .i64 args.length, .int .i64 xx, .string name] 157); have hB2 := hbel.out w1 hb1; obtain ⟨k1, k1f⟩ := hcell.out _ hB2; have how := howB.out _ hB2; have hs1 := hb1.size; simp at hs1; have hmb1 : mb < w1.heap.size := (by omega); rw [World.cell?_alloc_past _ _ _ hmb1] at k1)
          | (at_lookup; refine wpList_lookup_own_ok_int _ rfl _ _ 155 rfl 157 3 .i64 labLaw Try.underlying155 Try.underlying3 (zeroInt _) W.heap.size m D rfl hmp _ kl rfl hkl ?_; intro c hat hwc; obtain rfl := hcx.out c hat; clear hmp)
          | (at_builtin; refine wpList_append_lies _ rfl _ _ _ rfl (W.heap.size + 1) 3 i0 (.int .i64 0) 1 8 Try.underlying27 hi hz0 hz1 hz2 rfl (by decide) _ FF.length ((ints FF).map (Value.int .i64)) rfl (how.alloc _) ⟨w1.heap.size + 1, 0, none⟩ 1 1 [.int .i64 (m : Int)] rfl rfl (World.news_of_block (cs := #[.int .i64 (m : Int)]) (t := 3) (fr := (0, 0)) (hnewN.out w1)) (by simp [Value.oneCell']) (by omega) (by unfold maxLen; omega) (by omega) (by simp; omega) (w1.heap.size + 1 + 1) (by simp) ?_; intro gg cap w5 hown5 hgr5 hat5 hlt5; obtain ⟨x1, x2⟩ := hfar.out _ w5 _ hB2 hgr5))
        go_roundw
        case rel => exact ⟨m + 1, C, some ⟨mb, 0, none⟩, mc, by omega, by omega, congrArg (Value.int .i64) (by omega), rfl, ⟨_, _, _, hend.out _ w5 gg cap _ hB2 hown5 hgr5 (hat5.elim Or.inl (fun h => Or.inr (by simpa using h)))⟩⟩
        case measure => simp [intOf]; omega
      · have hhf : Maps.has D kl = false := by simpa using hh
        have hend := hid (fun w2 w3 w4 w5 mb mc gg cap o o' (h2 : Below wr.heap.size wr w2) => Lb.new (w2 := w2) (w3 := w3) (w4 := w4) (w5 := w5) (mb := mb) (mc := mc) (gg := gg) (cap := cap) (o := o) (o' := o') hHL.out hkl' hhf h2)
        have htopB := hid (fun w3 (hk : ∀ k, Value.ownBlock (.slice ma C mc) = some k → w3.heap[k]? = wr.heap[k]?) => own_block (w' := w3) hHL.out.mb.top hk)
        have hlow := hid (fun k e => hHL.out.mb.top.lt k e)
        have hsz := hHL.out.sz
        clear hh hkl'
        go_wp2_with (first
          | (go_at_call 101; refine (hlab.out _).mono ?_; rintro e w1 ⟨rfl, hb1⟩; have hmp := hHm.out w1 hb1 (.cells #[.int .i64 kind, .int .i64 num, .int .i64 args.length, .int .i64 xx, .string name] 157); have hB2 := hbel.out w1 hb1; have hs1 := hb1.size; simp at hs1)
          | (at_lookup; refine wpList_lookup_own_ok_int _ rfl _ _ 155 rfl 157 3 .i64 labLaw Try.underlying155 Try.underlying3 (zeroInt _) W.heap.size m D rfl hmp _ kl rfl hkl ?_; intro c hat hwc)
          | (at_mapUpdate; refine wpList_mapUpdate_own _ rfl _ _ _ 155 rfl 157 3 labLaw Try.underlying155 _ W.heap.size m D rfl hmp (by unfold maxLen; omega) _ _ kl rfl rfl hkl _ [] (plainElem_int Try.underlying3 (WalkArith.wf_i64 (by omega))) ?_; intro w3 hmp3 hgr3; clear hmp; have htop3 := htopB.out w3 (fun k e => (hgr3.block k (by have := (hlow.out k e).2; simp; omega) (fun e' => by have := (hlow.out k e).1; have e2 : k = W.heap.size := (by injection e'); omega)).trans (hB2.block k (hlow.out k e).2)); have hs3 := hgr3.size; simp at hs3)
          | (at_builtin; refine wpList_append_lies _ rfl _ _ _ rfl (W.heap.size + 1) 27 i1 (.slice none 0 0) 1 24 Try.underlying60 hi1 hy0 hy1 hy2 rfl (by decide) _ C ((List.range C).map vs) rfl (htop3.alloc _) ⟨w3.heap.size, 0, none⟩ 1 1 [.slice none 0 0] rfl rfl (World.news_of_block (cs := #[.slice none 0 0]) (t := 27) (fr := (0, 0)) (heap_alloc_new w3 _)) (by simp [Value.oneCell']) (by omega) (by unfold maxLen; omega) (by omega) (by simp; omega) (w3.heap.size + 1) (by simp) ?_; intro mb mcap w4 hown4 hgr4 hat4 hlt4; obtain ⟨k1, k1f, hmb4⟩ := own_last (by simp) hown4; have hs4 := hgr4.size; simp at hs4)
          | (at_builtin; refine wpList_append_lies _ rfl _ _ _ rfl (W.heap.size + 1) 3 i0 (.int .i64 0) 1 8 Try.underlying27 hi hz0 hz1 hz2 rfl (by decide) _ 0 [] rfl (World.ownsRow_nil _ _ _ _) ⟨w4.heap.size, 0, none⟩ 1 1 [.int .i64 (m : Int)] rfl rfl (World.news_of_block (cs := #[.int .i64 (m : Int)]) (t := 3) (fr := (0, 0)) (heap_alloc_new w4 _)) (by simp [Value.oneCell']) (by omega) (by unfold maxLen; omega) (by omega) (by simp; omega) (w4.heap.size + 1) (by simp) ?_; intro gg cap w5 hown5 hgr5 hat5 hlt5; obtain ⟨x1, x2⟩ := far_none hmb4 k1 k1f hgr5))
        go_roundw
        case rel => exact ⟨m + 1, C + 1, some ⟨mb, 0, none⟩, mcap, by omega, by omega, congrArg (Value.int .i64) (by omega), rfl, ⟨_, _, _, hend.out _ w3 w4 w5 mb mcap gg cap _ _ hB2 hmp3 hgr3 hown4 hgr4 hown5 hgr5 (hat5.elim (fun h => by cases h) (fun h => by simpa using h))⟩⟩
        case measure => simp [intOf]; omega
    · obtain rfl : m = N := by omega
      obtain ⟨cl, D, vs, hLb⟩ := hlb.out
      have hHL := hid hLb
      have hmk := make_ints m (by omega)
      clear hlb hLb hNc hke
      go_wp2
      go_cut [10] from 53 (fun p wc => ∃ pb b1 b2, p = .pointer (some ⟨pb, 0, none⟩) ∧ Hid (Pt wc wr.heap.size pb (.slice none 0 0) (.slice (some ⟨b1, 0, none⟩) m m) (.slice (some ⟨b2, 0, none⟩) m m) (.slice none 0 0) (.slice none 0 0) (.slice none 0 0) (catR cl m 0) ∧ Below wr.heap.size wr wc))
      case first =>
        go_big_region
        all_goals go_wp2_with fail
        all_goals go_meet
        · exact ⟨_, _, _, rfl, made3 cl (by omega) (Or.inl ⟨rfl, rfl⟩)⟩
        · exact ⟨_, _, _, rfl, made3 cl (by omega) (Or.inr ⟨rfl, rfl⟩)⟩
      case rest =>
        obtain ⟨pb, b1, b2, rfl, hPc⟩ := hcut
        obtain ⟨w0, hw0⟩ : ∃ w0, wr = w0 := ⟨_, rfl⟩
        rw [hw0] at hHL hPc
        clear hmk hw0
        go_wp2
        go_loopw [63] (fun i w2 => ∃ c : Nat, c ≤ C ∧ i = .int .i64 c ∧ Hid (Below w0.heap.size w0 w2 ∧ ∃ v0 v3 v4 v5, Pt w2 w0.heap.size pb v0 (.slice (some ⟨b1, 0, none⟩) m m) (.slice (some ⟨b2, 0, none⟩) m m) v3 v4 v5 (catR cl m c))) (fun i _ => C - (intOf i).toNat)
        case atStart => exact ⟨0, Nat.zero_le _, rfl, ⟨hPc.out.2, _, _, _, _, hPc.out.1⟩⟩
        case round =>
          clear hPc
          obtain ⟨c, hc, rfl, hst⟩ := hrel
          by_cases hltc : c < C
          · obtain ⟨hb2, v0, v3, v4, v5, hPt⟩ := hst.out
            obtain ⟨mb, mc', hma⟩ := hHL.out.mb.form (by omega)
            injection hma with hma _ hmc
            subst hma hmc
            have hM := hHL.out.mb.below hb2
            obtain ⟨k1, _⟩ := hM.cell hltc
            have hown := hM.own c hltc
            have hpos : 0 < (mF cl m c).length := by
              obtain ⟨n, hn, e⟩ := hHL.out.la.sur c hltc
              exact List.length_pos_of_mem (mF_mem.2 ⟨hn, e⟩)
            obtain ⟨lb, lc, hlv, _⟩ := (own_form hown).resolve_left (fun h => by omega)
            rw [hlv] at k1 hown
            have hnews := hown.cells (g := lb) rfl
            have hlt' := hHL.out.la.lt
            have hcl : (catF cl m (c + 1)).length ≤ m := fewer (catF_nodup cl m _) (fun n h => (catF_mem.1 h).1)
            have hcs : (catF cl m (c + 1)).length = (catF cl m c).length + (mF cl m c).length := by rw [catF_succ, List.length_append]
            have hsum : (catF cl m c).length + (mF cl m c).length ≤ m := by omega
            have he0 : (catR cl m c 0).length = (catF cl m c).length := ints_len _
            obtain ⟨⟨a0, c0, hv0⟩, _, _, ⟨a3, c3, hv3⟩, ⟨a4, c4, hv4⟩, ⟨a5, c5, hv5⟩⟩ := hPt.sl
            rw [he0] at hv0
            have ho0 := hPt.fm.own 0 (by simp)
            rw [he0] at ho0
            have ho0' : wr.ownsRow w0.heap.size 3 1 v0 (catF cl m c).length ((ints (catF cl m c)).map (Value.int .i64)) := ho0
            rw [hv0] at ho0'
            obtain ⟨⟨z0, _⟩, y0, _⟩ := blk6 hPt.blk
            rw [hv0] at z0
            have hgrw : Hid (∀ w3 gg cap, w3.ownsRow w0.heap.size 3 1 (.slice (some ⟨gg, 0, none⟩) ((catF cl m c).length + (mF cl m c).length) cap) ((catF cl m c).length + (mF cl m c).length) ((ints (catF cl m c)).map (Value.int .i64) ++ (ints (mF cl m c)).map (Value.int .i64)) → wr.grownBy w3 (Value.slice a0 (catF cl m c).length c0).ownBlock → ((Value.slice a0 (catF cl m c).length c0).ownBlock = some gg ∨ gg = wr.heap.size) →
                w3.heap[pb]? = some (.cells #[v0, .slice (some ⟨b1, 0, none⟩) m m, .slice (some ⟨b2, 0, none⟩) m m, v3, v4, v5] 126 (0, 0)) ∧ Pt (w3.setCell ⟨pb, 0, none⟩ (.slice (some ⟨gg, 0, none⟩) ((catF cl m c).length + (mF cl m c).length) cap)) w0.heap.size pb (.slice (some ⟨gg, 0, none⟩) ((catF cl m c).length + (mF cl m c).length) cap) (.slice (some ⟨b1, 0, none⟩) m m) (.slice (some ⟨b2, 0, none⟩) m m) v3 v4 v5 (upd (catR cl m c) 0 (ints (catF cl m (c + 1)))) ∧ Below w0.heap.size w0 (w3.setCell ⟨pb, 0, none⟩ (.slice (some ⟨gg, 0, none⟩) ((catF cl m c).length + (mF cl m c).length) cap))) := fun w3 gg cap h1 h2 h3 => by
              have hll : (ints (catF cl m (c + 1))).length = (catF cl m c).length + (mF cl m c).length := by rw [ints_len, hcs]
              have h4 := hPt.grow0 (w2 := w3) (g := gg) (cap := cap) (l := ints (catF cl m (c + 1))) (by rw [hll, catF_succ, ints_app, List.map_append]; exact h1) (by rw [hv0]; exact h2) (by rw [hv0]; exact h3)
              rw [hll] at h4
              refine ⟨h4.1, h4.2, ?_⟩
              exact (hb2.grown h2 hb2.size (fun q e => by
                have := hPt.fm.lt q (mem_blocks (i := 0) (by simp) (by show v0.ownBlock = some q; rw [hv0]; exact e))
                exact this.1)).setCell hPt.ge _
            have hbs2 := hb2.size
            have hHP := hid hPt
            have hHv0 := hid hv0
            have hHlv := hid hlv
            have hHl := hid hlt'
            clear hst hPt ho0 he0 hv0 hlv hlt' hM hown hcs hb2
            go_wp2_with (first
              | (at_builtin; refine wpList_append_lies _ rfl _ _ _ rfl w0.heap.size 3 i0 (.int .i64 0) 1 8 Try.underlying27 hi hz0 hz1 hz2 rfl (by decide) _ (catF cl m c).length ((ints (catF cl m c)).map (Value.int .i64)) rfl ho0' ⟨lb, 0, none⟩ (mF cl m c).length lc ((ints (mF cl m c)).map (Value.int .i64)) rfl (by simp [ints]) hnews (by simp [Value.oneCell', ints]) hpos (by unfold maxLen; omega) (by omega) hbs2 wr.heap.size rfl ?_; intro gg cap w3 hown3 hgr3 hat3 hlt3; obtain ⟨hb3, hP3, hB3⟩ := hgrw.out w3 gg cap hown3 hgr3 hat3; obtain ⟨⟨x0, _⟩, x0f, _⟩ := blk6 hb3))
            generalize w3.setCell ⟨pb, 0, none⟩ (.slice (some ⟨gg, 0, none⟩) ((catF cl m c).length + (mF cl m c).length) cap) = w4 at *
            obtain ⟨⟨x0, _⟩, x0f, _⟩ := blk6 hP3.blk
            have hlens : ∀ i, (upd (catR cl m c) 0 (ints (catF cl m (c + 1))) i).length ≤ 4500 := fun i => by
              have h1 := fewer (catF_nodup cl m c) (fun n h => (catF_mem.1 h).1)
              unfold upd catR
              split
              · rw [ints_len]
                omega
              · repeat (split; (first | (rw [ints_len]; omega) | (rw [rowF_len]; omega)))
                rw [rowF_len]
                omega
            have hrng : ∀ x ∈ upd (catR cl m c) 0 (ints (catF cl m (c + 1))) 0, 0 ≤ x ∧ x < ((upd (catR cl m c) 0 (ints (catF cl m (c + 1))) 2).length : Int) := fun x hx => by
              have hx' : x ∈ ints (catF cl m (c + 1)) := hx
              obtain ⟨n, hn, rfl⟩ := List.mem_map.1 hx'
              have h1 := (catF_mem.1 hn).1
              have h2 : (upd (catR cl m c) 0 (ints (catF cl m (c + 1))) 2).length = m := rowF_len _ _
              rw [h2]
              omega
            have hcb := hid (show (catF cl m c).length + (mF cl m c).length = (catF cl m (c + 1)).length by rw [catF_succ, List.length_append])
            have hent := hid (fun x y (hx : x = ((catF cl m c).length : Int)) (hy : y = (((catF cl m c).length + (mF cl m c).length : Nat) : Int)) => enter_z (a := (catF cl m c).length) (b := (catF cl m c).length + (mF cl m c).length) hP3.drew (by omega) (by show _ ≤ (ints (catF cl m (c + 1))).length; rw [ints_len, hcb.out]; exact Nat.le_refl _) hlens hrng hB3.size hx hy)
            have hHP3 := hid hP3
            have hHB3 := hid hB3
            have hwr : IntKind.i64.wrap (((catF cl m c).length : Nat) : Int) = ((catF cl m c).length : Int) := by rw [IntKind.wrap_i64]; omega
            clear hlens hrng hP3 hB3 hcl
            go_region_law (first
              | (go_simp; go_at_call 102; refine (hent.out _ _ (by omega) (by omega)).mono ?_; rintro e w5 ⟨rfl, u3, u4, u5, hP5, hC5, hk5⟩))
            all_goals go_wp2
            all_goals
              go_roundw
              case rel => exact ⟨c + 1, by omega, congrArg (Value.int .i64) (by omega), ⟨Ch.below hHB3.out.drew hC5 (fun k hk => by
                rcases List.mem_cons.1 hk with h1 | h1
                · rw [h1]
                  exact hHP3.out.ge
                · exact (hHP3.out.fm.lt k h1).1), _, u3, u4, u5, hP5.congr (catR_step2 cl m c _ hcb.out)⟩⟩
              case measure => simp [intOf]; omega
          · obtain rfl : c = C := by omega
            obtain ⟨hb2, v0, v3, v4, v5, hPt⟩ := hst.out
            have hlt' := hHL.out.la.lt
            have hlen := catF_len hlt'
            have hnd := hid (catF_nodup cl m c)
            have hLr : Hid (∀ k, k < m → (catF cl m c).getD k 0 < m) := fun k hk => (catF_mem.1 (nget_mem (by omega))).1
            have he0 : (catR cl m c 0).length = m := (ints_len _).trans hlen
            obtain ⟨⟨a0, c0, hv0⟩, _⟩ := hPt.sl
            rw [he0] at hv0
            obtain ⟨⟨z0, _⟩, _⟩ := blk6 hPt.blk
            rw [hv0] at z0
            have hst0 : Hid (Below w0.heap.size w0 wr ∧ Pt wr w0.heap.size pb v0 (.slice (some ⟨b1, 0, none⟩) m m) (.slice (some ⟨b2, 0, none⟩) m m) v3 v4 v5 (upd (catR cl m c) 1 (rowF m (plK (catF cl m c) 0)))) := ⟨hb2, hPt.congr (six rfl (rowF_congr (fun n _ => by simp [plK])) rfl rfl rfl rfl)⟩
            have hHv0 := hid hv0
            have hHl := hid hlt'
            have hHlen := hid hlen
            clear hst hPt hv0 hlt' hb2 he0
            go_wp2
            go_loopw [97] (fun i wx => ∃ k : Nat, k ≤ m ∧ i = .int .i64 k ∧ Hid (Below w0.heap.size w0 wx ∧ Pt wx w0.heap.size pb v0 (.slice (some ⟨b1, 0, none⟩) m m) (.slice (some ⟨b2, 0, none⟩) m m) v3 v4 v5 (upd (catR cl m c) 1 (rowF m (plK (catF cl m c) k))))) (fun i _ => m - (intOf i).toNat)
            case atStart => exact ⟨0, Nat.zero_le _, rfl, hst0⟩
            case round =>
              clear hst0 z0
              obtain ⟨k, hk, rfl, hst⟩ := hrel
              obtain ⟨hb2, hPt⟩ := hst.out
              by_cases hltk : k < m
              · have hn := hLr.out k hltk
                obtain ⟨q0, c0', hq0⟩ : ∃ q c, v0 = .slice (some ⟨q, 0, none⟩) m c := by
                  have h1 := hPt.fm.own 0 (by simp)
                  have h2 : (upd (catR cl m c) 1 (rowF m (plK (catF cl m c) k)) 0).length = m := (ints_len _).trans hHlen.out
                  rw [h2] at h1
                  obtain ⟨q, c', h, _⟩ := (own_form h1).resolve_left (fun h => by omega)
                  exact ⟨q, c', h⟩
                have ea : a0 = some ⟨q0, 0, none⟩ ∧ c0 = c0' := by
                  have := hHv0.out
                  rw [hq0] at this
                  injection this with e1 _ e3
                  exact ⟨e1.symm, e3.symm⟩
                obtain ⟨rfl, rfl⟩ := ea
                have k0 := (hPt.fm.cellN (i := 0) (j := k) (by simp) hq0 ((ints_len _).trans hHlen.out) hltk).1
                have g0 : (upd (catR cl m c) 1 (rowF m (plK (catF cl m c) k)) 0).getD k 0 = (((catF cl m c).getD k 0 : Nat) : Int) := ints_get (by rw [hHlen.out]; exact hltk)
                rw [g0] at k0
                obtain ⟨⟨_, z1, _⟩, _⟩ := blk6 hPt.blk
                obtain ⟨k1, k1f⟩ := hPt.fm.cellN (i := 1) (j := (catF cl m c).getD k 0) (by simp) rfl (rowF_len _ _) hn
                have hend := hid ((hPt.set1 (t := (catF cl m c).getD k 0) (rowF_len _ _) (k : Int)).congr (f' := upd (catR cl m c) 1 (rowF m (plK (catF cl m c) (k + 1)))) (six rfl (by
                  show (rowF m _).set _ _ = rowF m _
                  rw [rowF_set, plK_step hnd.out (by rw [hHlen.out]; exact hltk)]) rfl rfl rfl rfl))
                have hbe := hid (hb2.setCell (p := ⟨b1, (catF cl m c).getD k 0, none⟩) (by
                  have := hPt.fm.lt b1 (mem_blocks (i := 1) (by simp) rfl)
                  exact this.1) (.int .i64 (k : Int)))
                generalize (upd (catR cl m c) 1 (rowF m (plK (catF cl m c) k)) 1).getD ((catF cl m c).getD k 0) 0 = yy at k1
                have hni : (((catF cl m c).getD k 0 : Nat) : Int) < (m : Int) := by omega
                clear hst hPt hb2 g0
                generalize (catF cl m c).getD k 0 = n at *
                go_wp2
                go_roundw
                case rel => exact ⟨k + 1, by omega, congrArg (Value.int .i64) (by omega), ⟨hbe.out, hend.out⟩⟩
                case measure => simp [intOf]; omega
              · obtain rfl : k = m := by omega
                have hHP := hid hPt
                have hHb := hid hb2
                clear hst hPt hb2
                go_wp2
                go_ret
                refine ⟨⟨pb, v0, _, _, v3, v4, v5, catS cl k c, rfl, (hHP.out.congr (catR_last hHl.out)).base hHL.out.b.size, catS_iv hHl.out hHL.out.la.sur, fun _ _ => rfl, fun x y hx hy => hHL.out.la.same x y hx hy⟩, ?_⟩
                exact Below.next hHL.out.b hHb.out
end Go.Proofs.Ytjkcffcedbcjmaa

namespace Go.Proofs.Ytjkcffcedbcjmaa
set_option maxRecDepth 100000
open Go.RowKit
theorem Pd.rf {g : Gf} (hg : Good g) {S S' : Ps} {D d : Nat} {F : List (Int → Prop)} {T : Int → Prop} {ms : List Nat} (h : Rf g (fun x => S.cl x.toNat) S.C D F T d) (hD : D ≤ S.C) (hT : ∀ n, n < g.nodes.length → (T (n : Int) ↔ n ∈ ms)) (hms : ∀ m ∈ ms, m < g.nodes.length)
    (k : Pd g.nodes.length S S' (ms.flatMap (fun a : Nat => usrF g.nodes d (a : Int) g.nodes.length))) : Rf g (fun x => S'.cl x.toNat) S'.C D F T (d + 1) := by
  have hN : ∀ x : Int, isN g x → x.toNat < g.nodes.length ∧ ((x.toNat : Nat) : Int) = x := fun x hx => ⟨by have := hx.1; have := hx.2; omega, by have := hx.1; omega⟩
  have hL : ∀ x : Int, isN g x → (x.toNat ∈ ms.flatMap (fun a : Nat => usrF g.nodes d (a : Int) g.nodes.length) ↔ (d < (g.nd x).args.length ∧ T (g.arg x d))) := fun x hx => by
    obtain ⟨h1, h2⟩ := hN x hx
    rw [List.mem_flatMap]
    have hnd : g.nd x = g.nodes.getD x.toNat nd0 := rfl
    constructor
    · rintro ⟨a, ha, hm⟩
      obtain ⟨_, h3, h4⟩ := usrF_mem.1 hm
      refine ⟨by rw [hnd]; exact h3, ?_⟩
      unfold Gf.arg
      rw [hnd, h4]
      exact (hT a (hms a ha)).2 ha
    · rintro ⟨h3, h4⟩
      have h5 := arg_isN hg hx h3
      obtain ⟨h6, h7⟩ := hN _ h5
      refine ⟨(g.arg x d).toNat, (hT _ h6).1 (by rw [h7]; exact h4), usrF_mem.2 ⟨h1, by rw [hnd] at h3; exact h3, ?_⟩⟩
      rw [h7]
      rfl
  refine h.split hD (fun x hx => k.iv.cls _ (hN x hx).1) (fun x hx => k.new _ (hN x hx).1) (fun x y hx hy e => k.fine _ _ (hN x hx).1 (hN y hy).1 e) (fun x y hx hy e => ?_)
  have := k.same _ _ (hN x hx).1 (hN y hy).1 e
  rw [hL x hx, hL y hy] at this
  exact this
theorem Rf.start8 {g : Gf} {cls : Int → Nat} {C : Nat} (hlt : ∀ x, isN g x → cls x < C) (hl : ∀ x y, isN g x → isN g y → (cls x = cls y ↔ labE g x y)) : Rf g cls C 0 [] (fun _ => True) 8 := by
  have h := Rf.start hlt hl
  exact ⟨h.lt, h.lab, h.al, h.old, fun _ _ _ _ _ _ _ _ => Iff.rfl, h.cl, h.sep⟩
def msF (S : Ps) (c : Nat) : List Nat := (List.range (S.be c - S.fi c)).map (fun j => S.nd (S.fi c + j))
theorem msF_len (S : Ps) (c : Nat) : (msF S c).length = S.be c - S.fi c := by simp [msF]
theorem msF_get {S : Ps} {c j : Nat} (h : j < S.be c - S.fi c) : (msF S c).getD j 0 = S.nd (S.fi c + j) := by simp [msF, List.getD, h]
theorem msF_mem {N : Nat} {S : Ps} (h : Iv N S) {c : Nat} (hc : c < S.C) {n : Nat} : n ∈ msF S c ↔ n < N ∧ S.cl n = c := by
  obtain ⟨h1, h2, _⟩ := h.rng c hc
  unfold msF
  rw [List.mem_map]
  constructor
  · rintro ⟨j, hj, rfl⟩
    have hj' := List.mem_range.1 hj
    have h3 := h.np (S.fi c + j) (by omega)
    refine ⟨h3.1, (h.mem _ c h3.1 hc).2 ?_⟩
    rw [h3.2]
    omega
  · rintro ⟨hn, e⟩
    have h3 := (h.mem n c hn hc).1 e
    refine ⟨S.pl n - S.fi c, List.mem_range.2 (by omega), ?_⟩
    have e2 : S.fi c + (S.pl n - S.fi c) = S.pl n := by omega
    rw [e2]
    exact (h.pn n hn).2
theorem msF_nodup {N : Nat} {S : Ps} (h : Iv N S) {c : Nat} (hc : c < S.C) : (msF S c).Nodup := by
  obtain ⟨h1, h2, _⟩ := h.rng c hc
  unfold msF
  rw [List.nodup_iff_pairwise_ne, List.pairwise_map]
  refine List.Pairwise.imp_of_mem (R := fun a b => a < b) ?_ List.pairwise_lt_range
  intro a b ha hb hab e
  have ha' := List.mem_range.1 ha
  have hb' := List.mem_range.1 hb
  have h3 := (h.np (S.fi c + a) (by omega)).2
  have h4 := (h.np (S.fi c + b) (by omega)).2
  rw [e] at h3
  omega
theorem users_nodup (l : List Nd) (k N : Nat) : ∀ ms : List Nat, ms.Nodup → (ms.flatMap (fun a : Nat => usrF l k (a : Int) N)).Nodup
  | [], _ => by simp
  | m :: r, h => by
    have h1 := List.nodup_cons.1 h
    rw [List.flatMap_cons]
    refine List.nodup_append.2 ⟨usrF_nodup l k m N, users_nodup l k N r h1.2, fun a ha b hb e => ?_⟩
    subst e
    obtain ⟨m', hm', hb'⟩ := List.mem_flatMap.1 hb
    have h2 := (usrF_mem.1 ha).2.2
    have h3 := (usrF_mem.1 hb').2.2
    have h4 : m = m' := by omega
    exact h1.1 (by rw [h4]; exact hm')
theorem users_lt {l : List Nd} {k N : Nat} {ms : List Nat} : ∀ n ∈ ms.flatMap (fun a : Nat => usrF l k (a : Int) N), n < N := fun n hn => by
  obtain ⟨_, _, h⟩ := List.mem_flatMap.1 hn
  exact (usrF_mem.1 h).1
theorem Ub.ru {w2 w' : World} {B ub N k : Nat} {b : Nat → Nat} {vs : Nat → Nat → Value} {F : Nat → Nat → List Nat} (h : Ub w2 B ub N b vs F) (hk : k < 8) (hreg : ∀ q, B ≤ q → q < w2.heap.size → w'.heap[q]? = w2.heap[q]?) : Ru w' (b k) N (vs k) (F k) ∧ w'.cell? ⟨ub, k, none⟩ = some (.slice (some ⟨b k, 0, none⟩) N N) := by
  have hr : w'.heap[b k]? = some (.cells (rowV N (vs k)) 27 (0, 0)) := by
    rw [hreg _ (h.ge.2 k hk) (lt_of_block (h.row k hk))]
    exact h.row k hk
  have ht : w'.heap[ub]? = some (.cells (rowV 8 (fun k => .slice (some ⟨b k, 0, none⟩) N N)) 60 (0, 0)) := by
    rw [hreg _ h.ge.1 (lt_of_block h.top)]
    exact h.top
  refine ⟨fun a ha => ⟨?_, ?_⟩, ?_⟩
  · rw [cell_of_row w' _ a _ _ _ hr]
    exact rowV_at _ ha
  · exact own_read (B := B) (ints_len _) (own_block (h.own k a hk ha) (fun q e => hreg q ((h.own k a hk ha).lt q e).1 ((h.own k a hk ha).lt q e).2))
  · rw [cell_of_row w' _ k _ _ _ ht]
    exact rowV_at _ hk
structure Rq (W w1 w2 wr : World) (pb N : Nat) (v0 v1 v2 v3 v4 v5 : Value) (S : Ps) : Prop where
  pt : Pt wr W.heap.size pb v0 v1 v2 v3 v4 v5 (S.rows N)
  iv : Iv N S
  mq0 : ∀ c, c < S.C → S.mq c = 0
  reg : ∀ q, w1.heap.size ≤ q → q < w2.heap.size → wr.heap[q]? = w2.heap[q]?
  far : ∀ k ∈ pb :: blocks [v0, v1, v2, v3, v4, v5], k < w1.heap.size ∨ w2.heap.size ≤ k
  sz : w2.heap.size ≤ wr.heap.size
  b : Below W.heap.size W wr
theorem Rq.below {W w1 w2 wr wr' : World} {pb N : Nat} {v0 v1 v2 v3 v4 v5 : Value} {S : Ps} (h : Rq W w1 w2 wr pb N v0 v1 v2 v3 v4 v5 S) (hb : Below wr.heap.size wr wr') : Rq W w1 w2 wr' pb N v0 v1 v2 v3 v4 v5 S :=
  ⟨h.pt.below hb, h.iv, h.mq0, fun q h1 h2 => (hb.block q (by have := h.sz; omega)).trans (h.reg q h1 h2), h.far, Nat.le_trans h.sz hb.size, Below.next h.b hb⟩
theorem Ch.reg {w w' : World} {K : List Nat} {a b : Nat} (h : Ch K w w') (hK : ∀ k ∈ K, k < a ∨ b ≤ k) (hb : b ≤ w.heap.size) : ∀ q, a ≤ q → q < b → w'.heap[q]? = w.heap[q]? := fun q h1 h2 => h.far q (by omega) (fun hm => by
  have := hK q hm
  omega)
theorem away_six {pb a b H : Nat} {v0 v1 v2 v3 v4 v5 u3 u4 u5 : Value} (h : ∀ k ∈ pb :: blocks [v0, v1, v2, v3, v4, v5], k < a ∨ b ≤ k) (hH : b ≤ H) (hk : ∀ k ∈ blocks [u3, u4, u5], k ∈ blocks [v0, v1, v2, v3, v4, v5] ∨ H ≤ k) : ∀ k ∈ pb :: blocks [v0, v1, v2, u3, u4, u5], k < a ∨ b ≤ k := fun k hm => by
  rcases List.mem_cons.1 hm with h1 | h1
  · exact h k (by rw [h1]; simp)
  · refine blocks_six (v3 := v3) (v4 := v4) (v5 := v5) (P := fun k => k < a ∨ b ≤ k) h1 (fun k h2 => h k (List.mem_cons_of_mem _ h2)) (fun k h2 => ?_)
    rcases hk k h2 with h3 | h3
    · exact h k (List.mem_cons_of_mem _ h3)
    · exact Or.inr (by omega)
theorem Rq.next {W w1 w2 wr wr' : World} {pb N : Nat} {v0 v1 v2 v3 v4 v5 u3 u4 u5 : Value} {S S' : Ps} {L : List Nat} (h : Rq W w1 w2 wr pb N v0 v1 v2 v3 v4 v5 S) (hP : Pt wr' W.heap.size pb v0 v1 v2 u3 u4 u5 (S'.rows N)) (hd : Pd N S S' L) (hC : Ch (pb :: blocks [v0, v1, v2, v3, v4, v5]) wr wr') (hk : ∀ k ∈ blocks [u3, u4, u5], k ∈ blocks [v0, v1, v2, v3, v4, v5] ∨ wr.heap.size ≤ k) : Rq W w1 w2 wr' pb N v0 v1 v2 u3 u4 u5 S' :=
  ⟨hP, hd.iv, hd.mk0, fun q h1 h2 => (hC.reg h.far h.sz q h1 h2).trans (h.reg q h1 h2), away_six h.far h.sz hk, Nat.le_trans h.sz hC.size, Ch.below h.b hC (fun k hk' => by
    rcases List.mem_cons.1 hk' with h1 | h1
    · rw [h1]
      exact h.pt.ge
    · exact (h.pt.fm.lt k h1).1)⟩
end Go.Proofs.Ytjkcffcedbcjmaa

namespace Go.Proofs.Ytjkcffcedbcjmaa
set_option maxRecDepth 100000
open Go.RowKit
def Ro (W w1 w2 wr : World) (g : Gf) (pb : Nat) (v0 v1 v2 : Value) (c d : Nat) (T : Int → Prop) : Prop :=
  ∃ v3 v4 v5 S F, Rq W w1 w2 wr pb g.nodes.length v0 v1 v2 v3 v4 v5 S ∧ c ≤ S.C ∧ Rf g (fun x => S.cl x.toNat) S.C c F T d
theorem Pd.rf2 {g : Gf} (hg : Good g) {N : Nat} (hNN : g.nodes.length = N) {S S' : Ps} {D d : Nat} {F : List (Int → Prop)} {T : Int → Prop} {ms : List Nat} (h : Rf g (fun x => S.cl x.toNat) S.C D F T d) (hD : D ≤ S.C) (hT : ∀ n, n < N → (T (n : Int) ↔ n ∈ ms)) (hms : ∀ m ∈ ms, m < N)
    (k : Pd N S S' (ms.flatMap (fun a : Nat => usrF g.nodes d (a : Int) N))) : Rf g (fun x => S'.cl x.toNat) S'.C D F T (d + 1) := by
  subst hNN
  exact k.rf hg h hD hT hms
def Rk (W w1 w2 w0 w3 wr : World) (g : Gf) (pb N : Nat) (v0 v1 v2 : Value) (c k : Nat) (F : List (Int → Prop)) (T : Int → Prop) : Prop :=
  ∃ v3 v4 v5 S, Rq W w1 w2 wr pb N v0 v1 v2 v3 v4 v5 S ∧ c + 1 ≤ S.C ∧ Rf g (fun x => S.cl x.toNat) S.C (c + 1) F T k ∧ (∀ q ∈ pb :: blocks [v0, v1, v2, v3, v4, v5], q < w0.heap.size ∨ w3.heap.size ≤ q) ∧ (∀ q, w0.heap.size ≤ q → q < w3.heap.size → wr.heap[q]? = w3.heap[q]?) ∧ w3.heap.size ≤ wr.heap.size
set_option maxHeartbeats 4000000 in
theorem refined_any {W : World} {nv : Value} {g : Gf} (hn : Rn W nv g.nodes) (hg : Good g) (hS : Sized g) :
    Calls Try.prog 67 #[nv] W fun e w' => (∃ pb v0 v1 v2 v3 v4 v5 S, e = .returned (.pointer (some ⟨pb, 0, none⟩)) ∧ Pt w' W.heap.size pb v0 v1 v2 v3 v4 v5 (S.rows g.nodes.length) ∧ Iv g.nodes.length S ∧ ∀ x y, isN g x → isN g y → (S.cl x.toNat = S.cl y.toNat ↔ Al g x y)) ∧ Below W.heap.size W w' := by
  have hnl := hg.nodes
  have hl1 := labelled_any hn hg hS
  have hu1 := hid (fun w1 (hb : Below W.heap.size W w1) => users_any (hn.below hb) hg)
  have hd8 : Hid (∀ x, isN g x → (g.nd x).args.length ≤ 8) := fun x hx => (hg.args hx.1 hx.2).2
  have hHg := hid hg
  generalize hNN : g.nodes.length = N at *
  go_enter Try.func67, Try.ntmps67
  go_wp2_with (first
    | (go_at_call 88; refine hl1.mono ?_; rintro e w1 ⟨⟨pb, v0, v1, v2, v3, v4, v5, S0, rfl, hP0, hI0, hm0, hlv⟩, hb1⟩)
    | (go_at_call 89; refine (hu1.out w1 hb1).mono ?_; rintro e w2 ⟨⟨vs, rfl, hUb⟩, hb2⟩))
  have hst : Hid (Ro W w1 w2 w2 g pb v0 v1 v2 0 8 (fun _ => True)) := by
    refine ⟨v3, v4, v5, S0, [], ⟨by rw [hNN]; exact hP0.below hb2, by rw [hNN]; exact hI0, hm0, fun _ _ _ => rfl, fun k hk => Or.inl (hP0.lt k hk), Nat.le_refl _, Below.next hb1 hb2⟩, Nat.zero_le _, Rf.start8 (fun x hx => hI0.cls _ (by have := hx.1; have := hx.2; omega)) (fun x y hx hy => ?_)⟩
    have h1 := hx.1
    have h2 := hx.2
    have h3 := hy.1
    have h4 := hy.2
    rw [hlv _ _ (by omega) (by omega), lv_iff]
    have e1 : ((x.toNat : Nat) : Int) = x := by omega
    have e2 : ((y.toNat : Nat) : Int) = y := by omega
    rw [e1, e2]
  have hHU := hid hUb
  have hb12 := hb2.size
  clear hl1 hu1 hP0 hI0 hm0 hlv hUb hb1 hb2
  go_loopw [5] (fun i wr => ∃ c : Nat, i = .int .i64 c ∧ c ≤ N ∧ Hid (∃ T, Ro W w1 w2 wr g pb v0 v1 v2 c 8 T)) (fun i _ => N - (intOf i).toNat)
  case atStart => exact ⟨0, rfl, Nat.zero_le _, ⟨_, hst.out⟩⟩
  case round =>
    clear hst
    obtain ⟨c, rfl, hcN, hRo⟩ := hrel
    obtain ⟨T, v3, v4, v5, S, F, hRq, hcS, hRf⟩ := hRo.out
    rw [hNN] at hRq
    have hCN := hRq.iv.le
    have e0 : (S.rows N 0).length = N := rowF_len _ _
    have e3 : (S.rows N 3).length = S.C := rowF_len _ _
    have e4 : (S.rows N 4).length = S.C := rowF_len _ _
    have z3 := (blk6 hRq.pt.blk).1.2.2.2.1
    by_cases hlt : c < S.C
    · obtain ⟨hf1, hf2, _⟩ := hRq.iv.rng c hlt
      obtain ⟨q0, c0, hv0, _⟩ := (own_form (hRq.pt.fm.own 0 (by simp))).resolve_left (fun h => by omega)
      obtain ⟨q3, c3, hv3, _⟩ := (own_form (hRq.pt.fm.own 3 (by simp))).resolve_left (fun h => by omega)
      obtain ⟨q4, c4, hv4, _⟩ := (own_form (hRq.pt.fm.own 4 (by simp))).resolve_left (fun h => by omega)
      have hv0' : v0 = .slice (some ⟨q0, 0, none⟩) N c0 := by
        rw [e0] at hv0
        exact hv0
      have hv3' : v3 = .slice (some ⟨q3, 0, none⟩) S.C c3 := by
        rw [e3] at hv3
        exact hv3
      have hv4' : v4 = .slice (some ⟨q4, 0, none⟩) S.C c4 := by
        rw [e4] at hv4
        exact hv4
      have hcap : N ≤ c0 := by
        have h1 := hRq.pt.fm.own 0 (by simp)
        rw [e0] at h1
        have h2 : wr.ownsRow W.heap.size 3 1 v0 N ((S.rows N 0).map (Value.int .i64)) := h1
        rw [hv0'] at h2
        exact own_cap7 h2
      have z0 := (blk6 hRq.pt.blk).1.1
      have z4 := (blk6 hRq.pt.blk).1.2.2.2.2.1
      have k3 := (hRq.pt.fm.cellN (i := 3) (j := c) (by simp) hv3' e3 hlt).1
      have k4 := (hRq.pt.fm.cellN (i := 4) (j := c) (by simp) hv4' e4 hlt).1
      have g3 : (S.rows N 3).getD c 0 = (S.fi c : Int) := rowF_get _ hlt
      have g4 : (S.rows N 4).getD c 0 = (S.be c : Int) := rowF_get _ hlt
      rw [g3] at k3
      rw [g4] at k4
      rw [hv0'] at z0
      rw [hv3'] at z3
      rw [hv4'] at z4
      have hmc : ∀ j, j < (ints (msF S c)).length → wr.cell? ⟨q0, S.fi c + j, none⟩ = some (.int .i64 ((ints (msF S c)).getD j 0)) := fun j hj => by
        rw [ints_len] at hj
        rw [ints_get hj]
        rw [msF_len] at hj
        rw [msF_get hj, (hRq.pt.fm.cellN (i := 0) (j := S.fi c + j) (by simp) hv0' e0 (by omega)).1]
        have g0 : (S.rows N 0).getD (S.fi c + j) 0 = (S.nd (S.fi c + j) : Int) := rowF_get _ (by omega)
        rw [g0]
      have hml : (ints (msF S c)).length = S.be c - S.fi c := by rw [ints_len, msF_len]
      have hclo := hid (fun cc => iclone_any (w := wr.drew) (c := cc) hmc (by rw [hml]; omega))
      rw [hml] at hclo
      have hne : ¬ c0 = S.fi c := by omega
      have hne2 : S.fi c < c0 := by omega
      have hHR := hid hRq
      have hHF := hid hRf
      have hi1 : (c : Int) < (S.C : Int) := by omega
      have hi2 : S.be c ≤ c0 := by omega
      have hi3 : S.fi c ≤ S.be c := by omega
      clear hRo hRq hRf hv0 hv3 hv4 hv0' hv3' hv4' g3 g4 e0 e3 e4 hmc hml
      generalize hfi : S.fi c = fi at *
      generalize hbe : S.be c = be at *
      go_wp2
      go_cut [6] from 22 to 52 (fun mv wc => Hid (wc.ownsRow wr.heap.size 3 1 mv (be - fi) ((ints (msF S c)).map (Value.int .i64)) ∧ Below wr.heap.size wr wc))
      case first =>
        go_region_law (first
          | (go_simp; go_at_call 90; refine (hclo.out _).mono ?_; rintro e w3 ⟨mv, rfl, hmo, hb3⟩))
        all_goals go_wp2_with fail
        all_goals go_meet
        all_goals exact ⟨hmo, undr1 hb3⟩
      case rest =>
        obtain ⟨hmo', hb3'⟩ := hcut.out
        obtain ⟨w0, hw0⟩ : ∃ w0, wr = w0 := ⟨_, rfl⟩
        rw [hw0] at hHR hb3' hmo'
        have hk0 : Hid (Rk W w1 w2 w0 wc wc g pb N v0 v1 v2 c 0 (F ++ [T]) (fun x => S.cl x.toNat = c)) := by
          refine ⟨v3, v4, v5, S, hHR.out.below hb3', hlt, hHF.out.next hd8.out, fun q hq => Or.inl (hHR.out.pt.lt q hq), fun _ _ _ => rfl, Nat.le_refl _⟩
        have hmem := hid (fun n => msF_mem hHR.out.iv hlt (n := n))
        have hnod := hid (msF_nodup hHR.out.iv hlt)
        have hlen : Hid ((msF S c).length ≤ 4500) := fewer (C := 4500) hnod.out (fun n hn => by
          have := (hmem.out n).1 hn
          omega)
        have hml2 : Hid ((ints (msF S c)).length = be - fi) := by
          show _ = _
          rw [ints_len, msF_len, hfi, hbe]
        have hHmo := hid hmo'
        clear hb3' hmo' hw0 hHR hHF hclo z0 z3 z4 k3 k4 hcut
        go_wp2
        go_loopw [44] (fun i wr => ∃ k : Nat, k ≤ 8 ∧ i = .int .i64 k ∧ Hid (Rk W w1 w2 w0 wc wr g pb N v0 v1 v2 c k (F ++ [T]) (fun x => S.cl x.toNat = c))) (fun i _ => 8 - (intOf i).toNat)
        case atStart => exact ⟨0, by omega, rfl, hk0⟩
        case round =>
          clear hk0
          obtain ⟨k, hk, rfl, hRk⟩ := hrel
          by_cases hltk : k < 8
          · obtain ⟨x3, x4, x5, S1, hRq, hcS1, hRf, hfar2, hreg2, hsz2⟩ := hRk.out
            obtain ⟨hru, d1⟩ := hHU.out.ru hltk hRq.reg
            have hcall := hid (part_any (F := fun a => usrF g.nodes k (a : Int) N) (V := vs k) (cu := N) (mv := u6) (ms := msF S c) hRq.pt hRq.iv hRq.mq0 (by omega) hRq.b.size (fun w' hC => own_read (B := w0.heap.size) hml2.out (own_block hHmo.out (fun q e => (hC.reg hfar2 hsz2 q (hHmo.out.lt q e).1 (hHmo.out.lt q e).2).trans (hreg2 q (hHmo.out.lt q e).1 (hHmo.out.lt q e).2)))) (fun w' hC => (hHU.out.ru hltk (fun q h1 h2 => (hC.reg hRq.far hRq.sz q h1 h2).trans (hRq.reg q h1 h2))).1) hlen.out (fun m hm => ((hmem.out m).1 hm).1) (users_nodup g.nodes k N _ hnod.out) users_lt)
            have hend : Hid (∀ w5 u3 u4 u5 S', Pt w5 W.heap.size pb v0 v1 v2 u3 u4 u5 (S'.rows N) → Pd N S1 S' ((msF S c).flatMap (fun a : Nat => usrF g.nodes k (a : Int) N)) → Ch (pb :: blocks [v0, v1, v2, x3, x4, x5]) wr w5 → (∀ q ∈ blocks [u3, u4, u5], q ∈ blocks [v0, v1, v2, x3, x4, x5] ∨ wr.heap.size ≤ q) → Rk W w1 w2 w0 wc w5 g pb N v0 v1 v2 c (k + 1) (F ++ [T]) (fun x => S.cl x.toNat = c)) := fun w5 u3 u4 u5 S' h1 h2 h3 h4 =>
              ⟨u3, u4, u5, S', hRq.next h1 h2 h3 h4, Nat.le_trans hcS1 h2.le, h2.rf2 hHg.out hNN hRf hcS1 (fun n hn => by
                show S.cl ((n : Int).toNat) = c ↔ _
                rw [Int.toNat_natCast, hmem.out n]
                exact ⟨fun e => ⟨hn, e⟩, fun e => e.2⟩) (fun m hm => ((hmem.out m).1 hm).1), away_six hfar2 hsz2 h4, fun q h5 h6 => (h3.reg hfar2 hsz2 q h5 h6).trans (hreg2 q h5 h6), Nat.le_trans hsz2 h3.size⟩
            have hki : (k : Int) < 8 := by omega
            clear hRk hRq hRf hfar2 hreg2 hsz2 hru
            go_wp2_with (go_at_call 91; refine hcall.out.mono ?_; rintro e w5 ⟨rfl, u3, u4, u5, S', hP5, hD5, hC5, hk5⟩)
            go_roundw
            case rel => exact ⟨k + 1, by omega, congrArg (Value.int .i64) (by omega), hend.out w5 u3 u4 u5 S' hP5 hD5 hC5 hk5⟩
            case measure => simp [intOf]; omega
          · obtain rfl : k = 8 := by omega
            have hout : Hid (c + 1 ≤ N ∧ ∃ T, Ro W w1 w2 wr g pb v0 v1 v2 (c + 1) 8 T) := by
              obtain ⟨x3, x4, x5, S1, hRq, hcS1, hRf, _⟩ := hRk.out
              exact ⟨Nat.le_trans hcS1 hRq.iv.le, _, x3, x4, x5, S1, _, by rw [hNN]; exact hRq, hcS1, hRf⟩
            have hc1 := hout.out.1
            clear hRk
            go_wp2
            go_roundw
            case rel => first | exact ⟨c + 1, congrArg (Value.int .i64) (by omega), hc1, hout.out.2⟩ | ((repeat apply Exists.intro); refine ⟨⟨c + 1, ?_, hc1, hout.out.2⟩, rfl⟩; exact congrArg (Value.int .i64) (by omega))
            case measure => simp [intOf]; omega
    · obtain rfl : c = S.C := by omega
      have hci : ¬ ((S.C : Int) < (S.C : Int)) := by omega
      obtain ⟨a3, c3, hv3⟩ := own_sl (hRq.pt.fm.own 3 (by simp))
      have hv3' : v3 = .slice a3 S.C c3 := by
        rw [e3] at hv3
        exact hv3
      rw [hv3'] at z3
      have hHR := hid hRq
      have hHF := hid hRf
      clear hRo hRq hRf hv3 hv3' e0 e3 e4
      go_wp2
      go_ret
      exact ⟨⟨pb, rfl, v0, v1, v2, v3, v4, v5, S, hHR.out.pt, hHR.out.iv, hHF.out.last hHg.out (Nat.le_refl _) hd8.out⟩, hHR.out.b⟩
end Go.Proofs.Ytjkcffcedbcjmaa
