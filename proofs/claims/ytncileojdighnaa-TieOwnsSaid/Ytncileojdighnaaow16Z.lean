/- enter of package bisim: a new class. -/
import Derived.Test.Ytncileojdighnaaow13Z
namespace Go.Proofs.Ytncileojdighnaa
set_option maxRecDepth 100000
open Go.RowKit
theorem blk6 {w : World} {q : Nat} {u0 u1 u2 u3 u4 u5 : Value} {T : TypeId} (h : w.heap[q]? = some (.cells #[u0, u1, u2, u3, u4, u5] T)) : (w.cell? ⟨q, 0, none⟩ = some u0 ∧ w.cell? ⟨q, 1, none⟩ = some u1 ∧ w.cell? ⟨q, 2, none⟩ = some u2 ∧ w.cell? ⟨q, 3, none⟩ = some u3 ∧ w.cell? ⟨q, 4, none⟩ = some u4 ∧ w.cell? ⟨q, 5, none⟩ = some u5) ∧ (w.frozen? ⟨q, 0, none⟩ = false ∧ w.frozen? ⟨q, 1, none⟩ = false ∧ w.frozen? ⟨q, 2, none⟩ = false ∧ w.frozen? ⟨q, 3, none⟩ = false ∧ w.frozen? ⟨q, 4, none⟩ = false ∧ w.frozen? ⟨q, 5, none⟩ = false) := by
  refine ⟨⟨?_, ?_, ?_, ?_, ?_, ?_⟩, ?_, ?_, ?_, ?_, ?_, ?_⟩ <;> simp [World.cell?, World.frozen?, h]
theorem own_cap7 {w : World} {B : Nat} {e : TypeId} {s n cap : Nat} {a : Addr} {xs : List Value} (h : w.ownsRow B e s (.slice (some a) n cap) n xs) : n ≤ cap := by
  rcases h.2 with ⟨h, _⟩ | ⟨_, _, _, hv, _, _, hle, _⟩
  · cases h
  · injection hv with _ _ h3
    omega
def setL (cl xs : List Int) (v : Int) : List Int := xs.foldl (fun c x => c.set x.toNat v) cl
theorem setL_snoc (cl xs : List Int) (v x : Int) : setL cl (xs ++ [x]) v = (setL cl xs v).set x.toNat v := by simp [setL]
theorem setL_len (v : Int) : ∀ (xs cl : List Int), (setL cl xs v).length = cl.length
  | [], _ => rfl
  | x :: r, cl => by
    have := setL_len v r (cl.set x.toNat v)
    rw [List.length_set] at this
    exact this
theorem upd_upd {α : Type} (f : Nat → α) (i : Nat) (x y : α) : upd (upd f i x) i y = upd f i y := by
  funext j
  unfold upd
  split <;> rfl
theorem Pt.drew {w : World} {B pb : Nat} {v0 v1 v2 v3 v4 v5 : Value} {f : Nat → List Int} (h : Pt w B pb v0 v1 v2 v3 v4 v5 f) : Pt w.drew B pb v0 v1 v2 v3 v4 v5 f := ⟨h.blk, ⟨fun i hi => own_block (h.fm.own i hi) (fun _ _ => rfl), h.fm.nd⟩, h.ge⟩
theorem Ch.drew {K : List Nat} {w w' : World} (h : Ch K w w') : Ch K w w'.drew := ⟨h.os, h.tape, h.output, h.size, h.far⟩
theorem Ch.mono {K K' : List Nat} {w w' : World} (h : Ch K w w') (hs : ∀ k ∈ K, k ∈ K') : Ch K' w w' := ⟨h.os, h.tape, h.output, h.size, fun k hk hn => h.far k hk (fun hm => hn (hs k hm))⟩
theorem Ch.alloc {K : List Nat} {w w' : World} (h : Ch K w w') (o : Obj) : Ch K w (w'.alloc o) := h.trans (Ch.of (K := []) (below_alloc w' o)) (fun _ hk => absurd hk (by simp))
theorem Ch.put {K : List Nat} {w w' : World} (h : Ch K w w') {q i : Nat} (v : Value) (hq : q ∈ K) : Ch K w (w'.setCell ⟨q, i, none⟩ v) := h.trans (Ch.set hq) (fun _ hk => Or.inl hk)
theorem Pt.far {w w2 : World} {B pb : Nat} {v0 v1 v2 v3 v4 v5 v : Value} {f : Nat → List Int} {o : Obj} {i : Nat} (h : Pt w B pb v0 v1 v2 v3 v4 v5 f) (hi : i < 6) (hv : [v0, v1, v2, v3, v4, v5].getD i undef = v) (hgr : (w.alloc o).grownBy w2 v.ownBlock) : w2.heap[pb]? = some (.cells #[v0, v1, v2, v3, v4, v5] 126 (0, 0)) := by
  subst hv
  have hpb := lt_of_block h.blk
  have hrow : ([v0, v1, v2, v3, v4, v5].getD i undef).ownBlock ≠ some pb := fun e => h.fm.ty h.blk (by decide) (mem_blocks (i := i) (by simpa using hi) e)
  rw [hgr.block pb (by simp; omega) (fun e => hrow e.symm), Below.heap_alloc _ _ _ hpb]
  exact h.blk
theorem Pt.setC {w : World} {B pb q c t m : Nat} {v0 v1 v3 v4 v5 : Value} {f : Nat → List Int} (h : Pt w B pb v0 v1 (.slice (some ⟨q, 0, none⟩) m c) v3 v4 v5 f) (hm : (f 2).length = m) (x : Int) : Pt (w.setCell ⟨q, t, none⟩ (.int .i64 x)) B pb v0 v1 (.slice (some ⟨q, 0, none⟩) m c) v3 v4 v5 (upd f 2 ((f 2).set t x)) := by
  subst hm
  have hne : pb ≠ q := fun e => h.fm.ty h.blk (by decide) (mem_blocks (i := 2) (by simp) (by rw [e]; rfl))
  refine ⟨by rw [Below.heap_setCell _ _ _ _ hne]; exact h.blk, ?_, h.ge⟩
  exact Fm.set (i := 2) (t := t) h.fm (by simp) rfl x
theorem Pt.push3 {w w2 : World} {B pb g cap : Nat} {v0 v1 v2 v3 v4 v5 : Value} {f : Nat → List Int} {o : Obj} {x : Int} (h : Pt w B pb v0 v1 v2 v3 v4 v5 f) (hown : w2.ownsRow B 3 1 (.slice (some ⟨g, 0, none⟩) ((f 3).length + 1) cap) ((f 3).length + 1) ((f 3 ++ [x]).map (Value.int .i64))) (hgr : (w.alloc o).grownBy w2 v3.ownBlock) (hat : v3.ownBlock = some g ∨ g = w.heap.size + 1) :
    Pt (w2.setCell ⟨pb, 3, none⟩ (.slice (some ⟨g, 0, none⟩) ((f 3).length + 1) cap)) B pb v0 v1 v2 (.slice (some ⟨g, 0, none⟩) ((f 3).length + 1) cap) v4 v5 (upd f 3 (f 3 ++ [x])) := by
  have hpb := lt_of_block h.blk
  have hrow : v3.ownBlock ≠ some pb := fun e => h.fm.ty h.blk (by decide) (mem_blocks (i := 3) (by simp) e)
  have hF := Fm.push (k := 3) h.fm (by simp) hown hgr hat
  have h2 : w2.heap[pb]? = some (.cells #[v0, v1, v2, v3, v4, v5] 126 (0, 0)) := by
    rw [hgr.block pb (by simp; omega) (fun e => hrow e.symm), Below.heap_alloc _ _ _ hpb]
    exact h.blk
  refine ⟨heap_setCell_same w2 pb 3 _ _ _ h2, ?_, h.ge⟩
  exact hF.keep (fun k hk => Below.heap_setCell _ _ _ _ (fun e => hF.ty h2 (by decide) (by
    have e' : k = pb := e
    rw [← e']
    exact hk)))
theorem Pt.push4 {w w2 : World} {B pb g cap : Nat} {v0 v1 v2 v3 v4 v5 : Value} {f : Nat → List Int} {o : Obj} {x : Int} (h : Pt w B pb v0 v1 v2 v3 v4 v5 f) (hown : w2.ownsRow B 3 1 (.slice (some ⟨g, 0, none⟩) ((f 4).length + 1) cap) ((f 4).length + 1) ((f 4 ++ [x]).map (Value.int .i64))) (hgr : (w.alloc o).grownBy w2 v4.ownBlock) (hat : v4.ownBlock = some g ∨ g = w.heap.size + 1) :
    Pt (w2.setCell ⟨pb, 4, none⟩ (.slice (some ⟨g, 0, none⟩) ((f 4).length + 1) cap)) B pb v0 v1 v2 v3 (.slice (some ⟨g, 0, none⟩) ((f 4).length + 1) cap) v5 (upd f 4 (f 4 ++ [x])) := by
  have hpb := lt_of_block h.blk
  have hrow : v4.ownBlock ≠ some pb := fun e => h.fm.ty h.blk (by decide) (mem_blocks (i := 4) (by simp) e)
  have hF := Fm.push (k := 4) h.fm (by simp) hown hgr hat
  have h2 : w2.heap[pb]? = some (.cells #[v0, v1, v2, v3, v4, v5] 126 (0, 0)) := by
    rw [hgr.block pb (by simp; omega) (fun e => hrow e.symm), Below.heap_alloc _ _ _ hpb]
    exact h.blk
  refine ⟨heap_setCell_same w2 pb 4 _ _ _ h2, ?_, h.ge⟩
  exact hF.keep (fun k hk => Below.heap_setCell _ _ _ _ (fun e => hF.ty h2 (by decide) (by
    have e' : k = pb := e
    rw [← e']
    exact hk)))
theorem Pt.push5 {w w2 : World} {B pb g cap : Nat} {v0 v1 v2 v3 v4 v5 : Value} {f : Nat → List Int} {o : Obj} {x : Int} (h : Pt w B pb v0 v1 v2 v3 v4 v5 f) (hown : w2.ownsRow B 3 1 (.slice (some ⟨g, 0, none⟩) ((f 5).length + 1) cap) ((f 5).length + 1) ((f 5 ++ [x]).map (Value.int .i64))) (hgr : (w.alloc o).grownBy w2 v5.ownBlock) (hat : v5.ownBlock = some g ∨ g = w.heap.size + 1) :
    Pt (w2.setCell ⟨pb, 5, none⟩ (.slice (some ⟨g, 0, none⟩) ((f 5).length + 1) cap)) B pb v0 v1 v2 v3 v4 (.slice (some ⟨g, 0, none⟩) ((f 5).length + 1) cap) (upd f 5 (f 5 ++ [x])) := by
  have hpb := lt_of_block h.blk
  have hrow : v5.ownBlock ≠ some pb := fun e => h.fm.ty h.blk (by decide) (mem_blocks (i := 5) (by simp) e)
  have hF := Fm.push (k := 5) h.fm (by simp) hown hgr hat
  have h2 : w2.heap[pb]? = some (.cells #[v0, v1, v2, v3, v4, v5] 126 (0, 0)) := by
    rw [hgr.block pb (by simp; omega) (fun e => hrow e.symm), Below.heap_alloc _ _ _ hpb]
    exact h.blk
  refine ⟨heap_setCell_same w2 pb 5 _ _ _ h2, ?_, h.ge⟩
  exact hF.keep (fun k hk => Below.heap_setCell _ _ _ _ (fun e => hF.ty h2 (by decide) (by
    have e' : k = pb := e
    rw [← e']
    exact hk)))
set_option maxHeartbeats 4000000 in
theorem enter_any {w : World} {B pb a b : Nat} {v0 v1 v2 v3 v4 v5 : Value} {f : Nat → List Int} (hP : Pt w B pb v0 v1 v2 v3 v4 v5 f) (hab : a < b) (hb : b ≤ (f 0).length) (hl : ∀ i, (f i).length ≤ 4500) (hr : ∀ x ∈ f 0, 0 ≤ x ∧ x < ((f 2).length : Int)) (hB : B ≤ w.heap.size) :
    Calls Try.prog 102 #[.pointer (some ⟨pb, 0, none⟩), .int .i64 a, .int .i64 b] w fun e w' => e = .returned (.tuple #[]) ∧ ∃ u3 u4 u5, Pt w' B pb v0 v1 v2 u3 u4 u5 (upd (upd (upd (upd f 2 (setL (f 2) (((f 0).drop a).take (b - a)) (f 3).length)) 3 (f 3 ++ [(a : Int)])) 4 (f 4 ++ [(b : Int)])) 5 (f 5 ++ [0])) ∧ Ch (pb :: blocks [v0, v1, v2, v3, v4, v5]) w w' ∧ ∀ k ∈ blocks [u3, u4, u5], k ∈ blocks [v0, v1, v2, v3, v4, v5] ∨ w.heap.size ≤ k := by
  obtain ⟨q0, c0, rfl, hq0⟩ : ∃ q c, v0 = .slice (some ⟨q, 0, none⟩) (f 0).length c ∧ v0.ownBlock = some q := (own_form (hP.fm.own 0 (by simp))).resolve_left (fun h => by omega)
  have hf2 : 0 < (f 2).length := by
    have := hr _ (getD_mem (l := f 0) (k := 0) (by omega))
    omega
  obtain ⟨q2, c2, rfl, hq2⟩ : ∃ q c, v2 = .slice (some ⟨q, 0, none⟩) (f 2).length c ∧ v2.ownBlock = some q := (own_form (hP.fm.own 2 (by simp))).resolve_left (fun h => by omega)
  obtain ⟨_, ⟨a1, c1, rfl⟩, _, ⟨a3, c3, rfl⟩, ⟨a4, c4, rfl⟩, ⟨a5, c5, rfl⟩⟩ := hP.sl
  have hcap : (f 0).length ≤ c0 := own_cap7 (hP.fm.own 0 (by simp))
  have hca : ¬ c0 = a := by omega
  obtain ⟨⟨z0, z1, z2, z3, z4, z5⟩, y0, y1, y2, y3, y4, y5⟩ := blk6 hP.blk
  have hl0 := hl 0
  have hl2 := hl 2
  have hl3 := hl 3
  have hst : Hid (Pt w B pb (.slice (some ⟨q0, 0, none⟩) (f 0).length c0) (.slice a1 (f 1).length c1) (.slice (some ⟨q2, 0, none⟩) (f 2).length c2) (.slice a3 (f 3).length c3) (.slice a4 (f 4).length c4) (.slice a5 (f 5).length c5) (upd f 2 (setL (f 2) (((f 0).drop a).take 0) (f 3).length))) := by
    have e : upd f 2 (setL (f 2) (((f 0).drop a).take 0) (f 3).length) = f := by
      funext j
      unfold upd
      split
      · rename_i e
        subst e
        simp [setL]
      · rfl
    show Pt _ _ _ _ _ _ _ _ _ _
    rw [e]
    exact hP
  go_enter Try.func102, Try.ntmps102
  go_wp2
  go_loopw [16] (fun i wr => ∃ t : Nat, t ≤ b - a ∧ i = .int .i64 t ∧ Hid (Pt wr B pb (.slice (some ⟨q0, 0, none⟩) (f 0).length c0) (.slice a1 (f 1).length c1) (.slice (some ⟨q2, 0, none⟩) (f 2).length c2) (.slice a3 (f 3).length c3) (.slice a4 (f 4).length c4) (.slice a5 (f 5).length c5) (upd f 2 (setL (f 2) (((f 0).drop a).take t) (f 3).length))) ∧ Hid (Ch [q2] w wr)) (fun i _ => b - a - (intOf i).toNat)
  case atStart => exact ⟨0, Nat.zero_le _, rfl, hst, Ch.refl _ _⟩
  case round =>
    clear hst z0 z1 z2 z3 z4 z5 y0 y1 y2 y3 y4 y5
    obtain ⟨t, ht, rfl, hPt, hCh⟩ := hrel
    obtain ⟨⟨z0, z1, z2, z3, z4, z5⟩, y0, y1, y2, y3, y4, y5⟩ := blk6 hPt.out.blk
    by_cases hlt : t < b - a
    · have hx := hr _ (getD_mem (l := f 0) (k := a + t) (by omega))
      obtain ⟨n, hn⟩ : ∃ n : Nat, (f 0).getD (a + t) 0 = (n : Int) := ⟨((f 0).getD (a + t) 0).toNat, by omega⟩
      rw [hn] at hx
      have e0 : upd f 2 (setL (f 2) (((f 0).drop a).take t) (f 3).length) 0 = f 0 := upd_other _ _ (by omega)
      have e2 : upd f 2 (setL (f 2) (((f 0).drop a).take t) (f 3).length) 2 = setL (f 2) (((f 0).drop a).take t) (f 3).length := upd_same _ _ _
      have hts : ((f 0).drop a).take (t + 1) = ((f 0).drop a).take t ++ [(n : Int)] := by
        rw [take_snoc (by simp; omega), ← hn]
        simp [List.getD]
      have hln := setL_len ((f 3).length : Int) (((f 0).drop a).take t) (f 2)
      have ho0 := hPt.out.fm.own 0 (by simp)
      rw [e0] at ho0
      have d0 : wr.cell? ⟨q0, a + t, none⟩ = some (.int .i64 (n : Int)) := by
        have := ho0.cells (g := q0) rfl (a + t) (.int .i64 (n : Int)) (by
          have h1 : a + t < (f 0).length := by omega
          rw [← hn]
          simp [List.getD, h1])
        rw [Addr.add_lit, Nat.zero_add] at this
        exact this
      have ho2 := hPt.out.fm.own 2 (by simp)
      rw [e2] at ho2
      obtain ⟨cur, hcur, _⟩ := own_block_obj ho2 rfl
      have d2 : ∃ y, wr.cell? ⟨q2, n, none⟩ = some y := by
        have := ho2.cells (g := q2) rfl n (.int .i64 ((setL (f 2) (((f 0).drop a).take t) (f 3).length).getD n 0)) (by
          have h1 : n < (setL (f 2) (((f 0).drop a).take t) (f 3).length).length := by omega
          simp [List.getD, h1])
        rw [Addr.add_lit, Nat.zero_add] at this
        exact ⟨_, this⟩
      obtain ⟨y, d2⟩ := d2
      have g2 : wr.frozen? ⟨q2, n, none⟩ = false := by simp [World.frozen?, hcur]
      have hP' := hid (Pt.setC (t := n) hPt.out (by rw [e2]; exact hln) ((f 3).length : Int))
      rw [e2, upd_upd] at hP'
      have hC' := hid (hCh.out.trans (Ch.set (w := wr) (q := q2) (i := n) (v := .int .i64 ((f 3).length : Int)) (K := [q2]) (by simp)) (fun k hk => Or.inl hk))
      have hfin : Hid (setL (f 2) (((f 0).drop a).take (t + 1)) (f 3).length = (setL (f 2) (((f 0).drop a).take t) (f 3).length).set n (f 3).length) := by
        show _ = _
        rw [hts, setL_snoc]
        rfl
      have hnN : n < (f 2).length := by omega
      have hnI : (n : Int) < ((f 2).length : Int) := by omega
      clear hPt hCh ho0 ho2 hcur hts e0 e2 hn hl hr
      go_wp2
      go_big_region
      go_wp2
      exact ⟨⟨t + 1, by omega, congrArg (Value.int .i64) (by omega), by rw [hfin.out]; exact hP'.out.drew, hC'.out.drew⟩, by simp [intOf]; omega⟩
    · have htl : t = b - a := by omega
      subst htl
      obtain ⟨i0, hi, hj0, hj1, hj2⟩ := info_parts infoI
      have hl4 := hl 4
      have hl5 := hl 5
      have hBw : B ≤ wr.heap.size := by have := hCh.out.size; omega
      have o3 : wr.ownsRow B 3 1 (.slice a3 (f 3).length c3) (f 3).length ((f 3).map (Value.int .i64)) := hPt.out.fm.own 3 (by simp)
      have hoz3 := World.ownsRow.alloc o3 (.cells #[.int .i64 (a : Int)] 3)
      have hnews3 := heap_alloc_new wr (.cells #[.int .i64 (a : Int)] 3)
      clear hl hr
      go_wp2_with (first
        | (at_builtin; refine wpList_append_lies _ rfl _ _ _ rfl B 3 i0 (.int .i64 0) 1 8 Try.underlying27 hi hj0 hj1 hj2 rfl (by decide) _ (f 3).length ((f 3).map (Value.int .i64)) rfl hoz3 ⟨wr.heap.size, 0, none⟩ 1 1 [.int .i64 (a : Int)] rfl rfl (World.news_of_block (cs := #[.int .i64 (a : Int)]) (t := 3) (fr := (0, 0)) hnews3) (by simp [Value.oneCell']) (by omega) (by unfold maxLen; omega) (by omega) (by simp; omega) (wr.heap.size + 1) (by simp) ?_; clear hoz3; intro g3 k3 w3 hown3 hgr3 hat3 hlt3; have hb3 := Pt.far (i := 3) hPt.out (by omega) rfl hgr3; have hbw3 := hgr3.size; simp at hbw3; clear z0 z1 z2 z3 z4 z5 y0 y1 y2 y3 y4 y5; obtain ⟨⟨z0, z1, z2, z3, z4, z5⟩, y0, y1, y2, y3, y4, y5⟩ := blk6 hb3; have hP3 : Hid (Pt (w3.setCell ⟨pb, 3, none⟩ (.slice (some ⟨g3, 0, none⟩) ((f 3).length + 1) k3)) B pb (.slice (some ⟨q0, 0, none⟩) (f 0).length c0) (.slice a1 (f 1).length c1) (.slice (some ⟨q2, 0, none⟩) (f 2).length c2) (.slice (some ⟨g3, 0, none⟩) ((f 3).length + 1) k3) (.slice a4 (f 4).length c4) (.slice a5 (f 5).length c5) (upd (upd f 2 (setL (f 2) (((f 0).drop a).take (b - a)) (f 3).length)) 3 (f 3 ++ [(a : Int)]))) := Pt.push3 (f := (upd f 2 (setL (f 2) (((f 0).drop a).take (b - a)) (f 3).length))) (x := (a : Int)) hPt.out (by rw [List.map_append]; exact hown3) hgr3 (hat3.elim Or.inl (fun h => Or.inr (by simpa using h))); have o4 : (w3.setCell ⟨pb, 3, none⟩ (.slice (some ⟨g3, 0, none⟩) ((f 3).length + 1) k3)).ownsRow B 3 1 (.slice a4 (f 4).length c4) (f 4).length ((f 4).map (Value.int .i64)) := hP3.out.fm.own 4 (by simp); have hoz4 := World.ownsRow.alloc o4 (.cells #[.int .i64 (b : Int)] 3); have hs3 : (w3.setCell ⟨pb, 3, none⟩ (.slice (some ⟨g3, 0, none⟩) ((f 3).length + 1) k3)).heap.size = w3.heap.size := (by simp); have hnews4 := heap_alloc_new (w3.setCell ⟨pb, 3, none⟩ (.slice (some ⟨g3, 0, none⟩) ((f 3).length + 1) k3)) (.cells #[.int .i64 (b : Int)] 3); rw [hs3] at hnews4; clear hs3)
        | (at_builtin; refine wpList_append_lies _ rfl _ _ _ rfl B 3 i0 (.int .i64 0) 1 8 Try.underlying27 hi hj0 hj1 hj2 rfl (by decide) _ (f 4).length ((f 4).map (Value.int .i64)) rfl hoz4 ⟨w3.heap.size, 0, none⟩ 1 1 [.int .i64 (b : Int)] rfl rfl (World.news_of_block (cs := #[.int .i64 (b : Int)]) (t := 3) (fr := (0, 0)) hnews4) (by simp [Value.oneCell']) (by omega) (by unfold maxLen; omega) (by omega) (by simp; omega) (w3.heap.size + 1) (by simp) ?_; clear hoz4; intro g4 k4 w4 hown4 hgr4 hat4 hlt4; have hb4 := Pt.far (i := 4) hP3.out (by omega) rfl hgr4; have hbw4 := hgr4.size; simp at hbw4; clear z0 z1 z2 z3 z4 z5 y0 y1 y2 y3 y4 y5; obtain ⟨⟨z0, z1, z2, z3, z4, z5⟩, y0, y1, y2, y3, y4, y5⟩ := blk6 hb4; have hP4 : Hid (Pt (w4.setCell ⟨pb, 4, none⟩ (.slice (some ⟨g4, 0, none⟩) ((f 4).length + 1) k4)) B pb (.slice (some ⟨q0, 0, none⟩) (f 0).length c0) (.slice a1 (f 1).length c1) (.slice (some ⟨q2, 0, none⟩) (f 2).length c2) (.slice (some ⟨g3, 0, none⟩) ((f 3).length + 1) k3) (.slice (some ⟨g4, 0, none⟩) ((f 4).length + 1) k4) (.slice a5 (f 5).length c5) (upd (upd (upd f 2 (setL (f 2) (((f 0).drop a).take (b - a)) (f 3).length)) 3 (f 3 ++ [(a : Int)])) 4 (f 4 ++ [(b : Int)]))) := Pt.push4 (f := (upd (upd f 2 (setL (f 2) (((f 0).drop a).take (b - a)) (f 3).length)) 3 (f 3 ++ [(a : Int)]))) (x := (b : Int)) hP3.out (by rw [List.map_append]; exact hown4) hgr4 (hat4.elim Or.inl (fun h => Or.inr (by simpa using h))); have o5 : (w4.setCell ⟨pb, 4, none⟩ (.slice (some ⟨g4, 0, none⟩) ((f 4).length + 1) k4)).ownsRow B 3 1 (.slice a5 (f 5).length c5) (f 5).length ((f 5).map (Value.int .i64)) := hP4.out.fm.own 5 (by simp); have hoz5 := World.ownsRow.alloc o5 (.cells #[.int .i64 0] 3); have hs4 : (w4.setCell ⟨pb, 4, none⟩ (.slice (some ⟨g4, 0, none⟩) ((f 4).length + 1) k4)).heap.size = w4.heap.size := (by simp); have hnews5 := heap_alloc_new (w4.setCell ⟨pb, 4, none⟩ (.slice (some ⟨g4, 0, none⟩) ((f 4).length + 1) k4)) (.cells #[.int .i64 0] 3); rw [hs4] at hnews5; clear hs4)
        | (at_builtin; refine wpList_append_lies _ rfl _ _ _ rfl B 3 i0 (.int .i64 0) 1 8 Try.underlying27 hi hj0 hj1 hj2 rfl (by decide) _ (f 5).length ((f 5).map (Value.int .i64)) rfl hoz5 ⟨w4.heap.size, 0, none⟩ 1 1 [.int .i64 0] rfl rfl (World.news_of_block (cs := #[.int .i64 0]) (t := 3) (fr := (0, 0)) hnews5) (by simp [Value.oneCell']) (by omega) (by unfold maxLen; omega) (by omega) (by simp; omega) (w4.heap.size + 1) (by simp) ?_; clear hoz5; intro g5 k5 w5 hown5 hgr5 hat5 hlt5; have hb5 := Pt.far (i := 5) hP4.out (by omega) rfl hgr5; have hbw5 := hgr5.size; simp at hbw5; clear z0 z1 z2 z3 z4 z5 y0 y1 y2 y3 y4 y5; obtain ⟨⟨z0, z1, z2, z3, z4, z5⟩, y0, y1, y2, y3, y4, y5⟩ := blk6 hb5; have hP5 : Hid (Pt (w5.setCell ⟨pb, 5, none⟩ (.slice (some ⟨g5, 0, none⟩) ((f 5).length + 1) k5)) B pb (.slice (some ⟨q0, 0, none⟩) (f 0).length c0) (.slice a1 (f 1).length c1) (.slice (some ⟨q2, 0, none⟩) (f 2).length c2) (.slice (some ⟨g3, 0, none⟩) ((f 3).length + 1) k3) (.slice (some ⟨g4, 0, none⟩) ((f 4).length + 1) k4) (.slice (some ⟨g5, 0, none⟩) ((f 5).length + 1) k5) (upd (upd (upd (upd f 2 (setL (f 2) (((f 0).drop a).take (b - a)) (f 3).length)) 3 (f 3 ++ [(a : Int)])) 4 (f 4 ++ [(b : Int)])) 5 (f 5 ++ [0]))) := Pt.push5 (f := (upd (upd (upd f 2 (setL (f 2) (((f 0).drop a).take (b - a)) (f 3).length)) 3 (f 3 ++ [(a : Int)])) 4 (f 4 ++ [(b : Int)]))) (x := 0) hP4.out (by rw [List.map_append]; exact hown5) hgr5 (hat5.elim Or.inl (fun h => Or.inr (by simpa using h)))))
      go_end0
      have hpbm : pb ∈ pb :: blocks [.slice (some ⟨q0, 0, none⟩) (f 0).length c0, .slice a1 (f 1).length c1, .slice (some ⟨q2, 0, none⟩) (f 2).length c2, .slice a3 (f 3).length c3, .slice a4 (f 4).length c4, .slice a5 (f 5).length c5] := by simp
      have m2 : ∀ k, k ∈ blocks [.slice (some ⟨q0, 0, none⟩) (f 0).length c0, .slice a1 (f 1).length c1, .slice (some ⟨q2, 0, none⟩) (f 2).length c2, .slice a3 (f 3).length c3, .slice a4 (f 4).length c4, .slice a5 (f 5).length c5] → k ∈ pb :: blocks [.slice (some ⟨q0, 0, none⟩) (f 0).length c0, .slice a1 (f 1).length c1, .slice (some ⟨q2, 0, none⟩) (f 2).length c2, .slice a3 (f 3).length c3, .slice a4 (f 4).length c4, .slice a5 (f 5).length c5] := fun k hk => List.mem_cons_of_mem _ hk
      have r3 : ∀ r, Value.ownBlock (.slice a3 (f 3).length c3) = some r → r ∈ pb :: blocks [.slice (some ⟨q0, 0, none⟩) (f 0).length c0, .slice a1 (f 1).length c1, .slice (some ⟨q2, 0, none⟩) (f 2).length c2, .slice a3 (f 3).length c3, .slice a4 (f 4).length c4, .slice a5 (f 5).length c5] := fun r e => m2 r (mem_blocks (i := 3) (by simp) e)
      have r4 : ∀ r, Value.ownBlock (.slice a4 (f 4).length c4) = some r → r ∈ pb :: blocks [.slice (some ⟨q0, 0, none⟩) (f 0).length c0, .slice a1 (f 1).length c1, .slice (some ⟨q2, 0, none⟩) (f 2).length c2, .slice a3 (f 3).length c3, .slice a4 (f 4).length c4, .slice a5 (f 5).length c5] := fun r e => m2 r (mem_blocks (i := 4) (by simp) e)
      have r5 : ∀ r, Value.ownBlock (.slice a5 (f 5).length c5) = some r → r ∈ pb :: blocks [.slice (some ⟨q0, 0, none⟩) (f 0).length c0, .slice a1 (f 1).length c1, .slice (some ⟨q2, 0, none⟩) (f 2).length c2, .slice a3 (f 3).length c3, .slice a4 (f 4).length c4, .slice a5 (f 5).length c5] := fun r e => m2 r (mem_blocks (i := 5) (by simp) e)
      have d1 : Ch (pb :: blocks [.slice (some ⟨q0, 0, none⟩) (f 0).length c0, .slice a1 (f 1).length c1, .slice (some ⟨q2, 0, none⟩) (f 2).length c2, .slice a3 (f 3).length c3, .slice a4 (f 4).length c4, .slice a5 (f 5).length c5]) w wr := hCh.out.mono (fun k hk => by
        have e : k = q2 := by simpa using hk
        subst e
        exact m2 k (mem_blocks (i := 2) (by simp) rfl))
      have hw := d1.size
      have d3 := (((d1.alloc (.cells #[.int .i64 (a : Int)] 3)).grown hgr3 (fun r e => Or.inl (r3 r e))).put (i := 3) (.slice (some ⟨g3, 0, none⟩) ((f 3).length + 1) k3) hpbm)
      have d4 := (((d3.alloc (.cells #[.int .i64 (b : Int)] 3)).grown hgr4 (fun r e => Or.inl (r4 r e))).put (i := 4) (.slice (some ⟨g4, 0, none⟩) ((f 4).length + 1) k4) hpbm)
      have d5 := (((d4.alloc (.cells #[.int .i64 0] 3)).grown hgr5 (fun r e => Or.inl (r5 r e))).put (i := 5) (.slice (some ⟨g5, 0, none⟩) ((f 5).length + 1) k5) hpbm)
      refine ⟨rfl, _, _, _, hP5.out, d5, fun k hk => ?_⟩
      have hk' : k = g3 ∨ k = g4 ∨ k = g5 := by simpa [blocks, Value.ownBlock] using hk
      rcases hk' with rfl | rfl | rfl
      · rcases hat3 with h | h
        · exact Or.inl (mem_blocks (i := 3) (by simp) h)
        · exact Or.inr (by omega)
      · rcases hat4 with h | h
        · exact Or.inl (mem_blocks (i := 4) (by simp) h)
        · exact Or.inr (by omega)
      · rcases hat5 with h | h
        · exact Or.inl (mem_blocks (i := 5) (by simp) h)
        · exact Or.inr (by omega)
end Go.Proofs.Ytncileojdighnaa

namespace Go.Proofs.Ytncileojdighnaa
set_option maxRecDepth 100000
open Go.RowKit
theorem Fm.cell {w : World} {B : Nat} {vs : List Value} {f : Nat → List Int} (h : Fm w B vs f) {i q c j : Nat} (hi : i < vs.length) (hv : vs.getD i undef = .slice (some ⟨q, 0, none⟩) (f i).length c) (hj : j < (f i).length) : w.cell? ⟨q, j, none⟩ = some (.int .i64 ((f i).getD j 0)) ∧ w.frozen? ⟨q, j, none⟩ = false := by
  have ho := h.own i hi
  rw [hv] at ho
  refine ⟨?_, ?_⟩
  · have := ho.cells (g := q) rfl j (.int .i64 ((f i).getD j 0)) (by simp [List.getD, hj])
    rw [Addr.add_lit, Nat.zero_add] at this
    exact this
  · obtain ⟨cur, hc, _⟩ := own_block_obj ho rfl
    simp [World.frozen?, hc]
theorem Pt.set0 {w : World} {B pb q c t m : Nat} {v1 v2 v3 v4 v5 : Value} {f : Nat → List Int} (h : Pt w B pb (.slice (some ⟨q, 0, none⟩) m c) v1 v2 v3 v4 v5 f) (hm : (f 0).length = m) (x : Int) : Pt (w.setCell ⟨q, t, none⟩ (.int .i64 x)) B pb (.slice (some ⟨q, 0, none⟩) m c) v1 v2 v3 v4 v5 (upd f 0 ((f 0).set t x)) := by
  subst hm
  have hne : pb ≠ q := fun e => h.fm.ty h.blk (by decide) (mem_blocks (i := 0) (by simp) (by rw [e]; rfl))
  refine ⟨by rw [Below.heap_setCell _ _ _ _ hne]; exact h.blk, ?_, h.ge⟩
  exact Fm.set (i := 0) (t := t) h.fm (by simp) rfl x
theorem Pt.set1 {w : World} {B pb q c t m : Nat} {v0 v2 v3 v4 v5 : Value} {f : Nat → List Int} (h : Pt w B pb v0 (.slice (some ⟨q, 0, none⟩) m c) v2 v3 v4 v5 f) (hm : (f 1).length = m) (x : Int) : Pt (w.setCell ⟨q, t, none⟩ (.int .i64 x)) B pb v0 (.slice (some ⟨q, 0, none⟩) m c) v2 v3 v4 v5 (upd f 1 ((f 1).set t x)) := by
  subst hm
  have hne : pb ≠ q := fun e => h.fm.ty h.blk (by decide) (mem_blocks (i := 1) (by simp) (by rw [e]; rfl))
  refine ⟨by rw [Below.heap_setCell _ _ _ _ hne]; exact h.blk, ?_, h.ge⟩
  exact Fm.set (i := 1) (t := t) h.fm (by simp) rfl x
theorem Pt.set5 {w : World} {B pb q c t m : Nat} {v0 v1 v2 v3 v4 : Value} {f : Nat → List Int} (h : Pt w B pb v0 v1 v2 v3 v4 (.slice (some ⟨q, 0, none⟩) m c) f) (hm : (f 5).length = m) (x : Int) : Pt (w.setCell ⟨q, t, none⟩ (.int .i64 x)) B pb v0 v1 v2 v3 v4 (.slice (some ⟨q, 0, none⟩) m c) (upd f 5 ((f 5).set t x)) := by
  subst hm
  have hne : pb ≠ q := fun e => h.fm.ty h.blk (by decide) (mem_blocks (i := 5) (by simp) (by rw [e]; rfl))
  refine ⟨by rw [Below.heap_setCell _ _ _ _ hne]; exact h.blk, ?_, h.ge⟩
  exact Fm.set (i := 5) (t := t) h.fm (by simp) rfl x
theorem Pt.drewN {w : World} {B pb : Nat} {v0 v1 v2 v3 v4 v5 : Value} {f : Nat → List Int} (h : Pt w B pb v0 v1 v2 v3 v4 v5 f) (q : Nat) : Pt (w.drewN q) B pb v0 v1 v2 v3 v4 v5 f := ⟨h.blk, ⟨fun i hi => own_block (h.fm.own i hi) (fun _ _ => rfl), h.fm.nd⟩, h.ge⟩
theorem Fm.cellN {w : World} {B : Nat} {vs : List Value} {f : Nat → List Int} (h : Fm w B vs f) {i q c j n : Nat} (hi : i < vs.length) (hv : vs.getD i undef = .slice (some ⟨q, 0, none⟩) n c) (hn : (f i).length = n) (hj : j < n) : w.cell? ⟨q, j, none⟩ = some (.int .i64 ((f i).getD j 0)) ∧ w.frozen? ⟨q, j, none⟩ = false := by
  subst hn
  exact h.cell hi hv hj
set_option maxHeartbeats 4000000 in
theorem mark_any {w : World} {B pb n c a o m p : Nat} {v0 v1 v2 v3 v4 v5 : Value} {f : Nat → List Int} (hP : Pt w B pb v0 v1 v2 v3 v4 v5 f) (hl : ∀ i, (f i).length ≤ 4500)
    (h0 : (f 1).length = (f 0).length) (h2 : (f 2).length = (f 0).length) (hn : n < (f 0).length) (hc : (f 2).getD n 0 = (c : Int)) (hc3 : c < (f 3).length) (hc5 : c < (f 5).length) (h3 : (f 3).getD c 0 = (a : Int)) (h5 : (f 5).getD c 0 = (m : Int)) (ham : a + m < (f 0).length) (ho : (f 0).getD (a + m) 0 = (o : Int)) (hor : o < (f 0).length) (hp : (f 1).getD n 0 = (p : Int)) (hpr : p < (f 0).length) :
    Calls Try.prog 103 #[.pointer (some ⟨pb, 0, none⟩), .int .i64 n] w fun e w' => e = .returned (.tuple #[]) ∧ Pt w' B pb v0 v1 v2 v3 v4 v5 (upd (upd (upd f 0 (((f 0).set p (o : Int)).set (a + m) (n : Int))) 1 (((f 1).set o (p : Int)).set n ((a : Int) + (m : Int)))) 5 ((f 5).set c ((m : Int) + 1))) ∧ Ch (blocks [v0, v1, v2, v3, v4, v5]) w w' := by
  obtain ⟨q0, c0, rfl, _⟩ : ∃ q c, v0 = .slice (some ⟨q, 0, none⟩) (f 0).length c ∧ v0.ownBlock = some q := (own_form (hP.fm.own 0 (by simp))).resolve_left (fun h => by omega)
  obtain ⟨q1, c1, rfl, _⟩ : ∃ q c, v1 = .slice (some ⟨q, 0, none⟩) (f 1).length c ∧ v1.ownBlock = some q := (own_form (hP.fm.own 1 (by simp))).resolve_left (fun h => by omega)
  obtain ⟨q2, c2, rfl, _⟩ : ∃ q c, v2 = .slice (some ⟨q, 0, none⟩) (f 2).length c ∧ v2.ownBlock = some q := (own_form (hP.fm.own 2 (by simp))).resolve_left (fun h => by omega)
  obtain ⟨q3, c3, rfl, _⟩ : ∃ q c, v3 = .slice (some ⟨q, 0, none⟩) (f 3).length c ∧ v3.ownBlock = some q := (own_form (hP.fm.own 3 (by simp))).resolve_left (fun h => by omega)
  obtain ⟨q5, c5, rfl, _⟩ : ∃ q c, v5 = .slice (some ⟨q, 0, none⟩) (f 5).length c ∧ v5.ownBlock = some q := (own_form (hP.fm.own 5 (by simp))).resolve_left (fun h => by omega)
  obtain ⟨_, _, _, _, ⟨a4, c4, rfl⟩, _⟩ := hP.sl
  obtain ⟨⟨z0, z1, z2, z3, z4, z5⟩, _⟩ := blk6 hP.blk
  have k2 := hP.fm.cell (i := 2) (j := n) (by simp) rfl (by omega)
  have k3 := hP.fm.cell (i := 3) (j := c) (by simp) rfl hc3
  have k5 := hP.fm.cell (i := 5) (j := c) (by simp) rfl hc5
  have k0 := hP.fm.cell (i := 0) (j := a + m) (by simp) rfl ham
  have k1 := hP.fm.cell (i := 1) (j := n) (by simp) rfl (by omega)
  rw [hc] at k2
  rw [h3] at k3
  rw [h5] at k5
  rw [ho] at k0
  rw [hp] at k1
  obtain ⟨k2, _⟩ := k2
  obtain ⟨k3, _⟩ := k3
  obtain ⟨k5, k5f⟩ := k5
  obtain ⟨k0, k0f⟩ := k0
  obtain ⟨k1, k1f⟩ := k1
  have hl0 := hl 0
  have hn1 : n < (f 1).length := by omega
  have hn2 : n < (f 2).length := by omega
  have hor1 : o < (f 1).length := by omega
  have hwr : IntKind.i64.wrap ((a : Int) + (m : Int)) = ((a + m : Nat) : Int) := by rw [IntKind.wrap_i64]; omega
  have hh5 := hid h5
  have hl5 := hl 5
  clear hc h3 h5 ho hp hl h0 h2
  go_enter Try.func103, Try.ntmps103
  go_wp2
  go_quiet (fail)
  have x0 := hP.fm.cell (i := 0) (j := p) (by simp) rfl hpr
  have x1 := hP.fm.cell (i := 1) (j := o) (by simp) rfl hor1
  obtain ⟨x0, x0f⟩ := x0
  obtain ⟨x1, x1f⟩ := x1
  have hP0 := hP.drewN (nq + 1)
  have n10 : ¬ q1 = q0 := fun e => hP.fm.nd 1 0 q1 q0 (by simp) (by simp) (by omega) rfl rfl e
  have n01 : ¬ q0 = q1 := fun e => n10 e.symm
  have np0 : ¬ pb = q0 := fun e => hP.fm.ty hP.blk (by decide) (mem_blocks (i := 0) (by simp) (by rw [e]; rfl))
  have np1 : ¬ pb = q1 := fun e => hP.fm.ty hP.blk (by decide) (mem_blocks (i := 1) (by simp) (by rw [e]; rfl))
  go_wp2
  have hP1 := ((hP0.set0 (t := p) rfl (o : Int)).set1 (t := o) rfl (p : Int))
  have m0 : q0 ∈ blocks [.slice (some ⟨q0, 0, none⟩) (f 0).length c0, .slice (some ⟨q1, 0, none⟩) (f 1).length c1, .slice (some ⟨q2, 0, none⟩) (f 2).length c2, .slice (some ⟨q3, 0, none⟩) (f 3).length c3, .slice a4 (f 4).length c4, .slice (some ⟨q5, 0, none⟩) (f 5).length c5] := mem_blocks (i := 0) (by simp) rfl
  have m1 : q1 ∈ blocks [.slice (some ⟨q0, 0, none⟩) (f 0).length c0, .slice (some ⟨q1, 0, none⟩) (f 1).length c1, .slice (some ⟨q2, 0, none⟩) (f 2).length c2, .slice (some ⟨q3, 0, none⟩) (f 3).length c3, .slice a4 (f 4).length c4, .slice (some ⟨q5, 0, none⟩) (f 5).length c5] := mem_blocks (i := 1) (by simp) rfl
  have m5 : q5 ∈ blocks [.slice (some ⟨q0, 0, none⟩) (f 0).length c0, .slice (some ⟨q1, 0, none⟩) (f 1).length c1, .slice (some ⟨q2, 0, none⟩) (f 2).length c2, .slice (some ⟨q3, 0, none⟩) (f 3).length c3, .slice a4 (f 4).length c4, .slice (some ⟨q5, 0, none⟩) (f 5).length c5] := mem_blocks (i := 5) (by simp) rfl
  have hC1 : Ch (blocks [.slice (some ⟨q0, 0, none⟩) (f 0).length c0, .slice (some ⟨q1, 0, none⟩) (f 1).length c1, .slice (some ⟨q2, 0, none⟩) (f 2).length c2, .slice (some ⟨q3, 0, none⟩) (f 3).length c3, .slice a4 (f 4).length c4, .slice (some ⟨q5, 0, none⟩) (f 5).length c5]) w (((w.drewN (nq + 1)).setCell ⟨q0, p, none⟩ (.int .i64 (o : Int))).setCell ⟨q1, o, none⟩ (.int .i64 (p : Int))) := ((show Ch _ w (w.drewN (nq + 1)) from ⟨rfl, rfl, rfl, Nat.le_refl _, fun _ _ _ => rfl⟩).put _ m0).put _ m1
  go_big_region
  generalize (((w.drewN (nq + 1)).setCell ⟨q0, p, none⟩ (.int .i64 (o : Int))).setCell ⟨q1, o, none⟩ (.int .i64 (p : Int))) = w1 at hP1 hC1 ⊢
  have hCh := hid hC1
  have hm0 := hid m0
  have hm1 := hid m1
  have hm5 := hid m5
  clear z0 z1 z2 z3 z4 z5 k0 k1 k2 k3 k5 k0f k1f k5f x0 x1 x0f x1f hP0 hP hC1 m0 m1 m5
  obtain ⟨⟨z0, z1, z2, z3, z4, z5⟩, _⟩ := blk6 hP1.blk
  have y0 := hP1.fm.cellN (i := 0) (j := a + m) (by simp) rfl (by show ((f 0).set p (o : Int)).length = _; simp) ham
  have y1 := hP1.fm.cellN (i := 1) (j := n) (by simp) rfl (by show ((f 1).set o (p : Int)).length = _; simp) hn1
  obtain ⟨y0, y0f⟩ := y0
  obtain ⟨y1, y1f⟩ := y1
  have hP2 := hid ((hP1.set0 (t := a + m) (by show ((f 0).set p (o : Int)).length = _; simp) (n : Int)).set1 (t := n) (by show ((f 1).set o (p : Int)).length = _; simp) ((a : Int) + (m : Int)))
  have hC2 := hid ((hCh.out.put (i := a + m) (.int .i64 (n : Int)) hm0.out).put (i := n) (.int .i64 ((a : Int) + (m : Int))) hm1.out)
  generalize (upd (upd f 0 ((f 0).set p (o : Int))) 1 ((upd f 0 ((f 0).set p (o : Int)) 1).set o (p : Int)) 0).getD (a + m) 0 = Y0 at y0
  generalize (upd (upd f 0 ((f 0).set p (o : Int))) 1 ((upd f 0 ((f 0).set p (o : Int)) 1).set o (p : Int)) 1).getD n 0 = Y1 at y1
  go_wp2
  go_big_region
  have hP3 := hP2.out.drew
  have hC3 := hC2.out.drew
  generalize ((w1.setCell ⟨q0, a + m, none⟩ (.int .i64 (n : Int))).setCell ⟨q1, n, none⟩ (.int .i64 ((a : Int) + (m : Int)))).drew = w2 at hP3 hC3 ⊢
  have hCe := hid (hC3.put (i := c) (.int .i64 ((m : Int) + 1)) hm5.out)
  have hPe := hid (hP3.set5 (t := c) rfl ((m : Int) + 1))
  have y5 := hP3.fm.cellN (i := 5) (j := c) (by simp) rfl rfl hc5
  have y5c : w2.cell? ⟨q5, c, none⟩ = some (.int .i64 (m : Int)) := by
    rw [← hh5.out]
    exact y5.1
  have y5f := y5.2
  clear z0 z1 z2 z3 z4 z5 y0 y1 y0f y1f y5 hP1 hP2 hC2 hCh
  obtain ⟨⟨z0, z1, z2, z3, z4, z5⟩, _⟩ := blk6 hP3.blk
  have hm4 : (m : Int) ≤ 4500 := by omega
  clear hP3 hC3
  go_wp2
  go_end0
  refine ⟨rfl, ?_, hCe.out⟩
  have hf : ∀ F : Nat → List Int, (∀ j, (upd (upd (upd f 0 (((f 0).set p (o : Int)).set (a + m) (n : Int))) 1 (((f 1).set o (p : Int)).set n ((a : Int) + (m : Int)))) 5 ((f 5).set c ((m : Int) + 1))) j = F j) → upd (upd (upd f 0 (((f 0).set p (o : Int)).set (a + m) (n : Int))) 1 (((f 1).set o (p : Int)).set n ((a : Int) + (m : Int)))) 5 ((f 5).set c ((m : Int) + 1)) = F := fun F h => funext h
  rw [hf _ (fun j => ?_)]
  · exact hPe.out
  · skip
    by_cases e5 : j = 5
    · subst e5
      rfl
    · by_cases e1 : j = 1
      · subst e1
        rfl
      · by_cases e0 : j = 0
        · subst e0
          rfl
        · simp [upd, e5, e1, e0]
end Go.Proofs.Ytncileojdighnaa
