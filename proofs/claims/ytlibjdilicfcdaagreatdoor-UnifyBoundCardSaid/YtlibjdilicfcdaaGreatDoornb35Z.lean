/- Package cells: a graph while it is read. -/
import Derived.Test.YtlibjdilicfcdaaGreatDoornb32Z
import Derived.Test.YtlibjdilicfcdaaGreatDoornb02Z
namespace Go.Proofs.YtlibjdilicfcdaaGreatDoor
set_option maxRecDepth 100000
open Go.RowKit
theorem On.push2 {w w1 w2 : World} {B : Nat} {nv : Value} {avs : List Value} {ns : List Nd} {n : Nd} {ao : Option Addr} {c g cap : Nat} (h : On w B nv avs ns) (hbk : ∀ k ∈ blocks (nv :: avs), w1.heap[k]? = w.heap[k]?) (hsz : w.heap.size ≤ w1.heap.size)
    (ha : w1.ownsRow w.heap.size 3 1 (.slice ao n.args.length c) n.args.length (n.args.map (Value.int .i64))) (hB : B ≤ w.heap.size)
    (hg : w1.grownBy w2 nv.ownBlock) (hown : w2.ownsRow B 58 4 (.slice (some ⟨g, 0, none⟩) (ns.length + 1) cap) (ns.length + 1) (ncells ns avs ++ [.int .i64 n.kind, .string n.name, .int .i64 n.num, .slice ao n.args.length c]))
    (hat : nv.ownBlock = some g ∨ w1.heap.size ≤ g) : On w2 B (.slice (some ⟨g, 0, none⟩) (ns.length + 1) cap) (avs ++ [.slice ao n.args.length c]) (ns ++ [n]) := by
  have h1 := h.keep hbk
  have hnd := h.nd
  have hlt := h.lt
  have hnew : ∀ k, Value.ownBlock (.slice ao n.args.length c) = some k → w.heap.size ≤ k ∧ k < w1.heap.size := fun k e => ha.lt k e
  have hnv : ∀ k, nv.ownBlock = some k → k ∉ blocks avs := fun k e hk => by
    have : blocks (nv :: avs) = k :: blocks avs := by simp [blocks, e]
    rw [this] at hnd
    exact (List.nodup_cons.1 hnd).1 hk
  have hkeep : ∀ k ∈ blocks avs, w2.heap[k]? = w1.heap[k]? := fun k hk => by
    have hk' : k ∈ blocks (nv :: avs) := by
      obtain ⟨v, hv, e⟩ := List.mem_filterMap.1 hk
      exact List.mem_filterMap.2 ⟨v, by simp [hv], e⟩
    exact hg.block k (by have := (hlt k hk').2; have := hsz; omega) (fun e => hnv k e.symm hk)
  refine ⟨?_, by simp [h.len], fun j hj => ?_, ?_⟩
  · rw [List.length_append, List.length_singleton, ncells_snoc ns avs n _ h.len]
    exact hown
  · by_cases e : j < ns.length
    · obtain ⟨aa, ac, e1, e2⟩ := h1.a j e
      have ej : j < avs.length := by rw [h.len]; exact e
      have en : (ns ++ [n]).getD j nd0 = ns.getD j nd0 := by simp [List.getD, List.getElem?_append_left e]
      have ev : (avs ++ [Value.slice ao n.args.length c]).getD j undef = avs.getD j undef := by simp [List.getD, List.getElem?_append_left ej]
      rw [en, ev]
      refine ⟨aa, ac, e1, own_block e2 (fun k ek => hkeep k (List.mem_filterMap.2 ⟨avs.getD j undef, by simp [List.getD, ej], by rw [e1]; exact ek⟩))⟩
    · have e' : j = ns.length := by simp at hj; omega
      subst e'
      have en : (ns ++ [n]).getD ns.length nd0 = n := by simp [List.getD]
      have ev : (avs ++ [Value.slice ao n.args.length c]).getD ns.length undef = .slice ao n.args.length c := by rw [← h.len]; simp [List.getD]
      rw [en, ev]
      refine ⟨ao, c, rfl, own_base (B := w.heap.size) (own_block ha (fun k ek => hg.block k (hnew k ek).2 (fun e2 => ?_))) hB⟩
      have := (h.n.lt k e2.symm).2
      have := (hnew k ek).1
      omega
  · have hgn : g ∉ blocks avs := fun hk => by
      rcases hat with e | e
      · exact hnv g e hk
      · have hk' : g ∈ blocks (nv :: avs) := by
          obtain ⟨v, hv, e⟩ := List.mem_filterMap.1 hk
          exact List.mem_filterMap.2 ⟨v, by simp [hv], e⟩
        have := (hlt g hk').2
        have := hsz
        omega
    have hnd' : (blocks avs).Nodup := by
      cases e : nv.ownBlock with
      | none => simpa [blocks, e] using hnd
      | some k =>
        have : blocks (nv :: avs) = k :: blocks avs := by simp [blocks, e]
        rw [this] at hnd
        exact (List.nodup_cons.1 hnd).2
    have hbl : blocks (.slice (some ⟨g, 0, none⟩) (ns.length + 1) cap :: (avs ++ [.slice ao n.args.length c])) = g :: (blocks avs ++ blocks [.slice ao n.args.length c]) := by simp [blocks, Value.ownBlock]
    rw [hbl]
    have hav : ∀ k ∈ blocks avs, k < w.heap.size := fun k hk => by
      obtain ⟨v, hv, e⟩ := List.mem_filterMap.1 hk
      exact (hlt k (List.mem_filterMap.2 ⟨v, by simp [hv], e⟩)).2
    cases eb : Value.ownBlock (.slice ao n.args.length c) with
    | none =>
      have : blocks [.slice ao n.args.length c] = [] := by simp [blocks, eb]
      rw [this, List.append_nil]
      exact List.nodup_cons.2 ⟨hgn, hnd'⟩
    | some k =>
      have : blocks [.slice ao n.args.length c] = [k] := by simp [blocks, eb]
      rw [this]
      have hk := hnew k eb
      refine List.nodup_cons.2 ⟨fun hx => ?_, List.nodup_append.2 ⟨hnd', by simp, fun a ha b hb' e => ?_⟩⟩
      · rcases List.mem_append.1 hx with hx | hx
        · exact hgn hx
        · simp at hx
          subst hx
          rcases hat with e | e
          · have := (h.n.lt g e).2
            omega
          · omega
      · simp at hb'
        subst hb' e
        have := hav a ha
        omega
theorem on_obj {w : World} {B : Nat} {nv : Value} {avs : List Value} {ns : List Nd} (h : On w B nv avs ns) : ∀ k ∈ blocks (nv :: avs), ∃ cur T, w.heap[k]? = some (.cells cur T (0, 0)) ∧ (T = 58 ∨ T = 3) := fun k hk => by
  obtain ⟨v, hv, e⟩ := List.mem_filterMap.1 hk
  rcases List.mem_cons.1 hv with rfl | hv
  · obtain ⟨cur, hc⟩ := row_obj h.n e
    exact ⟨cur, _, hc, Or.inl rfl⟩
  · obtain ⟨j, hj, rfl⟩ := List.getElem_of_mem hv
    obtain ⟨ao, c, h1, h2⟩ := h.a j (by rw [← h.len]; exact hj)
    have h3 : avs[j] = .slice ao (ns.getD j nd0).args.length c := by
      rw [← h1]
      simp [List.getD, hj]
    rw [h3] at e
    obtain ⟨cur, hc⟩ := row_obj h2 e
    exact ⟨cur, _, hc, Or.inr rfl⟩
theorem rg_not {w : World} {B rb hb mq k : Nat} {tv : Value} {TS : List Int} {cur : Array Value} {T : TypeId} (h : Rg w B rb hb tv mq TS) (hk : w.heap[k]? = some (.cells cur T (0, 0))) (h1 : T ≠ 136) (h2 : T ≠ 123) : k ∉ r_foot rb tv mq := fun hf => by
  rcases r_mem_foot.1 hf with e | e | e
  · subst e
    have := h.blk
    rw [hk] at this
    injection this with this
    injection this with _ this
    exact h1 this
  · subst e
    obtain ⟨D, ⟨es, clock, hq, _⟩, _⟩ := h.map
    rw [hq] at hk
    simp at hk
  · obtain ⟨cur2, hc2⟩ := row_obj h.own e
    rw [hk] at hc2
    injection hc2 with hc2
    injection hc2 with _ hc2
    exact h2 hc2
theorem alloc3 (W : World) (a b c : Obj) : (((W.alloc a).alloc b).alloc c).heap[W.heap.size]? = some a ∧ (((W.alloc a).alloc b).alloc c).heap[W.heap.size + 1]? = some b ∧ (((W.alloc a).alloc b).alloc c).heap[W.heap.size + 2]? = some c := by
  have s1 : (W.alloc a).heap.size = W.heap.size + 1 := by simp
  have s2 : ((W.alloc a).alloc b).heap.size = W.heap.size + 2 := by simp
  have h0 := heap_alloc_new W a
  have h1 := heap_alloc_new (W.alloc a) b
  have h2 := heap_alloc_new ((W.alloc a).alloc b) c
  rw [s1] at h1
  rw [s2] at h2
  refine ⟨?_, ?_, h2⟩
  · rw [Below.heap_alloc _ _ _ (by omega), Below.heap_alloc _ _ _ (by omega)]
    exact h0
  · rw [Below.heap_alloc _ _ _ (by omega)]
    exact h1
structure Rx (W w : World) (hb rb mq gb : Nat) (tv nv rv : Value) (TS : List Int) (avs : List Value) (nds : List Nd) (rts : List Int) : Prop where
  b : Below W.heap.size W w
  x : w.heap[W.heap.size]? = some (.cells #[.slice none 0 0, .slice none 0 0] 25)
  r : Rg w (W.heap.size + 1) rb hb tv mq TS
  g : w.heap[gb]? = some (.cells #[nv, rv] 25)
  gz : W.heap.size + 1 ≤ gb
  on : On w (W.heap.size + 1) nv avs nds
  ro : w.ownsRow (W.heap.size + 1) 3 1 rv rts.length (rts.map (Value.int .i64))
section
variable {W w w' : World} {hb rb mq gb : Nat} {tv nv rv : Value} {TS : List Int} {avs : List Value} {nds : List Nd} {rts : List Int}
theorem Rx.next (h : Rx W w hb rb mq gb tv nv rv TS avs nds rts) (hb' : Below w.heap.size w w') : Rx W w' hb rb mq gb tv nv rv TS avs nds rts :=
  ⟨Below.next h.b hb', (hb'.block _ (lt_of_block h.x)).trans h.x, h.r.below hb', (hb'.block _ (lt_of_block h.g)).trans h.g, h.gz, h.on.below hb', row_keep h.ro (fun k hk => hb'.block k (h.ro.lt k hk).2)⟩
theorem Rx.terms {tv' : Value} {TS' : List Int} (h : Rx W w hb rb mq gb tv nv rv TS avs nds rts) (hm : a_Mod (r_foot rb tv mq) w w') (hR : Rg w' (W.heap.size + 1) rb hb tv' mq TS') : Rx W w' hb rb mq gb tv' nv rv TS' avs nds rts := by
  have hf : ∀ k ∈ r_foot rb tv mq, W.heap.size + 1 ≤ k := fun k hk => by
    rcases r_mem_foot.1 hk with e | e | e
    · rw [e]
      exact h.r.base
    · rw [e]
      exact h.r.mb
    · exact (h.r.own.lt k e).1
  have hB : Below (W.heap.size + 1) w w' := hm.below hf (Nat.lt_of_lt_of_le (lt_of_block h.x) (Nat.le_refl _))
  refine ⟨h.b.trans (hB.mono (by omega)), (hB.block _ (by omega)).trans h.x, hR, (hm.block _ (lt_of_block h.g) (rg_not h.r h.g (by decide) (by decide))).trans h.g, h.gz, h.on.keep (fun k hk => ?_), row_keep h.ro (fun k hk => hm.block k (h.ro.lt k hk).2 (rg_out h.r h.ro k hk))⟩
  obtain ⟨cur, T, hc, hT⟩ := on_obj h.on k hk
  exact hm.block k (lt_of_block hc) (rg_not h.r hc (by rcases hT with rfl | rfl <;> decide) (by rcases hT with rfl | rfl <;> decide))
theorem Rx.step {wc w6 : World} {tv' : Value} {TS' : List Int} {n : Nd} {aa : Option Addr} {ac g cap : Nat} {o : Obj} (h : Rx W wc hb rb mq gb tv nv rv TS avs nds rts) (hm : a_Mod (r_foot rb tv mq) wc w) (hR : Rg w (W.heap.size + 1) rb hb tv' mq TS')
    (ha : w.ownsRow wc.heap.size 3 1 (.slice aa n.args.length ac) n.args.length (n.args.map (Value.int .i64))) (hg : (w.alloc o).grownBy w6 nv.ownBlock) (hown : w6.ownsRow (W.heap.size + 1) 58 4 (.slice (some ⟨g, 0, none⟩) (nds.length + 1) cap) (nds.length + 1) (ncells nds avs ++ [.int .i64 n.kind, .string n.name, .int .i64 n.num, .slice aa n.args.length ac])) (hat : nv.ownBlock = some g ∨ g = w.heap.size + 1) :
    w6.heap[gb]? = some (.cells #[nv, rv] 25) ∧ Rx W (w6.setCell ⟨gb, 0, none⟩ (.slice (some ⟨g, 0, none⟩) (nds.length + 1) cap)) hb rb mq gb tv' (.slice (some ⟨g, 0, none⟩) (nds.length + 1) cap) rv TS' (avs ++ [.slice aa n.args.length ac]) (nds ++ [n]) rts := by
  have h5 := h.terms hm hR
  have hnvo : ∀ k, nv.ownBlock = some k → ∃ cur, w.heap[k]? = some (.cells cur 58 (0, 0)) := fun k hk => row_obj h5.on.n hk
  have hz5 := h5.b.size
  have hzg := lt_of_block h5.g
  have hzx := lt_of_block h5.x
  have hne : ∀ {k : Nat} {cur : Array Value} {T : TypeId}, w.heap[k]? = some (.cells cur T (0, 0)) → T ≠ 58 → nv.ownBlock ≠ some k := fun {k cur T} hk hT e => by
    obtain ⟨c2, h2⟩ := hnvo k e
    rw [hk] at h2
    injection h2 with h2
    injection h2 with _ h2
    exact hT h2
  have hkp : ∀ {k : Nat}, k < w.heap.size → nv.ownBlock ≠ some k → w6.heap[k]? = w.heap[k]? := fun {k} hk hn => by
    rw [hg.block k (by simp; omega) (fun e => hn e.symm), Below.heap_alloc _ _ _ hk]
  have hg6 : w6.heap[gb]? = some (.cells #[nv, rv] 25) := (hkp hzg (hne h5.g (by decide))).trans h5.g
  have hR6 : Rg w6 (W.heap.size + 1) rb hb tv' mq TS' := hR.keep (grown_mod hg) (fun k hk => by
    obtain ⟨cur, hc⟩ := hnvo k (by simpa using hk)
    exact rg_not hR hc (by decide) (by decide))
  have hsz6 : w.heap.size ≤ w6.heap.size := by
    have := hg.size
    simp at this
    omega
  have hon6 : On w6 (W.heap.size + 1) (.slice (some ⟨g, 0, none⟩) (nds.length + 1) cap) (avs ++ [.slice aa n.args.length ac]) (nds ++ [n]) := by
    have hk0 : ∀ k ∈ blocks (nv :: avs), (w.alloc o).heap[k]? = wc.heap[k]? := fun k hk => by
      obtain ⟨cur, T, hc, hT⟩ := on_obj h.on k hk
      rw [Below.heap_alloc _ _ _ (Nat.lt_of_lt_of_le (lt_of_block hc) hm.size)]
      exact hm.block k (lt_of_block hc) (rg_not h.r hc (by rcases hT with rfl | rfl <;> decide) (by rcases hT with rfl | rfl <;> decide))
    refine On.push2 h.on hk0 (by have := hm.size; simp; omega) (World.ownsRow.alloc ha o) (Nat.lt_of_lt_of_le (lt_of_block h.x) (Nat.le_refl _)) hg hown ?_
    rcases hat with e | e
    · exact Or.inl e
    · exact Or.inr (by simp; omega)
  have hro6 : w6.ownsRow (W.heap.size + 1) 3 1 rv rts.length (rts.map (Value.int .i64)) := row_keep h5.ro (fun k hk => by
    obtain ⟨cur, hc⟩ := row_obj h5.ro hk
    exact hkp (lt_of_block hc) (hne hc (by decide)))
  have hB6 : Below (W.heap.size + 1) w w6 := ⟨hg.os, hg.tape, hg.output, hsz6, fun k hk => hkp (by omega) (fun e => by have := (h5.on.n.lt k e).1; omega)⟩
  have hs : a_Mod [gb] w6 (w6.setCell ⟨gb, 0, none⟩ (.slice (some ⟨g, 0, none⟩) (nds.length + 1) cap)) := (a_Mod.refl [gb] w6).setCell (p := ⟨gb, 0, none⟩) (Or.inl (by simp)) _
  have hx6 := (hB6.block _ (by omega)).trans h5.x
  refine ⟨hg6, ⟨(h5.b.trans (hB6.mono (by omega))).setCell (p := ⟨gb, 0, none⟩) (by have := h.gz; show W.heap.size ≤ gb; omega) _, ?_, hR6.keep hs (fun k hk => ?_), heap_setCell_same w6 gb 0 _ _ _ hg6, h.gz, ?_, ?_⟩⟩
  · rw [Below.heap_setCell _ _ _ _ (by have := h.gz; show W.heap.size ≠ gb; omega)]
    exact hx6
  · have e : k = gb := by simpa using hk
    subst e
    exact rg_not hR6 hg6 (by decide) (by decide)
  · refine hon6.keep (fun k hk => Below.heap_setCell _ _ _ _ (fun e => ?_))
    obtain ⟨cur, T, hc, hT⟩ := on_obj hon6 k hk
    have e' : k = gb := e
    subst e'
    rw [hg6] at hc
    injection hc with hc
    injection hc with _ hc
    rcases hT with rfl | rfl <;> exact absurd hc (by decide)
  · refine row_keep hro6 (fun k hk => Below.heap_setCell _ _ _ _ (fun e => ?_))
    obtain ⟨cur, hc⟩ := row_obj hro6 hk
    have e' : k = gb := e
    subst e'
    rw [hg6] at hc
    injection hc with hc
    injection hc with _ hc
    exact absurd hc (by decide)
end
end Go.Proofs.YtlibjdilicfcdaaGreatDoor

namespace Go.Proofs.YtlibjdilicfcdaaGreatDoor
set_option maxRecDepth 100000
open Go.RowKit
structure G7 (wd : World) (gb cb rb : Nat) (OLD vK vS vN vD : Value) (N5 A6 : Value → World → Prop) (lit : Value → Obj) (b0 b1 b2 b3 b4 b5 b6 b7 b8 b9 b10 b11 b12 b13 b14 b15 b16 : Bool) (x35 x36 x37 x38 x39 x40 x41 x42 x43 x44 x45 x46 x47 x48 x49 x50 : Value) (w : World) : Prop where
  e0 : b0 = true → x35 = .pointer (some ⟨gb, 0, none⟩)
  e1 : b1 = true → x36 = OLD
  e2 : b2 = true → x37 = .pointer (some ⟨cb, 0, none⟩)
  e3 : b3 = true → x38 = vK
  e4 : b4 = true → x39 = .pointer (some ⟨cb, 2, none⟩)
  e5 : b5 = true → x40 = vS
  e6 : b6 = true → x41 = .pointer (some ⟨cb, 3, none⟩)
  e7 : b7 = true → x42 = vN
  e8 : b8 = true → x43 = .pointer (some ⟨rb, 0, none⟩)
  e9 : b9 = true → x44 = .pointer (some ⟨cb, 4, none⟩)
  e10 : b10 = true → x45 = vD
  e12 : b12 = true → x47 = .agg #[vK, vS, vN, x46]
  c11 : b11 = true → b10 = true
  c12 : b12 = true → b3 = true ∧ b5 = true ∧ b7 = true ∧ b11 = true
  c13 : b13 = true → b12 = true
  c14 : b14 = true → b1 = true ∧ b13 = true
  c15 : b15 = true → b14 = true
  e15 : b15 = true → x50 = .pointer (some ⟨gb, 0, none⟩)
  c16 : b16 = true → b15 = true
  s0 : b11 = false → w = wd
  s1 : b11 = true → b13 = false → N5 x46 w
  s2 : b13 = true → b14 = false → ∃ w5, N5 x46 w5 ∧ x48 = .slice (some ⟨w5.heap.size, 0, none⟩) 1 1 ∧ w = w5.alloc (lit x46)
  s3 : b14 = true → b16 = false → A6 x49 w
  s4 : b16 = true → ∃ w6, A6 x49 w6 ∧ w = w6.setCell ⟨gb, 0, none⟩ x49
section
variable {wd w w' : World} {gb cb rb : Nat} {OLD vK vS vN vD : Value} {N5 A6 : Value → World → Prop} {lit : Value → Obj} {b0 b1 b2 b3 b4 b5 b6 b7 b8 b9 b10 b11 b12 b13 b14 b15 b16 : Bool} {x35 x36 x37 x38 x39 x40 x41 x42 x43 x44 x45 x46 x47 x48 x49 x50 : Value}
theorem G7.t0 (h : G7 wd gb cb rb OLD vK vS vN vD N5 A6 lit false b1 b2 b3 b4 b5 b6 b7 b8 b9 b10 b11 b12 b13 b14 b15 b16 x35 x36 x37 x38 x39 x40 x41 x42 x43 x44 x45 x46 x47 x48 x49 x50 w) : G7 wd gb cb rb OLD vK vS vN vD N5 A6 lit true b1 b2 b3 b4 b5 b6 b7 b8 b9 b10 b11 b12 b13 b14 b15 b16 (.pointer (some ⟨gb, 0, none⟩)) x36 x37 x38 x39 x40 x41 x42 x43 x44 x45 x46 x47 x48 x49 x50 w :=
  ⟨fun _ => rfl, h.e1, h.e2, h.e3, h.e4, h.e5, h.e6, h.e7, h.e8, h.e9, h.e10, h.e12, h.c11, h.c12, h.c13, h.c14, h.c15, h.e15, h.c16, h.s0, h.s1, h.s2, h.s3, h.s4⟩
theorem G7.t1 (h : G7 wd gb cb rb OLD vK vS vN vD N5 A6 lit b0 false b2 b3 b4 b5 b6 b7 b8 b9 b10 b11 b12 b13 b14 b15 b16 x35 x36 x37 x38 x39 x40 x41 x42 x43 x44 x45 x46 x47 x48 x49 x50 w) : G7 wd gb cb rb OLD vK vS vN vD N5 A6 lit b0 true b2 b3 b4 b5 b6 b7 b8 b9 b10 b11 b12 b13 b14 b15 b16 x35 (OLD) x37 x38 x39 x40 x41 x42 x43 x44 x45 x46 x47 x48 x49 x50 w :=
  ⟨h.e0, fun _ => rfl, h.e2, h.e3, h.e4, h.e5, h.e6, h.e7, h.e8, h.e9, h.e10, h.e12, h.c11, h.c12, h.c13, fun e => ⟨rfl, (h.c14 e).2⟩, h.c15, h.e15, h.c16, h.s0, h.s1, h.s2, h.s3, h.s4⟩
theorem G7.t2 (h : G7 wd gb cb rb OLD vK vS vN vD N5 A6 lit b0 b1 false b3 b4 b5 b6 b7 b8 b9 b10 b11 b12 b13 b14 b15 b16 x35 x36 x37 x38 x39 x40 x41 x42 x43 x44 x45 x46 x47 x48 x49 x50 w) : G7 wd gb cb rb OLD vK vS vN vD N5 A6 lit b0 b1 true b3 b4 b5 b6 b7 b8 b9 b10 b11 b12 b13 b14 b15 b16 x35 x36 (.pointer (some ⟨cb, 0, none⟩)) x38 x39 x40 x41 x42 x43 x44 x45 x46 x47 x48 x49 x50 w :=
  ⟨h.e0, h.e1, fun _ => rfl, h.e3, h.e4, h.e5, h.e6, h.e7, h.e8, h.e9, h.e10, h.e12, h.c11, h.c12, h.c13, h.c14, h.c15, h.e15, h.c16, h.s0, h.s1, h.s2, h.s3, h.s4⟩
theorem G7.t3 (h : G7 wd gb cb rb OLD vK vS vN vD N5 A6 lit b0 b1 b2 false b4 b5 b6 b7 b8 b9 b10 b11 b12 b13 b14 b15 b16 x35 x36 x37 x38 x39 x40 x41 x42 x43 x44 x45 x46 x47 x48 x49 x50 w) : G7 wd gb cb rb OLD vK vS vN vD N5 A6 lit b0 b1 b2 true b4 b5 b6 b7 b8 b9 b10 b11 b12 b13 b14 b15 b16 x35 x36 x37 (vK) x39 x40 x41 x42 x43 x44 x45 x46 x47 x48 x49 x50 w :=
  ⟨h.e0, h.e1, h.e2, fun _ => rfl, h.e4, h.e5, h.e6, h.e7, h.e8, h.e9, h.e10, h.e12, h.c11, fun e => ⟨rfl, (h.c12 e).2.1, (h.c12 e).2.2.1, (h.c12 e).2.2.2⟩, h.c13, h.c14, h.c15, h.e15, h.c16, h.s0, h.s1, h.s2, h.s3, h.s4⟩
theorem G7.t4 (h : G7 wd gb cb rb OLD vK vS vN vD N5 A6 lit b0 b1 b2 b3 false b5 b6 b7 b8 b9 b10 b11 b12 b13 b14 b15 b16 x35 x36 x37 x38 x39 x40 x41 x42 x43 x44 x45 x46 x47 x48 x49 x50 w) : G7 wd gb cb rb OLD vK vS vN vD N5 A6 lit b0 b1 b2 b3 true b5 b6 b7 b8 b9 b10 b11 b12 b13 b14 b15 b16 x35 x36 x37 x38 (.pointer (some ⟨cb, 2, none⟩)) x40 x41 x42 x43 x44 x45 x46 x47 x48 x49 x50 w :=
  ⟨h.e0, h.e1, h.e2, h.e3, fun _ => rfl, h.e5, h.e6, h.e7, h.e8, h.e9, h.e10, h.e12, h.c11, h.c12, h.c13, h.c14, h.c15, h.e15, h.c16, h.s0, h.s1, h.s2, h.s3, h.s4⟩
theorem G7.t5 (h : G7 wd gb cb rb OLD vK vS vN vD N5 A6 lit b0 b1 b2 b3 b4 false b6 b7 b8 b9 b10 b11 b12 b13 b14 b15 b16 x35 x36 x37 x38 x39 x40 x41 x42 x43 x44 x45 x46 x47 x48 x49 x50 w) : G7 wd gb cb rb OLD vK vS vN vD N5 A6 lit b0 b1 b2 b3 b4 true b6 b7 b8 b9 b10 b11 b12 b13 b14 b15 b16 x35 x36 x37 x38 x39 (vS) x41 x42 x43 x44 x45 x46 x47 x48 x49 x50 w :=
  ⟨h.e0, h.e1, h.e2, h.e3, h.e4, fun _ => rfl, h.e6, h.e7, h.e8, h.e9, h.e10, h.e12, h.c11, fun e => ⟨(h.c12 e).1, rfl, (h.c12 e).2.2.1, (h.c12 e).2.2.2⟩, h.c13, h.c14, h.c15, h.e15, h.c16, h.s0, h.s1, h.s2, h.s3, h.s4⟩
theorem G7.t6 (h : G7 wd gb cb rb OLD vK vS vN vD N5 A6 lit b0 b1 b2 b3 b4 b5 false b7 b8 b9 b10 b11 b12 b13 b14 b15 b16 x35 x36 x37 x38 x39 x40 x41 x42 x43 x44 x45 x46 x47 x48 x49 x50 w) : G7 wd gb cb rb OLD vK vS vN vD N5 A6 lit b0 b1 b2 b3 b4 b5 true b7 b8 b9 b10 b11 b12 b13 b14 b15 b16 x35 x36 x37 x38 x39 x40 (.pointer (some ⟨cb, 3, none⟩)) x42 x43 x44 x45 x46 x47 x48 x49 x50 w :=
  ⟨h.e0, h.e1, h.e2, h.e3, h.e4, h.e5, fun _ => rfl, h.e7, h.e8, h.e9, h.e10, h.e12, h.c11, h.c12, h.c13, h.c14, h.c15, h.e15, h.c16, h.s0, h.s1, h.s2, h.s3, h.s4⟩
theorem G7.t7 (h : G7 wd gb cb rb OLD vK vS vN vD N5 A6 lit b0 b1 b2 b3 b4 b5 b6 false b8 b9 b10 b11 b12 b13 b14 b15 b16 x35 x36 x37 x38 x39 x40 x41 x42 x43 x44 x45 x46 x47 x48 x49 x50 w) : G7 wd gb cb rb OLD vK vS vN vD N5 A6 lit b0 b1 b2 b3 b4 b5 b6 true b8 b9 b10 b11 b12 b13 b14 b15 b16 x35 x36 x37 x38 x39 x40 x41 (vN) x43 x44 x45 x46 x47 x48 x49 x50 w :=
  ⟨h.e0, h.e1, h.e2, h.e3, h.e4, h.e5, h.e6, fun _ => rfl, h.e8, h.e9, h.e10, h.e12, h.c11, fun e => ⟨(h.c12 e).1, (h.c12 e).2.1, rfl, (h.c12 e).2.2.2⟩, h.c13, h.c14, h.c15, h.e15, h.c16, h.s0, h.s1, h.s2, h.s3, h.s4⟩
theorem G7.t8 (h : G7 wd gb cb rb OLD vK vS vN vD N5 A6 lit b0 b1 b2 b3 b4 b5 b6 b7 false b9 b10 b11 b12 b13 b14 b15 b16 x35 x36 x37 x38 x39 x40 x41 x42 x43 x44 x45 x46 x47 x48 x49 x50 w) : G7 wd gb cb rb OLD vK vS vN vD N5 A6 lit b0 b1 b2 b3 b4 b5 b6 b7 true b9 b10 b11 b12 b13 b14 b15 b16 x35 x36 x37 x38 x39 x40 x41 x42 (.pointer (some ⟨rb, 0, none⟩)) x44 x45 x46 x47 x48 x49 x50 w :=
  ⟨h.e0, h.e1, h.e2, h.e3, h.e4, h.e5, h.e6, h.e7, fun _ => rfl, h.e9, h.e10, h.e12, h.c11, h.c12, h.c13, h.c14, h.c15, h.e15, h.c16, h.s0, h.s1, h.s2, h.s3, h.s4⟩
theorem G7.t9 (h : G7 wd gb cb rb OLD vK vS vN vD N5 A6 lit b0 b1 b2 b3 b4 b5 b6 b7 b8 false b10 b11 b12 b13 b14 b15 b16 x35 x36 x37 x38 x39 x40 x41 x42 x43 x44 x45 x46 x47 x48 x49 x50 w) : G7 wd gb cb rb OLD vK vS vN vD N5 A6 lit b0 b1 b2 b3 b4 b5 b6 b7 b8 true b10 b11 b12 b13 b14 b15 b16 x35 x36 x37 x38 x39 x40 x41 x42 x43 (.pointer (some ⟨cb, 4, none⟩)) x45 x46 x47 x48 x49 x50 w :=
  ⟨h.e0, h.e1, h.e2, h.e3, h.e4, h.e5, h.e6, h.e7, h.e8, fun _ => rfl, h.e10, h.e12, h.c11, h.c12, h.c13, h.c14, h.c15, h.e15, h.c16, h.s0, h.s1, h.s2, h.s3, h.s4⟩
theorem G7.t10 (h : G7 wd gb cb rb OLD vK vS vN vD N5 A6 lit b0 b1 b2 b3 b4 b5 b6 b7 b8 b9 false b11 b12 b13 b14 b15 b16 x35 x36 x37 x38 x39 x40 x41 x42 x43 x44 x45 x46 x47 x48 x49 x50 w) : G7 wd gb cb rb OLD vK vS vN vD N5 A6 lit b0 b1 b2 b3 b4 b5 b6 b7 b8 b9 true b11 b12 b13 b14 b15 b16 x35 x36 x37 x38 x39 x40 x41 x42 x43 x44 (vD) x46 x47 x48 x49 x50 w :=
  ⟨h.e0, h.e1, h.e2, h.e3, h.e4, h.e5, h.e6, h.e7, h.e8, h.e9, fun _ => rfl, h.e12, fun _ => rfl, h.c12, h.c13, h.c14, h.c15, h.e15, h.c16, h.s0, h.s1, h.s2, h.s3, h.s4⟩
theorem G7.no12 (h : G7 wd gb cb rb OLD vK vS vN vD N5 A6 lit b0 b1 b2 b3 b4 b5 b6 b7 b8 b9 b10 false b12 b13 b14 b15 b16 x35 x36 x37 x38 x39 x40 x41 x42 x43 x44 x45 x46 x47 x48 x49 x50 w) : b12 = false ∧ b13 = false ∧ b14 = false ∧ b15 = false ∧ b16 = false := by
  have k2 : b12 = false := by cases e : b12 with | false => rfl | true => exact absurd (h.c12 e).2.2.2 (by simp)
  have k3 : b13 = false := by cases e : b13 with | false => rfl | true => rw [h.c13 e] at k2; cases k2
  have k4 : b14 = false := by cases e : b14 with | false => rfl | true => rw [(h.c14 e).2] at k3; cases k3
  have k5 : b15 = false := by cases e : b15 with | false => rfl | true => rw [h.c15 e] at k4; cases k4
  exact ⟨k2, k3, k4, k5, by cases e : b16 with | false => rfl | true => rw [h.c16 e] at k5; cases k5⟩
theorem G7.t11 (h : G7 wd gb cb rb OLD vK vS vN vD N5 A6 lit b0 b1 b2 b3 b4 b5 b6 b7 b8 b9 true false b12 b13 b14 b15 b16 x35 x36 x37 x38 x39 x40 x41 x42 x43 x44 x45 x46 x47 x48 x49 x50 w) {x : Value} (hN : N5 x w') : G7 wd gb cb rb OLD vK vS vN vD N5 A6 lit b0 b1 b2 b3 b4 b5 b6 b7 b8 b9 true true b12 b13 b14 b15 b16 x35 x36 x37 x38 x39 x40 x41 x42 x43 x44 x45 x x47 x48 x49 x50 w' := by
  obtain ⟨rfl, rfl, rfl, rfl, rfl⟩ := h.no12
  exact ⟨h.e0, h.e1, h.e2, h.e3, h.e4, h.e5, h.e6, h.e7, h.e8, h.e9, h.e10, nofun, fun _ => rfl, nofun, nofun, nofun, nofun, nofun, nofun, nofun, fun _ _ => hN, nofun, nofun, nofun⟩
theorem G7.no13 (h : G7 wd gb cb rb OLD vK vS vN vD N5 A6 lit b0 b1 b2 b3 b4 b5 b6 b7 b8 b9 b10 b11 false b13 b14 b15 b16 x35 x36 x37 x38 x39 x40 x41 x42 x43 x44 x45 x46 x47 x48 x49 x50 w) : b13 = false ∧ b14 = false ∧ b15 = false ∧ b16 = false := by
  have k3 : b13 = false := by cases e : b13 with | false => rfl | true => exact absurd (h.c13 e) (by simp)
  have k4 : b14 = false := by cases e : b14 with | false => rfl | true => rw [(h.c14 e).2] at k3; cases k3
  have k5 : b15 = false := by cases e : b15 with | false => rfl | true => rw [h.c15 e] at k4; cases k4
  exact ⟨k3, k4, k5, by cases e : b16 with | false => rfl | true => rw [h.c16 e] at k5; cases k5⟩
theorem G7.t12 (h : G7 wd gb cb rb OLD vK vS vN vD N5 A6 lit b0 b1 b2 true b4 true b6 true b8 b9 b10 true false b13 b14 b15 b16 x35 x36 x37 x38 x39 x40 x41 x42 x43 x44 x45 x46 x47 x48 x49 x50 w) : G7 wd gb cb rb OLD vK vS vN vD N5 A6 lit b0 b1 b2 true b4 true b6 true b8 b9 b10 true true b13 b14 b15 b16 x35 x36 x37 x38 x39 x40 x41 x42 x43 x44 x45 x46 (.agg #[vK, vS, vN, x46]) x48 x49 x50 w := by
  obtain ⟨rfl, rfl, rfl, rfl⟩ := h.no13
  exact ⟨h.e0, h.e1, h.e2, h.e3, h.e4, h.e5, h.e6, h.e7, h.e8, h.e9, h.e10, fun _ => rfl, h.c11, fun _ => ⟨rfl, rfl, rfl, rfl⟩, nofun, nofun, nofun, nofun, nofun, nofun, fun _ _ => h.s1 rfl rfl, nofun, nofun, nofun⟩
theorem G7.t13 (h : G7 wd gb cb rb OLD vK vS vN vD N5 A6 lit b0 b1 b2 b3 b4 b5 b6 b7 b8 b9 b10 b11 true false b14 b15 b16 x35 x36 x37 x38 x39 x40 x41 x42 x43 x44 x45 x46 x47 x48 x49 x50 w) : G7 wd gb cb rb OLD vK vS vN vD N5 A6 lit b0 b1 b2 b3 b4 b5 b6 b7 b8 b9 b10 b11 true true b14 b15 b16 x35 x36 x37 x38 x39 x40 x41 x42 x43 x44 x45 x46 x47 (.slice (some ⟨w.heap.size, 0, none⟩) 1 1) x49 x50 (w.alloc (lit x46)) := by
  have k4 : b14 = false := by cases e : b14 with | false => rfl | true => exact absurd (h.c14 e).2 (by simp)
  have k5 : b15 = false := by cases e : b15 with | false => rfl | true => rw [h.c15 e] at k4; cases k4
  have k6 : b16 = false := by cases e : b16 with | false => rfl | true => rw [h.c16 e] at k5; cases k5
  have k1 := (h.c12 rfl).2.2.2
  subst k4 k5 k6 k1
  exact ⟨h.e0, h.e1, h.e2, h.e3, h.e4, h.e5, h.e6, h.e7, h.e8, h.e9, h.e10, h.e12, h.c11, h.c12, fun _ => rfl, nofun, nofun, nofun, nofun, nofun, nofun, fun _ _ => ⟨w, h.s1 rfl rfl, rfl, rfl⟩, nofun, nofun⟩
theorem G7.t14 (h : G7 wd gb cb rb OLD vK vS vN vD N5 A6 lit b0 true b2 b3 b4 b5 b6 b7 b8 b9 b10 b11 b12 true false b15 b16 x35 x36 x37 x38 x39 x40 x41 x42 x43 x44 x45 x46 x47 x48 x49 x50 w) {v : Value} (hA : A6 v w') : G7 wd gb cb rb OLD vK vS vN vD N5 A6 lit b0 true b2 b3 b4 b5 b6 b7 b8 b9 b10 b11 b12 true true b15 b16 x35 x36 x37 x38 x39 x40 x41 x42 x43 x44 x45 x46 x47 x48 v x50 w' := by
  have k5 : b15 = false := by cases e : b15 with | false => rfl | true => exact absurd (h.c15 e) (by simp)
  have k6 : b16 = false := by cases e : b16 with | false => rfl | true => rw [h.c16 e] at k5; cases k5
  have k2 := h.c13 rfl
  have k1 := (h.c12 k2).2.2.2
  subst k5 k6 k1
  exact ⟨h.e0, h.e1, h.e2, h.e3, h.e4, h.e5, h.e6, h.e7, h.e8, h.e9, h.e10, h.e12, h.c11, h.c12, h.c13, fun _ => ⟨rfl, rfl⟩, nofun, nofun, nofun, nofun, nofun, nofun, fun _ _ => hA, nofun⟩
theorem G7.t15 (h : G7 wd gb cb rb OLD vK vS vN vD N5 A6 lit b0 b1 b2 b3 b4 b5 b6 b7 b8 b9 b10 b11 b12 b13 true false b16 x35 x36 x37 x38 x39 x40 x41 x42 x43 x44 x45 x46 x47 x48 x49 x50 w) : G7 wd gb cb rb OLD vK vS vN vD N5 A6 lit b0 b1 b2 b3 b4 b5 b6 b7 b8 b9 b10 b11 b12 b13 true true b16 x35 x36 x37 x38 x39 x40 x41 x42 x43 x44 x45 x46 x47 x48 x49 (.pointer (some ⟨gb, 0, none⟩)) w := by
  exact ⟨h.e0, h.e1, h.e2, h.e3, h.e4, h.e5, h.e6, h.e7, h.e8, h.e9, h.e10, h.e12, h.c11, h.c12, h.c13, h.c14, fun _ => rfl, fun _ => rfl, fun _ => rfl, h.s0, h.s1, h.s2, h.s3, h.s4⟩
theorem G7.t16 (h : G7 wd gb cb rb OLD vK vS vN vD N5 A6 lit b0 b1 b2 b3 b4 b5 b6 b7 b8 b9 b10 b11 b12 b13 true true false x35 x36 x37 x38 x39 x40 x41 x42 x43 x44 x45 x46 x47 x48 x49 x50 w) : G7 wd gb cb rb OLD vK vS vN vD N5 A6 lit b0 b1 b2 b3 b4 b5 b6 b7 b8 b9 b10 b11 b12 b13 true true true x35 x36 x37 x38 x39 x40 x41 x42 x43 x44 x45 x46 x47 x48 x49 x50 (w.setCell ⟨gb, 0, none⟩ x49) := by
  have k3 := (h.c14 rfl).2
  have k2 := h.c13 k3
  have k1 := (h.c12 k2).2.2.2
  subst k3 k1
  exact ⟨h.e0, h.e1, h.e2, h.e3, h.e4, h.e5, h.e6, h.e7, h.e8, h.e9, h.e10, h.e12, h.c11, h.c12, h.c13, h.c14, fun _ => rfl, h.e15, fun _ => rfl, nofun, nofun, nofun, nofun, fun _ => ⟨w, h.s3 rfl rfl, rfl⟩⟩
end
section
variable {wd w : World} {gb cb rb : Nat} {OLD vK vS vN vD : Value} {N5 A6 : Value → World → Prop} {lit : Value → Obj} {b0 b1 b2 b3 b4 b5 b6 b7 b8 b9 b10 b11 b12 b13 b14 b15 b16 : Bool} {x35 x36 x37 x38 x39 x40 x41 x42 x43 x44 x45 x46 x47 x48 x49 x50 : Value}
theorem G7.old (h : G7 wd gb cb rb OLD vK vS vN vD N5 A6 lit b0 false b2 b3 b4 b5 b6 b7 b8 b9 b10 b11 b12 b13 b14 b15 b16 x35 x36 x37 x38 x39 x40 x41 x42 x43 x44 x45 x46 x47 x48 x49 x50 w) {p : Addr} {v : Value} (h0 : wd.cell? p = some v) (h1 : ∀ x w, N5 x w → w.cell? p = some v) : w.cell? p = some v := by
  have k4 : b14 = false := by cases e : b14 with | false => rfl | true => exact absurd (h.c14 e).1 (by simp)
  cases e1 : b11 with
  | false => rw [h.s0 e1]; exact h0
  | true =>
    cases e3 : b13 with
    | false => exact h1 _ _ (h.s1 e1 e3)
    | true =>
      obtain ⟨w5, hN, _, rfl⟩ := h.s2 e3 k4
      have h2 := h1 _ _ hN
      rw [World.cell?_alloc_lt _ _ _ (World.block_lt_of_cell? w5 p h2)]
      exact h2
theorem G7.loc (h : G7 wd gb cb rb OLD vK vS vN vD N5 A6 lit b0 b1 b2 b3 b4 b5 b6 b7 b8 b9 b10 b11 false b13 b14 b15 b16 x35 x36 x37 x38 x39 x40 x41 x42 x43 x44 x45 x46 x47 x48 x49 x50 w) {p : Addr} {v : Value} (h0 : wd.cell? p = some v) (h1 : ∀ x w, N5 x w → w.cell? p = some v) : w.cell? p = some v := by
  obtain ⟨k3, _⟩ := h.no13
  cases e1 : b11 with
  | false => rw [h.s0 e1]; exact h0
  | true => exact h1 _ _ (h.s1 e1 k3)
end
theorem gset7 (l : Array Bool) (i j : Nat) (hl : l.size = 17) (hi : i < 17) : (l.setIfInBounds i true).getD j false = if i = j then true else l.getD j false := by
  simp only [Array.getD_eq_getD_getElem?, Array.getElem?_setIfInBounds]
  split
  · rename_i e
    rw [if_pos (by omega)]
    rfl
  · rfl
theorem gopp7 {l : Array Bool} {i : Nat} (hl : l.size = 17) (hi : i < 17) : l.getD i false = l.getD i true := by
  have h : i < l.size := by omega
  simp [Array.getD_eq_getD_getElem?, h]
theorem none7 {md : Region.Mode} {ops : Array Oper} {l : Array Bool} (h : Region.ready md ops l = []) {i : Nat} (hi : i < ops.size) (hd : ((ops[i]?).map (·.after.all fun e => !Region.binds md e || l.getD e.on false)).getD false = true) : l.getD i true = true := by
  cases e : l.getD i true with
  | true => rfl
  | false =>
    have : i ∈ Region.ready md ops l := by
      unfold Region.ready
      refine List.mem_filter.2 ⟨List.mem_range.2 hi, ?_⟩
      rw [Bool.and_eq_true, e]
      exact ⟨rfl, hd⟩
    rw [h] at this
    cases this
end Go.Proofs.YtlibjdilicfcdaaGreatDoor
