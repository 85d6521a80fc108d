/- What is being put down by tendrilref08: its memory, step by step. -/
import Derived.Test.Ytjkcffcedbcjmaata41Z
import Derived.Test.Ytjkcffcedbcjmaata42Z
import Derived.Test.Ytjkcffcedbcjmaata09Z
import Derived.Test.Ytjkcffcedbcjmaata30Z
namespace Go.Proofs.Ytjkcffcedbcjmaa
set_option maxRecDepth 100000
open Go.RowKit Go.Maps
theorem bl_mem {v : Value} {vs : List Value} {k : Nat} (hv : v ∈ vs) (e : v.ownBlock = some k) : k ∈ blocks vs := List.mem_filterMap.2 ⟨v, hv, e⟩
theorem On.push3 {w w2 : World} {o : Obj} {B B' : Nat} {nv : Value} {avs : List Value} {ns : List Nd} {n : Nd} {ao : Option Addr} {c g cap : Nat} (h : On w B nv avs ns)
    (ha : w.ownsRow B' 3 1 (.slice ao n.args.length c) n.args.length (n.args.map (Value.int .i64))) (hB : B ≤ B') (hd : ∀ k, Value.ownBlock (.slice ao n.args.length c) = some k → k ∉ blocks (nv :: avs))
    (hg : (w.alloc o).grownBy w2 nv.ownBlock) (hown : w2.ownsRow B 63 4 (.slice (some ⟨g, 0, none⟩) (ns.length + 1) cap) (ns.length + 1) (ncells ns avs ++ [.int .i64 n.kind, .string n.name, .int .i64 n.num, .slice ao n.args.length c]))
    (hat : nv.ownBlock = some g ∨ w.heap.size < g) : On w2 B (.slice (some ⟨g, 0, none⟩) (ns.length + 1) cap) (avs ++ [.slice ao n.args.length c]) (ns ++ [n]) := by
  have hnd := h.nd
  have hlt := h.lt
  have hnew : ∀ k, Value.ownBlock (.slice ao n.args.length c) = some k → k < w.heap.size := fun k e => (ha.lt k e).2
  have hnv : ∀ k, nv.ownBlock = some k → k ∉ blocks avs := fun k e hk => by
    have : blocks (nv :: avs) = k :: blocks avs := by simp [blocks, e]
    rw [this] at hnd
    exact (List.nodup_cons.1 hnd).1 hk
  have hsub : ∀ k ∈ blocks avs, k ∈ blocks (nv :: avs) := fun k hk => by
    obtain ⟨v, hv, e⟩ := List.mem_filterMap.1 hk
    exact List.mem_filterMap.2 ⟨v, by simp [hv], e⟩
  have hk2 : ∀ k, k < w.heap.size → nv.ownBlock ≠ some k → w2.heap[k]? = w.heap[k]? := fun k hk hne => by
    rw [hg.block k (by simp; omega) (fun e => hne e.symm), Below.heap_alloc _ _ _ hk]
  have hkeep : ∀ k ∈ blocks avs, w2.heap[k]? = w.heap[k]? := fun k hk => hk2 k (hlt k (hsub k hk)).2 (fun e => hnv k e hk)
  refine ⟨?_, by simp [h.len], fun j hj => ?_, ?_⟩
  · rw [List.length_append, List.length_singleton, ncells_snoc ns avs n _ h.len]
    exact hown
  · by_cases e : j < ns.length
    · obtain ⟨aa, ac, e1, e2⟩ := h.a j e
      have ej : j < avs.length := by rw [h.len]; exact e
      have en : (ns ++ [n]).getD j nd0 = ns.getD j nd0 := by simp [List.getD, List.getElem?_append_left e]
      have ev : (avs ++ [Value.slice ao n.args.length c]).getD j undef = avs.getD j undef := by simp [List.getD, List.getElem?_append_left ej]
      rw [en, ev]
      refine ⟨aa, ac, e1, own_block e2 (fun k ek => hkeep k (List.mem_filterMap.2 ⟨avs.getD j undef, by simp [List.getD, ej], by rw [e1]; exact ek⟩))⟩
    · have e' : j = ns.length := by simp at hj; omega
      subst e'
      have en : (ns ++ [n]).getD ns.length nd0 = n := by simp [List.getD]
      have ev : (avs ++ [Value.slice ao n.args.length c]).getD ns.length undef = .slice ao n.args.length c := by rw [← h.len]; simp [List.getD]
      rw [en, ev]
      exact ⟨ao, c, rfl, own_base (own_block ha (fun k ek => hk2 k (hnew k ek) (fun e2 => hd k ek (bl_mem (by simp) e2)))) hB⟩
  · have hgn : g ∉ blocks avs := fun hk => by
      rcases hat with e | e
      · exact hnv g e hk
      · have := (hlt g (hsub g hk)).2
        omega
    have hnd' : (blocks avs).Nodup := by
      cases e : nv.ownBlock with
      | none => simpa [blocks, e] using hnd
      | some k =>
        have : blocks (nv :: avs) = k :: blocks avs := by simp [blocks, e]
        rw [this] at hnd
        exact (List.nodup_cons.1 hnd).2
    have hbl : blocks (.slice (some ⟨g, 0, none⟩) (ns.length + 1) cap :: (avs ++ [.slice ao n.args.length c])) = g :: (blocks avs ++ blocks [.slice ao n.args.length c]) := by simp [blocks, Value.ownBlock]
    rw [hbl]
    cases eb : Value.ownBlock (.slice ao n.args.length c) with
    | none =>
      have : blocks [.slice ao n.args.length c] = [] := by simp [blocks, eb]
      rw [this, List.append_nil]
      exact List.nodup_cons.2 ⟨hgn, hnd'⟩
    | some k =>
      have : blocks [.slice ao n.args.length c] = [k] := by simp [blocks, eb]
      rw [this]
      have hk := hnew k eb
      have hdk := hd k eb
      refine List.nodup_cons.2 ⟨fun hx => ?_, List.nodup_append.2 ⟨hnd', by simp, fun a ha' b hb' e => ?_⟩⟩
      · rcases List.mem_append.1 hx with hx | hx
        · exact hgn hx
        · simp at hx
          subst hx
          rcases hat with e | e
          · exact hdk (bl_mem (by simp) e)
          · omega
      · simp at hb'
        subst hb' e
        exact hdk (hsub _ ha')
structure Ptb (w : World) (B tb : Nat) (lv nv : Value) (avs : List Value) (L : List Nd) : Prop where
  box : w.heap[tb]? = some (.cells #[lv, nv] 81)
  on : On w B nv avs L
  lt : tb < B
structure Pstp (w w' : World) (tb : Nat) (nv nv' : Value) (avs avs' : List Value) : Prop where
  mo : Mo (fun k => k = tb ∨ nv.ownBlock = some k) w w'
  bl : ∀ k ∈ blocks (nv' :: avs'), k ∈ blocks (nv :: avs) ∨ w.heap.size ≤ k
  nb : ∀ k, nv'.ownBlock = some k → nv.ownBlock = some k ∨ w.heap.size ≤ k
theorem Pstp.trans {a b c : World} {tb : Nat} {n1 n2 n3 : Value} {v1 v2 v3 : List Value} (h : Pstp a b tb n1 n2 v1 v2) (k : Pstp b c tb n2 n3 v2 v3) : Pstp a c tb n1 n3 v1 v3 :=
  ⟨h.mo.trans k.mo (fun x hx => by
    rcases hx with e | e
    · exact Or.inl (Or.inl e)
    · rcases h.nb x e with e2 | e2
      · exact Or.inl (Or.inr e2)
      · exact Or.inr e2), fun x hx => by
    rcases k.bl x hx with e | e
    · exact h.bl x e
    · exact Or.inr (Nat.le_trans h.mo.size e), fun x hx => by
    rcases k.nb x hx with e | e
    · exact h.nb x e
    · exact Or.inr (Nat.le_trans h.mo.size e)⟩
theorem Pstp.ofBelow {a b : World} {tb : Nat} {nv : Value} {avs : List Value} (hb : Below a.heap.size a b) : Pstp a b tb nv nv avs avs := ⟨Mo.ofBelow hb, fun _ h => Or.inl h, fun _ h => Or.inl h⟩
structure Pab (W w wr : World) (B tb : Nat) (lv nv nv' : Value) (avs avs' : List Value) (L L' : List Nd) (eo : Obj) (k : Int) (s : ByteArray) (u : Int) (av : Value) (l : List Int) : Prop where
  on0 : On w B nv avs L
  pt : Ptb wr B tb lv nv' avs' L'
  ps : Pstp w wr tb nv nv' avs avs'
  b2 : ∀ k ∈ blocks (nv' :: avs'), k ∈ blocks (nv :: avs) ∨ w.heap.size + 2 ≤ k
  eb : wr.heap[w.heap.size]? = some eo
  nb : wr.heap[w.heap.size + 1]? = some (.cells #[.int .i64 k, .string s, .int .i64 u, av] 63)
  row : wr.ownsRow (w.heap.size + 2) 3 1 av l.length (l.map (Value.int .i64))
  dj : ∀ k, av.ownBlock = some k → k ∉ blocks (nv' :: avs')
  hB : B ≤ w.heap.size
  b : Below W.heap.size W wr
  wt : W.heap.size ≤ tb
section
variable {W w wr w3 w5 : World} {B tb : Nat} {lv nv nv' nv3 : Value} {avs avs' avs3 : List Value} {L L' L3 : List Nd} {eo : Obj} {k : Int} {s : ByteArray} {u : Int} {av : Value} {l : List Int}
theorem Pab.far (h : Pab W w wr B tb lv nv nv' avs avs' L L' eo k s u av l) {q : Nat} (hq : q = w.heap.size ∨ q = w.heap.size + 1) : q ∉ blocks (nv' :: avs') ∧ q ≠ tb ∧ av.ownBlock ≠ some q := by
  have h1 := h.pt.lt
  have h2 := h.hB
  refine ⟨fun hm => ?_, by omega, fun e => by have := (h.row.lt q e).1; omega⟩
  rcases h.b2 q hm with e | e
  · have := (h.on0.lt q e).2
    omega
  · omega
theorem Pab.call (h : Pab W w wr B tb lv nv nv' avs avs' L L' eo k s u av l) (hp : Ptb w3 B tb lv nv3 avs3 L3) (hs : Pstp wr w3 tb nv' nv3 avs' avs3) (hb : Below W.heap.size W w3) : Pab W w w3 B tb lv nv nv3 avs avs3 L L3 eo k s u av l := by
  have kp : ∀ q, (q = w.heap.size ∨ q = w.heap.size + 1) → q < wr.heap.size → w3.heap[q]? = wr.heap[q]? := fun q hq hl => by
    obtain ⟨f1, f2, _⟩ := h.far hq
    exact hs.mo.block q hl (fun e => by
      rcases e with e | e
      · exact f2 e
      · exact f1 (bl_mem (by simp) e))
  have hsz := h.ps.mo.size
  refine ⟨h.on0, hp, h.ps.trans hs, fun q hq => ?_, (kp _ (Or.inl rfl) (lt_of_block h.eb)).trans h.eb, (kp _ (Or.inr rfl) (lt_of_block h.nb)).trans h.nb, own_block h.row (fun q e => hs.mo.block q (h.row.lt q e).2 (fun e2 => ?_)), fun q e hq => ?_, h.hB, hb, h.wt⟩
  · rcases hs.bl q hq with e | e
    · exact h.b2 q e
    · have := lt_of_block h.nb
      exact Or.inr (by omega)
  · rcases e2 with e2 | e2
    · have := (h.row.lt q e).1
      have := h.pt.lt
      have := h.hB
      omega
    · exact h.dj q e (bl_mem (by simp) e2)
  · rcases hs.bl q hq with e2 | e2
    · exact h.dj q e e2
    · have := (h.row.lt q e).2
      omega
theorem Pab.more {o : Obj} {g cap : Nat} {x : Int} (h : Pab W w wr B tb lv nv nv' avs avs' L L' eo k s u av l) (hg : (wr.alloc o).grownBy w5 av.ownBlock) (hown : w5.ownsRow (w.heap.size + 2) 3 1 (.slice (some ⟨g, 0, none⟩) (l.length + 1) cap) (l.length + 1) (l.map (Value.int .i64) ++ [.int .i64 x])) (hat : av.ownBlock = some g ∨ g = wr.heap.size + 1) :
    Pab W w (w5.setCell ⟨w.heap.size + 1, 3, none⟩ (.slice (some ⟨g, 0, none⟩) (l.length + 1) cap)) B tb lv nv nv' avs avs' L L' eo k s u (.slice (some ⟨g, 0, none⟩) (l.length + 1) cap) (l ++ [x]) := by
  obtain ⟨f1, f2, f3⟩ := h.far (Or.inr rfl)
  obtain ⟨e1, e2, e3⟩ := h.far (Or.inl rfl)
  have hz := lt_of_block h.nb
  have hrl := fun q e => (h.row.lt q e)
  have hWz := h.b.size
  have hwz := h.ps.mo.size
  have kp : ∀ q, q < wr.heap.size → av.ownBlock ≠ some q → w5.heap[q]? = wr.heap[q]? := fun q hq hne => by rw [hg.block q (by simp; omega) (fun e => hne e.symm), Below.heap_alloc _ _ _ hq]
  have kp2 : ∀ q, q < wr.heap.size → av.ownBlock ≠ some q → q ≠ w.heap.size + 1 → (w5.setCell ⟨w.heap.size + 1, 3, none⟩ (.slice (some ⟨g, 0, none⟩) (l.length + 1) cap)).heap[q]? = wr.heap[q]? := fun q hq hne hq2 => by rw [Below.heap_setCell _ _ _ _ hq2]; exact kp q hq hne
  have htb : av.ownBlock ≠ some tb := fun e => by have := (hrl tb e).1; have := h.pt.lt; have := h.hB; omega
  have hnb5 := (kp _ hz f3).trans h.nb
  refine ⟨h.on0, ⟨(kp2 _ (lt_of_block h.pt.box) htb (Ne.symm f2)).trans h.pt.box, h.pt.on.keep (fun q hq => kp2 q (h.pt.on.lt q hq).2 (fun e => h.dj q e hq) (fun e => f1 (e ▸ hq))), h.pt.lt⟩, ⟨?_, h.ps.bl, h.ps.nb⟩, h.b2, (kp2 _ (lt_of_block h.eb) e3 (by omega)).trans h.eb, ?_, ?_, fun q e hq => ?_, h.hB, ?_, h.wt⟩
  · exact ((h.ps.mo.alloc o).grown hg (fun q e => Or.inr (by have := (hrl q e).1; omega))).setCell (Or.inr (by show w.heap.size ≤ w.heap.size + 1; omega)) _
  · rw [heap_setCell_same _ _ _ _ _ _ hnb5]
    rfl
  · rw [List.length_append, List.length_singleton, List.map_append]
    refine own_block hown (fun q e => Below.heap_setCell _ _ _ _ ?_)
    have := (hown.lt q e).1
    show q ≠ w.heap.size + 1
    omega
  · have eq : g = q := by simpa [Value.ownBlock] using e
    subst eq
    rcases hat with e4 | e4
    · exact h.dj g e4 hq
    · have := (h.pt.on.lt g hq).2
      omega
  · have hwt := h.wt
    have hlt := h.pt.lt
    have hB := h.hB
    exact ((h.b.alloc hWz o).grown hg (by simp; omega) (fun q e => by have := (hrl q e).1; omega)).setCell (by show W.heap.size ≤ w.heap.size + 1; omega) _
theorem Pab.done {o : Obj} {g cap : Nat} {ao : Option Addr} {c : Nat} (h : Pab W w wr B tb lv nv nv' avs avs' L L' eo k s u (.slice ao l.length c) l) (hg : (wr.alloc o).grownBy w5 nv'.ownBlock) (hown : w5.ownsRow B 63 4 (.slice (some ⟨g, 0, none⟩) (L'.length + 1) cap) (L'.length + 1) (ncells L' avs' ++ [.int .i64 k, .string s, .int .i64 u, .slice ao l.length c])) (hat : nv'.ownBlock = some g ∨ g = wr.heap.size + 1) :
    Ptb (w5.setCell ⟨tb, 1, none⟩ (.slice (some ⟨g, 0, none⟩) (L'.length + 1) cap)) B tb lv (.slice (some ⟨g, 0, none⟩) (L'.length + 1) cap) (avs' ++ [.slice ao l.length c]) (L' ++ [⟨k, s, u, l⟩]) ∧ Pstp w (w5.setCell ⟨tb, 1, none⟩ (.slice (some ⟨g, 0, none⟩) (L'.length + 1) cap)) tb nv (.slice (some ⟨g, 0, none⟩) (L'.length + 1) cap) avs (avs' ++ [.slice ao l.length c]) ∧ Below W.heap.size W (w5.setCell ⟨tb, 1, none⟩ (.slice (some ⟨g, 0, none⟩) (L'.length + 1) cap)) := by
  have hbox := h.pt.box
  have hz := lt_of_block hbox
  have hlt := h.pt.lt
  have hB := h.hB
  have hwt := h.wt
  have hWz := h.b.size
  have hwz := h.ps.mo.size
  have hnl : ∀ q, nv'.ownBlock = some q → B ≤ q ∧ q < wr.heap.size := fun q e => h.pt.on.n.lt q e
  have hbox5 : w5.heap[tb]? = some (.cells #[lv, nv'] 81) := by
    rw [hg.block tb (by simp; omega) (fun e => by have := (hnl tb e.symm).1; omega), Below.heap_alloc _ _ _ hz]
    exact hbox
  have hon := h.pt.on.push3 (n := ⟨k, s, u, l⟩) h.row (by omega) h.dj hg hown (by
    rcases hat with e | e
    · exact Or.inl e
    · exact Or.inr (by omega))
  have hgb : ∀ q, Value.ownBlock (.slice (some ⟨g, 0, none⟩) (L'.length + 1) cap) = some q → nv'.ownBlock = some q ∨ w.heap.size ≤ q := fun q e => by
    have eq : g = q := by simpa [Value.ownBlock] using e
    subst eq
    rcases hat with e4 | e4
    · exact Or.inl e4
    · exact Or.inr (by omega)
  refine ⟨⟨?_, hon.keep (fun q hq => Below.heap_setCell _ _ _ _ (by have := (hon.lt q hq).1; show q ≠ tb; omega)), hlt⟩, ⟨?_, fun q hq => ?_, fun q e => ?_⟩, ?_⟩
  · rw [heap_setCell_same _ _ _ _ _ _ hbox5]
    rfl
  · exact ((h.ps.mo.alloc o).grown hg (fun q e => by
      rcases h.ps.nb q e with e2 | e2
      · exact Or.inl (Or.inr e2)
      · exact Or.inr e2)).setCell (Or.inl (Or.inl rfl)) _
  · obtain ⟨v, hv, e⟩ := List.mem_filterMap.1 hq
    rcases List.mem_cons.1 hv with e2 | hv
    · subst e2
      rcases hgb q e with e3 | e3
      · exact h.ps.bl q (bl_mem (by simp) e3)
      · exact Or.inr e3
    · rcases List.mem_append.1 hv with hv | hv
      · exact h.ps.bl q (bl_mem (by simp [hv]) e)
      · simp at hv
        subst hv
        exact Or.inr (by have := (h.row.lt q e).1; omega)
  · rcases hgb q e with e3 | e3
    · exact h.ps.nb q e3
    · exact Or.inr e3
  · exact ((h.b.alloc hWz o).grown hg (by simp; omega) (fun q e => by have := (hnl q e).1; omega)).setCell (by show W.heap.size ≤ tb; omega) _
end
end Go.Proofs.Ytjkcffcedbcjmaa

namespace Go.Proofs.Ytjkcffcedbcjmaa
set_option maxRecDepth 100000
open Go.RowKit Go.Maps
theorem putXs_take (ns : List ByteArray) (p : Nat) {xs : List Ex} {j : Nat} (h : j < xs.length) : putXs ns p (xs.take (j + 1)) = ((putXs ns p (xs.take j)).1 ++ [((putX ns (p + (putXs ns p (xs.take j)).2.length) (xs.getD j x0)).1 : Int)], (putXs ns p (xs.take j)).2 ++ (putX ns (p + (putXs ns p (xs.take j)).2.length) (xs.getD j x0)).2) := by
  have e : xs.take (j + 1) = xs.take j ++ [xs.getD j x0] := by
    rw [List.take_add_one]
    simp [List.getD, h]
  rw [e, putXs_snoc]
def PuC (ns : List ByteArray) (x : Ex) : Prop := ∀ (W w : World) (B tb : Nat) (lv v nv : Value) (avs : List Value) (L : List Nd), Xv W x v → Below W.heap.size W w → W.heap.size ≤ tb → Rsn W lv ns → ns.length ≤ 60000 → Ptb w B tb lv nv avs L → B ≤ w.heap.size → L.length + prtX x ≤ 60000 → Calls Try.prog 34 #[.pointer (some ⟨tb, 0, none⟩), v] w fun e w' => ∃ nv' avs', e = .returned (.int .i64 ((putX ns L.length x).1 : Int)) ∧ Ptb w' B tb lv nv' avs' (L ++ (putX ns L.length x).2) ∧ Pstp w w' tb nv nv' avs avs' ∧ Below W.heap.size W w'
theorem Pab.start {W w w2 : World} {B tb : Nat} {lv nv : Value} {avs : List Value} {L : List Nd} {eo : Obj} {k : Int} {s : ByteArray} {u : Int} (h : Ptb w B tb lv nv avs L) (hb : Below W.heap.size W w) (hB : B ≤ w.heap.size) (wt : W.heap.size ≤ tb) (hw : Below w.heap.size w w2) (he : w2.heap[w.heap.size]? = some eo) (hn : w2.heap[w.heap.size + 1]? = some (.cells #[.int .i64 k, .string s, .int .i64 u, .slice none 0 0] 63)) : Pab W w w2 B tb lv nv nv avs avs L L eo k s u (.slice none 0 0) [] :=
  ⟨h.on, ⟨(hw.block _ (lt_of_block h.box)).trans h.box, h.on.below hw, h.lt⟩, Pstp.ofBelow hw, fun _ hk => Or.inl hk, he, hn, World.ownsRow_nil _ _ _ _, fun _ e => (by cases e), hB, Below.next hb hw, wt⟩
set_option maxHeartbeats 4000000 in
theorem rput_c {ns : List ByteArray} {k : Int} {n : ByteArray} {m : Int} {xs : List Ex} (hk : k ≠ 1) (ih : ∀ x ∈ xs, PuC ns x) (W w : World) (B tb : Nat) (lv nv : Value) (avs : List Value) (L : List Nd) (ao : Option Addr) (c : Nat) (hAt0 : ∀ j, j < xs.length → XAt W ao (xs.getD j x0) j) (hbW : Below W.heap.size W w) (hwt : W.heap.size ≤ tb) (hns : Rsn W lv ns) (hnl : ns.length ≤ 60000) (hP : Ptb w B tb lv nv avs L) (hB : B ≤ w.heap.size) (hp : L.length + (1 + prtXs xs) ≤ 60000) :
    Calls Try.prog 34 #[.pointer (some ⟨tb, 0, none⟩), .agg #[.int .i64 k, .string n, .int .i64 m, .slice ao xs.length c]] w fun e w' => ∃ nv' avs', e = .returned (.int .i64 ((putX ns L.length (.mk k n m xs)).1 : Int)) ∧ Ptb w' B tb lv nv' avs' (L ++ (putX ns L.length (.mk k n m xs)).2) ∧ Pstp w w' tb nv nv' avs avs' ∧ Below W.heap.size W w' := by
  obtain ⟨i0, hi, hz0, hz1, hz2⟩ := info_parts infoI
  obtain ⟨i1, hi1, hy0, hy1, hy2⟩ := info_parts infoN
  have hAt := hid hAt0
  have IH := hid ih
  have HNS := hid hns
  have hln : xs.length ≤ 60000 := by have := prt_len8 xs; omega
  have hpt := hid (fun j (hj : j < xs.length) => prt_take xs j hj)
  have hpm := hid (fun j => putXs_prt ns L.length (xs.take j))
  have hpx := putXs_prt ns L.length xs
  have hlx := putXs_len1 ns L.length xs
  have hbx := heap_alloc_new w (.cells #[.int .i64 k, .string n, .int .i64 m, .slice ao xs.length c] 48)
  obtain ⟨⟨e0, e1, e2, e3⟩, _⟩ := blk4 hbx
  have hE : Hid (putX ns L.length (.mk k n m xs) = (L.length + (putXs ns L.length xs).2.length, (putXs ns L.length xs).2 ++ [⟨k, n, m, (putXs ns L.length xs).1⟩])) := show _ = _ by rw [putX, if_neg hk, if_neg hk]
  have hbw : Below w.heap.size w ((w.alloc (.cells #[.int .i64 k, .string n, .int .i64 m, .slice ao xs.length c] 48)).alloc (.cells #[.int .i64 k, .string n, .int .i64 m, .slice none 0 0] 63)) := (below_alloc w _).alloc (by simp) _
  have hA0 := hid (Pab.start (k := k) (s := n) (u := m) hP hbW hB hwt hbw ((Below.heap_alloc _ _ _ (by simp)).trans hbx) (by simpa using heap_alloc_new (w.alloc (.cells #[.int .i64 k, .string n, .int .i64 m, .slice ao xs.length c] 48)) (.cells #[.int .i64 k, .string n, .int .i64 m, .slice none 0 0] 63)))
  have hlt0 := hP.lt
  rw [hE.out]
  clear hAt0 ih hP hbW hns hbw hbx
  go_enter Try.func34, Try.ntmps34
  go_wp2
  rw [show (k == 1) = false by simp [hk]]
  clear hk
  go_loopw [6, 7] (fun i _ wr => ∃ (j : Nat) (nvj : Value) (avj : List Value) (bo : Option Addr) (bc : Nat), j ≤ xs.length ∧ i = .int .i64 (j : Int) ∧ Hid (Pab W w wr B tb lv nv nvj avs avj L (L ++ (putXs ns L.length (xs.take j)).2) (.cells #[.int .i64 k, .string n, .int .i64 m, .slice ao xs.length c] 48) k n m (.slice bo j bc) (putXs ns L.length (xs.take j)).1)) (fun i _ _ => xs.length - (intOf i).toNat)
  case atStart => exact ⟨0, nv, avs, none, 0, Nat.zero_le _, rfl, by rw [List.take_zero, putXs, List.append_nil]; exact hA0.out⟩
  case round =>
    clear hA0 e0 e1 e2 e3
    obtain ⟨j, nvj, avj, bo, bc, hj, rfl, hA⟩ := hrel
    obtain ⟨⟨e0, e1, e2, e3⟩, _⟩ := blk4 hA.out.eb
    have hz0' := lt_of_block hA.out.eb
    have hz1' := lt_of_block hA.out.nb
    have hjl : ((putXs ns L.length (xs.take j)).1).length = j := by rw [putXs_len1]; simp; omega
    have hpj := hpm.out j
    by_cases hlt : j < xs.length
    · obtain ⟨b, o, k', n', m', aa, al, ac, rfl, d0, d1, d2, d3, hx⟩ := hAt.out j hlt
      have hbr := hA.out.b
      have hz := lt_of_cell d0
      have c0 := ((bcell hbr).1 b _ hz).trans d0
      have c1 := ((bcell hbr).1 b _ hz).trans d1
      have c2 := ((bcell hbr).1 b _ hz).trans d2
      have c3 := ((bcell hbr).1 b _ hz).trans d3
      have hpt2 := hpt.out j hlt
      have hcall := IH.out _ (xs_at hlt) W wr B tb lv _ nvj avj (L ++ (putXs ns L.length (xs.take j)).2) hx hbr hwt HNS.out hnl hA.out.pt (by have := hA.out.ps.mo.size; omega) (by rw [List.length_append]; omega)
      have hst := hid (putXs_take ns L.length hlt)
      rw [List.length_append] at hcall
      have hstp : Hid (∀ w3 nv3 av3, Ptb w3 B tb lv nv3 av3 ((L ++ (putXs ns L.length (xs.take j)).2) ++ (putX ns (L.length + (putXs ns L.length (xs.take j)).2.length) (xs.getD j x0)).2) → Pstp wr w3 tb nvj nv3 avj av3 → Below W.heap.size W w3 → Hid (Pab W w w3 B tb lv nv nv3 avs av3 L (L ++ (putXs ns L.length (xs.take (j + 1))).2) (.cells #[.int .i64 k, .string n, .int .i64 m, .slice (some ⟨b, o, none⟩) xs.length c] 48) k n m (.slice bo j bc) (putXs ns L.length (xs.take j)).1)) := fun w3 nv3 av3 h1 h2 h3 => by
        show Pab _ _ _ _ _ _ _ _ _ _ _ _ _ _ _ _ _ _
        rw [hst.out]
        rw [List.append_assoc] at h1
        exact hA.out.call h1 h2 h3
      have hst1 : Hid ((putXs ns L.length (xs.take (j + 1))).1 = (putXs ns L.length (xs.take j)).1 ++ [((putX ns (L.length + (putXs ns L.length (xs.take j)).2.length) (xs.getD j x0)).1 : Int)]) := show _ = _ by rw [hst.out]
      generalize (putX ns (L.length + (putXs ns L.length (xs.take j)).2.length) (xs.getD j x0)).1 = y at hcall hst1
      generalize (putXs ns L.length (xs.take j)).1 = l at hA hstp hst1 hjl
      subst hjl
      clear hx d0 d1 d2 d3 hz hA hbr hst hpt2 hpj
      go_wp2_with (first
        | (go_at_call 34; go_must (refine hcall.mono ?_; clear hcall; rintro e w3 ⟨nv3, av3, rfl, hP3, hS3, hb3⟩; have hA3 := hstp.out w3 nv3 av3 hP3 hS3 hb3; clear hP3 hS3 hb3 hstp; have hx3 := hA3.out.nb; obtain ⟨⟨q0, q1, q2, q3⟩, _, _, _, q7⟩ := blk4 hx3; have hz3 := lt_of_block hx3; have ho3 := World.ownsRow.alloc hA3.out.row (.cells #[.int .i64 (y : Int)] 3)))
        | (at_builtin; go_must (refine wpList_append_lies _ rfl _ _ 27 rfl (w.heap.size + 2) 3 i0 (.int .i64 0) 1 8 Try.underlying27 hi hz0 hz1 hz2 rfl (by decide) (.slice bo l.length bc) l.length (l.map (Value.int .i64)) rfl ho3 ⟨w3.heap.size, 0, none⟩ 1 1 [.int .i64 (y : Int)] rfl (by rfl) (World.news_of_block (cs := #[.int .i64 (y : Int)]) (t := 3) (fr := (0, 0)) (heap_alloc_new w3 _)) (by simp [Value.oneCell']) (by omega) (by unfold maxLen; omega) (by omega) (by simp; omega) (w3.heap.size + 1) (by simp) ?_; intro g7 c7 w5 hown7 hg7 hat7 hlt7; have hA5 := hid (hA3.out.more hg7 hown7 hat7); have hx5 := (hg7.block (w.heap.size + 1) (by simp; omega) (fun e => by have := (hA3.out.row.lt _ e.symm).1; omega)).trans ((Below.heap_alloc w3 _ _ hz3).trans hx3); obtain ⟨⟨_, _, _, r3⟩, _, _, _, r7⟩ := blk4 hx5; have hz5 := lt_of_block hx5)))
      go_roundw
      case rel => exact ⟨l.length + 1, nv3, av3, some ⟨g7, 0, none⟩, c7, by omega, by go_num, by rw [hst1.out]; exact hA5.out⟩
      case measure => simp [intOf]; omega
    · obtain rfl : j = xs.length := by omega
      rw [List.take_length] at hA hjl
      have hA' := hA.out
      rw [← hjl] at hA'
      generalize hlE : (putXs ns L.length xs).1 = l at hA' hjl
      have HLE := hid hlE
      have hl6 : l.length ≤ 60000 := by omega
      have hxl : xs.length ≤ 60000 := hln
      clear hA hlE hjl hln hlx
      have hx := hA'.pt.box
      obtain ⟨⟨t0, t1⟩, t2, t3⟩ := blk2 hx
      have hzt := lt_of_block hx
      have hx3 := hA'.nb
      obtain ⟨⟨q0, q1, q2, q3⟩, _, _, _, q7⟩ := blk4 hx3
      have hon := World.ownsRow.alloc hA'.pt.on.n (.cells #[.int .i64 k, .string n, .int .i64 m, .slice bo l.length bc] 63)
      have hll : (L ++ (putXs ns L.length xs).2).length ≤ 60000 := by rw [List.length_append]; omega
      have hlL : (L ++ (putXs ns L.length xs).2).length = L.length + (putXs ns L.length xs).2.length := List.length_append
      have hdn := hid (fun w5 g c7 => hA'.done (o := .cells #[.int .i64 k, .string n, .int .i64 m, .slice bo l.length bc] 63) (w5 := w5) (g := g) (cap := c7))
      have hnlt := hid (fun q e => hA'.pt.on.n.lt q e)
      have hfin : Hid (L ++ ((putXs ns L.length xs).2 ++ [⟨k, n, m, (putXs ns L.length xs).1⟩]) = (L ++ (putXs ns L.length xs).2) ++ [⟨k, n, m, l⟩]) := show _ = _ by rw [HLE.out, List.append_assoc]
      have HlL := hid hlL
      clear hlL
      generalize L ++ (putXs ns L.length xs).2 = L' at hon hll hdn hnlt hfin HlL
      have hB1 := hA'.hB
      have hw1 := hA'.b.size
      have hsz1 := hA'.ps.mo.size
      clear hA' HLE
      obtain ⟨na, nc, rfl⟩ := own_sl hon
      go_wp2
      go_region_law
        (first
          | (refine step_append_lies _ (by rfl) _ _ _ (by rfl) B 63 i1 (.agg #[.int .i64 0, .string ⟨#[]⟩, .int .i64 0, .slice none 0 0]) 4 56 Try.underlying26 hi1 hy0 hy1 hy2 rfl (by omega) _ L'.length (ncells L' avj) (by rfl) hon.drew ⟨wr.heap.size, 0, none⟩ 1 1 [.int .i64 k, .string n, .int .i64 m, .slice bo l.length bc] (by rfl) (by rfl) (World.news_of_block (cs := #[.int .i64 k, .string n, .int .i64 m, .slice bo l.length bc]) (t := 63) (fr := (0, 0)) (heap_alloc_new wr _)) (by simp [Value.oneCell']) (by omega) (by unfold maxLen; omega) (by omega) (by simp; omega) (wr.heap.size + 1) (by simp) ?_; intro g cap w1 hown1 hg1 hat1 hlt1; replace hg1 := undrew1 hg1; have hx5 := (hg1.block tb (by simp; omega) (fun e => by have := (hnlt.out _ e.symm).1; omega)).trans ((Below.heap_alloc wr _ _ hzt).trans hx); obtain ⟨⟨_, r1⟩, _, r3⟩ := blk2 hx5; have hz5 := lt_of_block hx5; have hD := hid (hdn.out w1 g cap hg1 hown1 (hat1.imp id (fun e => by omega)))))
      all_goals
        obtain ⟨d1, d2, d3⟩ := hD.out
        obtain ⟨⟨_, v1⟩, _, _⟩ := blk2 d1.box
        go_wp2
        go_ret
        refine ⟨_, _, ret_int ?_, ?_, d2, d3⟩
        · rw [HlL.out]
        · rw [hfin.out]
          exact d1
end Go.Proofs.Ytjkcffcedbcjmaa
