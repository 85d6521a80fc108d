/- Tie of tendrilref08: its memory, step by step. -/
import Derived.Test.Ytjkcffcedbcjmaata47Z
import Derived.Test.Ytjkcffcedbcjmaata44Z
namespace Go.Proofs.Ytjkcffcedbcjmaa
set_option maxRecDepth 100000
open Go.RowKit Go.Maps
structure Tw (W wr : World) (B tb : Nat) (lv nv : Value) (avs : List Value) (L : List Nd) (rov : Value) (rl : List Int) (m : Nat) (F : List (Nat × (Nat → Int))) : Prop where
  pt : Ptb wr B tb lv nv avs L
  ro : wr.ownsRow B 3 1 rov rl.length (rl.map (Value.int .i64))
  dj : ∀ k, rov.ownBlock = some k → k ∉ blocks (nv :: avs)
  f : ∀ p ∈ F, wr.heap[p.1]? = some (irow m p.2) ∧ p.1 ∉ blocks (nv :: avs) ∧ B ≤ p.1 ∧ rov.ownBlock ≠ some p.1
  nd : (F.map (·.1)).Nodup
  b : Below W.heap.size W wr
  wt : W.heap.size ≤ tb
  hB : B ≤ wr.heap.size
section
variable {W wr w3 w5 : World} {B tb : Nat} {lv nv nv3 rov : Value} {avs avs3 : List Value} {L L3 : List Nd} {rl : List Int} {m : Nat} {F A C : List (Nat × (Nat → Int))} {q : Nat} {f g : Nat → Int}
theorem Tw.start (W : World) (lv : Value) (m : Nat) : Tw W ((W.alloc (.cells #[lv, .slice none 0 0] 81)).alloc (.cells #[] 3)) (W.heap.size + 1) W.heap.size lv (.slice none 0 0) [] [] (.slice (some ⟨W.heap.size + 1, 0, none⟩) 0 0) [] m [] := by
  have h8 := own_empty7 (W.alloc (.cells #[lv, .slice none 0 0] 81)) (B := W.heap.size + 1) (z := 1) (T := 3) (by simp)
  refine ⟨⟨(Below.heap_alloc _ _ _ (by simp)).trans (heap_alloc_new W _), On.nil _ _, by omega⟩, by simpa using h8, fun k _ hk => ?_, fun p hp => (by cases hp), List.nodup_nil, (below_alloc W _).alloc (by simp) _, Nat.le_refl _, by simp⟩
  have e : blocks [Value.slice none 0 0] = [] := rfl
  rw [e] at hk
  cases hk
theorem Tw.cells (h : Tw W wr B tb lv nv avs L rov rl m F) : wr.cell? ⟨tb, 0, none⟩ = some lv ∧ wr.cell? ⟨tb, 1, none⟩ = some nv ∧ wr.frozen? ⟨tb, 1, none⟩ = false ∧ tb < wr.heap.size := by
  obtain ⟨⟨t0, t1⟩, _, t3⟩ := blk2 h.pt.box
  exact ⟨t0, t1, t3, lt_of_block h.pt.box⟩
theorem Tw.cell (h : Tw W wr B tb lv nv avs L rov rl m (A ++ (q, f) :: C)) {i : Nat} (hi : i < m) : (wr.cell? ⟨q, i, none⟩ = some (.int .i64 (f i)) ∧ wr.frozen? ⟨q, i, none⟩ = false) ∧ q < wr.heap.size ∧ q ≠ tb := by
  have h1 := h.f (q, f) (by simp)
  exact ⟨irow_cell h1.1 hi, lt_of_block h1.1, by have := h.pt.lt; have := h1.2.2.1; show q ≠ tb; omega⟩
theorem Tw.next (h : Tw W wr B tb lv nv avs L rov rl m F) (hb : Below wr.heap.size wr w3) : Tw W w3 B tb lv nv avs L rov rl m F :=
  ⟨⟨(hb.block _ (lt_of_block h.pt.box)).trans h.pt.box, h.pt.on.below hb, h.pt.lt⟩, own_below h.ro hb, h.dj, fun p hp => ⟨(hb.block _ (lt_of_block (h.f p hp).1)).trans (h.f p hp).1, (h.f p hp).2⟩, h.nd, Below.next h.b hb, h.wt, Nat.le_trans h.hB hb.size⟩
theorem Tw.congr (h : Tw W wr B tb lv nv avs L rov rl m (A ++ (q, f) :: C)) (e : ∀ i, i < m → f i = g i) : Tw W wr B tb lv nv avs L rov rl m (A ++ (q, g) :: C) := by
  refine ⟨h.pt, h.ro, h.dj, fun p hp => ?_, by simpa using h.nd, h.b, h.wt, h.hB⟩
  rcases List.mem_append.1 hp with hp | hp
  · exact h.f p (List.mem_append_left _ hp)
  · rcases List.mem_cons.1 hp with hp | hp
    · subst hp
      have h1 := h.f (q, f) (by simp)
      exact ⟨by rw [h1.1, irow_congr e], h1.2⟩
    · exact h.f p (List.mem_append_right _ (List.mem_cons_of_mem _ hp))
theorem Tw.put (h : Tw W wr B tb lv nv avs L rov rl m F) (hp : Ptb w3 B tb lv nv3 avs3 L3) (hs : Pstp wr w3 tb nv nv3 avs avs3) (hb : Below W.heap.size W w3) : Tw W w3 B tb lv nv3 avs3 L3 rov rl m F := by
  have hlt := h.pt.lt
  refine ⟨hp, own_block h.ro (fun k e => hs.mo.block k (h.ro.lt k e).2 (fun e2 => ?_)), fun k e hk => ?_, fun p hpm => ?_, h.nd, hb, h.wt, Nat.le_trans h.hB hs.mo.size⟩
  · rcases e2 with e2 | e2
    · have := (h.ro.lt k e).1; omega
    · exact h.dj k e (bl_mem (by simp) e2)
  · rcases hs.bl k hk with e2 | e2
    · exact h.dj k e e2
    · have := (h.ro.lt k e).2; omega
  · obtain ⟨h1, h2, h3, h4⟩ := h.f p hpm
    refine ⟨(hs.mo.block _ (lt_of_block h1) (fun e2 => ?_)).trans h1, fun hk => ?_, h3, h4⟩
    · rcases e2 with e2 | e2
      · omega
      · exact h2 (bl_mem (by simp) e2)
    · rcases hs.bl _ hk with e2 | e2
      · exact h2 e2
      · have := lt_of_block h1; omega
theorem Tw.root {o : Obj} {gg c : Nat} {x : Int} (h : Tw W wr B tb lv nv avs L rov rl m F) (hg : (wr.alloc o).grownBy w5 rov.ownBlock) (hown : w5.ownsRow B 3 1 (.slice (some ⟨gg, 0, none⟩) (rl.length + 1) c) (rl.length + 1) (rl.map (Value.int .i64) ++ [.int .i64 x])) (hat : rov.ownBlock = some gg ∨ gg = wr.heap.size + 1) : Tw W w5 B tb lv nv avs L (.slice (some ⟨gg, 0, none⟩) (rl.length + 1) c) (rl ++ [x]) m F := by
  have hlt := h.pt.lt
  have hz := lt_of_block h.pt.box
  have kp : ∀ k, k < wr.heap.size → rov.ownBlock ≠ some k → w5.heap[k]? = wr.heap[k]? := fun k hk hne => by rw [hg.block k (by simp; omega) (fun e => hne e.symm), Below.heap_alloc _ _ _ hk]
  have hs := hg.size
  simp at hs
  refine ⟨⟨(kp tb hz (fun e => by have := (h.ro.lt tb e).1; omega)).trans h.pt.box, h.pt.on.keep (fun k hk => kp k (h.pt.on.lt k hk).2 (fun e => h.dj k e hk)), hlt⟩, by rw [List.length_append, List.map_append]; exact hown, fun k e hk => ?_, fun p hp => ?_, h.nd, (h.b.alloc h.b.size o).grown hg (by have := h.b.size; simp; omega) (fun k e => by have := (h.ro.lt k e).1; have := h.wt; omega), h.wt, by have := h.hB; omega⟩
  · have e1 : gg = k := by simpa [Value.ownBlock] using e
    subst e1
    rcases hat with e2 | e2
    · exact h.dj gg e2 hk
    · have := (h.pt.on.lt gg hk).2; omega
  · obtain ⟨h1, h2, h3, h4⟩ := h.f p hp
    refine ⟨(kp _ (lt_of_block h1) h4).trans h1, h2, h3, fun e => ?_⟩
    have e1 : gg = p.1 := by simpa [Value.ownBlock] using e
    rcases hat with e2 | e2
    · exact h4 (by rw [e2, e1])
    · have := lt_of_block h1; omega
theorem Tw.make (h : Tw W wr B tb lv nv avs L rov rl m F) : Tw W (wr.alloc (irow m (fun _ => 0))) B tb lv nv avs L rov rl m (F ++ [(wr.heap.size, fun _ => 0)]) := by
  have hn := h.next (below_alloc wr (irow m (fun _ => 0)))
  refine ⟨hn.pt, hn.ro, hn.dj, fun p hp => ?_, ?_, hn.b, hn.wt, hn.hB⟩
  · rcases List.mem_append.1 hp with hp | hp
    · exact hn.f p hp
    · simp at hp
      subst hp
      exact ⟨heap_alloc_new wr _, fun hk => by have := (h.pt.on.lt _ hk).2; simp at this, h.hB, fun e => by have := (h.ro.lt _ e).2; simp at this⟩
  · rw [List.map_append, List.nodup_append]
    refine ⟨h.nd, by simp, fun a ha b hb e => ?_⟩
    simp at hb
    subst hb e
    obtain ⟨p, hp, e⟩ := List.mem_map.1 ha
    have := lt_of_block (h.f p hp).1
    omega
theorem Tw.set (h : Tw W wr B tb lv nv avs L rov rl m (A ++ (q, f) :: C)) (i : Nat) (v : Int) : Tw W (wr.setCell ⟨q, i, none⟩ (.int .i64 v)) B tb lv nv avs L rov rl m (A ++ (q, updI f i v) :: C) := by
  obtain ⟨h1, h2, h3, h4⟩ := h.f (q, f) (by simp)
  have hlt := h.pt.lt
  have hne : q ≠ tb := by show q ≠ tb; simp only at h3; omega
  have kp : ∀ k, k ≠ q → (wr.setCell ⟨q, i, none⟩ (.int .i64 v)).heap[k]? = wr.heap[k]? := fun k hk => Below.heap_setCell _ _ _ _ hk
  refine ⟨⟨(kp tb (Ne.symm hne)).trans h.pt.box, h.pt.on.keep (fun k hk => kp k (fun e => h2 (e ▸ hk))), hlt⟩, own_block h.ro (fun k e => kp k (fun e2 => h4 (by rw [e, e2]))), h.dj, fun p hp => ?_, by simpa using h.nd, h.b.setCell (p := ⟨q, i, none⟩) (by have := h.wt; simp only at h3; show W.heap.size ≤ q; omega) _, h.wt, by simpa using h.hB⟩
  have hnd := h.nd
  rw [List.map_append, List.map_cons] at hnd
  have hnd2 := List.nodup_append.1 hnd
  rcases List.mem_append.1 hp with hp | hp
  · have h9 := h.f p (List.mem_append_left _ hp)
    exact ⟨(kp _ (fun e => hnd2.2.2 _ (List.mem_map.2 ⟨p, hp, rfl⟩) q (by simp) e)).trans h9.1, h9.2⟩
  · rcases List.mem_cons.1 hp with hp | hp
    · subst hp
      exact ⟨irow_set h1 i v, h2, h3, h4⟩
    · have h9 := h.f p (List.mem_append_right _ (List.mem_cons_of_mem _ hp))
      exact ⟨(kp _ (fun e => (List.nodup_cons.1 hnd2.2.1).1 (List.mem_map.2 ⟨p, hp, e⟩))).trans h9.1, h9.2⟩
theorem Tw.node {o : Obj} {gg c : Nat} (h : Tw W wr B tb lv nv avs L rov rl m F) (hg : (wr.alloc o).grownBy w5 nv.ownBlock) (hown : w5.ownsRow B 63 4 (.slice (some ⟨gg, 0, none⟩) (L.length + 1) c) (L.length + 1) (ncells L avs ++ [.int .i64 1, .string ⟨#[]⟩, .int .i64 0, .slice none 0 0])) (hat : nv.ownBlock = some gg ∨ gg = wr.heap.size + 1) : Tw W (w5.setCell ⟨tb, 1, none⟩ (.slice (some ⟨gg, 0, none⟩) (L.length + 1) c)) B tb lv (.slice (some ⟨gg, 0, none⟩) (L.length + 1) c) (avs ++ [.slice none 0 0]) (L ++ [varN]) rov rl m F := by
  have hlt := h.pt.lt
  have hz := lt_of_block h.pt.box
  have hnl : ∀ k, nv.ownBlock = some k → B ≤ k ∧ k < wr.heap.size := fun k e => h.pt.on.n.lt k e
  have kp : ∀ k, k < wr.heap.size → nv.ownBlock ≠ some k → w5.heap[k]? = wr.heap[k]? := fun k hk hne => by rw [hg.block k (by simp; omega) (fun e => hne e.symm), Below.heap_alloc _ _ _ hk]
  have kp2 : ∀ k, k < wr.heap.size → nv.ownBlock ≠ some k → k ≠ tb → (w5.setCell ⟨tb, 1, none⟩ (.slice (some ⟨gg, 0, none⟩) (L.length + 1) c)).heap[k]? = wr.heap[k]? := fun k hk hne hk2 => by rw [Below.heap_setCell _ _ _ _ hk2]; exact kp k hk hne
  have hbox5 := (kp tb hz (fun e => by have := (hnl tb e).1; omega)).trans h.pt.box
  have hon := h.pt.on.push3 (B' := B) (n := varN) (ao := none) (c := 0) (World.ownsRow_nil _ _ _ _) (Nat.le_refl _) (fun k e => by cases e) hg hown (by
    rcases hat with e | e
    · exact Or.inl e
    · exact Or.inr (by omega))
  have hgb : ∀ k ∈ blocks (.slice (some ⟨gg, 0, none⟩) (L.length + 1) c :: (avs ++ [.slice none 0 0])), k ∈ blocks (nv :: avs) ∨ k = wr.heap.size + 1 := fun k hk => by
    obtain ⟨v, hv, e⟩ := List.mem_filterMap.1 hk
    rcases List.mem_cons.1 hv with e2 | hv
    · subst e2
      have e1 : gg = k := by simpa [Value.ownBlock] using e
      subst e1
      rcases hat with e3 | e3
      · exact Or.inl (bl_mem (by simp) e3)
      · exact Or.inr e3
    · rcases List.mem_append.1 hv with hv | hv
      · exact Or.inl (bl_mem (by simp [hv]) e)
      · simp at hv
        subst hv
        cases e
  have hs := hg.size
  simp at hs
  refine ⟨⟨?_, hon.keep (fun k hk => Below.heap_setCell _ _ _ _ (by have := (hon.lt k hk).1; show k ≠ tb; omega)), hlt⟩, own_block h.ro (fun k e => kp2 k (h.ro.lt k e).2 (fun e2 => h.dj k e (bl_mem (by simp) e2)) (by have := (h.ro.lt k e).1; omega)), fun k e hk => ?_, fun p hp => ?_, h.nd, ((h.b.alloc h.b.size o).grown hg (by have := h.b.size; simp; omega) (fun k e => by have := (hnl k e).1; have := h.wt; omega)).setCell (p := ⟨tb, 1, none⟩) h.wt _, h.wt, by have := h.hB; simp; omega⟩
  · rw [heap_setCell_same _ _ _ _ _ _ hbox5]
    rfl
  · rcases hgb k hk with e2 | e2
    · exact h.dj k e e2
    · have := (h.ro.lt k e).2; omega
  · obtain ⟨h1, h2, h3, h4⟩ := h.f p hp
    refine ⟨(kp2 _ (lt_of_block h1) (fun e => h2 (bl_mem (by simp) e)) (by omega)).trans h1, fun hk => ?_, h3, h4⟩
    rcases hgb _ hk with e2 | e2
    · exact h2 e2
    · have := lt_of_block h1; omega
end
theorem Tw.node0 {W wr w5 : World} {B tb : Nat} {lv nv rov : Value} {avs : List Value} {L : List Nd} {rl : List Int} {m : Nat} {F : List (Nat × (Nat → Int))} {o : Obj} (h : Tw W wr B tb lv nv avs L rov rl m F) (hg : (wr.alloc o).grownBy w5 nv.ownBlock) : w5.heap[tb]? = some (.cells #[lv, nv] 81) ∧ (∀ p ∈ F, w5.heap[p.1]? = some (irow m p.2) ∧ p.1 ≠ tb) := by
  have hlt := h.pt.lt
  have kp : ∀ k, k < wr.heap.size → nv.ownBlock ≠ some k → w5.heap[k]? = wr.heap[k]? := fun k hk hne => by rw [hg.block k (by simp; omega) (fun e => hne e.symm), Below.heap_alloc _ _ _ hk]
  refine ⟨(kp tb (lt_of_block h.pt.box) (fun e => by have := (h.pt.on.n.lt tb e).1; omega)).trans h.pt.box, fun p hp => ?_⟩
  obtain ⟨h1, h2, h3, _⟩ := h.f p hp
  exact ⟨(kp _ (lt_of_block h1) (fun e => h2 (bl_mem (by simp) e))).trans h1, by omega⟩
/-! ### The steps of what names stand for -/
section
variable {rg : Nat → Int} {M : List Nd} {S : Sg2} {i : Nat}
theorem stp_none (h : rg i < 0) : stpS (ldF rg M) S i = S := by
  unfold stpS ldF
  rw [if_pos h]
theorem stp_node (h : ¬ rg i < 0) (hk : (M.getD (rg i).toNat nd0).kind ≠ 1 ∨ (M.getD (rg i).toNat nd0).num = 0) : stpS (ldF rg M) S i = ⟨updI S.st i (rg i), S.gr⟩ := by
  unfold stpS ldF
  rw [if_neg h, if_pos hk]
theorem stp_name (h : ¬ rg i < 0) (hk : ¬ ((M.getD (rg i).toNat nd0).kind ≠ 1 ∨ (M.getD (rg i).toNat nd0).num = 0)) {j : Nat} (hj : (M.getD (rg i).toNat nd0).num = (j : Int) + 1) : stpS (ldF rg M) S i = if 0 ≤ S.st j then ⟨updI S.st i (S.st j), S.gr⟩ else ⟨S.st, updN (updN S.gr i (min (S.gr i) (S.gr j))) j (min (S.gr i) (S.gr j))⟩ := by
  have e : ((M.getD (rg i).toNat nd0).num - 1).toNat = j := by omega
  unfold stpS ldF
  rw [if_neg h, if_neg hk, e]
theorem updN_int (f : Nat → Nat) (j v : Nat) : (fun k => ((updN f j v k : Nat) : Int)) = updI (fun k => ((f k : Nat) : Int)) j (v : Int) := by
  funext k
  unfold updN updI
  split <;> rfl
def midS (S : Sg2) (K i : Nat) (k : Nat) : Int := if k < i ∧ repB S k = true then ((K + cntB (repB S) k : Nat) : Int) else S.st k
def endS (S : Sg2) (K m i : Nat) (k : Nat) : Int := if k < i then finS S K k else midS S K m k
theorem rep_iff {S : Sg2} {i : Nat} : repB S i = true ↔ S.st i < 0 ∧ S.gr i = i := by simp [repB]
theorem mid_zero (S : Sg2) (K : Nat) : midS S K 0 = S.st := by
  funext k
  unfold midS
  rw [if_neg (by omega)]
theorem mid_hit {S : Sg2} {K i : Nat} (h : repB S i = true) : updI (midS S K i) i ((K + cntB (repB S) i : Nat) : Int) = midS S K (i + 1) := by
  funext k
  unfold updI midS
  by_cases e : k = i
  · subst e
    rw [if_pos rfl, if_pos ⟨by omega, h⟩]
  · rw [if_neg e]
    by_cases e2 : k < i ∧ repB S k = true
    · rw [if_pos e2, if_pos ⟨by omega, e2.2⟩]
    · rw [if_neg e2, if_neg (fun h9 => e2 ⟨by omega, h9.2⟩)]
theorem mid_miss {S : Sg2} {K i : Nat} (h : ¬ repB S i = true) : midS S K i = midS S K (i + 1) := by
  funext k
  unfold midS
  by_cases e2 : k < i ∧ repB S k = true
  · rw [if_pos e2, if_pos ⟨by omega, e2.2⟩]
  · rw [if_neg e2, if_neg (fun h9 => e2 ⟨by
      have : k ≠ i := fun e => h (e ▸ h9.2)
      omega, h9.2⟩)]
theorem end_zero (S : Sg2) (K m : Nat) : endS S K m 0 = midS S K m := by
  funext k
  unfold endS
  rw [if_neg (by omega)]
theorem end_keep {S : Sg2} {K m i : Nat} (h : midS S K m i = finS S K i) : endS S K m i = endS S K m (i + 1) := by
  funext k
  unfold endS
  by_cases e : k = i
  · subst e
    rw [if_neg (by omega), if_pos (by omega), h]
  · by_cases e2 : k < i
    · rw [if_pos e2, if_pos (by omega)]
    · rw [if_neg e2, if_neg (by omega)]
theorem end_set {S : Sg2} {K m i : Nat} {v : Int} (h : v = finS S K i) : updI (endS S K m i) i v = endS S K m (i + 1) := by
  subst h
  funext k
  unfold updI endS
  by_cases e : k = i
  · subst e
    rw [if_pos rfl, if_pos (by omega)]
  · rw [if_neg e]
    by_cases e2 : k < i
    · rw [if_pos e2, if_pos (by omega)]
    · rw [if_neg e2, if_neg (by omega)]
theorem end_cases {S : Sg2} {K m i : Nat} (hi : i < m) (hr : S.st i < 0 → repB S (S.gr i) = true ∧ S.gr i < m) : (0 ≤ endS S K m i i ∧ midS S K m i = finS S K i) ∨ (endS S K m i i < 0 ∧ S.gr i < m ∧ endS S K m i (S.gr i) = finS S K i) := by
  have e1 : endS S K m i i = midS S K m i := by unfold endS; rw [if_neg (by omega)]
  rw [e1]
  by_cases h0 : 0 ≤ S.st i
  · left
    have hn : ¬ (i < m ∧ repB S i = true) := fun h => by have := (rep_iff.1 h.2).1; omega
    unfold midS finS
    rw [if_neg hn, if_pos h0]
    exact ⟨h0, rfl⟩
  · obtain ⟨r1, r2⟩ := hr (by omega)
    by_cases h1 : repB S i = true
    · left
      unfold midS finS
      rw [if_pos ⟨hi, h1⟩, if_neg h0, (rep_iff.1 h1).2]
      exact ⟨by omega, rfl⟩
    · right
      have hg := rep_iff.1 r1
      refine ⟨by unfold midS; rw [if_neg (fun h => h1 h.2)]; omega, r2, ?_⟩
      unfold endS
      by_cases h2 : S.gr i < i
      · rw [if_pos h2]
        unfold finS
        rw [if_neg (by omega), if_neg h0, hg.2]
      · rw [if_neg h2]
        unfold midS finS
        rw [if_pos ⟨r2, r1⟩, if_neg h0]
end
theorem putXs_app (ns : List ByteArray) : ∀ (p : Nat) (xs ys : List Ex), putXs ns p (xs ++ ys) = ((putXs ns p xs).1 ++ (putXs ns (p + (putXs ns p xs).2.length) ys).1, (putXs ns p xs).2 ++ (putXs ns (p + (putXs ns p xs).2.length) ys).2)
  | p, [], ys => by rw [List.nil_append, putXs]; simp
  | p, x :: r, ys => by
    rw [List.cons_append, putXs, putXs_app ns _ r ys, putXs]
    simp only [List.length_append, List.cons_append, List.append_assoc, Nat.add_assoc]
theorem putXs_at (ns : List ByteArray) {ys : List Ex} {t : Nat} (h : t < ys.length) : (putXs ns 0 ys).1.getD t 0 = ((putX ns (putXs ns 0 (ys.take t)).2.length (ys.getD t x0)).1 : Int) := by
  have e : ys = ys.take t ++ (ys.getD t x0 :: ys.drop (t + 1)) := (List.take_append_drop t ys).symm.trans (by
    rw [List.drop_eq_getElem_cons h]
    simp [List.getD, h])
  have hl : (putXs ns 0 (ys.take t)).1.length = t := by rw [putXs_len1]; simp; omega
  have h1 : (putXs ns 0 ys).1 = (putXs ns 0 (ys.take t)).1 ++ (putXs ns (0 + (putXs ns 0 (ys.take t)).2.length) (ys.getD t x0 :: ys.drop (t + 1))).1 := (congrArg (fun z => (putXs ns 0 z).1) e).trans (by
    show (putXs ns 0 (ys.take t ++ (ys.getD t x0 :: ys.drop (t + 1)))).1 = _
    rw [putXs_app])
  rw [h1, putXs, Nat.zero_add]
  simp only [List.getD]
  rw [List.getElem?_append_right (by omega), hl, Nat.sub_self]
  rfl
theorem rg_rng (xs : List Ex) (qs : List (ByteArray × Ex)) (i : Nat) : rgtF (namA xs qs) (rawB xs qs) xs.length qs qs.length i < 0 ∨ ∃ z : Nat, rgtF (namA xs qs) (rawB xs qs) xs.length qs qs.length i = (z : Int) ∧ z < (rawN xs qs).length := by
  rcases rgt_cases (namA xs qs) (rawB xs qs) xs.length qs i qs.length with ⟨h, _⟩ | ⟨e, he, _, h⟩
  · left; omega
  · right
    have hl : (rawB xs qs).length = xs.length + qs.length := by rw [putXs_len1]; simp
    have h9 : 0 ≤ (rawB xs qs).getD (xs.length + e) 0 ∧ (rawB xs qs).getD (xs.length + e) 0 < ((rawN xs qs).length : Int) := by simpa using puts_rng (ns := namA xs qs) 0 (ysF xs qs) _ (getD_mem (show xs.length + e < (rawB xs qs).length by omega))
    exact ⟨((rawB xs qs).getD (xs.length + e) 0).toNat, by rw [h]; omega, by omega⟩
theorem raw_roots (xs : List Ex) (qs : List (ByteArray × Ex)) : (putXs (namA xs qs) 0 ((ysF xs qs).take xs.length)).1 = (rawB xs qs).take xs.length := by
  have e1 : (ysF xs qs).take xs.length = xs := by simp
  have hl := putXs_len1 (namA xs qs) 0 xs
  rw [e1]
  show _ = (putXs (namA xs qs) 0 (xs ++ qs.map (·.2))).1.take xs.length
  rw [putXs_app]
  simp only
  rw [List.take_append_of_le_length (by omega), List.take_of_length_le (by omega)]
theorem raw_all {xs : List Ex} {qs : List (ByteArray × Ex)} (h : GoodT xs qs) : (∀ n ∈ rawW xs qs, n.kind = 1 → 0 ≤ n.num ∧ n.num ≤ ((namA xs qs).length : Int)) ∧ (∀ n ∈ rawW xs qs, ∀ a ∈ n.args, 0 ≤ a ∧ a < ((rawW xs qs).length : Int)) ∧ ∀ b ∈ (rawB xs qs).take xs.length, 0 ≤ b ∧ b < ((rawW xs qs).length : Int) := by
  have hl : (rawW xs qs).length = (rawN xs qs).length + newC xs qs := by simp
  refine ⟨fun n hn hk => ?_, fun n hn a ha => ?_, fun b hb => ?_⟩
  · rcases List.mem_append.1 hn with e | e
    · rcases raw_good h n e with ⟨_, _, _, h4, h5⟩ | ⟨h1, _⟩
      · exact ⟨h4, h5⟩
      · exact absurd hk h1
    · rw [(List.mem_replicate.1 e).2]
      exact ⟨Int.le_refl _, by show (0 : Int) ≤ _; omega⟩
  · rcases List.mem_append.1 hn with e | e
    · rcases raw_good h n e with ⟨_, _, h3, _⟩ | ⟨_, h2⟩
      · rw [h3] at ha; cases ha
      · have := (good_args h2).1 a ha
        omega
    · rw [(List.mem_replicate.1 e).2] at ha
      cases ha
  · have h9 : 0 ≤ b ∧ b < ((rawN xs qs).length : Int) := by simpa using puts_rng (ns := namA xs qs) 0 (ysF xs qs) b (List.mem_of_mem_take hb)
    omega
end Go.Proofs.Ytjkcffcedbcjmaa
