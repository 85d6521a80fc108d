/- Package cells: what Put lays down, as plain data. -/
import Derived.Test.YtlibjdilicfcdaaGreatDoorns22Z
import Derived.Test.YtlibjdilicfcdaaGreatDoorns15Z
namespace Go.Proofs.YtlibjdilicfcdaaGreatDoor
set_option maxRecDepth 100000
open Go.RowKit
def wth1 (ns : List ByteArray) (s : ByteArray) : List ByteArray := if inL ns s = true ∨ s.size = 0 then ns else ns ++ [s]
def wthJ (ns : List ByteArray) (g : Gf) (met : List Int) : Nat → List ByteArray
  | 0 => ns
  | j + 1 => wth1 (wthJ ns g met j) (g.nodes.getD (met.getD j 0).toNat nd0).name
theorem wth1_len (ns : List ByteArray) (s : ByteArray) : (wth1 ns s).length ≤ ns.length + 1 := by
  unfold wth1
  split
  · omega
  · simp
theorem wthJ_len (ns : List ByteArray) (g : Gf) (met : List Int) : ∀ j, (wthJ ns g met j).length ≤ ns.length + j
  | 0 => Nat.le_refl _
  | j + 1 => by
    have h1 := wthJ_len ns g met j
    have h2 := wth1_len (wthJ ns g met j) (g.nodes.getD (met.getD j 0).toNat nd0).name
    show (wth1 _ _).length ≤ _
    omega
theorem wth1_ge (ns : List ByteArray) (s : ByteArray) : ns.length ≤ (wth1 ns s).length := by
  unfold wth1
  split
  · exact Nat.le_refl _
  · simp
theorem wthJ_mono (ns : List ByteArray) (g : Gf) (met : List Int) (j : Nat) : ∀ d, (wthJ ns g met j).length ≤ (wthJ ns g met (j + d)).length
  | 0 => Nat.le_refl _
  | d + 1 => Nat.le_trans (wthJ_mono ns g met j d) (wth1_ge _ _)
theorem wth1_pre (ns : List ByteArray) (s : ByteArray) : ns <+: wth1 ns s := by
  unfold wth1
  split
  · exact List.prefix_refl _
  · exact List.prefix_append _ _
theorem wthJ_pre (ns : List ByteArray) (g : Gf) (met : List Int) (i : Nat) : ∀ d, wthJ ns g met i <+: wthJ ns g met (i + d)
  | 0 => List.prefix_refl _
  | d + 1 => (wthJ_pre ns g met i d).trans (wth1_pre _ _)
theorem idx_pre : ∀ {l t : List ByteArray} {s : ByteArray}, inL l s = true → idx (l ++ t) s = idx l s
  | [], _, _, h => by simp [inL] at h
  | y :: r, t, s, h => by
    by_cases e : y = s
    · simp [idx, e]
    · have h' : inL r s = true := by
        rw [inL_iff] at h ⊢
        rcases List.mem_cons.1 h with h | h
        · exact absurd h.symm e
        · exact h
      have := idx_pre (t := t) h'
      simp only [List.cons_append, idx, if_neg e, this]
theorem pre_in {l m : List ByteArray} {s : ByteArray} (h : l <+: m) (hs : inL l s = true) : inL m s = true ∧ num m s = num l s := by
  obtain ⟨t, rfl⟩ := h
  have h1 : inL (l ++ t) s = true := by
    rw [inL_iff] at hs ⊢
    exact List.mem_append_left _ hs
  refine ⟨h1, ?_⟩
  unfold num
  rw [if_pos h1, if_pos hs, idx_pre hs]
theorem wthJ_in (ns : List ByteArray) (g : Gf) (met : List Int) {i j : Nat} (h : i < j) (hs : (g.nodes.getD (met.getD i 0).toNat nd0).name.size ≠ 0) : inL (wthJ ns g met j) (g.nodes.getD (met.getD i 0).toNat nd0).name = true := by
  have h1 : inL (wthJ ns g met (i + 1)) (g.nodes.getD (met.getD i 0).toNat nd0).name = true := by
    show inL (wth1 _ _) _ = true
    unfold wth1
    split
    · rename_i h2
      rcases h2 with h2 | h2
      · exact h2
      · exact absurd h2 hs
    · rw [inL_iff]
      simp
  have h2 := wthJ_pre ns g met (i + 1) (j - (i + 1))
  rw [show i + 1 + (j - (i + 1)) = j by omega] at h2
  exact (pre_in h2 h1).1
def plN (g : Gf) (met : List Int) (b : Nat) (x : Int) : Nat := b + wantJ g met (pos met x)
def cwX (ns : List ByteArray) (g : Gf) (met : List Int) (b : Nat) (x : Int) : Int := cwF ns (g.nodes.getD x.toNat nd0) (plN g met b x)
def nwX (ns : List ByteArray) (g : Gf) (met : List Int) (b : Nat) (x : Int) : List Int :=
  if (g.nodes.getD x.toNat nd0).kind = 1 then [8 * (plN g met b x : Int)]
  else if (g.nodes.getD x.toNat nd0).kind = 4 then fwF ns (g.nodes.getD x.toNat nd0) :: (g.nodes.getD x.toNat nd0).args.map (cwX ns g met b) else []
def putW (ns : List ByteArray) (g : Gf) (met : List Int) (b : Nat) : List Int := g.roots.map (cwX ns g met b) ++ met.flatMap (nwX ns g met b)
section
variable {ns : List ByteArray} {g : Gf} {met : List Int} {b : Nat}
theorem nwX_len (x : Int) : (nwX ns g met b x).length = szN (g.nodes.getD x.toNat nd0) := by
  unfold nwX szN
  split
  · rfl
  · split
    · simp
      omega
    · rfl
theorem take_snocD {j : Nat} (h : j < met.length) : met.take (j + 1) = met.take j ++ [met.getD j 0] := by
  rw [List.take_add_one]
  simp [List.getD, h]
theorem want_flat : ∀ j, j ≤ met.length → wantJ g met j = g.roots.length + ((met.take j).flatMap (nwX ns g met b)).length
  | 0, _ => by simp [wantJ]
  | j + 1, h => by
    have ih := want_flat j (by omega)
    show wantJ g met j + _ = _
    rw [take_snocD (by omega), List.flatMap_append, List.length_append, ih]
    simp [nwX_len]
    omega
theorem putW_len : (putW ns g met b).length = wantJ g met met.length := by
  rw [want_flat (ns := ns) (b := b) _ (Nat.le_refl _), List.take_length]
  simp [putW]
theorem putW_root {i : Nat} (h : i < g.roots.length) : (putW ns g met b).getD i 0 = cwX ns g met b (g.roots.getD i 0) := by
  simp [putW, List.getD, h, List.getElem?_append_left]
theorem want_mono : ∀ (i d : Nat), wantJ g met i ≤ wantJ g met (i + d)
  | _, 0 => Nat.le_refl _
  | i, d + 1 => Nat.le_trans (want_mono i d) (Nat.le_add_right _ _)
theorem want_next {i j : Nat} (h : i < j) : wantJ g met i + szN (g.nodes.getD (met.getD i 0).toNat nd0) ≤ wantJ g met j := by
  have := want_mono (g := g) (met := met) (i + 1) (j - (i + 1))
  rw [show i + 1 + (j - (i + 1)) = j by omega] at this
  exact this
theorem want_root (j : Nat) : g.roots.length ≤ wantJ g met j := by
  have := want_mono (g := g) (met := met) 0 j
  rw [Nat.zero_add] at this
  exact this
theorem putW_node {j r : Nat} (hj : j < met.length) (hr : r < szN (g.nodes.getD (met.getD j 0).toNat nd0)) : (putW ns g met b).getD (wantJ g met j + r) 0 = (nwX ns g met b (met.getD j 0)).getD r 0 := by
  have h1 : met.flatMap (nwX ns g met b) = (met.take j).flatMap (nwX ns g met b) ++ (nwX ns g met b (met.getD j 0) ++ (met.drop (j + 1)).flatMap (nwX ns g met b)) := by
    have e : met.flatMap (nwX ns g met b) = (met.take j ++ met.drop j).flatMap (nwX ns g met b) := by rw [List.take_append_drop]
    rw [e, drop_step hj]
    simp
  have h2 := want_flat (ns := ns) (b := b) (g := g) (met := met) j (by omega)
  unfold putW
  rw [h1, h2]
  have h3 : r < (nwX ns g met b (met.getD j 0)).length := by rw [nwX_len]; exact hr
  generalize (met.take j).flatMap (nwX ns g met b) = F
  generalize (met.drop (j + 1)).flatMap (nwX ns g met b) = H
  generalize nwX ns g met b (met.getD j 0) = M at *
  have h4 : (g.roots.map (cwX ns g met b)).length = g.roots.length := by simp
  generalize g.roots.map (cwX ns g met b) = K at *
  simp only [List.getD]
  rw [List.getElem?_append_right (by omega), List.getElem?_append_right (by omega), List.getElem?_append_left (by omega)]
  congr 2
  omega
theorem want_cover : ∀ (j c : Nat), c < wantJ g met j → c < g.roots.length ∨ ∃ i r, i < j ∧ r < szN (g.nodes.getD (met.getD i 0).toNat nd0) ∧ c = wantJ g met i + r
  | 0, c, h => Or.inl h
  | j + 1, c, h => by
    by_cases h1 : c < wantJ g met j
    · rcases want_cover j c h1 with h2 | ⟨i, r, h2, h3, h4⟩
      · exact Or.inl h2
      · exact Or.inr ⟨i, r, by omega, h3, h4⟩
    · have h2 : c < wantJ g met j + szN (g.nodes.getD (met.getD j 0).toNat nd0) := h
      exact Or.inr ⟨j, c - wantJ g met j, by omega, by omega, by omega⟩
end
def mixW (T : List Int) (b c : Nat) : List Int := T.take c ++ frsh (b + c) (T.length - c)
theorem mix_len {T : List Int} {b c : Nat} (h : c ≤ T.length) : (mixW T b c).length = T.length := by
  simp [mixW, frsh_len]
  omega
theorem mix_zero (T : List Int) (b : Nat) : mixW T b 0 = frsh b T.length := by simp [mixW]
theorem mix_full (T : List Int) (b : Nat) : mixW T b T.length = T := by simp [mixW, frsh]
theorem frsh_cons (s k : Nat) : frsh s (k + 1) = 8 * (s : Int) :: frsh (s + 1) k := by
  unfold frsh
  rw [List.range_succ_eq_map, List.map_cons, List.map_map]
  congr 1
  apply List.map_congr_left
  intro i _
  simp
  omega
theorem mix_split {T : List Int} {b c : Nat} (h : c < T.length) : mixW T b c = T.take c ++ 8 * ((b + c : Nat) : Int) :: frsh (b + (c + 1)) (T.length - (c + 1)) := by
  unfold mixW
  rw [show T.length - c = (T.length - (c + 1)) + 1 by omega, frsh_cons, show b + c + 1 = b + (c + 1) by omega]
theorem mix_next {T : List Int} {b c : Nat} (h : c < T.length) : mixW T b (c + 1) = T.take c ++ T.getD c 0 :: frsh (b + (c + 1)) (T.length - (c + 1)) := by
  unfold mixW
  rw [take_snocD h, List.append_assoc]
  rfl
theorem mix_set {l T : List Int} {c : Nat} (h : c < T.length) : (l ++ mixW T l.length c).set (l.length + c) (T.getD c 0) = l ++ mixW T l.length (c + 1) := by
  rw [mix_split h, mix_next h, List.set_append_right _ _ (by omega), show l.length + c - l.length = c by omega, List.set_append_right _ _ (by simp; omega)]
  have e : c - (T.take c).length = 0 := by simp; omega
  rw [e, List.set_cons_zero]
theorem mix_skip {T : List Int} {b c : Nat} (h : c < T.length) (e : T.getD c 0 = 8 * ((b + c : Nat) : Int)) : mixW T b c = mixW T b (c + 1) := by
  rw [mix_split h, mix_next h, e]
end Go.Proofs.YtlibjdilicfcdaaGreatDoor

namespace Go.Proofs.YtlibjdilicfcdaaGreatDoor
set_option maxRecDepth 100000
open Go.RowKit
structure Ly (W w : World) (ab : Nat) (av nv rv : Value) (N : Nat) (PL : List Int) : Prop where
  m : a_Mod (a_foot ab av) W w
  f : ∀ k ∈ a_foot ab av, k < W.heap.size
  g : w.heap[W.heap.size]? = some (.cells #[nv, rv] 25)
  p : w.ownsRow (W.heap.size + 1) 3 1 (.slice (some ⟨W.heap.size + 1, 0, none⟩) N N) N (PL.map (Value.int .i64))
  l : PL.length = N
section
variable {W w w' : World} {ab : Nat} {av nv rv : Value} {N : Nat} {PL : List Int}
theorem Ly.next (h : Ly W w ab av nv rv N PL) (hb : Below w.heap.size w w') : Ly W w' ab av nv rv N PL :=
  ⟨h.m.trans (a_Mod.ofBelow (ks := []) hb) (fun _ hx => by cases hx), h.f, (hb.block _ (lt_of_block h.g)).trans h.g, row_keep h.p (fun k hk => hb.block k (h.p.lt k hk).2), h.l⟩
theorem Ly.upd (h : Ly W w ab av nv rv N PL) (hm : a_Mod (a_foot ab av) w w') : Ly W w' ab av nv rv N PL :=
  ⟨h.m.trans hm (fun _ hx => Or.inl hx), h.f, (hm.block _ (lt_of_block h.g) (fun hx => by have := h.f _ hx; omega)).trans h.g, row_keep h.p (fun k hk => hm.block k (h.p.lt k hk).2 (fun hx => by have := h.f _ hx; have := (h.p.lt k hk).1; omega)), h.l⟩
theorem Ly.cell (h : Ly W w ab av nv rv N PL) {i : Nat} (hi : i < N) : w.cell? ⟨W.heap.size + 1, i, none⟩ = some (.int .i64 (PL.getD i 0)) ∧ w.frozen? ⟨W.heap.size + 1, i, none⟩ = false :=
  ⟨by rw [h.p.cellAt i (by omega)]; have := h.l; simp [List.getD, show i < PL.length by omega], h.p.frozenAt i⟩
theorem Ly.set (h : Ly W w ab av nv rv N PL) (n : Nat) (v : Int) : Ly W (w.setCell ⟨W.heap.size + 1, n, none⟩ (.int .i64 v)) ab av nv rv N (PL.set n v) := by
  refine ⟨h.m.setCell (p := ⟨W.heap.size + 1, n, none⟩) (Or.inr (by show W.heap.size ≤ W.heap.size + 1; omega)) _, h.f, (Below.heap_setCell _ _ _ _ (by show W.heap.size ≠ W.heap.size + 1; omega)).trans h.g, ?_, by simp [h.l]⟩
  have h3 := (World.ownsRow.stored h.p n (.int .i64 v)).1
  rw [List.map_set]
  exact h3
theorem Ly.box (h : Ly W w ab av nv rv N PL) : (w.cell? ⟨W.heap.size, 0, none⟩ = some nv ∧ w.cell? ⟨W.heap.size, 1, none⟩ = some rv) ∧ W.heap.size < w.heap.size ∧ W.heap.size + 1 < w.heap.size := by
  obtain ⟨a, _⟩ := cblk2 h.g
  exact ⟨a, lt_of_block h.g, (h.p.lt _ rfl).2⟩
theorem ly_start {w1 : World} (hf : ∀ k ∈ a_foot ab av, k < W.heap.size) (hown : w1.ownsRow (W.heap.size + 1) 3 1 (.slice (some ⟨(W.alloc (.cells #[nv, rv] 25)).heap.size, 0, none⟩) N N) N (madeCells (Value.int .i64 0).cells (N * 1)).toList) (hgrow : (W.alloc (.cells #[nv, rv] 25)).grownBy w1 none) : Ly W w1 ab av nv rv N (List.replicate N 0) ∧ Below W.heap.size W w1 := by
  have hsz : (W.alloc (.cells #[nv, rv] 25)).heap.size = W.heap.size + 1 := by simp
  rw [hsz] at hown
  have hb : Below W.heap.size W w1 := (below_alloc W _).grown hgrow (by omega) (fun _ e => by cases e)
  refine ⟨⟨a_Mod.ofBelow hb, hf, ?_, ?_, by simp⟩, hb⟩
  · rw [hgrow.block _ (by simp) (fun e => by cases e)]
    exact heap_alloc_new W _
  · rw [show (madeCells (Value.int .i64 0).cells (N * 1)).toList = List.replicate N (.int .i64 0) by rw [Nat.mul_one]; simp [Value.cells, toList_madeCells_one]] at hown
    simpa using hown
end
def PlJ (g : Gf) (met : List Int) (b j : Nat) (PL : List Int) : Prop := ∀ i, i < j → PL.getD (met.getD i 0).toNat 0 = ((b + wantJ g met i : Nat) : Int)
theorem plJ_set {g : Gf} {met PL : List Int} {b j : Nat} (h : PlJ g met b j PL) (hn : met.Nodup) (hr : ∀ x ∈ met, 0 ≤ x ∧ x < (PL.length : Int)) (hj : j < met.length) : PlJ g met b (j + 1) (PL.set (met.getD j 0).toNat ((b + wantJ g met j : Nat) : Int)) := fun i hi => by
  have hrj := hr _ (getD_mem hj)
  by_cases e : i = j
  · subst e
    have hz : (met.getD i 0).toNat < PL.length := by omega
    generalize (met.getD i 0).toNat = z at *
    simp [List.getD, hz]
  · have hij : i < j := by omega
    have hri := hr _ (getD_mem (show i < met.length by omega))
    have hne : (met.getD j 0).toNat ≠ (met.getD i 0).toNat := fun e2 => by
      have e3 : met.getD j 0 = met.getD i 0 := by omega
      have h4 := pos_of_getD hn hj
      rw [e3, pos_of_getD hn (show i < met.length by omega)] at h4
      exact e h4
    have h5 := h i hij
    simp only [List.getD] at h5 hne ⊢
    rw [List.getElem?_set_ne hne]
    exact h5
theorem plJ_all {g : Gf} {met PL : List Int} {b : Nat} (h : PlJ g met b met.length PL) {x : Int} (hx : x ∈ met) : PL.getD x.toNat 0 = (plN g met b x : Int) := by
  have h1 := h (pos met x) (pos_lt hx)
  rw [pos_at hx] at h1
  exact h1
def Gra (w : World) (nv rv : Value) (g : Gf) (avs : Nat → Value) : Prop := (∃ na nc, nv = .slice na g.nodes.length nc ∧ ∀ x, x < g.nodes.length → ∃ b o, na = some ⟨b, o, none⟩ ∧ NdAt w b (o + x * 4) (avs x) (g.nodes.getD x nd0)) ∧ Ri w rv g.roots
theorem gra_of {w : World} {nv rv : Value} {g : Gf} (h : Gr w nv rv g) : ∃ avs, Gra w nv rv g avs := by
  obtain ⟨na, nc, e, hc⟩ := h.1
  have hf : ∀ x, ∃ av, x < g.nodes.length → ∃ b o, na = some ⟨b, o, none⟩ ∧ NdAt w b (o + x * 4) av (g.nodes.getD x nd0) := fun x => by
    by_cases hx : x < g.nodes.length
    · obtain ⟨b, o, av, e, h0⟩ := hc x hx
      exact ⟨av, fun _ => ⟨b, o, e, h0⟩⟩
    · exact ⟨undef, fun h => absurd h hx⟩
  exact ⟨fun x => (hf x).choose, ⟨na, nc, e, fun x hx => (hf x).choose_spec hx⟩, h.2⟩
theorem Gra.below {w w' : World} {nv rv : Value} {g : Gf} {avs : Nat → Value} (h : Gra w nv rv g avs) (hb : Below w.heap.size w w') : Gra w' nv rv g avs := by
  obtain ⟨⟨na, nc, e, hc⟩, hr⟩ := h
  exact ⟨⟨na, nc, e, fun x hx => by
    obtain ⟨b, o, e, h0⟩ := hc x hx
    exact ⟨b, o, e, h0.below hb⟩⟩, hr.below hb⟩
theorem Gra.gr {w : World} {nv rv : Value} {g : Gf} {avs : Nat → Value} (h : Gra w nv rv g avs) : Gr w nv rv g := by
  obtain ⟨⟨na, nc, e, hc⟩, hr⟩ := h
  exact ⟨⟨na, nc, e, fun x hx => by
    obtain ⟨b, o, e, h0⟩ := hc x hx
    exact ⟨b, o, avs x, e, h0⟩⟩, hr⟩
theorem ri_own {w : World} {B : Nat} {ao : Option Addr} {c : Nat} {L : List Int} (h : w.ownsRow B 3 1 (.slice ao L.length c) L.length (L.map (Value.int .i64))) : Ri w (.slice ao L.length c) L := by
  refine ⟨ao, c, rfl, fun j hj => ?_⟩
  rcases h.2 with ⟨e, hn⟩ | ⟨gb, cap, cur, e, _⟩
  · omega
  · injection e with e _ _
    subst e
    refine ⟨gb, 0, rfl, ?_⟩
    rw [Nat.zero_add, h.cellAt j (by omega)]
    simp [List.getD, hj]
theorem Gra.nd {w : World} {na : Option Addr} {nc : Nat} {rv : Value} {g : Gf} {avs : Nat → Value} (hG : Gra w (.slice na g.nodes.length nc) rv g avs) {x : Nat} (hx : x < g.nodes.length) : ∃ b o aa ac, na = some ⟨b, o, none⟩ ∧ avs x = .slice aa (g.nodes.getD x nd0).args.length ac ∧ w.cell? ⟨b, o + x * 4, none⟩ = some (.int .i64 (g.nodes.getD x nd0).kind) ∧ w.cell? ⟨b, o + x * 4 + 1, none⟩ = some (.string (g.nodes.getD x nd0).name) ∧ w.cell? ⟨b, o + x * 4 + 2, none⟩ = some (.int .i64 (g.nodes.getD x nd0).num) ∧ w.cell? ⟨b, o + x * 4 + 3, none⟩ = some (.slice aa (g.nodes.getD x nd0).args.length ac) ∧ Ri w (.slice aa (g.nodes.getD x nd0).args.length ac) (g.nodes.getD x nd0).args := by
  obtain ⟨⟨na', nc', e, hc⟩, _⟩ := hG
  injection e with e1 _ _
  subst e1
  obtain ⟨b, o, rfl, h0⟩ := hc x hx
  obtain ⟨p0, p1, p2, p3, p4⟩ := h0
  obtain ⟨aa, ac, e, h5⟩ := p4
  rw [e] at p3
  exact ⟨b, o, aa, ac, rfl, e, p0, p1, p2, p3, aa, ac, rfl, h5⟩
theorem Gra.nd2 {w : World} {nb no : Nat} {nc : Nat} {rv : Value} {g : Gf} {avs : Nat → Value} (hG : Gra w (.slice (some ⟨nb, no, none⟩) g.nodes.length nc) rv g avs) {x : Nat} (hx : x < g.nodes.length) {aa : Option Addr} {ac : Nat} (ha : avs x = .slice aa (g.nodes.getD x nd0).args.length ac) : w.cell? ⟨nb, no + x * 4, none⟩ = some (.int .i64 (g.nodes.getD x nd0).kind) ∧ w.cell? ⟨nb, no + x * 4 + 1, none⟩ = some (.string (g.nodes.getD x nd0).name) ∧ w.cell? ⟨nb, no + x * 4 + 2, none⟩ = some (.int .i64 (g.nodes.getD x nd0).num) ∧ w.cell? ⟨nb, no + x * 4 + 3, none⟩ = some (.slice aa (g.nodes.getD x nd0).args.length ac) ∧ Ri w (.slice aa (g.nodes.getD x nd0).args.length ac) (g.nodes.getD x nd0).args := by
  obtain ⟨b, o, aa', ac', e, e2, p0, p1, p2, p3, p4⟩ := hG.nd hx
  injection e with e
  injection e with e1 e3 _
  subst e1 e3
  rw [ha] at e2
  injection e2 with e4 _ e5
  subst e4 e5
  exact ⟨p0, p1, p2, p3, p4⟩
section
variable {w w' : World} {B hb ab tb : Nat} {m : Int} {av : Value} {l : List Int} {tv : Value} {tq : Nat} {ns : List ByteArray} {trv ptv : Value} {n : Int}
theorem Hp.keep {ks : List Nat} (h : Hp w B hb ab tb m av l tv tq ns trv ptv n) (hm : a_Mod ks w w') (hk : ∀ k ∈ ks, k ≠ hb ∧ k ∉ a_foot ab av ∧ k ∉ n_foot tb tv tq) : Hp w' B hb ab tb m av l tv tq ns trv ptv n :=
  ⟨(hm.block hb (lt_of_block h.blk) (fun hx => (hk _ hx).1 rfl)).trans h.blk, h.base, h.ar.keep hm (fun k hx => (hk k hx).2.1), h.tb.keep (mod_an hm) (fun k hx => (hk k hx).2.2)⟩
theorem Hp.ltz (h : Hp w B hb ab tb m av l tv tq ns trv ptv n) : hb < w.heap.size ∧ (∀ k ∈ a_foot ab av, k < w.heap.size) ∧ (∀ k ∈ n_foot tb tv tq, k < w.heap.size) := by
  refine ⟨lt_of_block h.blk, fun k hk => ?_, fun k hk => ?_⟩
  · rcases a_mem_foot.1 hk with rfl | hk
    · exact h.ar.lt
    · exact (h.ar.row hk).2.1
  · rcases n_mem_foot.1 hk with rfl | rfl | hk
    · exact h.tb.lt
    · exact h.tb.mlt
    · exact (h.tb.row hk).2.1
end
theorem Ly.far {W w w' : World} {ab : Nat} {av nv rv : Value} {N : Nat} {PL : List Int} {ks : List Nat} (h : Ly W w ab av nv rv N PL) (hm : a_Mod ks w w') (hk : ∀ k ∈ ks, W.heap.size + 2 ≤ k) : Ly W w' ab av nv rv N PL :=
  ⟨h.m.trans hm (fun k hx => Or.inr (by have := hk k hx; omega)), h.f, (hm.block _ (lt_of_block h.g) (fun hx => by have := hk _ hx; omega)).trans h.g, row_keep h.p (fun k hk2 => hm.block k (h.p.lt k hk2).2 (fun hx => by
    have e : k = W.heap.size + 1 := by simpa [Value.ownBlock] using hk2.symm
    have := hk _ hx
    omega)), h.l⟩
theorem good_int {N : Nat} {n : Nd} (h : goodNd N n = true) (h3 : n.kind = 3) : fitsB 2 n.num = true := by
  unfold goodNd at h
  rw [if_neg (by omega), if_neg (by omega), if_pos h3] at h
  simp at h
  simp [fitsB]
  omega
theorem sz_pos {N : Nat} {n : Nd} (h : goodNd N n = true) (h2 : n.kind ≠ 2) (h3 : n.kind ≠ 3) : 1 ≤ szN n := by
  unfold goodNd at h
  unfold szN
  rw [if_neg h2, if_neg h3] at h
  split
  · omega
  · rename_i h1
    rw [if_neg h1] at h
    split
    · omega
    · rename_i h4
      rw [if_neg h4] at h
      cases h
theorem good_comp {N : Nat} {n : Nd} (h : goodNd N n = true) (h4 : n.kind = 4) : 1 ≤ n.args.length ∧ n.args.length ≤ 8 := by
  refine ⟨?_, (good_args h).2⟩
  unfold goodNd at h
  rw [if_neg (by omega), if_neg (by omega), if_neg (by omega), if_pos h4] at h
  simp only [Bool.and_eq_true, decide_eq_true_eq] at h
  exact h.1.1.2
theorem getD_map1 (f : Int → Int) (a : Int) {L : List Int} {r : Nat} (h : r < L.length) : (a :: L.map f).getD (r + 1) 0 = f (L.getD r 0) := by
  simp [List.getD, h]
theorem grown_mod {w w' : World} {o : Obj} {v : Value} (h : (w.alloc o).grownBy w' v.ownBlock) : a_Mod v.ownBlock.toList w w' :=
  ((a_Mod.refl _ w).alloc o).grown h (fun k e => Or.inl (by rw [e]; simp))
end Go.Proofs.YtlibjdilicfcdaaGreatDoor
