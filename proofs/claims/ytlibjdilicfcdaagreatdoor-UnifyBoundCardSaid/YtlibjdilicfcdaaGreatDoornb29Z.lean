/- Package cells: terms that are read, as plain data. -/
import Derived.Test.YtlibjdilicfcdaaGreatDoornb21Z
import Derived.Test.YtlibjdilicfcdaaGreatDoornb14Z
import Derived.Test.YtlibjdilicfcdaaGreatDoornb26Z
import Derived.Test.YtlibjdilicfcdaaGreatDoornb27Z
namespace Go.Proofs.YtlibjdilicfcdaaGreatDoor
set_option maxRecDepth 100000
open Go.RowKit
theorem pos_app : ∀ {m t : List Int} {x : Int}, x ∈ m → pos (m ++ t) x = pos m x
  | y :: r, t, x, h => by
    by_cases e : y = x
    · simp [pos, e]
    · have h' : x ∈ r := by
        rcases List.mem_cons.1 h with rfl | h
        · exact absurd rfl e
        · exact h
      have := pos_app (t := t) h'
      simp only [List.cons_append, pos, if_neg e, this]
theorem posF_pre {m m' : List Int} {x : Int} (h : m <+: m') (hx : x ∈ m) : posF m' x = posF m x := by
  obtain ⟨t, rfl⟩ := h
  unfold posF
  rw [if_pos hx, if_pos (List.mem_append_left _ hx), pos_app hx]
def addT (TS : List Int) (t : Int) : List Int := if t ∈ TS then TS else TS ++ [t]
abbrev tmC (l : List Int) (c : Int) : Int := trmW l c.toNat
def addsJ (l cs TS : List Int) : Nat → List Int
  | 0 => TS
  | j + 1 => addT (addsJ l cs TS j) (tmC l (cs.getD j 0))
theorem addT_pre (TS : List Int) (t : Int) : TS <+: addT TS t := by
  unfold addT
  split
  · exact List.prefix_refl _
  · exact List.prefix_append _ _
theorem addT_mem (TS : List Int) (t : Int) : t ∈ addT TS t := by
  unfold addT
  split
  · assumption
  · simp
theorem addT_nodup {TS : List Int} {t : Int} (h : TS.Nodup) : (addT TS t).Nodup := by
  unfold addT
  split
  · exact h
  · rename_i hn
    rw [List.nodup_append]
    refine ⟨h, by simp, fun x hx y hy e => ?_⟩
    simp at hy
    subst hy
    subst e
    exact hn hx
theorem addT_all {TS : List Int} {t : Int} {p : Int → Prop} (h : ∀ x ∈ TS, p x) (ht : p t) : ∀ x ∈ addT TS t, p x := fun x hx => by
  unfold addT at hx
  split at hx
  · exact h x hx
  · rcases List.mem_append.1 hx with hx | hx
    · exact h x hx
    · simp at hx
      rw [hx]
      exact ht
section
variable {l cs TS : List Int}
theorem adds_pre (i : Nat) : ∀ d, addsJ l cs TS i <+: addsJ l cs TS (i + d)
  | 0 => List.prefix_refl _
  | d + 1 => (adds_pre i d).trans (addT_pre _ _)
theorem adds_le {i j : Nat} (h : i ≤ j) : addsJ l cs TS i <+: addsJ l cs TS j := by
  have := adds_pre (l := l) (cs := cs) (TS := TS) i (j - i)
  rw [show i + (j - i) = j by omega] at this
  exact this
theorem adds_mem {i j : Nat} (h : i < j) : tmC l (cs.getD i 0) ∈ addsJ l cs TS j :=
  (adds_le (l := l) (cs := cs) (TS := TS) (show i + 1 ≤ j by omega)).subset (addT_mem _ _)
theorem adds_nodup (h : TS.Nodup) : ∀ j, (addsJ l cs TS j).Nodup
  | 0 => h
  | j + 1 => addT_nodup (adds_nodup h j)
theorem adds_all {p : Int → Prop} (h : ∀ x ∈ TS, p x) : ∀ j, (∀ i, i < j → p (tmC l (cs.getD i 0))) → ∀ x ∈ addsJ l cs TS j, p x
  | 0, _ => h
  | j + 1, hc => addT_all (adds_all h j (fun i hi => hc i (by omega))) (hc j (by omega))
theorem adds_len : ∀ j, (addsJ l cs TS j).length ≤ TS.length + j
  | 0 => Nat.le_refl _
  | j + 1 => by
    have := adds_len j
    show (addT _ _).length ≤ _
    unfold addT
    split
    · omega
    · simp
      omega
def outJ (l cs TS : List Int) (j : Nat) : List Int := (List.range j).map (fun i => posF (addsJ l cs TS j) (tmC l (cs.getD i 0)))
theorem out_succ (j : Nat) : outJ l cs TS (j + 1) = outJ l cs TS j ++ [posF (addsJ l cs TS (j + 1)) (tmC l (cs.getD j 0))] := by
  unfold outJ
  rw [List.range_succ, List.map_append]
  congr 1
  apply List.map_congr_left
  intro i hi
  rw [List.mem_range] at hi
  exact posF_pre (addT_pre _ _) (adds_mem hi)
theorem out_all : outJ l cs TS cs.length = cs.map (fun c => posF (addsJ l cs TS cs.length) (tmC l c)) := by
  refine list_ext0 (by simp [outJ]) (fun j hj => ?_)
  have hj' : j < cs.length := by simpa [outJ] using hj
  simp [outJ, List.getD, hj']
end
def MapT (TS : List Int) (D : DataW Unit) : Prop := (∀ x : Int, Maps.has D (.int .u64 x) = decide (x ∈ TS)) ∧ ∀ x : Int, x ∈ TS → D.atKey (.int .u64 x) (.lit (.int .i64 0)) = .lit (.int .i64 (posF TS x))
theorem mapT_nil : MapT [] (.map []) := ⟨fun s => by simp [Maps.has], fun s h => by cases h⟩
theorem mapT_put {TS : List Int} {x : Int} {D : DataW Unit} (h : MapT TS D) (hD : Maps.IsMap D) (hx : x ∉ TS) : MapT (TS ++ [x]) (D.put (.int .u64 x) (.lit (.int .i64 (TS.length : Int)))) := by
  have hk : WideAt.IsKeyLit (.int .u64 x) := trivial
  refine ⟨fun y => ?_, fun y hy => ?_⟩
  · by_cases e : y = x
    · subst e
      rw [Maps.has_put_same hD hk]
      simp
    · have hne : Lit.int .u64 y ≠ Lit.int .u64 x := fun h2 => e (by injection h2)
      rw [Maps.has_put_other hne, h.1, decide_eq_decide]
      simp [e]
  · rw [posF_snoc hx]
    by_cases e : y = x
    · subst e
      rw [Maps.atKey_put_same hD hk, if_pos rfl]
    · have hne : Lit.int .u64 y ≠ Lit.int .u64 x := fun h2 => e (by injection h2)
      rw [Maps.atKey_put_other hne, if_neg e]
      refine h.2 y ?_
      rcases List.mem_append.1 hy with hy | hy
      · exact hy
      · simp at hy
        exact absurd hy e
end Go.Proofs.YtlibjdilicfcdaaGreatDoor

namespace Go.Proofs.YtlibjdilicfcdaaGreatDoor
set_option maxRecDepth 100000
open Go.RowKit
structure Ly (W w : World) (ab : Nat) (av nv rv : Value) (N : Nat) (PL : List Int) : Prop where
  m : a_Mod (a_foot ab av) W w
  f : ∀ k ∈ a_foot ab av, k < W.heap.size
  g : w.heap[W.heap.size]? = some (.cells #[nv, rv] 25)
  p : w.ownsRow (W.heap.size + 1) 3 1 (.slice (some ⟨W.heap.size + 1, 0, none⟩) N N) N (PL.map (Value.int .i64))
  l : PL.length = N
section
variable {W w w' : World} {ab : Nat} {av nv rv : Value} {N : Nat} {PL : List Int}
theorem Ly.next (h : Ly W w ab av nv rv N PL) (hb : Below w.heap.size w w') : Ly W w' ab av nv rv N PL :=
  ⟨h.m.trans (a_Mod.ofBelow (ks := []) hb) (fun _ hx => by cases hx), h.f, (hb.block _ (lt_of_block h.g)).trans h.g, row_keep h.p (fun k hk => hb.block k (h.p.lt k hk).2), h.l⟩
theorem Ly.upd (h : Ly W w ab av nv rv N PL) (hm : a_Mod (a_foot ab av) w w') : Ly W w' ab av nv rv N PL :=
  ⟨h.m.trans hm (fun _ hx => Or.inl hx), h.f, (hm.block _ (lt_of_block h.g) (fun hx => by have := h.f _ hx; omega)).trans h.g, row_keep h.p (fun k hk => hm.block k (h.p.lt k hk).2 (fun hx => by have := h.f _ hx; have := (h.p.lt k hk).1; omega)), h.l⟩
theorem Ly.cell (h : Ly W w ab av nv rv N PL) {i : Nat} (hi : i < N) : w.cell? ⟨W.heap.size + 1, i, none⟩ = some (.int .i64 (PL.getD i 0)) ∧ w.frozen? ⟨W.heap.size + 1, i, none⟩ = false :=
  ⟨by rw [h.p.cellAt i (by omega)]; have := h.l; simp [List.getD, show i < PL.length by omega], h.p.frozenAt i⟩
theorem Ly.set (h : Ly W w ab av nv rv N PL) (n : Nat) (v : Int) : Ly W (w.setCell ⟨W.heap.size + 1, n, none⟩ (.int .i64 v)) ab av nv rv N (PL.set n v) := by
  refine ⟨h.m.setCell (p := ⟨W.heap.size + 1, n, none⟩) (Or.inr (by show W.heap.size ≤ W.heap.size + 1; omega)) _, h.f, (Below.heap_setCell _ _ _ _ (by show W.heap.size ≠ W.heap.size + 1; omega)).trans h.g, ?_, by simp [h.l]⟩
  have h3 := (World.ownsRow.stored h.p n (.int .i64 v)).1
  rw [List.map_set]
  exact h3
theorem Ly.box (h : Ly W w ab av nv rv N PL) : (w.cell? ⟨W.heap.size, 0, none⟩ = some nv ∧ w.cell? ⟨W.heap.size, 1, none⟩ = some rv) ∧ W.heap.size < w.heap.size ∧ W.heap.size + 1 < w.heap.size := by
  obtain ⟨a, _⟩ := cblk2 h.g
  exact ⟨a, lt_of_block h.g, (h.p.lt _ rfl).2⟩
theorem ly_start {w1 : World} (hf : ∀ k ∈ a_foot ab av, k < W.heap.size) (hown : w1.ownsRow (W.heap.size + 1) 3 1 (.slice (some ⟨(W.alloc (.cells #[nv, rv] 25)).heap.size, 0, none⟩) N N) N (madeCells (Value.int .i64 0).cells (N * 1)).toList) (hgrow : (W.alloc (.cells #[nv, rv] 25)).grownBy w1 none) : Ly W w1 ab av nv rv N (List.replicate N 0) ∧ Below W.heap.size W w1 := by
  have hsz : (W.alloc (.cells #[nv, rv] 25)).heap.size = W.heap.size + 1 := by simp
  rw [hsz] at hown
  have hb : Below W.heap.size W w1 := (below_alloc W _).grown hgrow (by omega) (fun _ e => by cases e)
  refine ⟨⟨a_Mod.ofBelow hb, hf, ?_, ?_, by simp⟩, hb⟩
  · rw [hgrow.block _ (by simp) (fun e => by cases e)]
    exact heap_alloc_new W _
  · rw [show (madeCells (Value.int .i64 0).cells (N * 1)).toList = List.replicate N (.int .i64 0) by rw [Nat.mul_one]; simp [Value.cells, toList_madeCells_one]] at hown
    simpa using hown
end
def PlJ (g : Gf) (met : List Int) (b j : Nat) (PL : List Int) : Prop := ∀ i, i < j → PL.getD (met.getD i 0).toNat 0 = ((b + wantJ g met i : Nat) : Int)
theorem plJ_set {g : Gf} {met PL : List Int} {b j : Nat} (h : PlJ g met b j PL) (hn : met.Nodup) (hr : ∀ x ∈ met, 0 ≤ x ∧ x < (PL.length : Int)) (hj : j < met.length) : PlJ g met b (j + 1) (PL.set (met.getD j 0).toNat ((b + wantJ g met j : Nat) : Int)) := fun i hi => by
  have hrj := hr _ (getD_mem hj)
  by_cases e : i = j
  · subst e
    have hz : (met.getD i 0).toNat < PL.length := by omega
    generalize (met.getD i 0).toNat = z at *
    simp [List.getD, hz]
  · have hij : i < j := by omega
    have hri := hr _ (getD_mem (show i < met.length by omega))
    have hne : (met.getD j 0).toNat ≠ (met.getD i 0).toNat := fun e2 => by
      have e3 : met.getD j 0 = met.getD i 0 := by omega
      have h4 := pos_of_getD hn hj
      rw [e3, pos_of_getD hn (show i < met.length by omega)] at h4
      exact e h4
    have h5 := h i hij
    simp only [List.getD] at h5 hne ⊢
    rw [List.getElem?_set_ne hne]
    exact h5
theorem plJ_all {g : Gf} {met PL : List Int} {b : Nat} (h : PlJ g met b met.length PL) {x : Int} (hx : x ∈ met) : PL.getD x.toNat 0 = (plN g met b x : Int) := by
  have h1 := h (pos met x) (pos_lt hx)
  rw [pos_at hx] at h1
  exact h1
def Gra (w : World) (nv rv : Value) (g : Gf) (avs : Nat → Value) : Prop := (∃ na nc, nv = .slice na g.nodes.length nc ∧ ∀ x, x < g.nodes.length → ∃ b o, na = some ⟨b, o, none⟩ ∧ NdAt w b (o + x * 4) (avs x) (g.nodes.getD x nd0)) ∧ Ri w rv g.roots
theorem gra_of {w : World} {nv rv : Value} {g : Gf} (h : Gr w nv rv g) : ∃ avs, Gra w nv rv g avs := by
  obtain ⟨na, nc, e, hc⟩ := h.1
  have hf : ∀ x, ∃ av, x < g.nodes.length → ∃ b o, na = some ⟨b, o, none⟩ ∧ NdAt w b (o + x * 4) av (g.nodes.getD x nd0) := fun x => by
    by_cases hx : x < g.nodes.length
    · obtain ⟨b, o, av, e, h0⟩ := hc x hx
      exact ⟨av, fun _ => ⟨b, o, e, h0⟩⟩
    · exact ⟨undef, fun h => absurd h hx⟩
  exact ⟨fun x => (hf x).choose, ⟨na, nc, e, fun x hx => (hf x).choose_spec hx⟩, h.2⟩
theorem Gra.below {w w' : World} {nv rv : Value} {g : Gf} {avs : Nat → Value} (h : Gra w nv rv g avs) (hb : Below w.heap.size w w') : Gra w' nv rv g avs := by
  obtain ⟨⟨na, nc, e, hc⟩, hr⟩ := h
  exact ⟨⟨na, nc, e, fun x hx => by
    obtain ⟨b, o, e, h0⟩ := hc x hx
    exact ⟨b, o, e, h0.below hb⟩⟩, hr.below hb⟩
theorem Gra.gr {w : World} {nv rv : Value} {g : Gf} {avs : Nat → Value} (h : Gra w nv rv g avs) : Gr w nv rv g := by
  obtain ⟨⟨na, nc, e, hc⟩, hr⟩ := h
  exact ⟨⟨na, nc, e, fun x hx => by
    obtain ⟨b, o, e, h0⟩ := hc x hx
    exact ⟨b, o, avs x, e, h0⟩⟩, hr⟩
theorem ri_own {w : World} {B : Nat} {ao : Option Addr} {c : Nat} {L : List Int} (h : w.ownsRow B 3 1 (.slice ao L.length c) L.length (L.map (Value.int .i64))) : Ri w (.slice ao L.length c) L := by
  refine ⟨ao, c, rfl, fun j hj => ?_⟩
  rcases h.2 with ⟨e, hn⟩ | ⟨gb, cap, cur, e, _⟩
  · omega
  · injection e with e _ _
    subst e
    refine ⟨gb, 0, rfl, ?_⟩
    rw [Nat.zero_add, h.cellAt j (by omega)]
    simp [List.getD, hj]
theorem Gra.nd {w : World} {na : Option Addr} {nc : Nat} {rv : Value} {g : Gf} {avs : Nat → Value} (hG : Gra w (.slice na g.nodes.length nc) rv g avs) {x : Nat} (hx : x < g.nodes.length) : ∃ b o aa ac, na = some ⟨b, o, none⟩ ∧ avs x = .slice aa (g.nodes.getD x nd0).args.length ac ∧ w.cell? ⟨b, o + x * 4, none⟩ = some (.int .i64 (g.nodes.getD x nd0).kind) ∧ w.cell? ⟨b, o + x * 4 + 1, none⟩ = some (.string (g.nodes.getD x nd0).name) ∧ w.cell? ⟨b, o + x * 4 + 2, none⟩ = some (.int .i64 (g.nodes.getD x nd0).num) ∧ w.cell? ⟨b, o + x * 4 + 3, none⟩ = some (.slice aa (g.nodes.getD x nd0).args.length ac) ∧ Ri w (.slice aa (g.nodes.getD x nd0).args.length ac) (g.nodes.getD x nd0).args := by
  obtain ⟨⟨na', nc', e, hc⟩, _⟩ := hG
  injection e with e1 _ _
  subst e1
  obtain ⟨b, o, rfl, h0⟩ := hc x hx
  obtain ⟨p0, p1, p2, p3, p4⟩ := h0
  obtain ⟨aa, ac, e, h5⟩ := p4
  rw [e] at p3
  exact ⟨b, o, aa, ac, rfl, e, p0, p1, p2, p3, aa, ac, rfl, h5⟩
theorem Gra.nd2 {w : World} {nb no : Nat} {nc : Nat} {rv : Value} {g : Gf} {avs : Nat → Value} (hG : Gra w (.slice (some ⟨nb, no, none⟩) g.nodes.length nc) rv g avs) {x : Nat} (hx : x < g.nodes.length) {aa : Option Addr} {ac : Nat} (ha : avs x = .slice aa (g.nodes.getD x nd0).args.length ac) : w.cell? ⟨nb, no + x * 4, none⟩ = some (.int .i64 (g.nodes.getD x nd0).kind) ∧ w.cell? ⟨nb, no + x * 4 + 1, none⟩ = some (.string (g.nodes.getD x nd0).name) ∧ w.cell? ⟨nb, no + x * 4 + 2, none⟩ = some (.int .i64 (g.nodes.getD x nd0).num) ∧ w.cell? ⟨nb, no + x * 4 + 3, none⟩ = some (.slice aa (g.nodes.getD x nd0).args.length ac) ∧ Ri w (.slice aa (g.nodes.getD x nd0).args.length ac) (g.nodes.getD x nd0).args := by
  obtain ⟨b, o, aa', ac', e, e2, p0, p1, p2, p3, p4⟩ := hG.nd hx
  injection e with e
  injection e with e1 e3 _
  subst e1 e3
  rw [ha] at e2
  injection e2 with e4 _ e5
  subst e4 e5
  exact ⟨p0, p1, p2, p3, p4⟩
section
variable {w w' : World} {B hb ab tb : Nat} {m : Int} {av : Value} {l : List Int} {tv : Value} {tq : Nat} {ns : List ByteArray} {trv ptv : Value} {n : Int}
theorem Hp.keep {ks : List Nat} (h : Hp w B hb ab tb m av l tv tq ns trv ptv n) (hm : a_Mod ks w w') (hk : ∀ k ∈ ks, k ≠ hb ∧ k ∉ a_foot ab av ∧ k ∉ n_foot tb tv tq) : Hp w' B hb ab tb m av l tv tq ns trv ptv n :=
  ⟨(hm.block hb (lt_of_block h.blk) (fun hx => (hk _ hx).1 rfl)).trans h.blk, h.base, h.ar.keep hm (fun k hx => (hk k hx).2.1), h.tb.keep (mod_an hm) (fun k hx => (hk k hx).2.2)⟩
theorem Hp.ltz (h : Hp w B hb ab tb m av l tv tq ns trv ptv n) : hb < w.heap.size ∧ (∀ k ∈ a_foot ab av, k < w.heap.size) ∧ (∀ k ∈ n_foot tb tv tq, k < w.heap.size) := by
  refine ⟨lt_of_block h.blk, fun k hk => ?_, fun k hk => ?_⟩
  · rcases a_mem_foot.1 hk with rfl | hk
    · exact h.ar.lt
    · exact (h.ar.row hk).2.1
  · rcases n_mem_foot.1 hk with rfl | rfl | hk
    · exact h.tb.lt
    · exact h.tb.mlt
    · exact (h.tb.row hk).2.1
end
theorem Ly.far {W w w' : World} {ab : Nat} {av nv rv : Value} {N : Nat} {PL : List Int} {ks : List Nat} (h : Ly W w ab av nv rv N PL) (hm : a_Mod ks w w') (hk : ∀ k ∈ ks, W.heap.size + 2 ≤ k) : Ly W w' ab av nv rv N PL :=
  ⟨h.m.trans hm (fun k hx => Or.inr (by have := hk k hx; omega)), h.f, (hm.block _ (lt_of_block h.g) (fun hx => by have := hk _ hx; omega)).trans h.g, row_keep h.p (fun k hk2 => hm.block k (h.p.lt k hk2).2 (fun hx => by
    have e : k = W.heap.size + 1 := by simpa [Value.ownBlock] using hk2.symm
    have := hk _ hx
    omega)), h.l⟩
theorem good_int {N : Nat} {n : Nd} (h : goodNd N n = true) (h3 : n.kind = 3) : fitsB 2 n.num = true := by
  unfold goodNd at h
  rw [if_neg (by omega), if_neg (by omega), if_pos h3] at h
  simp at h
  simp [fitsB]
  omega
theorem sz_pos {N : Nat} {n : Nd} (h : goodNd N n = true) (h2 : n.kind ≠ 2) (h3 : n.kind ≠ 3) : 1 ≤ szN n := by
  unfold goodNd at h
  unfold szN
  rw [if_neg h2, if_neg h3] at h
  split
  · omega
  · rename_i h1
    rw [if_neg h1] at h
    split
    · omega
    · rename_i h4
      rw [if_neg h4] at h
      cases h
theorem good_comp {N : Nat} {n : Nd} (h : goodNd N n = true) (h4 : n.kind = 4) : 1 ≤ n.args.length ∧ n.args.length ≤ 8 := by
  refine ⟨?_, (good_args h).2⟩
  unfold goodNd at h
  rw [if_neg (by omega), if_neg (by omega), if_neg (by omega), if_pos h4] at h
  simp only [Bool.and_eq_true, decide_eq_true_eq] at h
  exact h.1.1.2
theorem getD_map1 (f : Int → Int) (a : Int) {L : List Int} {r : Nat} (h : r < L.length) : (a :: L.map f).getD (r + 1) 0 = f (L.getD r 0) := by
  simp [List.getD, h]
theorem grown_mod {w w' : World} {o : Obj} {v : Value} (h : (w.alloc o).grownBy w' v.ownBlock) : a_Mod v.ownBlock.toList w w' :=
  ((a_Mod.refl _ w).alloc o).grown h (fun k e => Or.inl (by rw [e]; simp))
end Go.Proofs.YtlibjdilicfcdaaGreatDoor
