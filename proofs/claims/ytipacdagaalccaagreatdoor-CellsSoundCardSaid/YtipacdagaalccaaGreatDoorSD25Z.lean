/- Package cells: what 'lay' has in memory. -/
import Derived.Laws.StructEq
import Derived.LaidEql
import Derived.Test.YtipacdagaalccaaGreatDoorSD22Z
import Derived.Test.YtipacdagaalccaaGreatDoorSD14Z
import Derived.Test.YtipacdagaalccaaGreatDoorSD18Z
import Derived.Test.YtipacdagaalccaaGreatDoorSD11Z
namespace Go.Proofs.YtipacdagaalccaaGreatDoor
set_option maxRecDepth 100000
open Go.RowKit
structure Ly (W w : World) (ab : Nat) (av nv rv : Value) (N : Nat) (PL : List Int) : Prop where
  m : a_Mod (a_foot ab av) W w
  f : ∀ k ∈ a_foot ab av, k < W.heap.size
  g : w.heap[W.heap.size]? = some (.cells #[nv, rv] 30)
  p : w.ownsRow (W.heap.size + 1) 3 1 (.slice (some ⟨W.heap.size + 1, 0, none⟩) N N) N (PL.map (Value.int .i64))
  l : PL.length = N
section
variable {W w w' : World} {ab : Nat} {av nv rv : Value} {N : Nat} {PL : List Int}
theorem Ly.next (h : Ly W w ab av nv rv N PL) (hb : Below w.heap.size w w') : Ly W w' ab av nv rv N PL :=
  ⟨h.m.trans (a_Mod.ofBelow (ks := []) hb) (fun _ hx => by cases hx), h.f, (hb.block _ (lt_of_block h.g)).trans h.g, row_keep h.p (fun k hk => hb.block k (h.p.lt k hk).2), h.l⟩
theorem Ly.upd (h : Ly W w ab av nv rv N PL) (hm : a_Mod (a_foot ab av) w w') : Ly W w' ab av nv rv N PL :=
  ⟨h.m.trans hm (fun _ hx => Or.inl hx), h.f, (hm.block _ (lt_of_block h.g) (fun hx => by have := h.f _ hx; omega)).trans h.g, row_keep h.p (fun k hk => hm.block k (h.p.lt k hk).2 (fun hx => by have := h.f _ hx; have := (h.p.lt k hk).1; omega)), h.l⟩
theorem Ly.cell (h : Ly W w ab av nv rv N PL) {i : Nat} (hi : i < N) : w.cell? ⟨W.heap.size + 1, i, none⟩ = some (.int .i64 (PL.getD i 0)) ∧ w.frozen? ⟨W.heap.size + 1, i, none⟩ = false :=
  ⟨by rw [h.p.cellAt i (by omega)]; have := h.l; simp [List.getD, show i < PL.length by omega], h.p.frozenAt i⟩
theorem Ly.set (h : Ly W w ab av nv rv N PL) (n : Nat) (v : Int) : Ly W (w.setCell ⟨W.heap.size + 1, n, none⟩ (.int .i64 v)) ab av nv rv N (PL.set n v) := by
  refine ⟨h.m.setCell (p := ⟨W.heap.size + 1, n, none⟩) (Or.inr (by show W.heap.size ≤ W.heap.size + 1; omega)) _, h.f, (Below.heap_setCell _ _ _ _ (by show W.heap.size ≠ W.heap.size + 1; omega)).trans h.g, ?_, by simp [h.l]⟩
  have h3 := (World.ownsRow.stored h.p n (.int .i64 v)).1
  rw [List.map_set]
  exact h3
theorem Ly.box (h : Ly W w ab av nv rv N PL) : (w.cell? ⟨W.heap.size, 0, none⟩ = some nv ∧ w.cell? ⟨W.heap.size, 1, none⟩ = some rv) ∧ W.heap.size < w.heap.size ∧ W.heap.size + 1 < w.heap.size := by
  obtain ⟨a, _⟩ := cblk2 h.g
  exact ⟨a, lt_of_block h.g, (h.p.lt _ rfl).2⟩
theorem ly_start {w1 : World} (hf : ∀ k ∈ a_foot ab av, k < W.heap.size) (hown : w1.ownsRow (W.heap.size + 1) 3 1 (.slice (some ⟨(W.alloc (.cells #[nv, rv] 30)).heap.size, 0, none⟩) N N) N (madeCells (Value.int .i64 0).cells (N * 1)).toList) (hgrow : (W.alloc (.cells #[nv, rv] 30)).grownBy w1 none) : Ly W w1 ab av nv rv N (List.replicate N 0) ∧ Below W.heap.size W w1 := by
  have hsz : (W.alloc (.cells #[nv, rv] 30)).heap.size = W.heap.size + 1 := by simp
  rw [hsz] at hown
  have hb : Below W.heap.size W w1 := (below_alloc W _).grown hgrow (by omega) (fun _ e => by cases e)
  refine ⟨⟨a_Mod.ofBelow hb, hf, ?_, ?_, by simp⟩, hb⟩
  · rw [hgrow.block _ (by simp) (fun e => by cases e)]
    exact heap_alloc_new W _
  · rw [show (madeCells (Value.int .i64 0).cells (N * 1)).toList = List.replicate N (.int .i64 0) by rw [Nat.mul_one]; simp [Value.cells, toList_madeCells_one]] at hown
    simpa using hown
end
def PlJ (g : Gf) (met : List Int) (b j : Nat) (PL : List Int) : Prop := ∀ i, i < j → PL.getD (met.getD i 0).toNat 0 = ((b + wantJ g met i : Nat) : Int)
theorem plJ_set {g : Gf} {met PL : List Int} {b j : Nat} (h : PlJ g met b j PL) (hn : met.Nodup) (hr : ∀ x ∈ met, 0 ≤ x ∧ x < (PL.length : Int)) (hj : j < met.length) : PlJ g met b (j + 1) (PL.set (met.getD j 0).toNat ((b + wantJ g met j : Nat) : Int)) := fun i hi => by
  have hrj := hr _ (getD_mem hj)
  by_cases e : i = j
  · subst e
    have hz : (met.getD i 0).toNat < PL.length := by omega
    generalize (met.getD i 0).toNat = z at *
    simp [List.getD, hz]
  · have hij : i < j := by omega
    have hri := hr _ (getD_mem (show i < met.length by omega))
    have hne : (met.getD j 0).toNat ≠ (met.getD i 0).toNat := fun e2 => by
      have e3 : met.getD j 0 = met.getD i 0 := by omega
      have h4 := pos_of_getD hn hj
      rw [e3, pos_of_getD hn (show i < met.length by omega)] at h4
      exact e h4
    have h5 := h i hij
    simp only [List.getD] at h5 hne ⊢
    rw [List.getElem?_set_ne hne]
    exact h5
theorem plJ_all {g : Gf} {met PL : List Int} {b : Nat} (h : PlJ g met b met.length PL) {x : Int} (hx : x ∈ met) : PL.getD x.toNat 0 = (plN g met b x : Int) := by
  have h1 := h (pos met x) (pos_lt hx)
  rw [pos_at hx] at h1
  exact h1
def Gra (w : World) (nv rv : Value) (g : Gf) (avs : Nat → Value) : Prop := (∃ na nc, nv = .slice na g.nodes.length nc ∧ ∀ x, x < g.nodes.length → ∃ b o, na = some ⟨b, o, none⟩ ∧ NdAt w b (o + x * 4) (avs x) (g.nodes.getD x nd0)) ∧ Ri w rv g.roots
theorem gra_of {w : World} {nv rv : Value} {g : Gf} (h : Gr w nv rv g) : ∃ avs, Gra w nv rv g avs := by
  obtain ⟨na, nc, e, hc⟩ := h.1
  have hf : ∀ x, ∃ av, x < g.nodes.length → ∃ b o, na = some ⟨b, o, none⟩ ∧ NdAt w b (o + x * 4) av (g.nodes.getD x nd0) := fun x => by
    by_cases hx : x < g.nodes.length
    · obtain ⟨b, o, av, e, h0⟩ := hc x hx
      exact ⟨av, fun _ => ⟨b, o, e, h0⟩⟩
    · exact ⟨undef, fun h => absurd h hx⟩
  exact ⟨fun x => (hf x).choose, ⟨na, nc, e, fun x hx => (hf x).choose_spec hx⟩, h.2⟩
theorem Gra.below {w w' : World} {nv rv : Value} {g : Gf} {avs : Nat → Value} (h : Gra w nv rv g avs) (hb : Below w.heap.size w w') : Gra w' nv rv g avs := by
  obtain ⟨⟨na, nc, e, hc⟩, hr⟩ := h
  exact ⟨⟨na, nc, e, fun x hx => by
    obtain ⟨b, o, e, h0⟩ := hc x hx
    exact ⟨b, o, e, h0.below hb⟩⟩, hr.below hb⟩
theorem Gra.gr {w : World} {nv rv : Value} {g : Gf} {avs : Nat → Value} (h : Gra w nv rv g avs) : Gr w nv rv g := by
  obtain ⟨⟨na, nc, e, hc⟩, hr⟩ := h
  exact ⟨⟨na, nc, e, fun x hx => by
    obtain ⟨b, o, e, h0⟩ := hc x hx
    exact ⟨b, o, avs x, e, h0⟩⟩, hr⟩
theorem ri_own {w : World} {B : Nat} {ao : Option Addr} {c : Nat} {L : List Int} (h : w.ownsRow B 3 1 (.slice ao L.length c) L.length (L.map (Value.int .i64))) : Ri w (.slice ao L.length c) L := by
  refine ⟨ao, c, rfl, fun j hj => ?_⟩
  rcases h.2 with ⟨e, hn⟩ | ⟨gb, cap, cur, e, _⟩
  · omega
  · injection e with e _ _
    subst e
    refine ⟨gb, 0, rfl, ?_⟩
    rw [Nat.zero_add, h.cellAt j (by omega)]
    simp [List.getD, hj]
theorem Gra.nd {w : World} {na : Option Addr} {nc : Nat} {rv : Value} {g : Gf} {avs : Nat → Value} (hG : Gra w (.slice na g.nodes.length nc) rv g avs) {x : Nat} (hx : x < g.nodes.length) : ∃ b o aa ac, na = some ⟨b, o, none⟩ ∧ avs x = .slice aa (g.nodes.getD x nd0).args.length ac ∧ w.cell? ⟨b, o + x * 4, none⟩ = some (.int .i64 (g.nodes.getD x nd0).kind) ∧ w.cell? ⟨b, o + x * 4 + 1, none⟩ = some (.string (g.nodes.getD x nd0).name) ∧ w.cell? ⟨b, o + x * 4 + 2, none⟩ = some (.int .i64 (g.nodes.getD x nd0).num) ∧ w.cell? ⟨b, o + x * 4 + 3, none⟩ = some (.slice aa (g.nodes.getD x nd0).args.length ac) ∧ Ri w (.slice aa (g.nodes.getD x nd0).args.length ac) (g.nodes.getD x nd0).args := by
  obtain ⟨⟨na', nc', e, hc⟩, _⟩ := hG
  injection e with e1 _ _
  subst e1
  obtain ⟨b, o, rfl, h0⟩ := hc x hx
  obtain ⟨p0, p1, p2, p3, p4⟩ := h0
  obtain ⟨aa, ac, e, h5⟩ := p4
  rw [e] at p3
  exact ⟨b, o, aa, ac, rfl, e, p0, p1, p2, p3, aa, ac, rfl, h5⟩
theorem Gra.nd2 {w : World} {nb no : Nat} {nc : Nat} {rv : Value} {g : Gf} {avs : Nat → Value} (hG : Gra w (.slice (some ⟨nb, no, none⟩) g.nodes.length nc) rv g avs) {x : Nat} (hx : x < g.nodes.length) {aa : Option Addr} {ac : Nat} (ha : avs x = .slice aa (g.nodes.getD x nd0).args.length ac) : w.cell? ⟨nb, no + x * 4, none⟩ = some (.int .i64 (g.nodes.getD x nd0).kind) ∧ w.cell? ⟨nb, no + x * 4 + 1, none⟩ = some (.string (g.nodes.getD x nd0).name) ∧ w.cell? ⟨nb, no + x * 4 + 2, none⟩ = some (.int .i64 (g.nodes.getD x nd0).num) ∧ w.cell? ⟨nb, no + x * 4 + 3, none⟩ = some (.slice aa (g.nodes.getD x nd0).args.length ac) ∧ Ri w (.slice aa (g.nodes.getD x nd0).args.length ac) (g.nodes.getD x nd0).args := by
  obtain ⟨b, o, aa', ac', e, e2, p0, p1, p2, p3, p4⟩ := hG.nd hx
  injection e with e
  injection e with e1 e3 _
  subst e1 e3
  rw [ha] at e2
  injection e2 with e4 _ e5
  subst e4 e5
  exact ⟨p0, p1, p2, p3, p4⟩
section
variable {w w' : World} {B hb ab tb : Nat} {m : Int} {av : Value} {l : List Int} {tv : Value} {tq : Nat} {ns : List ByteArray} {trv ptv : Value} {n : Int}
theorem Hp.keep {ks : List Nat} (h : Hp w B hb ab tb m av l tv tq ns trv ptv n) (hm : a_Mod ks w w') (hk : ∀ k ∈ ks, k ≠ hb ∧ k ∉ a_foot ab av ∧ k ∉ n_foot tb tv tq) : Hp w' B hb ab tb m av l tv tq ns trv ptv n :=
  ⟨(hm.block hb (lt_of_block h.blk) (fun hx => (hk _ hx).1 rfl)).trans h.blk, h.base, h.ar.keep hm (fun k hx => (hk k hx).2.1), h.tb.keep (mod_an hm) (fun k hx => (hk k hx).2.2)⟩
theorem Hp.ltz (h : Hp w B hb ab tb m av l tv tq ns trv ptv n) : hb < w.heap.size ∧ (∀ k ∈ a_foot ab av, k < w.heap.size) ∧ (∀ k ∈ n_foot tb tv tq, k < w.heap.size) := by
  refine ⟨lt_of_block h.blk, fun k hk => ?_, fun k hk => ?_⟩
  · rcases a_mem_foot.1 hk with rfl | hk
    · exact h.ar.lt
    · exact (h.ar.row hk).2.1
  · rcases n_mem_foot.1 hk with rfl | rfl | hk
    · exact h.tb.lt
    · exact h.tb.mlt
    · exact (h.tb.row hk).2.1
end
theorem Ly.far {W w w' : World} {ab : Nat} {av nv rv : Value} {N : Nat} {PL : List Int} {ks : List Nat} (h : Ly W w ab av nv rv N PL) (hm : a_Mod ks w w') (hk : ∀ k ∈ ks, W.heap.size + 2 ≤ k) : Ly W w' ab av nv rv N PL :=
  ⟨h.m.trans hm (fun k hx => Or.inr (by have := hk k hx; omega)), h.f, (hm.block _ (lt_of_block h.g) (fun hx => by have := hk _ hx; omega)).trans h.g, row_keep h.p (fun k hk2 => hm.block k (h.p.lt k hk2).2 (fun hx => by
    have e : k = W.heap.size + 1 := by simpa [Value.ownBlock] using hk2.symm
    have := hk _ hx
    omega)), h.l⟩
theorem good_int {N : Nat} {n : Nd} (h : goodNd N n = true) (h3 : n.kind = 3) : fitsB 2 n.num = true := by
  unfold goodNd at h
  rw [if_neg (by omega), if_neg (by omega), if_pos h3] at h
  simp at h
  simp [fitsB]
  omega
theorem sz_pos {N : Nat} {n : Nd} (h : goodNd N n = true) (h2 : n.kind ≠ 2) (h3 : n.kind ≠ 3) : 1 ≤ szN n := by
  unfold goodNd at h
  unfold szN
  rw [if_neg h2, if_neg h3] at h
  split
  · omega
  · rename_i h1
    rw [if_neg h1] at h
    split
    · omega
    · rename_i h4
      rw [if_neg h4] at h
      cases h
theorem good_comp {N : Nat} {n : Nd} (h : goodNd N n = true) (h4 : n.kind = 4) : 1 ≤ n.args.length ∧ n.args.length ≤ 8 := by
  refine ⟨?_, (good_args h).2⟩
  unfold goodNd at h
  rw [if_neg (by omega), if_neg (by omega), if_neg (by omega), if_pos h4] at h
  simp only [Bool.and_eq_true, decide_eq_true_eq] at h
  exact h.1.1.2
theorem getD_map1 (f : Int → Int) (a : Int) {L : List Int} {r : Nat} (h : r < L.length) : (a :: L.map f).getD (r + 1) 0 = f (L.getD r 0) := by
  simp [List.getD, h]
theorem grown_mod {w w' : World} {o : Obj} {v : Value} (h : (w.alloc o).grownBy w' v.ownBlock) : a_Mod v.ownBlock.toList w w' :=
  ((a_Mod.refl _ w).alloc o).grown h (fun k e => Or.inl (by rw [e]; simp))
end Go.Proofs.YtipacdagaalccaaGreatDoor

namespace Go.Proofs.YtipacdagaalccaaGreatDoor
set_option maxRecDepth 100000
open Go.RowKit
structure PmC (NS : List ByteArray) (g : Gf) (met : List Int) (b : Nat) : Prop where
  good : Good g
  ok : Ok g.nodes.length met
  root : ∀ x ∈ g.roots, x ∈ met
  arg : ∀ x ∈ met, ∀ y ∈ g.argsOf x, y ∈ met
  nm : ∀ x ∈ met, (g.nodes.getD x.toNat nd0).kind = 2 ∨ (g.nodes.getD x.toNat nd0).kind = 4 → num NS (g.nodes.getD x.toNat nd0).name < NS.length
  len : NS.length ≤ 1024
  room : b + (putW NS g met b).length ≤ 65536
section
variable {NS : List ByteArray} {g : Gf} {met : List Int} {b : Nat}
theorem PmC.nd (h : PmC NS g met b) {x : Int} (hx : x ∈ met) : goodNd g.nodes.length (g.nodes.getD x.toNat nd0) = true := by
  have hr := h.ok.rng x hx
  exact h.good.node _ (by
    have : x.toNat < g.nodes.length := by omega
    simp [List.getD, this])
theorem good_kind {N : Nat} {n : Nd} (h : goodNd N n = true) : n.kind = 1 ∨ n.kind = 2 ∨ n.kind = 3 ∨ n.kind = 4 := by
  unfold goodNd at h
  split at h
  · omega
  · split at h
    · omega
    · split at h
      · omega
      · split at h
        · omega
        · cases h
theorem PmC.pl (_h : PmC NS g met b) {x : Int} (hx : x ∈ met) : plN g met b x + szN (g.nodes.getD x.toNat nd0) ≤ b + (putW NS g met b).length ∧ b ≤ plN g met b x := by
  have h1 := want_next (g := g) (met := met) (pos_lt hx)
  rw [pos_at hx] at h1
  rw [putW_len]
  unfold plN
  omega
theorem PmC.at (_h : PmC NS g met b) {x : Int} (hx : x ∈ met) {r : Nat} (hr : r < szN (g.nodes.getD x.toNat nd0)) : (putW NS g met b).getD (plN g met b x - b + r) 0 = (nwX NS g met b x).getD r 0 := by
  have h1 := putW_node (ns := NS) (b := b) (pos_lt hx) (r := r) (by rw [pos_at hx]; exact hr)
  rw [pos_at hx] at h1
  unfold plN
  rw [show b + wantJ g met (pos met x) - b + r = wantJ g met (pos met x) + r by omega]
  exact h1
structure Cw (NS : List ByteArray) (g : Gf) (met : List Int) (b : Nat) (x : Int) (u : Int) : Prop where
  good : goodB u = true
  rng : 0 ≤ u ∧ u ≤ 18446744073709551615
  tag : u % 8 = 0 ∨ u % 8 = 1 ∨ u % 8 = 2 ∨ u % 8 = 3
  ref : u % 8 = 0 → (g.nodes.getD x.toNat nd0).kind = 1 ∧ valOf u = (plN g met b x : Int)
  str : u % 8 = 3 → (g.nodes.getD x.toNat nd0).kind = 4 ∧ valOf u = (plN g met b x : Int)
  atom : u % 8 = 1 → (valOf u).toNat < NS.length
theorem PmC.cw (h : PmC NS g met b) {x : Int} (hx : x ∈ met) : Cw NS g met b x (cwX NS g met b x) := by
  have hn := h.nd hx
  have hp := (h.pl hx).1
  have hrm := h.room
  have hpl : (g.nodes.getD x.toNat nd0).kind ≠ 2 → (g.nodes.getD x.toNat nd0).kind ≠ 3 → plN g met b x < 65536 := fun h2 h3 => by
    have := sz_pos hn h2 h3
    omega
  unfold cwX cwF
  rcases good_kind hn with k | k | k | k
  · rw [if_neg (by omega), if_neg (by omega), if_neg (by omega)]
    have hf : fitsB 0 (plN g met b x : Int) = true := by have := hpl (by omega) (by omega); simp [fitsB]; omega
    have ht := wordOf_tag 0 (plN g met b x : Int) (by omega) (by omega)
    exact ⟨wordOf_good _ _ hf, wordOf_bd _ _, Or.inl ht, fun _ => ⟨k, wordOf_val _ _ hf⟩, fun e => by omega, fun e => by omega⟩
  · rw [if_pos k]
    have hnm := h.nm x hx (Or.inl k)
    have hl := h.len
    have hf : fitsB 1 (num NS (g.nodes.getD x.toNat nd0).name : Int) = true := by generalize num NS (g.nodes.getD x.toNat nd0).name = v at *; simp [fitsB]; omega
    have ht := wordOf_tag 1 (num NS (g.nodes.getD x.toNat nd0).name : Int) (by omega) (by omega)
    exact ⟨wordOf_good _ _ hf, wordOf_bd _ _, Or.inr (Or.inl ht), fun e => by omega, fun e => by omega, fun _ => by rw [wordOf_val _ _ hf, Int.toNat_natCast]; exact hnm⟩
  · rw [if_neg (by omega), if_pos k]
    have hf := good_int hn k
    have ht := wordOf_tag 2 (g.nodes.getD x.toNat nd0).num (by omega) (by omega)
    exact ⟨wordOf_good _ _ hf, wordOf_bd _ _, Or.inr (Or.inr (Or.inl ht)), fun e => by omega, fun e => by omega, fun e => by omega⟩
  · rw [if_neg (by omega), if_neg (by omega), if_pos k]
    have hf : fitsB 3 (plN g met b x : Int) = true := by have := hpl (by omega) (by omega); simp [fitsB]; omega
    have ht := wordOf_tag 3 (plN g met b x : Int) (by omega) (by omega)
    exact ⟨wordOf_good _ _ hf, wordOf_bd _ _, Or.inr (Or.inr (Or.inr ht)), fun e => by omega, fun _ => ⟨k, wordOf_val _ _ hf⟩, fun e => by omega⟩
theorem PmC.fw (h : PmC NS g met b) {x : Int} (hx : x ∈ met) (k : (g.nodes.getD x.toNat nd0).kind = 4) : goodB (fwF NS (g.nodes.getD x.toNat nd0)) = true ∧ (0 ≤ fwF NS (g.nodes.getD x.toNat nd0) ∧ fwF NS (g.nodes.getD x.toNat nd0) ≤ 18446744073709551615) ∧ fwF NS (g.nodes.getD x.toNat nd0) % 8 = 4 ∧ valOf (fwF NS (g.nodes.getD x.toNat nd0)) = (num NS (g.nodes.getD x.toNat nd0).name : Int) * 16 + ((g.nodes.getD x.toNat nd0).args.length : Int) := by
  have hn := h.nd hx
  have h18 := good_comp hn k
  have hnm := h.nm x hx (Or.inr k)
  have hl := h.len
  have hf := (fun_fitsC (num NS (g.nodes.getD x.toNat nd0).name : Int) ((g.nodes.getD x.toNat nd0).args.length : Int) (by generalize num NS (g.nodes.getD x.toNat nd0).name = v at *; generalize (g.nodes.getD x.toNat nd0).args.length = q at *; simp [funB]; omega)).1
  unfold fwF
  exact ⟨wordOf_good _ _ hf, wordOf_bd _ _, wordOf_tag _ _ (by omega) (by omega), wordOf_val _ _ hf⟩
theorem nw_var {x : Int} (k : (g.nodes.getD x.toNat nd0).kind = 1) : nwX NS g met b x = [8 * (plN g met b x : Int)] := by
  unfold nwX
  rw [if_pos k]
theorem nw_comp {x : Int} (k : (g.nodes.getD x.toNat nd0).kind = 4) : nwX NS g met b x = fwF NS (g.nodes.getD x.toNat nd0) :: (g.nodes.getD x.toNat nd0).args.map (cwX NS g met b) := by
  unfold nwX
  rw [if_neg (by omega), if_pos k]
theorem sz_var {n : Nd} (k : n.kind = 1) : szN n = 1 := by unfold szN; rw [if_pos k]
theorem sz_comp {n : Nd} (k : n.kind = 4) : szN n = 1 + n.args.length := by unfold szN; rw [if_neg (by omega), if_pos k]
theorem PmC.cover (h : PmC NS g met b) {c : Nat} (hc : c < (putW NS g met b).length) :
    (∃ x ∈ met, (putW NS g met b).getD c 0 = cwX NS g met b x) ∨ (∃ x ∈ met, (g.nodes.getD x.toNat nd0).kind = 1 ∧ b + c = plN g met b x ∧ (putW NS g met b).getD c 0 = 8 * (plN g met b x : Int)) ∨ (∃ x ∈ met, (g.nodes.getD x.toNat nd0).kind = 4 ∧ b + c = plN g met b x ∧ (putW NS g met b).getD c 0 = fwF NS (g.nodes.getD x.toNat nd0)) := by
  rw [putW_len] at hc
  rcases want_cover _ c hc with h1 | ⟨j, r, hj, hr, rfl⟩
  · exact Or.inl ⟨_, h.root _ (getD_mem h1), putW_root h1⟩
  · have hx := getD_mem hj
    have e1 := putW_node (ns := NS) (b := b) hj hr
    have hpl : plN g met b (met.getD j 0) = b + wantJ g met j := by
      unfold plN
      rw [pos_of_getD h.ok.nodup hj]
    generalize met.getD j 0 = x at *
    rcases good_kind (h.nd hx) with k | k | k | k
    · rw [sz_var k] at hr
      obtain rfl : r = 0 := by omega
      refine Or.inr (Or.inl ⟨x, hx, k, by omega, ?_⟩)
      rw [e1, nw_var k]
      rfl
    · exact absurd hr (by unfold szN; rw [if_neg (by omega), if_neg (by omega)]; omega)
    · exact absurd hr (by unfold szN; rw [if_neg (by omega), if_neg (by omega)]; omega)
    · rw [sz_comp k] at hr
      rw [nw_comp k] at e1
      match r, hr with
      | 0, _ => exact Or.inr (Or.inr ⟨x, hx, k, by omega, e1⟩)
      | r + 1, hr =>
        rw [getD_map1 _ _ (by omega)] at e1
        exact Or.inl ⟨_, h.arg x hx _ (getD_mem (by unfold Gf.argsOf; omega)), e1⟩
def vrP (g : Gf) (met : List Int) (b : Nat) (V : Nat → Bool) (k : Nat) : Bool := if k < b then V k else met.any (fun x => decide ((g.nodes.getD x.toNat nd0).kind = 1) && decide (plN g met b x = k))
theorem PmC.may (h : PmC NS g met b) {c : Nat} (hc : c < (putW NS g met b).length) : 0 ≤ (putW NS g met b).getD c 0 ∧ (putW NS g met b).getD c 0 ≤ 18446744073709551615 ∧ mayB ((putW NS g met b).getD c 0) (b + (putW NS g met b).length) = true := by
  have key : ∀ u : Int, goodB u = true → (u % 8 = 0 ∨ u % 8 = 3 ∨ u % 8 = 5 → ∃ p : Nat, valOf u = (p : Int) ∧ p < b + (putW NS g met b).length) → mayB u (b + (putW NS g met b).length) = true := fun u hg hv => by
    unfold mayB
    rw [hg, Bool.true_and]
    by_cases ht : tellsB u = true
    · have : u % 8 = 0 ∨ u % 8 = 3 ∨ u % 8 = 5 := by simpa [tellsB] using ht
      obtain ⟨p, e, hp⟩ := hv this
      rw [e]
      simp
      exact Or.inr (by omega)
    · have : tellsB u = false := by simpa using ht
      rw [this]
      rfl
  rcases h.cover hc with ⟨x, hx, e⟩ | ⟨x, hx, k, e2, e⟩ | ⟨x, hx, k, e2, e⟩
  · rw [e]
    have hcw := h.cw hx
    refine ⟨hcw.rng.1, hcw.rng.2, key _ hcw.good (fun ht => ?_)⟩
    have hp := (h.pl hx).1
    rcases ht with t | t | t
    · obtain ⟨k, hv⟩ := hcw.ref t
      rw [sz_var k] at hp
      exact ⟨_, hv, by omega⟩
    · obtain ⟨k, hv⟩ := hcw.str t
      rw [sz_comp k] at hp
      exact ⟨_, hv, by omega⟩
    · have := hcw.tag
      omega
  · rw [e]
    have hp := (h.pl hx).1
    have hr := h.room
    rw [sz_var k] at hp
    have hf : fitsB 0 (plN g met b x : Int) = true := by simp [fitsB]; omega
    have hw : 8 * (plN g met b x : Int) = wordOf 0 (plN g met b x : Int) := by unfold wordOf; omega
    rw [hw]
    exact ⟨(wordOf_bd _ _).1, (wordOf_bd _ _).2, key _ (wordOf_good _ _ hf) (fun _ => ⟨_, wordOf_val _ _ hf, by omega⟩)⟩
  · rw [e]
    obtain ⟨f1, f2, f3, _⟩ := h.fw hx k
    exact ⟨f2.1, f2.2, key _ f1 (fun t => by omega)⟩
end
section
variable {NS : List ByteArray} {g : Gf} {met : List Int} {l : List Int} {V : Nat → Bool}
theorem wd_old {T : List Int} {k : Nat} (hk : k < l.length) : wdN (l ++ T) k = wdN l k := by
  unfold wdN
  simp [List.getD, List.getElem?_append_left hk]
theorem wd_nw {T : List Int} {k : Nat} (hk : l.length ≤ k) : wdN (l ++ T) k = T.getD (k - l.length) 0 := by
  unfold wdN
  simp [List.getD, List.getElem?_append_right hk]
theorem tg_old {T : List Int} {k : Nat} (hk : k < l.length) : tgN (l ++ T) k = tgN l k ∧ vlN (l ++ T) k = vlN l k := by
  unfold tgN vlN
  rw [wd_old hk]
  exact ⟨rfl, rfl⟩
theorem PmC.var (h : PmC NS g met l.length) {x : Int} (hx : x ∈ met) (k : (g.nodes.getD x.toNat nd0).kind = 1) : wdN (l ++ putW NS g met l.length) (plN g met l.length x) = 8 * (plN g met l.length x : Int) := by
  have hp := h.pl hx
  rw [wd_nw hp.2]
  have h1 := h.at hx (r := 0) (by rw [sz_var k]; omega)
  rw [Nat.add_zero, nw_var k] at h1
  exact h1
theorem PmC.fun (h : PmC NS g met l.length) {x : Int} (hx : x ∈ met) (k : (g.nodes.getD x.toNat nd0).kind = 4) : wdN (l ++ putW NS g met l.length) (plN g met l.length x) = fwF NS (g.nodes.getD x.toNat nd0) := by
  have hp := h.pl hx
  rw [wd_nw hp.2]
  have h1 := h.at hx (r := 0) (by rw [sz_comp k]; omega)
  rw [Nat.add_zero, nw_comp k] at h1
  exact h1
theorem PmC.args (h : PmC NS g met l.length) {x : Int} (hx : x ∈ met) (k : (g.nodes.getD x.toNat nd0).kind = 4) {i : Nat} (hi : i < (g.nodes.getD x.toNat nd0).args.length) : wdN (l ++ putW NS g met l.length) (plN g met l.length x + 1 + i) = cwX NS g met l.length ((g.nodes.getD x.toNat nd0).args.getD i 0) ∧ (g.nodes.getD x.toNat nd0).args.getD i 0 ∈ met := by
  have hp := h.pl hx
  refine ⟨?_, h.arg x hx _ (getD_mem hi)⟩
  rw [wd_nw (by omega)]
  have h1 := h.at hx (r := i + 1) (by rw [sz_comp k]; omega)
  rw [nw_comp k, getD_map1 _ _ hi] at h1
  rw [show plN g met l.length x + 1 + i - l.length = plN g met l.length x - l.length + (i + 1) by omega]
  exact h1
theorem vr_new {b k : Nat} (hk : b ≤ k) : vrP g met b V k = true ↔ ∃ x ∈ met, (g.nodes.getD x.toNat nd0).kind = 1 ∧ plN g met b x = k := by
  unfold vrP
  rw [if_neg (by omega)]
  simp
theorem vr_old {b k : Nat} (hk : k < b) : vrP g met b V k = V k := by
  unfold vrP
  rw [if_pos hk]
theorem put_snd (hs : Snd l V) (h : PmC NS g met l.length) : Snd (l ++ putW NS g met l.length) (vrP g met l.length V) := by
  have hlen : (l ++ putW NS g met l.length).length = l.length + (putW NS g met l.length).length := by simp
  have hold : ∀ k, k < l.length → (hdN (l ++ putW NS g met l.length) k ↔ hdN l k) := fun k hk => by
    unfold hdN
    rw [(tg_old hk).1]
  have hcov : ∀ k, l.length ≤ k → k < l.length + (putW NS g met l.length).length → (∃ x ∈ met, wdN (l ++ putW NS g met l.length) k = cwX NS g met l.length x) ∨ (∃ x ∈ met, (g.nodes.getD x.toNat nd0).kind = 1 ∧ k = plN g met l.length x ∧ wdN (l ++ putW NS g met l.length) k = 8 * (k : Int)) ∨ (∃ x ∈ met, (g.nodes.getD x.toNat nd0).kind = 4 ∧ k = plN g met l.length x ∧ wdN (l ++ putW NS g met l.length) k = fwF NS (g.nodes.getD x.toNat nd0)) := fun k h1 h2 => by
    rw [wd_nw h1]
    rcases h.cover (c := k - l.length) (by omega) with ⟨x, hx, e⟩ | ⟨x, hx, kk, e2, e⟩ | ⟨x, hx, kk, e2, e⟩
    · exact Or.inl ⟨x, hx, e⟩
    · exact Or.inr (Or.inl ⟨x, hx, kk, by omega, by rw [e]; congr 1; omega⟩)
    · exact Or.inr (Or.inr ⟨x, hx, kk, by omega, e⟩)
  have hself : ∀ k : Nat, k < 65536 → goodB (8 * (k : Int)) = true ∧ (8 * (k : Int)) % 8 = 0 ∧ valOf (8 * (k : Int)) = (k : Int) := fun k hk => by
    have hf : fitsB 0 (k : Int) = true := by simp [fitsB]; omega
    have hw : 8 * (k : Int) = wordOf 0 (k : Int) := by unfold wordOf; omega
    rw [hw]
    exact ⟨wordOf_good _ _ hf, wordOf_tag _ _ (by omega) (by omega), wordOf_val _ _ hf⟩
  have hrm := h.room
  have hvar : ∀ k, l.length ≤ k → k < l.length + (putW NS g met l.length).length → vrP g met l.length V k = true → tgN (l ++ putW NS g met l.length) k = 0 ∧ vlN (l ++ putW NS g met l.length) k = k := fun k h1 h2 hv => by
    obtain ⟨x, hx, kk, e⟩ := (vr_new h1).1 hv
    have hw := h.var hx kk
    rw [e] at hw
    obtain ⟨_, s2, s3⟩ := hself k (by omega)
    unfold tgN vlN
    rw [hw]
    exact ⟨s2, by omega⟩
  refine ⟨fun k hk => ?_, fun x hx => ?_, fun k hk ht => ?_, fun k hk hv => ?_, fun k hk ht => ?_, fun k hk ht => ?_, fun k hk ht => ?_⟩
  · rw [hlen] at hk
    by_cases ho : k < l.length
    · rw [wd_old ho]
      exact hs.good k ho
    · rcases hcov k (by omega) hk with ⟨x, hx, e⟩ | ⟨x, hx, kk, e2, e⟩ | ⟨x, hx, kk, e2, e⟩
      · rw [e]; exact (h.cw hx).good
      · rw [e]; exact (hself k (by omega)).1
      · rw [e]; exact (h.fw hx kk).1
  · rcases List.mem_append.1 hx with hx | hx
    · exact hs.rng x hx
    · obtain ⟨i, hi, e⟩ : ∃ i, i < (putW NS g met l.length).length ∧ (putW NS g met l.length).getD i 0 = x := by
        obtain ⟨i, hi, rfl⟩ := List.getElem_of_mem hx
        exact ⟨i, hi, by simp [List.getD, hi]⟩
      have := h.may hi
      rw [e] at this
      exact ⟨this.1, this.2.1⟩
  · rw [hlen] at hk ⊢
    by_cases ho : k < l.length
    · rw [(tg_old ho).1] at ht
      rw [(tg_old ho).2]
      obtain ⟨r1, r2, r3⟩ := hs.ref k ho ht
      rw [vr_old r1, vr_old ho]
      exact ⟨by omega, r2, r3⟩
    · have hvk : vrP g met l.length V k = true → vlN (l ++ putW NS g met l.length) k ≤ k := fun hv => by
        have := (hvar k (by omega) hk hv).2
        omega
      rcases hcov k (by omega) hk with ⟨x, hx, e⟩ | ⟨x, hx, kk, e2, e⟩ | ⟨x, hx, kk, e2, e⟩
      · have hcw := h.cw hx
        have ht' : cwX NS g met l.length x % 8 = 0 := by rw [← e]; exact ht
        obtain ⟨kk, hv⟩ := hcw.ref ht'
        have hp := h.pl hx
        rw [sz_var kk] at hp
        have hvl : vlN (l ++ putW NS g met l.length) k = plN g met l.length x := by unfold vlN; rw [e, hv, Int.toNat_natCast]
        refine ⟨by omega, ?_, hvk⟩
        rw [hvl]
        exact (vr_new hp.2).2 ⟨x, hx, kk, rfl⟩
      · have hv : vrP g met l.length V k = true := (vr_new (by omega)).2 ⟨x, hx, kk, e2.symm⟩
        have hvl := (hvar k (by omega) hk hv).2
        refine ⟨by omega, by rw [hvl]; exact hv, hvk⟩
      · have : tgN (l ++ putW NS g met l.length) k = 4 := by unfold tgN; rw [e]; exact (h.fw hx kk).2.2.1
        omega
  · rw [hlen] at hk
    by_cases ho : k < l.length
    · rw [hold k ho]
      rw [vr_old ho] at hv
      exact hs.own k ho hv
    · have := (hvar k (by omega) hk hv).1
      unfold hdN
      omega
  · rw [hlen] at hk ⊢
    by_cases ho : k < l.length
    · rw [(tg_old ho).1] at ht
      rw [(tg_old ho).2]
      obtain ⟨r1, r2⟩ := hs.str k ho ht
      exact ⟨by omega, (hold _ r1).2 r2⟩
    · rcases hcov k (by omega) hk with ⟨x, hx, e⟩ | ⟨x, hx, kk, e2, e⟩ | ⟨x, hx, kk, e2, e⟩
      · have hcw := h.cw hx
        have ht' : cwX NS g met l.length x % 8 = 3 := by rw [← e]; exact ht
        obtain ⟨kk, hv⟩ := hcw.str ht'
        have hp := h.pl hx
        rw [sz_comp kk] at hp
        have hvl : vlN (l ++ putW NS g met l.length) k = plN g met l.length x := by unfold vlN; rw [e, hv, Int.toNat_natCast]
        refine ⟨by omega, ?_⟩
        rw [hvl]
        refine Or.inl ?_
        unfold tgN
        rw [h.fun hx kk]
        exact (h.fw hx kk).2.2.1
      · have : tgN (l ++ putW NS g met l.length) k = 0 := by unfold tgN; rw [e]; exact (hself k (by omega)).2.1
        omega
      · have : tgN (l ++ putW NS g met l.length) k = 4 := by unfold tgN; rw [e]; exact (h.fw hx kk).2.2.1
        omega
  · rw [hlen] at hk
    by_cases ho : k < l.length
    · rw [(tg_old ho).1] at ht
      rw [(tg_old ho).2]
      obtain ⟨r1, r2⟩ := hs.fwd k ho ht
      exact ⟨r1, (hold _ (by omega)).2 r2⟩
    · rcases hcov k (by omega) hk with ⟨x, hx, e⟩ | ⟨x, hx, kk, e2, e⟩ | ⟨x, hx, kk, e2, e⟩
      · have hcw := (h.cw hx).tag
        have ht' : cwX NS g met l.length x % 8 = 5 := by rw [← e]; exact ht
        omega
      · have : tgN (l ++ putW NS g met l.length) k = 0 := by unfold tgN; rw [e]; exact (hself k (by omega)).2.1
        omega
      · have : tgN (l ++ putW NS g met l.length) k = 4 := by unfold tgN; rw [e]; exact (h.fw hx kk).2.2.1
        omega
  · rw [hlen] at hk ⊢
    by_cases ho : k < l.length
    · rw [(tg_old ho).1] at ht
      have ear : arN' (l ++ putW NS g met l.length) k = arN' l k := by unfold arN'; rw [(tg_old ho).2]
      rw [ear]
      obtain ⟨r1, r2⟩ := hs.args k ho ht
      exact ⟨by omega, fun i hi1 hi2 hh => r2 i hi1 hi2 ((hold _ (by omega)).1 hh)⟩
    · rcases hcov k (by omega) hk with ⟨x, hx, e⟩ | ⟨x, hx, kk, e2, e⟩ | ⟨x, hx, kk, e2, e⟩
      · have hcw := (h.cw hx).tag
        have ht' : cwX NS g met l.length x % 8 = 4 := by rw [← e]; exact ht
        omega
      · have : tgN (l ++ putW NS g met l.length) k = 0 := by unfold tgN; rw [e]; exact (hself k (by omega)).2.1
        omega
      · have hp := h.pl hx
        rw [sz_comp kk] at hp
        have h18 := good_comp (h.nd hx) kk
        have ear : arN' (l ++ putW NS g met l.length) k = (g.nodes.getD x.toNat nd0).args.length := by
          unfold arN' vlN
          rw [e, (h.fw hx kk).2.2.2]
          omega
        rw [ear]
        refine ⟨by omega, fun i hi1 hi2 hh => ?_⟩
        obtain ⟨i, rfl⟩ : ∃ i', i = i' + 1 := ⟨i - 1, by omega⟩
        obtain ⟨ea, hm⟩ := h.args hx kk (i := i) (by omega)
        have hcw := (h.cw hm).tag
        have et : tgN (l ++ putW NS g met l.length) (k + (i + 1)) = cwX NS g met l.length ((g.nodes.getD x.toNat nd0).args.getD i 0) % 8 := by
          unfold tgN
          rw [show k + (i + 1) = plN g met l.length x + 1 + i by omega, ea]
        unfold hdN at hh
        rw [et] at hh
        omega
theorem put_nsb {N : Nat} (hn : NsB l N) (hle : N ≤ NS.length) (h : PmC NS g met l.length) : NsB (l ++ putW NS g met l.length) NS.length := by
  have hlen : (l ++ putW NS g met l.length).length = l.length + (putW NS g met l.length).length := by simp
  refine ⟨fun k hk ht => ?_, fun k hk ht => ?_⟩
  · rw [hlen] at hk
    by_cases ho : k < l.length
    · rw [(tg_old ho).1] at ht
      rw [(tg_old ho).2]
      have := hn.atom k ho ht
      omega
    · unfold tgN at ht
      unfold vlN
      rw [wd_nw (by omega)] at ht ⊢
      rcases h.cover (c := k - l.length) (by omega) with ⟨x, hx, e⟩ | ⟨x, hx, kk, e2, e⟩ | ⟨x, hx, kk, e2, e⟩
      · rw [e] at ht ⊢
        exact (h.cw hx).atom ht
      · rw [e] at ht
        omega
      · rw [e, (h.fw hx kk).2.2.1] at ht
        omega
  · rw [hlen] at hk
    by_cases ho : k < l.length
    · rw [(tg_old ho).1] at ht
      rw [wd_old ho]
      have := hn.func k ho ht
      omega
    · unfold tgN at ht
      rw [wd_nw (by omega)] at ht ⊢
      rcases h.cover (c := k - l.length) (by omega) with ⟨x, hx, e⟩ | ⟨x, hx, kk, e2, e⟩ | ⟨x, hx, kk, e2, e⟩
      · have := (h.cw hx).tag
        rw [e] at ht
        omega
      · rw [e] at ht
        omega
      · rw [e, (h.fw hx kk).2.2.2]
        have h18 := good_comp (h.nd hx) kk
        have hnm := h.nm x hx (Or.inr kk)
        omega
theorem pmc_ofG {ns : List ByteArray} {b : Nat} (hg : Good g) (hna : (wthJ ns g (metF g) (metF g).length).length ≤ 1024) (hro : b + wantJ g (metF g) (metF g).length ≤ 65536) : PmC (wthJ ns g (metF g) (metF g).length) g (metF g) b := by
  refine ⟨hg, met_ok hg, met_root hg, met_arg hg, fun x hx hk => ?_, hna, by rw [putW_len]; exact hro⟩
  have hr := (met_ok hg).rng x hx
  have hgd := hg.node (g.nodes.getD x.toNat nd0) (by
    have : x.toNat < g.nodes.length := by omega
    simp [List.getD, this])
  have hs : (g.nodes.getD x.toNat nd0).name.size ≠ 0 := by
    have h1 : goodS (g.nodes.getD x.toNat nd0).name = true := by
      unfold goodNd at hgd
      rcases hk with k | k
      · rw [if_neg (by omega), if_pos k] at hgd
        simp only [Bool.and_eq_true] at hgd
        exact hgd.1.1
      · rw [if_neg (by omega), if_neg (by omega), if_neg (by omega), if_pos k] at hgd
        simp only [Bool.and_eq_true] at hgd
        exact hgd.1.1.1.1
    have := goodS_size h1
    omega
  have h2 := wthJ_in ns g (metF g) (pos_lt hx) (by rw [pos_at hx]; exact hs)
  rw [pos_at hx] at h2
  exact num_lt h2
theorem pmc_of {ns : List ByteArray} {b : Nat} (hg : Good g) (hna : ns.length + (metF g).length ≤ 1024) (hro : b + wantJ g (metF g) (metF g).length ≤ 65536) : PmC (wthJ ns g (metF g) (metF g).length) g (metF g) b :=
  pmc_ofG hg (Nat.le_trans (wthJ_len ns g (metF g) (metF g).length) hna) hro
end
end Go.Proofs.YtipacdagaalccaaGreatDoor

namespace Go.Proofs.YtipacdagaalccaaGreatDoor
set_option maxRecDepth 100000
open Go.RowKit
theorem alloc4 (W : World) (a b c d : Obj) : ((((W.alloc a).alloc b).alloc c).alloc d).heap[W.heap.size]? = some a ∧ ((((W.alloc a).alloc b).alloc c).alloc d).heap[W.heap.size + 1]? = some b ∧ ((((W.alloc a).alloc b).alloc c).alloc d).heap[W.heap.size + 2]? = some c ∧ ((((W.alloc a).alloc b).alloc c).alloc d).heap[W.heap.size + 3]? = some d := by
  have s1 : (W.alloc a).heap.size = W.heap.size + 1 := by simp
  have s2 : ((W.alloc a).alloc b).heap.size = W.heap.size + 2 := by simp
  have s3 : (((W.alloc a).alloc b).alloc c).heap.size = W.heap.size + 3 := by simp
  have h0 := heap_alloc_new W a
  have h1 := heap_alloc_new (W.alloc a) b
  have h2 := heap_alloc_new ((W.alloc a).alloc b) c
  have h3 := heap_alloc_new (((W.alloc a).alloc b).alloc c) d
  rw [s1] at h1
  rw [s2] at h2
  rw [s3] at h3
  refine ⟨?_, ?_, ?_, h3⟩
  · rw [Below.heap_alloc _ _ _ (by omega), Below.heap_alloc _ _ _ (by omega), Below.heap_alloc _ _ _ (by omega)]
    exact h0
  · rw [Below.heap_alloc _ _ _ (by omega), Below.heap_alloc _ _ _ (by omega)]
    exact h1
  · rw [Below.heap_alloc _ _ _ (by omega)]
    exact h2
structure Wt (W w : World) (nv rv : Value) (p p' : Nat) : Prop where
  b : Below W.heap.size W w
  x0 : w.heap[W.heap.size]? = some (.cells #[.pointer (some ⟨p, 0, none⟩)] 68)
  x1 : w.heap[W.heap.size + 1]? = some (.cells #[nv, rv] 30)
  x2 : w.heap[W.heap.size + 2]? = some (.cells #[.pointer none] 68)
  x3 : w.heap[W.heap.size + 3]? = some (.cells #[.pointer (some ⟨p', 0, none⟩)] 68)
theorem below_le {n k : Nat} {a b : World} (h : Below n a b) (hk : k ≤ n) : Below k a b := ⟨h.os, h.tape, h.output, h.size, fun i hi => h.block i (Nat.lt_of_lt_of_le hi hk)⟩
theorem Wt.next {W w w' : World} {nv rv : Value} {p p' : Nat} (h : Wt W w nv rv p p') (hb : Below (W.heap.size + 4) w w') : Wt W w' nv rv p p' :=
  ⟨h.b.trans (below_le hb (by omega)), (hb.block _ (by omega)).trans h.x0, (hb.block _ (by omega)).trans h.x1, (hb.block _ (by omega)).trans h.x2, (hb.block _ (by omega)).trans h.x3⟩
theorem Wt.size {W w : World} {nv rv : Value} {p p' : Nat} (h : Wt W w nv rv p p') : W.heap.size + 4 ≤ w.heap.size := lt_of_block h.x3
theorem Wt.cells {W w : World} {nv rv : Value} {p p' : Nat} (h : Wt W w nv rv p p') : (w.cell? ⟨W.heap.size, 0, none⟩ = some (.pointer (some ⟨p, 0, none⟩)) ∧ w.cell? ⟨W.heap.size + 1, 0, none⟩ = some nv ∧ w.cell? ⟨W.heap.size + 2, 0, none⟩ = some (.pointer none) ∧ w.cell? ⟨W.heap.size + 3, 0, none⟩ = some (.pointer (some ⟨p', 0, none⟩))) ∧ w.frozen? ⟨W.heap.size + 2, 0, none⟩ = false ∧ w.frozen? ⟨W.heap.size + 3, 0, none⟩ = false := by
  refine ⟨⟨?_, ?_, ?_, ?_⟩, ?_, ?_⟩
  · simp [World.cell?, h.x0]
  · simp [World.cell?, h.x1]
  · simp [World.cell?, h.x2]
  · simp [World.cell?, h.x3]
  · simp [World.frozen?, h.x2]
  · simp [World.frozen?, h.x3]
theorem Wt.set {W w : World} {nv rv : Value} {p p' : Nat} (h : Wt W w nv rv p p') (p2 : Nat) : Wt W (w.setCell ⟨W.heap.size + 3, 0, none⟩ (.pointer (some ⟨p2, 0, none⟩))) nv rv p p2 :=
  ⟨h.b.setCell (p := ⟨W.heap.size + 3, 0, none⟩) (by simp) _, (Below.heap_setCell _ _ _ _ (by simp)).trans h.x0, (Below.heap_setCell _ _ _ _ (by simp)).trans h.x1, (Below.heap_setCell _ _ _ _ (by simp)).trans h.x2, heap_setCell_same w _ 0 _ _ _ h.x3⟩
theorem tb_base {w : World} {B B' p q : Nat} {v : Value} {l : List ByteArray} (h : Tb w B p v q l) (hB : B' ≤ B) : Tb w B' p v q l :=
  ⟨h.blk, Nat.le_trans hB h.base, n_own_base h.own hB, Nat.le_trans hB h.mbase, h.map, h.len, h.good, h.nodup⟩
theorem ptr_same {P : Program} (w : World) (d : Nat) (t : TypeId) {e : TypeId} {z : Nat} (h : P.underlying t = some (.pointer e)) (hz : ∀ w, (sizeOf e).run P w = .ok (z + 1) w) (a : Addr) : (Op.equalIn (d + 1) t (.pointer (some a)) (.pointer (some a))).run P w = .ok true w := by
  simp [Op.equalIn, run_underlying h, hz, run_sameAddr_same]
theorem ptr_other {P : Program} (w : World) (d : Nat) (t : TypeId) {e : TypeId} {z : Nat} (h : P.underlying t = some (.pointer e)) (hz : ∀ w, (sizeOf e).run P w = .ok (z + 1) w) {a b : Addr} {ca cb : Array Value} {ta tb : TypeId} (hne : a ≠ b) (ha : w.heap[a.block]? = some (.cells ca ta (0, 0))) (hb : w.heap[b.block]? = some (.cells cb tb (0, 0))) : (Op.equalIn (d + 1) t (.pointer (some a)) (.pointer (some b))).run P w = .ok false w := by
  simp [Op.equalIn, run_underlying h, hz, run_sameAddr_other w hne ha hb]
theorem tab_same (a : Addr) (w : World) : (Op.equalIn 10000 68 (.agg #[.pointer (some a)]) (.agg #[.pointer (some a)])).run Tryz.prog w = .ok true w := by
  have u3 := Tryz.underlying66
  have a3 := Tryz.isAgg66
  have z3 := Tryz.sizeOf66
  have hp := ptr_same w 9998 66 u3 Tryz.sizeOf114 a
  rw [show (9998 : Nat) + 1 = 9999 from rfl] at hp
  rw [show (10000 : Nat) = 9999 + 1 from rfl, run_equalIn_struct w 9999 68 _ _ (by kernel_rfl) (by kernel_rfl)]
  simp only [Program.fieldsOf, Tryz.underlying68]
  go_simp
theorem wt_copy {W wr w4 : World} {nv rv : Value} {p p' p4 q4 : Nat} {v4 : Value} {L : List ByteArray} (h : Wt W wr nv rv p p') (hb : Below wr.heap.size wr w4) (hT : Tb w4 wr.heap.size p4 v4 q4 L) :
    Wt W (w4.setCell ⟨W.heap.size + 3, 0, none⟩ (.pointer (some ⟨p4, 0, none⟩))) nv rv p p4 ∧ Tb (w4.setCell ⟨W.heap.size + 3, 0, none⟩ (.pointer (some ⟨p4, 0, none⟩))) (W.heap.size + 4) p4 v4 q4 L := by
  have hz := h.size
  refine ⟨(h.next (below_le hb hz)).set p4, tb_base (hT.keep (ks := [W.heap.size + 3]) ((n_Mod.refl _ w4).setCell (p := ⟨W.heap.size + 3, 0, none⟩) (Or.inl (by simp)) _) (fun k hk hf => ?_)) hz⟩
  have e : k = W.heap.size + 3 := by simpa using hk
  subst e
  rcases n_mem_foot.1 hf with e | e | e
  · have := hT.base
    omega
  · have := hT.mbase
    omega
  · have := (hT.row e).1
    omega
theorem wt_put {W w5 w6 w7 : World} {nv rv : Value} {p p5 q5 : Nat} {v5 v7 : Value} {L L' : List ByteArray} (h : Wt W w5 nv rv p p5) (hT : Tb w5 (W.heap.size + 4) p5 v5 q5 L) (hb : Below w5.heap.size w5 w6) (hU : n_Upd w6 w7 (W.heap.size + 4) p5 v5 q5 L' v7) : Wt W w7 nv rv p p5 ∧ Tb w7 (W.heap.size + 4) p5 v7 q5 L' := by
  have hz := h.size
  have h6 := h.next (below_le hb hz)
  exact ⟨h6.next (hU.below (hT.below hb) (by have := h6.size; omega)), hU.tb⟩
theorem ret_tabE {w : World} {fn : Func} {t s : Tmp} (hfn : fn.results = #[.cell t 68, .tmp s]) {tmps : Array Value} {q : Nat} {u0 v1 : Value} (h4 : tmps[t]?.getD undef = .pointer (some ⟨q, 0, none⟩)) (h5 : tmps[s]?.getD undef = v1) (hq : w.heap[q]? = some (.cells #[u0] 68)) : (results fn tmps).run Tryz.prog w = .ok (.tuple #[.agg #[u0], v1]) w := by
  have z0 : w.cell? ⟨q, 0, none⟩ = some u0 := by simp [World.cell?, hq]
  simp [results, hfn, go_sem, h4, h5, z0]
theorem size_nil {s : ByteArray} (h : s.toList = []) : s.size = 0 := by
  rw [ByteArray.toList_eq] at h
  have : s.data.size = 0 := by rw [← Array.length_toList, h]; rfl
  exact this
theorem good_nameC {N : Nat} {n : Nd} (h : goodNd N n = true) : n.name.size = 0 ∧ n.name.toList = [] ∨ n_goodS n.name = true := by
  unfold goodNd at h
  split at h
  · simp at h
    exact Or.inl ⟨size_nil h.1.1, h.1.1⟩
  · split at h
    · simp at h
      exact Or.inr h.1.1
    · split at h
      · simp at h
        exact Or.inl ⟨size_nil h.1.1.1, h.1.1.1⟩
      · split at h
        · simp only [Bool.and_eq_true] at h
          exact Or.inr h.1.1.1.1
        · simp at h
end Go.Proofs.YtipacdagaalccaaGreatDoor
