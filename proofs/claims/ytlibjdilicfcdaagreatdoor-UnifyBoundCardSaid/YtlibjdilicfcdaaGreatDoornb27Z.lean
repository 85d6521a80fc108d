/- Package cells: a write, where no point sees it. -/
import Derived.Test.YtlibjdilicfcdaaGreatDoornb25Z
import Derived.Test.YtlibjdilicfcdaaGreatDoornb14Z
namespace Go.Proofs.YtlibjdilicfcdaaGreatDoor
set_option maxRecDepth 100000
open Go.RowKit
section
variable {w w' : World} {B hb ab tb : Nat} {m : Int} {av : Value} {l : List Int} {tv : Value} {tq : Nat} {ns : List ByteArray} {trv ptv : Value} {n : Int}
theorem Hp.self (h : Hp w B hb ab tb m av l tv tq ns trv ptv n) : hb ∉ a_foot ab av ∧ hb ∉ n_foot tb tv tq := by
  refine ⟨fun hk => (h.apart hk).1 rfl, fun hf => ?_⟩
  have hq := h.blk
  rcases n_mem_foot.1 hf with e | e | e
  · subst e
    rw [h.tb.blk] at hq
    injection hq with hq
    injection hq with _ hq
    exact absurd hq (by decide)
  · subst e
    obtain ⟨D, ⟨es, clock, hq2, _⟩, _⟩ := h.tb.map
    rw [hq2] at hq
    simp at hq
  · obtain ⟨cur, hc, _⟩ := own_block_obj h.tb.own e
    rw [hc] at hq
    injection hq with hq
    injection hq with _ hq
    exact absurd hq (by decide)
end
end Go.Proofs.YtlibjdilicfcdaaGreatDoor

namespace Go.Proofs.YtlibjdilicfcdaaGreatDoor
set_option maxRecDepth 100000
open Go.RowKit
def wth1 (ns : List ByteArray) (s : ByteArray) : List ByteArray := if inL ns s = true ∨ s.size = 0 then ns else ns ++ [s]
def wthJ (ns : List ByteArray) (g : Gf) (met : List Int) : Nat → List ByteArray
  | 0 => ns
  | j + 1 => wth1 (wthJ ns g met j) (g.nodes.getD (met.getD j 0).toNat nd0).name
theorem wth1_len (ns : List ByteArray) (s : ByteArray) : (wth1 ns s).length ≤ ns.length + 1 := by
  unfold wth1
  split
  · omega
  · simp
theorem wthJ_len (ns : List ByteArray) (g : Gf) (met : List Int) : ∀ j, (wthJ ns g met j).length ≤ ns.length + j
  | 0 => Nat.le_refl _
  | j + 1 => by
    have h1 := wthJ_len ns g met j
    have h2 := wth1_len (wthJ ns g met j) (g.nodes.getD (met.getD j 0).toNat nd0).name
    show (wth1 _ _).length ≤ _
    omega
theorem wth1_ge (ns : List ByteArray) (s : ByteArray) : ns.length ≤ (wth1 ns s).length := by
  unfold wth1
  split
  · exact Nat.le_refl _
  · simp
theorem wthJ_mono (ns : List ByteArray) (g : Gf) (met : List Int) (j : Nat) : ∀ d, (wthJ ns g met j).length ≤ (wthJ ns g met (j + d)).length
  | 0 => Nat.le_refl _
  | d + 1 => Nat.le_trans (wthJ_mono ns g met j d) (wth1_ge _ _)
theorem wth1_pre (ns : List ByteArray) (s : ByteArray) : ns <+: wth1 ns s := by
  unfold wth1
  split
  · exact List.prefix_refl _
  · exact List.prefix_append _ _
theorem wthJ_pre (ns : List ByteArray) (g : Gf) (met : List Int) (i : Nat) : ∀ d, wthJ ns g met i <+: wthJ ns g met (i + d)
  | 0 => List.prefix_refl _
  | d + 1 => (wthJ_pre ns g met i d).trans (wth1_pre _ _)
theorem idx_pre : ∀ {l t : List ByteArray} {s : ByteArray}, inL l s = true → idx (l ++ t) s = idx l s
  | [], _, _, h => by simp [inL] at h
  | y :: r, t, s, h => by
    by_cases e : y = s
    · simp [idx, e]
    · have h' : inL r s = true := by
        rw [inL_iff] at h ⊢
        rcases List.mem_cons.1 h with h | h
        · exact absurd h.symm e
        · exact h
      have := idx_pre (t := t) h'
      simp only [List.cons_append, idx, if_neg e, this]
theorem pre_in {l m : List ByteArray} {s : ByteArray} (h : l <+: m) (hs : inL l s = true) : inL m s = true ∧ num m s = num l s := by
  obtain ⟨t, rfl⟩ := h
  have h1 : inL (l ++ t) s = true := by
    rw [inL_iff] at hs ⊢
    exact List.mem_append_left _ hs
  refine ⟨h1, ?_⟩
  unfold num
  rw [if_pos h1, if_pos hs, idx_pre hs]
theorem wthJ_in (ns : List ByteArray) (g : Gf) (met : List Int) {i j : Nat} (h : i < j) (hs : (g.nodes.getD (met.getD i 0).toNat nd0).name.size ≠ 0) : inL (wthJ ns g met j) (g.nodes.getD (met.getD i 0).toNat nd0).name = true := by
  have h1 : inL (wthJ ns g met (i + 1)) (g.nodes.getD (met.getD i 0).toNat nd0).name = true := by
    show inL (wth1 _ _) _ = true
    unfold wth1
    split
    · rename_i h2
      rcases h2 with h2 | h2
      · exact h2
      · exact absurd h2 hs
    · rw [inL_iff]
      simp
  have h2 := wthJ_pre ns g met (i + 1) (j - (i + 1))
  rw [show i + 1 + (j - (i + 1)) = j by omega] at h2
  exact (pre_in h2 h1).1
def plN (g : Gf) (met : List Int) (b : Nat) (x : Int) : Nat := b + wantJ g met (pos met x)
def cwX (ns : List ByteArray) (g : Gf) (met : List Int) (b : Nat) (x : Int) : Int := cwF ns (g.nodes.getD x.toNat nd0) (plN g met b x)
def nwX (ns : List ByteArray) (g : Gf) (met : List Int) (b : Nat) (x : Int) : List Int :=
  if (g.nodes.getD x.toNat nd0).kind = 1 then [8 * (plN g met b x : Int)]
  else if (g.nodes.getD x.toNat nd0).kind = 4 then fwF ns (g.nodes.getD x.toNat nd0) :: (g.nodes.getD x.toNat nd0).args.map (cwX ns g met b) else []
def putW (ns : List ByteArray) (g : Gf) (met : List Int) (b : Nat) : List Int := g.roots.map (cwX ns g met b) ++ met.flatMap (nwX ns g met b)
section
variable {ns : List ByteArray} {g : Gf} {met : List Int} {b : Nat}
theorem nwX_len (x : Int) : (nwX ns g met b x).length = szN (g.nodes.getD x.toNat nd0) := by
  unfold nwX szN
  split
  · rfl
  · split
    · simp
      omega
    · rfl
theorem take_snocD {j : Nat} (h : j < met.length) : met.take (j + 1) = met.take j ++ [met.getD j 0] := by
  rw [List.take_add_one]
  simp [List.getD, h]
theorem want_flat : ∀ j, j ≤ met.length → wantJ g met j = g.roots.length + ((met.take j).flatMap (nwX ns g met b)).length
  | 0, _ => by simp [wantJ]
  | j + 1, h => by
    have ih := want_flat j (by omega)
    show wantJ g met j + _ = _
    rw [take_snocD (by omega), List.flatMap_append, List.length_append, ih]
    simp [nwX_len]
    omega
theorem putW_len : (putW ns g met b).length = wantJ g met met.length := by
  rw [want_flat (ns := ns) (b := b) _ (Nat.le_refl _), List.take_length]
  simp [putW]
theorem putW_root {i : Nat} (h : i < g.roots.length) : (putW ns g met b).getD i 0 = cwX ns g met b (g.roots.getD i 0) := by
  simp [putW, List.getD, h, List.getElem?_append_left]
theorem want_mono : ∀ (i d : Nat), wantJ g met i ≤ wantJ g met (i + d)
  | _, 0 => Nat.le_refl _
  | i, d + 1 => Nat.le_trans (want_mono i d) (Nat.le_add_right _ _)
theorem want_next {i j : Nat} (h : i < j) : wantJ g met i + szN (g.nodes.getD (met.getD i 0).toNat nd0) ≤ wantJ g met j := by
  have := want_mono (g := g) (met := met) (i + 1) (j - (i + 1))
  rw [show i + 1 + (j - (i + 1)) = j by omega] at this
  exact this
theorem want_root (j : Nat) : g.roots.length ≤ wantJ g met j := by
  have := want_mono (g := g) (met := met) 0 j
  rw [Nat.zero_add] at this
  exact this
theorem putW_node {j r : Nat} (hj : j < met.length) (hr : r < szN (g.nodes.getD (met.getD j 0).toNat nd0)) : (putW ns g met b).getD (wantJ g met j + r) 0 = (nwX ns g met b (met.getD j 0)).getD r 0 := by
  have h1 : met.flatMap (nwX ns g met b) = (met.take j).flatMap (nwX ns g met b) ++ (nwX ns g met b (met.getD j 0) ++ (met.drop (j + 1)).flatMap (nwX ns g met b)) := by
    have e : met.flatMap (nwX ns g met b) = (met.take j ++ met.drop j).flatMap (nwX ns g met b) := by rw [List.take_append_drop]
    rw [e, drop_step hj]
    simp
  have h2 := want_flat (ns := ns) (b := b) (g := g) (met := met) j (by omega)
  unfold putW
  rw [h1, h2]
  have h3 : r < (nwX ns g met b (met.getD j 0)).length := by rw [nwX_len]; exact hr
  generalize (met.take j).flatMap (nwX ns g met b) = F
  generalize (met.drop (j + 1)).flatMap (nwX ns g met b) = H
  generalize nwX ns g met b (met.getD j 0) = M at *
  have h4 : (g.roots.map (cwX ns g met b)).length = g.roots.length := by simp
  generalize g.roots.map (cwX ns g met b) = K at *
  simp only [List.getD]
  rw [List.getElem?_append_right (by omega), List.getElem?_append_right (by omega), List.getElem?_append_left (by omega)]
  congr 2
  omega
theorem want_cover : ∀ (j c : Nat), c < wantJ g met j → c < g.roots.length ∨ ∃ i r, i < j ∧ r < szN (g.nodes.getD (met.getD i 0).toNat nd0) ∧ c = wantJ g met i + r
  | 0, c, h => Or.inl h
  | j + 1, c, h => by
    by_cases h1 : c < wantJ g met j
    · rcases want_cover j c h1 with h2 | ⟨i, r, h2, h3, h4⟩
      · exact Or.inl h2
      · exact Or.inr ⟨i, r, by omega, h3, h4⟩
    · have h2 : c < wantJ g met j + szN (g.nodes.getD (met.getD j 0).toNat nd0) := h
      exact Or.inr ⟨j, c - wantJ g met j, by omega, by omega, by omega⟩
end
def mixW (T : List Int) (b c : Nat) : List Int := T.take c ++ frsh (b + c) (T.length - c)
theorem mix_len {T : List Int} {b c : Nat} (h : c ≤ T.length) : (mixW T b c).length = T.length := by
  simp [mixW, frsh_len]
  omega
theorem mix_zero (T : List Int) (b : Nat) : mixW T b 0 = frsh b T.length := by simp [mixW]
theorem mix_full (T : List Int) (b : Nat) : mixW T b T.length = T := by simp [mixW, frsh]
theorem frsh_cons (s k : Nat) : frsh s (k + 1) = 8 * (s : Int) :: frsh (s + 1) k := by
  unfold frsh
  rw [List.range_succ_eq_map, List.map_cons, List.map_map]
  congr 1
  apply List.map_congr_left
  intro i _
  simp
  omega
theorem mix_split {T : List Int} {b c : Nat} (h : c < T.length) : mixW T b c = T.take c ++ 8 * ((b + c : Nat) : Int) :: frsh (b + (c + 1)) (T.length - (c + 1)) := by
  unfold mixW
  rw [show T.length - c = (T.length - (c + 1)) + 1 by omega, frsh_cons, show b + c + 1 = b + (c + 1) by omega]
theorem mix_next {T : List Int} {b c : Nat} (h : c < T.length) : mixW T b (c + 1) = T.take c ++ T.getD c 0 :: frsh (b + (c + 1)) (T.length - (c + 1)) := by
  unfold mixW
  rw [take_snocD h, List.append_assoc]
  rfl
theorem mix_set {l T : List Int} {c : Nat} (h : c < T.length) : (l ++ mixW T l.length c).set (l.length + c) (T.getD c 0) = l ++ mixW T l.length (c + 1) := by
  rw [mix_split h, mix_next h, List.set_append_right _ _ (by omega), show l.length + c - l.length = c by omega, List.set_append_right _ _ (by simp; omega)]
  have e : c - (T.take c).length = 0 := by simp; omega
  rw [e, List.set_cons_zero]
theorem mix_skip {T : List Int} {b c : Nat} (h : c < T.length) (e : T.getD c 0 = 8 * ((b + c : Nat) : Int)) : mixW T b c = mixW T b (c + 1) := by
  rw [mix_split h, mix_next h, e]
end Go.Proofs.YtlibjdilicfcdaaGreatDoor
