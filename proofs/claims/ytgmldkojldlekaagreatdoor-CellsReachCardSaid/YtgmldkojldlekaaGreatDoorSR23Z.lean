/- The least graph, as plain data; two graphs have the same least graph just if a pairing of their nodes keeps labels and leads on. -/
import Derived.Test.YtgmldkojldlekaaGreatDoorSR22Z
import Derived.Test.YtgmldkojldlekaaGreatDoorSR13Z
import Derived.Test.YtgmldkojldlekaaGreatDoorSR18Z
import Derived.Test.YtgmldkojldlekaaGreatDoorSR10Z
namespace Go.Proofs.YtgmldkojldlekaaGreatDoor
set_option maxRecDepth 100000
open Go.RowKit
def clsI (e : Nat → Nat → Bool) (N : Nat) (x : Int) : Int := (ints (csF e N)).getD x.toNat 0
def quoF (e : Nat → Nat → Bool) (g : Gf) : Gf := ⟨(lsF e g.nodes.length).map (fun n => renum (clsI e g.nodes.length) (g.nodes.getD n nd0)), g.roots.map (clsI e g.nodes.length)⟩
theorem clsI_eq (e : Nat → Nat → Bool) {N : Nat} {x : Int} (h0 : 0 ≤ x) (h1 : x < (N : Int)) : clsI e N x = (((csF e N).getD x.toNat 0 : Nat) : Int) := ints_get (by rw [csF_len]; omega)
theorem cls_rng {e : Nat → Nat → Bool} {N : Nat} (he : Eqv e N) {x : Int} (h0 : 0 ≤ x) (h1 : x < (N : Int)) : 0 ≤ clsI e N x ∧ clsI e N x < ((lsF e N).length : Int) := by
  have := ((numF_said he N (Nat.le_refl _)).hit x.toNat (by omega)).1
  rw [clsI_eq e h0 h1]
  omega
theorem quo_len (e : Nat → Nat → Bool) (g : Gf) : (quoF e g).nodes.length = (lsF e g.nodes.length).length := by simp [quoF]
theorem renum_good {N M : Nat} {F : Int → Int} {n : Nd} (h : goodNd N n = true) (hF : ∀ x ∈ n.args, 0 ≤ F x ∧ F x < (M : Int)) : goodNd M (renum F n) = true := by
  have hst : (n.args.map F).any (strange M) = false := by
    rw [List.any_eq_false]
    intro y hy
    obtain ⟨z, hz, rfl⟩ := List.mem_map.1 hy
    have := hF z hz
    simp [strange]
    omega
  unfold goodNd at h ⊢
  simp only [renum, List.length_map, hst]
  split
  · rename_i hk
    rw [if_pos hk] at h
    exact h
  · rename_i hk
    rw [if_neg hk] at h
    split
    · rename_i hk2
      rw [if_pos hk2] at h
      exact h
    · rename_i hk2
      rw [if_neg hk2] at h
      split
      · rename_i hk3
        rw [if_pos hk3] at h
        exact h
      · rename_i hk3
        rw [if_neg hk3] at h
        split
        · rename_i hk4
          rw [if_pos hk4] at h
          simp only [Bool.and_eq_true] at h ⊢
          exact ⟨h.1, rfl⟩
        · rename_i hk4
          rw [if_neg hk4] at h
          exact h
theorem quo_good {g : Gf} (hg : Good g) {e : Nat → Nat → Bool} (he : Eqv e g.nodes.length) : Good (quoF e g) := by
  have h1 := hg.nodes
  have h2 := hg.roots
  have h3 := lsF_le e g.nodes.length
  refine ⟨by rw [quo_len]; omega, by simp [quoF]; omega, fun n hn => ?_, fun x hx => ?_⟩
  · obtain ⟨m, hm, rfl⟩ := List.mem_map.1 hn
    have hlt := lsF_lt e _ m hm
    have hgd := hg.node (g.nodes.getD m nd0) (by simp [List.getD, hlt])
    rw [quo_len]
    exact renum_good hgd (fun x hx => by
      have := (good_args hgd).1 x hx
      exact cls_rng he this.1 this.2)
  · obtain ⟨z, hz, rfl⟩ := List.mem_map.1 hx
    rw [quo_len]
    have := hg.root z hz
    exact cls_rng he this.1 this.2
theorem list_mem_getD {l : List Int} {x : Int} (h : x ∈ l) : ∃ i, i < l.length ∧ l.getD i 0 = x := by
  obtain ⟨i, hi, e⟩ := List.getElem_of_mem h
  exact ⟨i, hi, by simp [List.getD, hi, e]⟩
end Go.Proofs.YtgmldkojldlekaaGreatDoor

namespace Go.Proofs.YtgmldkojldlekaaGreatDoor
set_option maxRecDepth 100000
open Go.RowKit
section
variable {w w' : World} {B hb ab tb : Nat} {m : Int} {av : Value} {l : List Int} {tv : Value} {tq : Nat} {ns : List ByteArray} {trv ptv : Value} {n : Int}
theorem Hp.self (h : Hp w B hb ab tb m av l tv tq ns trv ptv n) : hb ∉ a_foot ab av ∧ hb ∉ n_foot tb tv tq := by
  refine ⟨fun hk => (h.apart hk).1 rfl, fun hf => ?_⟩
  have hq := h.blk
  rcases n_mem_foot.1 hf with e | e | e
  · subst e
    rw [h.tb.blk] at hq
    injection hq with hq
    injection hq with _ hq
    exact absurd hq (by decide)
  · subst e
    obtain ⟨D, ⟨es, clock, hq2, _⟩, _⟩ := h.tb.map
    rw [hq2] at hq
    simp at hq
  · obtain ⟨cur, hc, _⟩ := own_block_obj h.tb.own e
    rw [hc] at hq
    injection hq with hq
    injection hq with _ hq
    exact absurd hq (by decide)
theorem Hp.wrote (h : Hp w B hb ab tb m av l tv tq ns trv ptv n) (n' : Int) : Hp (w.setCell ⟨hb, 4, none⟩ (.int .i64 n')) B hb ab tb m av l tv tq ns trv ptv n' := by
  obtain ⟨h1, h2⟩ := h.self
  have hm : a_Mod [hb] w (w.setCell ⟨hb, 4, none⟩ (.int .i64 n')) := (a_Mod.refl [hb] w).setCell (p := ⟨hb, 4, none⟩) (Or.inl (by simp)) _
  refine ⟨heap_setCell_same w hb 4 _ _ (.int .i64 n') h.blk, h.base, h.ar.keep hm (fun k hk => by
    have e : k = hb := by simpa using hk
    rw [e]; exact h1), h.tb.keep (mod_an hm) (fun k hk => by
    have e : k = hb := by simpa using hk
    rw [e]; exact h2)⟩
def hfoot (hb ab tb tq : Nat) (av tv : Value) : List Nat := hb :: (a_foot ab av ++ n_foot tb tv tq)
set_option maxHeartbeats 2000000 in
theorem write0_ok (h : Hp w B hb ab tb m av l tv tq ns trv (.slice none 0 0) n) (k : Nat) (x : Int) (hk : k < l.length) (x0 : 0 ≤ x) (x1 : x ≤ 18446744073709551615) (hm : mayB x l.length = true) (n0 : 0 ≤ n) (n1 : n ≤ 4611686018427387904) :
    Calls Tryz.prog 57 #[.pointer (some ⟨hb, 0, none⟩), .int .i64 (k : Int), .int .u64 x] w fun e w' => e = .returned (.tuple #[]) ∧ Hp w' B hb ab tb m av (l.set k x) tv tq ns trv (.slice none 0 0) (n + 1) ∧ a_Mod (hb :: a_foot ab av) w w' := by
  obtain ⟨⟨c0, c1, c2, c3, c4⟩, c5⟩ := h.cells
  have hl := hid (blay_ok h.ar k x hk x0 x1 hm)
  have HH := hid h
  clear h hk hm
  go_enter Tryz.func57, Tryz.ntmps57
  go_wp2_with (go_at_call 39; refine hl.out.mono ?_; rintro e w1 ⟨rfl, hu⟩; have Hh := hid (HH.out.words hu); have Hu := hid hu; obtain ⟨⟨d0, d1, d2, d3, d4⟩, d5⟩ := Hh.out.cells; have d6 : w1.frozen? ⟨hb, 4, none⟩ = false := (by simp [World.frozen?, Hh.out.blk]); clear hu)
  go_end0
  refine ⟨rfl, Hh.out.wrote (n + 1), ?_⟩
  exact (Hu.out.mod.ofMem (hb :: a_foot ab av) (fun y hy => Or.inl (by simp [hy]))).setCell (p := ⟨hb, 4, none⟩) (Or.inl (by simp)) _
end
end Go.Proofs.YtgmldkojldlekaaGreatDoor

namespace Go.Proofs.YtgmldkojldlekaaGreatDoor
set_option maxRecDepth 100000
open Go.RowKit
theorem pos_app : ∀ {m t : List Int} {x : Int}, x ∈ m → pos (m ++ t) x = pos m x
  | y :: r, t, x, h => by
    by_cases e : y = x
    · simp [pos, e]
    · have h' : x ∈ r := by
        rcases List.mem_cons.1 h with rfl | h
        · exact absurd rfl e
        · exact h
      have := pos_app (t := t) h'
      simp only [List.cons_append, pos, if_neg e, this]
theorem posF_pre {m m' : List Int} {x : Int} (h : m <+: m') (hx : x ∈ m) : posF m' x = posF m x := by
  obtain ⟨t, rfl⟩ := h
  unfold posF
  rw [if_pos hx, if_pos (List.mem_append_left _ hx), pos_app hx]
def addT (TS : List Int) (t : Int) : List Int := if t ∈ TS then TS else TS ++ [t]
abbrev tmC (l : List Int) (c : Int) : Int := trmW l c.toNat
def addsJ (l cs TS : List Int) : Nat → List Int
  | 0 => TS
  | j + 1 => addT (addsJ l cs TS j) (tmC l (cs.getD j 0))
theorem addT_pre (TS : List Int) (t : Int) : TS <+: addT TS t := by
  unfold addT
  split
  · exact List.prefix_refl _
  · exact List.prefix_append _ _
theorem addT_mem (TS : List Int) (t : Int) : t ∈ addT TS t := by
  unfold addT
  split
  · assumption
  · simp
theorem addT_nodup {TS : List Int} {t : Int} (h : TS.Nodup) : (addT TS t).Nodup := by
  unfold addT
  split
  · exact h
  · rename_i hn
    rw [List.nodup_append]
    refine ⟨h, by simp, fun x hx y hy e => ?_⟩
    simp at hy
    subst hy
    subst e
    exact hn hx
theorem addT_all {TS : List Int} {t : Int} {p : Int → Prop} (h : ∀ x ∈ TS, p x) (ht : p t) : ∀ x ∈ addT TS t, p x := fun x hx => by
  unfold addT at hx
  split at hx
  · exact h x hx
  · rcases List.mem_append.1 hx with hx | hx
    · exact h x hx
    · simp at hx
      rw [hx]
      exact ht
section
variable {l cs TS : List Int}
theorem adds_pre (i : Nat) : ∀ d, addsJ l cs TS i <+: addsJ l cs TS (i + d)
  | 0 => List.prefix_refl _
  | d + 1 => (adds_pre i d).trans (addT_pre _ _)
theorem adds_le {i j : Nat} (h : i ≤ j) : addsJ l cs TS i <+: addsJ l cs TS j := by
  have := adds_pre (l := l) (cs := cs) (TS := TS) i (j - i)
  rw [show i + (j - i) = j by omega] at this
  exact this
theorem adds_mem {i j : Nat} (h : i < j) : tmC l (cs.getD i 0) ∈ addsJ l cs TS j :=
  (adds_le (l := l) (cs := cs) (TS := TS) (show i + 1 ≤ j by omega)).subset (addT_mem _ _)
theorem adds_nodup (h : TS.Nodup) : ∀ j, (addsJ l cs TS j).Nodup
  | 0 => h
  | j + 1 => addT_nodup (adds_nodup h j)
theorem adds_all {p : Int → Prop} (h : ∀ x ∈ TS, p x) : ∀ j, (∀ i, i < j → p (tmC l (cs.getD i 0))) → ∀ x ∈ addsJ l cs TS j, p x
  | 0, _ => h
  | j + 1, hc => addT_all (adds_all h j (fun i hi => hc i (by omega))) (hc j (by omega))
theorem adds_len : ∀ j, (addsJ l cs TS j).length ≤ TS.length + j
  | 0 => Nat.le_refl _
  | j + 1 => by
    have := adds_len j
    show (addT _ _).length ≤ _
    unfold addT
    split
    · omega
    · simp
      omega
def outJ (l cs TS : List Int) (j : Nat) : List Int := (List.range j).map (fun i => posF (addsJ l cs TS j) (tmC l (cs.getD i 0)))
theorem out_succ (j : Nat) : outJ l cs TS (j + 1) = outJ l cs TS j ++ [posF (addsJ l cs TS (j + 1)) (tmC l (cs.getD j 0))] := by
  unfold outJ
  rw [List.range_succ, List.map_append]
  congr 1
  apply List.map_congr_left
  intro i hi
  rw [List.mem_range] at hi
  exact posF_pre (addT_pre _ _) (adds_mem hi)
theorem out_all : outJ l cs TS cs.length = cs.map (fun c => posF (addsJ l cs TS cs.length) (tmC l c)) := by
  refine list_ext0 (by simp [outJ]) (fun j hj => ?_)
  have hj' : j < cs.length := by simpa [outJ] using hj
  simp [outJ, List.getD, hj']
end
def MapT (TS : List Int) (D : DataW Unit) : Prop := (∀ x : Int, Maps.has D (.int .u64 x) = decide (x ∈ TS)) ∧ ∀ x : Int, x ∈ TS → D.atKey (.int .u64 x) (.lit (.int .i64 0)) = .lit (.int .i64 (posF TS x))
theorem mapT_nil : MapT [] (.map []) := ⟨fun s => by simp [Maps.has], fun s h => by cases h⟩
theorem mapT_put {TS : List Int} {x : Int} {D : DataW Unit} (h : MapT TS D) (hD : Maps.IsMap D) (hx : x ∉ TS) : MapT (TS ++ [x]) (D.put (.int .u64 x) (.lit (.int .i64 (TS.length : Int)))) := by
  have hk : WideAt.IsKeyLit (.int .u64 x) := trivial
  refine ⟨fun y => ?_, fun y hy => ?_⟩
  · by_cases e : y = x
    · subst e
      rw [Maps.has_put_same hD hk]
      simp
    · have hne : Lit.int .u64 y ≠ Lit.int .u64 x := fun h2 => e (by injection h2)
      rw [Maps.has_put_other hne, h.1, decide_eq_decide]
      simp [e]
  · rw [posF_snoc hx]
    by_cases e : y = x
    · subst e
      rw [Maps.atKey_put_same hD hk, if_pos rfl]
    · have hne : Lit.int .u64 y ≠ Lit.int .u64 x := fun h2 => e (by injection h2)
      rw [Maps.atKey_put_other hne, if_neg e]
      refine h.2 y ?_
      rcases List.mem_append.1 hy with hy | hy
      · exact hy
      · simp at hy
        exact absurd hy e
end Go.Proofs.YtgmldkojldlekaaGreatDoor

namespace Go.Proofs.YtgmldkojldlekaaGreatDoor
set_option maxRecDepth 100000
open Go.RowKit
def wth1 (ns : List ByteArray) (s : ByteArray) : List ByteArray := if inL ns s = true ∨ s.size = 0 then ns else ns ++ [s]
def wthJ (ns : List ByteArray) (g : Gf) (met : List Int) : Nat → List ByteArray
  | 0 => ns
  | j + 1 => wth1 (wthJ ns g met j) (g.nodes.getD (met.getD j 0).toNat nd0).name
theorem wth1_len (ns : List ByteArray) (s : ByteArray) : (wth1 ns s).length ≤ ns.length + 1 := by
  unfold wth1
  split
  · omega
  · simp
theorem wthJ_len (ns : List ByteArray) (g : Gf) (met : List Int) : ∀ j, (wthJ ns g met j).length ≤ ns.length + j
  | 0 => Nat.le_refl _
  | j + 1 => by
    have h1 := wthJ_len ns g met j
    have h2 := wth1_len (wthJ ns g met j) (g.nodes.getD (met.getD j 0).toNat nd0).name
    show (wth1 _ _).length ≤ _
    omega
theorem wth1_ge (ns : List ByteArray) (s : ByteArray) : ns.length ≤ (wth1 ns s).length := by
  unfold wth1
  split
  · exact Nat.le_refl _
  · simp
theorem wthJ_mono (ns : List ByteArray) (g : Gf) (met : List Int) (j : Nat) : ∀ d, (wthJ ns g met j).length ≤ (wthJ ns g met (j + d)).length
  | 0 => Nat.le_refl _
  | d + 1 => Nat.le_trans (wthJ_mono ns g met j d) (wth1_ge _ _)
theorem wth1_pre (ns : List ByteArray) (s : ByteArray) : ns <+: wth1 ns s := by
  unfold wth1
  split
  · exact List.prefix_refl _
  · exact List.prefix_append _ _
theorem wthJ_pre (ns : List ByteArray) (g : Gf) (met : List Int) (i : Nat) : ∀ d, wthJ ns g met i <+: wthJ ns g met (i + d)
  | 0 => List.prefix_refl _
  | d + 1 => (wthJ_pre ns g met i d).trans (wth1_pre _ _)
theorem idx_pre : ∀ {l t : List ByteArray} {s : ByteArray}, inL l s = true → idx (l ++ t) s = idx l s
  | [], _, _, h => by simp [inL] at h
  | y :: r, t, s, h => by
    by_cases e : y = s
    · simp [idx, e]
    · have h' : inL r s = true := by
        rw [inL_iff] at h ⊢
        rcases List.mem_cons.1 h with h | h
        · exact absurd h.symm e
        · exact h
      have := idx_pre (t := t) h'
      simp only [List.cons_append, idx, if_neg e, this]
theorem pre_in {l m : List ByteArray} {s : ByteArray} (h : l <+: m) (hs : inL l s = true) : inL m s = true ∧ num m s = num l s := by
  obtain ⟨t, rfl⟩ := h
  have h1 : inL (l ++ t) s = true := by
    rw [inL_iff] at hs ⊢
    exact List.mem_append_left _ hs
  refine ⟨h1, ?_⟩
  unfold num
  rw [if_pos h1, if_pos hs, idx_pre hs]
theorem wthJ_in (ns : List ByteArray) (g : Gf) (met : List Int) {i j : Nat} (h : i < j) (hs : (g.nodes.getD (met.getD i 0).toNat nd0).name.size ≠ 0) : inL (wthJ ns g met j) (g.nodes.getD (met.getD i 0).toNat nd0).name = true := by
  have h1 : inL (wthJ ns g met (i + 1)) (g.nodes.getD (met.getD i 0).toNat nd0).name = true := by
    show inL (wth1 _ _) _ = true
    unfold wth1
    split
    · rename_i h2
      rcases h2 with h2 | h2
      · exact h2
      · exact absurd h2 hs
    · rw [inL_iff]
      simp
  have h2 := wthJ_pre ns g met (i + 1) (j - (i + 1))
  rw [show i + 1 + (j - (i + 1)) = j by omega] at h2
  exact (pre_in h2 h1).1
def plN (g : Gf) (met : List Int) (b : Nat) (x : Int) : Nat := b + wantJ g met (pos met x)
def cwX (ns : List ByteArray) (g : Gf) (met : List Int) (b : Nat) (x : Int) : Int := cwF ns (g.nodes.getD x.toNat nd0) (plN g met b x)
def nwX (ns : List ByteArray) (g : Gf) (met : List Int) (b : Nat) (x : Int) : List Int :=
  if (g.nodes.getD x.toNat nd0).kind = 1 then [8 * (plN g met b x : Int)]
  else if (g.nodes.getD x.toNat nd0).kind = 4 then fwF ns (g.nodes.getD x.toNat nd0) :: (g.nodes.getD x.toNat nd0).args.map (cwX ns g met b) else []
def putW (ns : List ByteArray) (g : Gf) (met : List Int) (b : Nat) : List Int := g.roots.map (cwX ns g met b) ++ met.flatMap (nwX ns g met b)
section
variable {ns : List ByteArray} {g : Gf} {met : List Int} {b : Nat}
theorem nwX_len (x : Int) : (nwX ns g met b x).length = szN (g.nodes.getD x.toNat nd0) := by
  unfold nwX szN
  split
  · rfl
  · split
    · simp
      omega
    · rfl
theorem take_snocD {j : Nat} (h : j < met.length) : met.take (j + 1) = met.take j ++ [met.getD j 0] := by
  rw [List.take_add_one]
  simp [List.getD, h]
theorem want_flat : ∀ j, j ≤ met.length → wantJ g met j = g.roots.length + ((met.take j).flatMap (nwX ns g met b)).length
  | 0, _ => by simp [wantJ]
  | j + 1, h => by
    have ih := want_flat j (by omega)
    show wantJ g met j + _ = _
    rw [take_snocD (by omega), List.flatMap_append, List.length_append, ih]
    simp [nwX_len]
    omega
theorem putW_len : (putW ns g met b).length = wantJ g met met.length := by
  rw [want_flat (ns := ns) (b := b) _ (Nat.le_refl _), List.take_length]
  simp [putW]
theorem putW_root {i : Nat} (h : i < g.roots.length) : (putW ns g met b).getD i 0 = cwX ns g met b (g.roots.getD i 0) := by
  simp [putW, List.getD, h, List.getElem?_append_left]
theorem want_mono : ∀ (i d : Nat), wantJ g met i ≤ wantJ g met (i + d)
  | _, 0 => Nat.le_refl _
  | i, d + 1 => Nat.le_trans (want_mono i d) (Nat.le_add_right _ _)
theorem want_next {i j : Nat} (h : i < j) : wantJ g met i + szN (g.nodes.getD (met.getD i 0).toNat nd0) ≤ wantJ g met j := by
  have := want_mono (g := g) (met := met) (i + 1) (j - (i + 1))
  rw [show i + 1 + (j - (i + 1)) = j by omega] at this
  exact this
theorem want_root (j : Nat) : g.roots.length ≤ wantJ g met j := by
  have := want_mono (g := g) (met := met) 0 j
  rw [Nat.zero_add] at this
  exact this
theorem putW_node {j r : Nat} (hj : j < met.length) (hr : r < szN (g.nodes.getD (met.getD j 0).toNat nd0)) : (putW ns g met b).getD (wantJ g met j + r) 0 = (nwX ns g met b (met.getD j 0)).getD r 0 := by
  have h1 : met.flatMap (nwX ns g met b) = (met.take j).flatMap (nwX ns g met b) ++ (nwX ns g met b (met.getD j 0) ++ (met.drop (j + 1)).flatMap (nwX ns g met b)) := by
    have e : met.flatMap (nwX ns g met b) = (met.take j ++ met.drop j).flatMap (nwX ns g met b) := by rw [List.take_append_drop]
    rw [e, drop_step hj]
    simp
  have h2 := want_flat (ns := ns) (b := b) (g := g) (met := met) j (by omega)
  unfold putW
  rw [h1, h2]
  have h3 : r < (nwX ns g met b (met.getD j 0)).length := by rw [nwX_len]; exact hr
  generalize (met.take j).flatMap (nwX ns g met b) = F
  generalize (met.drop (j + 1)).flatMap (nwX ns g met b) = H
  generalize nwX ns g met b (met.getD j 0) = M at *
  have h4 : (g.roots.map (cwX ns g met b)).length = g.roots.length := by simp
  generalize g.roots.map (cwX ns g met b) = K at *
  simp only [List.getD]
  rw [List.getElem?_append_right (by omega), List.getElem?_append_right (by omega), List.getElem?_append_left (by omega)]
  congr 2
  omega
theorem want_cover : ∀ (j c : Nat), c < wantJ g met j → c < g.roots.length ∨ ∃ i r, i < j ∧ r < szN (g.nodes.getD (met.getD i 0).toNat nd0) ∧ c = wantJ g met i + r
  | 0, c, h => Or.inl h
  | j + 1, c, h => by
    by_cases h1 : c < wantJ g met j
    · rcases want_cover j c h1 with h2 | ⟨i, r, h2, h3, h4⟩
      · exact Or.inl h2
      · exact Or.inr ⟨i, r, by omega, h3, h4⟩
    · have h2 : c < wantJ g met j + szN (g.nodes.getD (met.getD j 0).toNat nd0) := h
      exact Or.inr ⟨j, c - wantJ g met j, by omega, by omega, by omega⟩
end
def mixW (T : List Int) (b c : Nat) : List Int := T.take c ++ frsh (b + c) (T.length - c)
theorem mix_len {T : List Int} {b c : Nat} (h : c ≤ T.length) : (mixW T b c).length = T.length := by
  simp [mixW, frsh_len]
  omega
theorem mix_zero (T : List Int) (b : Nat) : mixW T b 0 = frsh b T.length := by simp [mixW]
theorem mix_full (T : List Int) (b : Nat) : mixW T b T.length = T := by simp [mixW, frsh]
theorem frsh_cons (s k : Nat) : frsh s (k + 1) = 8 * (s : Int) :: frsh (s + 1) k := by
  unfold frsh
  rw [List.range_succ_eq_map, List.map_cons, List.map_map]
  congr 1
  apply List.map_congr_left
  intro i _
  simp
  omega
theorem mix_split {T : List Int} {b c : Nat} (h : c < T.length) : mixW T b c = T.take c ++ 8 * ((b + c : Nat) : Int) :: frsh (b + (c + 1)) (T.length - (c + 1)) := by
  unfold mixW
  rw [show T.length - c = (T.length - (c + 1)) + 1 by omega, frsh_cons, show b + c + 1 = b + (c + 1) by omega]
theorem mix_next {T : List Int} {b c : Nat} (h : c < T.length) : mixW T b (c + 1) = T.take c ++ T.getD c 0 :: frsh (b + (c + 1)) (T.length - (c + 1)) := by
  unfold mixW
  rw [take_snocD h, List.append_assoc]
  rfl
theorem mix_set {l T : List Int} {c : Nat} (h : c < T.length) : (l ++ mixW T l.length c).set (l.length + c) (T.getD c 0) = l ++ mixW T l.length (c + 1) := by
  rw [mix_split h, mix_next h, List.set_append_right _ _ (by omega), show l.length + c - l.length = c by omega, List.set_append_right _ _ (by simp; omega)]
  have e : c - (T.take c).length = 0 := by simp; omega
  rw [e, List.set_cons_zero]
theorem mix_skip {T : List Int} {b c : Nat} (h : c < T.length) (e : T.getD c 0 = 8 * ((b + c : Nat) : Int)) : mixW T b c = mixW T b (c + 1) := by
  rw [mix_split h, mix_next h, e]
end Go.Proofs.YtgmldkojldlekaaGreatDoor
