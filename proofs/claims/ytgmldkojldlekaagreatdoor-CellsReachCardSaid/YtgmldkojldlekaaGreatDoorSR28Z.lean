/- The fixed fact of layer 11, as plain data. -/
import Derived.Deep.CutRange
import Derived.Test.YtgmldkojldlekaaGreatDoorSR26Z
import Derived.Test.YtgmldkojldlekaaGreatDoorSR27Z
namespace Go.Proofs.YtgmldkojldlekaaGreatDoor
set_option maxRecDepth 100000
open Go.RowKit
abbrev fSC : ByteArray := ⟨#[102]⟩
def gL : Gf := ⟨[⟨4, fSC, 0, [0, 1]⟩, ⟨1, ⟨#[]⟩, 0, []⟩], [0]⟩
theorem gL_good : Good gL := by
  have hf : goodS fSC = true := by decide
  refine ⟨by decide, by decide, fun n hn => ?_, fun x hx => ?_⟩
  · have h : n = ⟨4, fSC, 0, [0, 1]⟩ ∨ n = ⟨1, ⟨#[]⟩, 0, []⟩ := by simpa [gL] using hn
    rcases h with rfl | rfl
    · simp [goodNd, hf, strange, gL]
    · simp [goodNd, ByteArray.toList_eq]
  · have h : x = 0 := by simpa [gL] using hx
    subst h
    decide
theorem gL_met : metF gL = [0, 1] := by simp [metF, gL, meetF, Gf.argsOf]
theorem gL_ns : wthJ [] gL (metF gL) (metF gL).length = [fSC] := by
  rw [gL_met]
  decide
theorem gL_want : wantJ gL (metF gL) (metF gL).length = 5 := by
  rw [gL_met]
  decide
abbrev lL1 : List Int := [11, 20, 11, 32, 32]
abbrev lL2 : List Int := [11, 20, 11, 32, 11]
theorem gL_w : putW [fSC] gL (metF gL) 0 = lL1 := by
  rw [gL_met]
  decide
theorem gL_pm : PmC (wthJ [] gL (metF gL) (metF gL).length) gL (metF gL) 0 := pmc_of gL_good (by rw [gL_met]; decide) (by rw [gL_want]; decide)
theorem sndL0 : Snd [] (fun _ => false) := ⟨fun _ h => absurd h (Nat.not_lt_zero _), (fun _ h => by cases h), fun _ h => absurd h (Nat.not_lt_zero _), fun _ h => absurd h (Nat.not_lt_zero _), fun _ h => absurd h (Nat.not_lt_zero _), fun _ h => absurd h (Nat.not_lt_zero _), fun _ h => absurd h (Nat.not_lt_zero _)⟩
abbrev vL : Nat → Bool := vrP gL (metF gL) 0 (fun _ => false)
theorem sndL1 : Snd lL1 vL := by
  have h := put_snd (l := []) sndL0 gL_pm
  rw [gL_ns] at h
  rw [show ([] : List Int).length = 0 from rfl, gL_w] at h
  exact h
theorem vL4 : vL 4 = true := by
  show vrP gL (metF gL) 0 (fun _ => false) 4 = true
  rw [gL_met]
  decide
theorem trL14 : trmW lL1 4 = 32 := by decide +kernel
theorem trL10 : trmW lL1 0 = 11 := by decide +kernel
theorem trL23 : trmW lL2 3 = 11 := by decide +kernel
theorem trL22 : trmW lL2 2 = 11 := by decide +kernel
theorem trL20 : trmW lL2 0 = 11 := by decide +kernel
theorem sndL2 : Snd lL2 vL := snd_bind (l := lL1) (j := 4) (x := 11) sndL1 (by decide) vL4 (by decide) (by decide +kernel) (by decide +kernel) (fun e => absurd e (by decide +kernel)) (fun _ => ⟨by decide +kernel, Or.inl (by decide +kernel)⟩)
theorem five {P : Nat → Prop} (h0 : P 0) (h1 : P 1) (h2 : P 2) (h3 : P 3) (h4 : P 4) : ∀ k, k < 5 → P k := fun k hk => by
  have : k = 0 ∨ k = 1 ∨ k = 2 ∨ k = 3 ∨ k = 4 := by omega
  rcases this with rfl | rfl | rfl | rfl | rfl <;> assumption
theorem nsL2 : NsB lL2 ([fSC] : List ByteArray).length := ⟨five (by decide +kernel) (by decide +kernel) (by decide +kernel) (by decide +kernel) (by decide +kernel), five (by decide +kernel) (by decide +kernel) (by decide +kernel) (by decide +kernel) (by decide +kernel)⟩
theorem tdL2 : tdL lL2 11 = [2, 3] := by decide +kernel
theorem oneL {TS : List Int} (h : Rfi lL2 [0] TS) : TS = [11] := by
  have h1 : ∀ t ∈ TS, t = 11 := h.mn (fun t => t = 11) (fun c hc => by
    have e : c = 0 := by simpa using hc
    subst e
    exact trL20) (fun t ht c hc => by
    subst ht
    rw [tdL2] at hc
    have e : c = 2 ∨ c = 3 := by simpa using hc
    rcases e with rfl | rfl
    · exact trL22
    · exact trL23)
  have h2 := h.root 0 (by simp)
  have h3 := h.nodup
  match TS, h1, h2, h3 with
  | [], _, h2, _ => cases h2
  | [x], h1, _, _ => rw [h1 x (by simp)]
  | x :: y :: r, h1, _, h3 =>
    have ex := h1 x (by simp)
    have ey := h1 y (by simp)
    subst ex
    rw [List.nodup_cons] at h3
    exact absurd (by rw [ey]; simp) h3.1
theorem lenL {TS : List Int} (h : Rfi lL2 [0] TS) {ns : List ByteArray} (hg : Good (rdG lL2 ns [0] TS)) {ee : Nat → Nat → Bool} (he : ∀ x y : Nat, (ee x y = true ↔ Al (rdG lL2 ns [0] TS) (x : Int) (y : Int))) : (trimF (quoF ee (rdG lL2 ns [0] TS))).nodes.length = 1 := by
  have hev := al_eqv hg he
  have hq := quo_good hg hev
  have hl := trim_len hq
  have h1 := (met_ok hq).le
  rw [quo_len] at h1
  have h2 := lsF_le ee (rdG lL2 ns [0] TS).nodes.length
  rw [rd_nodes h, oneL h] at h2
  rw [rd_nodes h, oneL h] at h1
  have h3 : 1 ≤ (metF (quoF ee (rdG lL2 ns [0] TS))).length := by
    have hr : (quoF ee (rdG lL2 ns [0] TS)).roots.length = 1 := by simp [quoF, rdG]
    have := met_root hq _ (getD_mem (l := (quoF ee (rdG lL2 ns [0] TS)).roots) (k := 0) (by omega))
    exact List.length_pos_of_mem this
  have h4 : ([11] : List Int).length = 1 := rfl
  rw [oneL h] at *
  omega
end Go.Proofs.YtgmldkojldlekaaGreatDoor

namespace Go.Proofs.YtgmldkojldlekaaGreatDoor
set_option maxRecDepth 100000
open Go.RowKit
structure Wb (w1 wc : World) (B bx tb : Nat) (tv : Value) (tq : Nat) (ns' : List ByteArray) (tb' : Nat) (tv' : Value) (tq' : Nat) : Prop where
  b : Below w1.heap.size w1 wc
  x : wc.heap[bx]? = some (.cells #[.pointer (some ⟨tb', 0, none⟩)] 81)
  f : w1.heap.size ≤ bx
  t : Tb wc B tb' tv' tq' ns'
  o : (tb' = tb ∧ tv' = tv ∧ tq' = tq) ∨ ∀ k ∈ n_foot tb' tv' tq', w1.heap.size ≤ k
theorem tb_foot {w : World} {B p q : Nat} {v : Value} {l : List ByteArray} (h : Tb w B p v q l) : ∀ k ∈ n_foot p v q, B ≤ k := fun k hk => by
  rcases n_mem_foot.1 hk with rfl | rfl | hk
  · exact h.base
  · exact h.mbase
  · exact (h.row hk).1
theorem with_tb {w1 wq w3 : World} {B p q p' q' : Nat} {v v' : Value} {ns ns' : List ByteArray} (hT : Tb w1 B p v q ns) (hB : B ≤ w1.heap.size) (hb : Below w1.heap.size w1 wq) (hb3 : Below wq.heap.size wq w3) (h : (p' = p ∧ v' = v ∧ q' = q ∧ ns' = ns) ∨ Tb w3 wq.heap.size p' v' q' ns') : Tb w3 B p' v' q' ns' ∧ ((p' = p ∧ v' = v ∧ q' = q) ∨ ∀ k ∈ n_foot p' v' q', wq.heap.size ≤ k) := by
  rcases h with ⟨rfl, rfl, rfl, rfl⟩ | h
  · exact ⟨hT.below (Below.next hb hb3), Or.inl ⟨rfl, rfl, rfl⟩⟩
  · exact ⟨tb_base h (Nat.le_trans hB hb.size), Or.inr (tb_foot h)⟩
theorem wb_call {w1 wq w3 : World} {B p q p' q' : Nat} {v v' : Value} {ns ns' : List ByteArray} (hT : Tb w1 B p v q ns) (hB : B ≤ w1.heap.size) (hb : Below w1.heap.size w1 wq) (hb3 : Below wq.heap.size wq w3) (h : (p' = p ∧ v' = v ∧ q' = q ∧ ns' = ns) ∨ Tb w3 wq.heap.size p' v' q' ns') : Wb w1 (w3.alloc (.cells #[.pointer (some ⟨p', 0, none⟩)] 81)) B w3.heap.size p v q ns' p' v' q' := by
  obtain ⟨h1, h2⟩ := with_tb hT hB hb hb3 h
  have hz := hb.size
  have hz3 := hb3.size
  refine ⟨Below.next (Below.next hb hb3) (below_alloc _ _), heap_alloc_new _ _, by omega, h1.below (below_alloc _ _), ?_⟩
  rcases h2 with h2 | h2
  · exact Or.inl h2
  · exact Or.inr (fun k hk => Nat.le_trans hz (h2 k hk))
theorem wb_box {w1 wq w3 : World} {B p q p' q' bx : Nat} {v v' : Value} {ns ns' : List ByteArray} {u : Value} (hT : Tb w1 B p v q ns) (hB : B ≤ w1.heap.size) (hb : Below w1.heap.size w1 wq) (hx : wq.heap[bx]? = some (.cells #[u] 81)) (hf : w1.heap.size ≤ bx) (hb3 : Below wq.heap.size wq w3) (h : (p' = p ∧ v' = v ∧ q' = q ∧ ns' = ns) ∨ Tb w3 wq.heap.size p' v' q' ns') : Wb w1 (w3.setCell ⟨bx, 0, none⟩ (.pointer (some ⟨p', 0, none⟩))) B bx p v q ns' p' v' q' := by
  obtain ⟨h1, h2⟩ := with_tb hT hB hb hb3 h
  have hz := hb.size
  have hx3 := (hb3.block _ (lt_of_block hx)).trans hx
  refine ⟨(Below.next hb hb3).setCell (p := ⟨bx, 0, none⟩) hf _, heap_setCell_same w3 bx 0 _ _ _ hx3, hf, h1.keep (ks := [bx]) ((n_Mod.refl _ w3).setCell (p := ⟨bx, 0, none⟩) (Or.inl (by simp)) _) (fun k hk hf2 => ?_), ?_⟩
  · have e : k = bx := by simpa using hk
    subst e
    have hlt := lt_of_block hx
    rcases h2 with ⟨rfl, rfl, rfl⟩ | h2
    · rcases n_mem_foot.1 hf2 with e | e | e
      · have := hT.lt
        omega
      · have := hT.mlt
        omega
      · have := (hT.row e).2.1
        omega
    · have := h2 k hf2
      omega
  · rcases h2 with h2 | h2
    · exact Or.inl h2
    · exact Or.inr (fun k hk => Nat.le_trans hz (h2 k hk))
theorem set_far (w : World) (v : Value) {q i k o : Nat} (h : k ≠ q) : (w.setCell ⟨q, i, none⟩ v).cell? ⟨k, o, none⟩ = w.cell? ⟨k, o, none⟩ := World.cell?_of_block (w := w) (a := ⟨k, o, none⟩) (Below.heap_setCell _ _ _ _ h)
theorem box_cell {w1 w3 : World} (h : Below (w1.alloc (.cells #[.pointer none] 81)).drew.heap.size (w1.alloc (.cells #[.pointer none] 81)).drew w3) : w3.heap[w1.heap.size]? = some (.cells #[.pointer none] 81) ∧ w3.cell? ⟨w1.heap.size, 0, none⟩ = some (.pointer none) ∧ w3.frozen? ⟨w1.heap.size, 0, none⟩ = false := by
  have h0 : w3.heap[w1.heap.size]? = some (.cells #[.pointer none] 81) := (h.block _ (show w1.heap.size < (w1.alloc _).heap.size by simp)).trans (heap_alloc_new w1 _)
  exact ⟨h0, by simp [World.cell?, h0], by simp [World.frozen?, h0]⟩
theorem met_none {g : Gf} (h : g.roots = []) : metF g = [] := by
  unfold metF
  rw [h]
  cases g.nodes.length <;> rfl
section
variable {w1 wc w4 w5 : World} {B hb ab tb bx tb' tq' : Nat} {m : Int} {av av' : Value} {l l' : List Int} {tv tv' : Value} {tq : Nat} {ns ns' : List ByteArray} {trv ptv : Value} {n : Int}
theorem put_lay {W w1 wc w4 w5 : World} {B hb ab tb tb' : Nat} {m : Int} {av av' : Value} {l : List Int} {tv tv' : Value} {tq tq' : Nat} {ns NS : List ByteArray} {trv ptv : Value} {n : Int} {nv rv : Value} {g : Gf} {avs : Nat → Value} {MT : List Int} {CT mc : Nat} {mo : Option Addr}
    (HH : Hp W B hb ab tb m av l tv tq ns trv ptv n) (HGk : ∀ w', a_Mod (hb :: a_foot ab av) W w' → Gra w' nv rv g avs) (Hbw : Below W.heap.size W wc) (Hb4 : Below wc.heap.size wc w4) (HU : a_Upd 126 w4 w5 B ab m av (l ++ frsh l.length CT) av')
    (HP : Hp (w5.setCell ⟨hb, 1, none⟩ (.pointer (some ⟨tb', 0, none⟩))) B hb ab tb' m av' (l ++ frsh l.length CT) tv' tq' NS trv ptv n) {B1 : Nat} (Ho1 : w1.ownsRow B1 3 1 (.slice mo MT.length mc) MT.length (MT.map (Value.int .i64))) (Hb1 : Below W.heap.size W w1) (Hb2 : Below w1.heap.size w1 wc) (hB1 : W.heap.size ≤ B1)
    (Hg : Good g) (Hok : Ok g.nodes.length MT) (Hro : ∀ x ∈ g.roots, x ∈ MT) (Har : ∀ x ∈ MT, ∀ y ∈ g.argsOf x, y ∈ MT) (hTl : (putW NS g MT l.length).length = CT)
    (HTr : ∀ c, c < (putW NS g MT l.length).length → 0 ≤ (putW NS g MT l.length).getD c 0 ∧ (putW NS g MT l.length).getD c 0 ≤ 18446744073709551615 ∧ mayB ((putW NS g MT l.length).getD c 0) (l.length + (putW NS g MT l.length).length) = true) :
    Calls Tryz.prog 52 #[.pointer (some ⟨hb, 0, none⟩), .agg #[nv, rv], .slice mo MT.length mc, .int .i64 (l.length : Int)] (w5.setCell ⟨hb, 1, none⟩ (.pointer (some ⟨tb', 0, none⟩))) fun e w' => ∃ ao c, e = .returned (.slice ao g.roots.length c) ∧ w'.ownsRow W.heap.size 3 1 (.slice ao g.roots.length c) g.roots.length (((List.range g.roots.length).map (fun i => ((l.length + i : Nat) : Int))).map (Value.int .i64)) ∧ Hp w' B hb ab tb' m av' (l ++ putW NS g MT l.length) tv' tq' NS trv ptv n ∧ a_Mod (hb :: a_foot ab av) W w' ∧ a_Nx W av av' := by
  obtain ⟨z0, z1, z2⟩ := HH.ltz
  have hz1 := Hb1.size
  have hz2 := Hb2.size
  have hz4 := Hb4.size
  have hnx : a_Nx W av av' := fun k hk => by
    rcases HU.nx k hk with h | h
    · exact Or.inl h
    · exact Or.inr (by omega)
  have hm5 : a_Mod (hb :: a_foot ab av) W w5 := (a_Mod.ofBelow (Below.next Hbw Hb4)).trans HU.mod (fun x hx => Or.inl (List.mem_cons_of_mem _ hx))
  have hm6 : a_Mod (hb :: a_foot ab av) W (w5.setCell ⟨hb, 1, none⟩ (.pointer (some ⟨tb', 0, none⟩))) := hm5.setCell (p := ⟨hb, 1, none⟩) (Or.inl (by simp)) _
  have hm65 : a_Mod (hb :: a_foot ab av) w4 (w5.setCell ⟨hb, 1, none⟩ (.pointer (some ⟨tb', 0, none⟩))) := (HU.mod.ofMem _ (fun x hx => Or.inl (List.mem_cons_of_mem _ hx))).setCell (p := ⟨hb, 1, none⟩) (Or.inl (by simp)) _
  generalize w5.setCell ⟨hb, 1, none⟩ (.pointer (some ⟨tb', 0, none⟩)) = w6 at *
  have hfo : ∀ x ∈ a_foot ab av', x ∈ hb :: a_foot ab av ∨ w4.heap.size ≤ x := fun x hx => by
    rcases a_mem_foot.1 hx with rfl | hx
    · exact Or.inl (List.mem_cons_of_mem _ (a_mem_foot.2 (Or.inl rfl)))
    · rcases HU.nx x hx with h | h
      · exact Or.inl (List.mem_cons_of_mem _ (a_mem_foot.2 (Or.inr h)))
      · exact Or.inr h
  have hH6 : Hp w6 B hb ab tb' m av' (l ++ mixW (putW NS g MT l.length) l.length 0) tv' tq' NS trv ptv n := by
    rw [mix_zero, hTl]
    exact HP
  have hlw : ∀ w', a_Mod (a_foot ab av') w6 w' → a_Mod (hb :: a_foot ab av) w4 w' := fun w' h => hm65.trans h hfo
  have hal : ∀ w', a_Mod (a_foot ab av') w6 w' → a_Mod (hb :: a_foot ab av) W w' := fun w' h => hm6.trans h (fun x hx => by
    rcases hfo x hx with h1 | h1
    · exact Or.inl h1
    · exact Or.inr (by omega))
  have hri4 : ∀ w', a_Mod (hb :: a_foot ab av) w4 w' → Ri w' (.slice mo MT.length mc) MT := fun w' h => by
    have ho4 := row_keep Ho1 (fun k hk => (Below.next Hb2 Hb4).block k (Ho1.lt k hk).2)
    refine ri_own (row_keep ho4 (fun k hk => h.block k (ho4.lt k hk).2 (fun hx => ?_)))
    have h1 := (Ho1.lt k hk).1
    rcases List.mem_cons.1 hx with rfl | hx
    · omega
    · have := z1 _ hx
      omega
  refine (lay_ok (putW NS g MT l.length) hH6 (fun w' h => HGk w' (hal w' h)) (fun w' h => hri4 w' (hlw w' h)) Hg Hok.rng Hok.nodup Hro Har rfl HTr).mono ?_
  rintro e w7 ⟨⟨ao, c, rfl, ho⟩, hp, hm⟩
  exact ⟨ao, c, rfl, own_base ho (by have := hm6.size; omega), hp, hal _ hm, hnx⟩
theorem hp_named (H : Hp w1 B hb ab tb m av l tv tq ns trv ptv n) (hW : Wb w1 wc B bx tb tv tq ns' tb' tv' tq') (hb4 : Below wc.heap.size wc w4) (hu : a_Upd 126 w4 w5 B ab m av l' av') :
    Hp (w5.setCell ⟨hb, 1, none⟩ (.pointer (some ⟨tb', 0, none⟩))) B hb ab tb' m av' l' tv' tq' ns' trv ptv n ∧ w5.cell? ⟨bx, 0, none⟩ = some (.pointer (some ⟨tb', 0, none⟩)) ∧ w5.cell? ⟨hb, 1, none⟩ = some (.pointer (some ⟨tb, 0, none⟩)) ∧ w5.frozen? ⟨hb, 1, none⟩ = false ∧ bx < w5.heap.size := by
  have hb14 := Below.next hW.b hb4
  have H4 := H.below hb14
  obtain ⟨z0, z1, z2⟩ := H.ltz
  have h5 := H4.words hu
  have hbx4 := (hb4.block _ (lt_of_block hW.x)).trans hW.x
  have hbx : w5.heap[bx]? = some (.cells #[.pointer (some ⟨tb', 0, none⟩)] 81) := (hu.mod.block _ (lt_of_block hbx4) (fun hx => by have := z1 _ hx; have := hW.f; omega)).trans hbx4
  have hof : ∀ k ∈ n_foot tb' tv' tq', k ≠ hb ∧ k ∉ a_foot ab av := fun k hk => by
    rcases hW.o with ⟨rfl, rfl, rfl⟩ | h
    · exact ⟨fun e => H.self.2 (e ▸ hk), fun hx => (H.apart hx).2 hk⟩
    · have := h k hk
      exact ⟨by omega, fun hx => by have := z1 _ hx; omega⟩
  have hT5 : Tb w5 B tb' tv' tq' ns' := (hW.t.below hb4).keep (mod_an hu.mod) (fun k hk hf => (hof k hf).2 hk)
  have hm : a_Mod [hb] w5 (w5.setCell ⟨hb, 1, none⟩ (.pointer (some ⟨tb', 0, none⟩))) := (a_Mod.refl [hb] w5).setCell (p := ⟨hb, 1, none⟩) (Or.inl (by simp)) _
  refine ⟨⟨heap_setCell_same w5 hb 1 _ _ _ h5.blk, h5.base, h5.ar.keep hm (fun k hk => by
    have e : k = hb := by simpa using hk
    rw [e]; exact h5.self.1), hT5.keep (mod_an hm) (fun k hk hf => by
    have e : k = hb := by simpa using hk
    exact (hof k hf).1 e)⟩, by simp [World.cell?, hbx], h5.cells.1.2.1, by simp [World.frozen?, h5.blk], lt_of_block hbx⟩
end
section
variable {W : World} {B hb ab tb : Nat} {m : Int} {av : Value} {l : List Int} {tv : Value} {tq : Nat} {ns : List ByteArray} {trv ptv : Value} {n : Int}
set_option maxHeartbeats 16000000 in
theorem put_okG {nv rv : Value} {g : Gf} (hH : Hp W B hb ab tb m av l tv tq ns trv ptv n) (hB : B ≤ W.heap.size) {avs : Nat → Value}
    (hGk : ∀ w', a_Mod (hb :: a_foot ab av) W w' → Gra w' nv rv g avs) (hS : Sized g) (hck : one (chk g) = [])
    (hro : (l.length + wantJ g (metF g) (metF g).length : Int) ≤ m) (hna : (wthJ ns g (metF g) (metF g).length).length ≤ 1024)
    (hTr : ∀ c, c < (putW (wthJ ns g (metF g) (metF g).length) g (metF g) l.length).length → 0 ≤ (putW (wthJ ns g (metF g) (metF g).length) g (metF g) l.length).getD c 0 ∧ (putW (wthJ ns g (metF g) (metF g).length) g (metF g) l.length).getD c 0 ≤ 18446744073709551615 ∧ mayB ((putW (wthJ ns g (metF g) (metF g).length) g (metF g) l.length).getD c 0) (l.length + (putW (wthJ ns g (metF g) (metF g).length) g (metF g) l.length).length) = true) :
    Calls Tryz.prog 21 #[.pointer (some ⟨hb, 0, none⟩), .agg #[nv, rv]] W fun e w' => ∃ ao c av' tb' tv' tq', e = .returned (.tuple #[.slice ao g.roots.length c, .nilIface]) ∧ w'.ownsRow W.heap.size 3 1 (.slice ao g.roots.length c) g.roots.length (((List.range g.roots.length).map (fun i => ((l.length + i : Nat) : Int))).map (Value.int .i64)) ∧ Hp w' B hb ab tb' m av' (l ++ putW (wthJ ns g (metF g) (metF g).length) g (metF g) l.length) tv' tq' (wthJ ns g (metF g) (metF g).length) trv ptv n ∧ a_Mod (hb :: a_foot ab av) W w' ∧ a_Nx W av av' ∧ ((tb' = tb ∧ tv' = tv ∧ tq' = tq) ∨ ∀ k ∈ n_foot tb' tv' tq', W.heap.size ≤ k) := by
  have hg := chk_good hck
  have hok := met_ok hg
  have hml := hok.le
  have hN : g.nodes.length ≤ 4096 := hg.nodes
  have hGr : ∀ w', a_Mod (hb :: a_foot ab av) W w' → Gr w' nv rv g := fun w' h => (hGk w' h).gr
  have hb0 := below_alloc W (.cells #[nv, rv] 30)
  have hre := hid (reach_good (hGr _ (a_Mod.ofBelow hb0)) hS hck)
  have HGk := hid hGk
  have HGr := hid hGr
  have HH := hid hH
  have Hg := hid hg
  have Hro := hid (met_root hg)
  have Har := hid (met_arg hg)
  have Hok := hid hok
  have HTr := hid hTr
  obtain ⟨na, nc, rfl, _⟩ := (hGk W (a_Mod.refl _ _)).1
  obtain ⟨ra, rc, rfl, _⟩ := (hGk W (a_Mod.refl _ _)).2
  have hx0 := hid (heap_alloc_new W (.cells #[.slice na g.nodes.length nc, .slice ra g.roots.length rc] 30))
  have Hb0 := hid hb0
  obtain ⟨MT, hMT⟩ : ∃ MT, MT = metF g := ⟨_, rfl⟩
  rw [← hMT] at hre Hro Har Hok HTr hml hna hro
  rw [← hMT]
  obtain ⟨NS, hNS⟩ : ∃ NS, NS = wthJ ns g MT MT.length := ⟨_, rfl⟩
  rw [← hNS] at HTr
  rw [← hNS]
  replace hNS := hid hNS
  replace hMT := hid hMT
  clear hg hok hGr hGk hH hTr hb0 hS hck
  go_enter Tryz.func21, Tryz.ntmps21
  go_wp2_with (go_at_call 48; refine hre.out.mono ?_; rintro e w1 ⟨⟨mo, mc, rfl, ho1⟩, hb1⟩; have Hb1 := hid (Below.next Hb0.out hb1); have Ho1 := hid ho1; have Hx1 := hid ((hb1.block _ (by simp)).trans hx0.out); clear ho1 hb1)
  obtain ⟨⟨x0, x1⟩, _⟩ := cblk2 Hx1.out
  have HH1 := hid (HH.out.below Hb1.out)
  obtain ⟨⟨h0, h1, _⟩, zh⟩ := HH1.out.cells
  have zx := lt_of_block Hx1.out
  have hri : Hid (Ri w1 (.slice mo MT.length mc) MT) := ri_own Ho1.out
  have hwi := hid (fun wq (hbq : Below w1.heap.size w1 wq) => with_okG (HH1.out.tb.below hbq) (by have := Hb1.out.size; have := hbq.size; omega) (HGr.out wq (a_Mod.ofBelow (Below.next Hb1.out hbq))) Hg.out (hri.out.below hbq) Hok.out.rng (by omega) hna)
  rw [← hNS.out] at hwi
  have hBz : B ≤ w1.heap.size := by have := Hb1.out.size; omega
  go_cut [8, 7] from 24 to 32 (fun s8 s7 wc => ∃ bx tb' tv' tq', s8 = .pointer (some ⟨bx, 0, none⟩) ∧ s7 = .nilIface ∧ Hid (Wb w1 wc B bx tb tv tq NS tb' tv' tq'))
  case first =>
    go_region_held3 (fun w' => w'.cell? ⟨hb, 1, none⟩ = some (.pointer (some ⟨tb, 0, none⟩)) ∧ w'.cell? ⟨W.heap.size, 0, none⟩ = some (.slice na g.nodes.length nc) ∧ w'.cell? ⟨W.heap.size, 1, none⟩ = some (.slice ra g.roots.length rc)) (first | exact ⟨h1, x0, x1⟩ | exact ⟨(set_far _ _ (by omega)).trans h1, (set_far _ _ (by omega)).trans x0, (set_far _ _ (by omega)).trans x1⟩ | go_keep)
      (first
        | (go_at_call 49; refine (hwi.out _ ?_).mono ?_; exact (Below.refl _ _).drew; rintro e w3 ⟨⟨tb', tv', tq', rfl, ht⟩, hb3⟩; have HE := hid (wb_call HH1.out.tb hBz (Below.refl _ _).drew hb3 ht); have HB5 := hid (Below.next (Below.refl _ _).drew hb3); clear ht; replace h1 := (HB5.out.cell (p := ⟨hb, 1, none⟩) zh).trans h1; replace x0 := (HB5.out.cell (p := ⟨W.heap.size, 0, none⟩) zx).trans x0; replace x1 := (HB5.out.cell (p := ⟨W.heap.size, 1, none⟩) zx).trans x1; clear hb3)
        | (go_at_call 49; refine (hwi.out _ ?_).mono ?_; exact (below_alloc w1 _).drew; rintro e w3 ⟨⟨tb', tv', tq', rfl, ht⟩, hb3⟩; have HE := hid (wb_box HH1.out.tb hBz (below_alloc w1 _).drew (heap_alloc_new w1 _) (Nat.le_refl _) hb3 ht); obtain ⟨bx3, bx4, bx5⟩ := box_cell hb3; have HB5 := hid (Below.next (below_alloc w1 _).drew hb3); clear ht; replace h1 := (HB5.out.cell (p := ⟨hb, 1, none⟩) zh).trans h1; replace x0 := (HB5.out.cell (p := ⟨W.heap.size, 0, none⟩) zx).trans x0; replace x1 := (HB5.out.cell (p := ⟨W.heap.size, 1, none⟩) zx).trans x1; clear hb3))
    all_goals go_wp2_with fail
    all_goals go_meet
    all_goals exact ⟨_, tb', tv', tq', rfl, rfl, HE⟩
  case rest =>
    obtain ⟨bx, tb', tv', tq', rfl, rfl, hW⟩ := hcut
    have Hbw := hid (Below.next Hb1.out hW.out.b)
    obtain ⟨⟨y0, y1⟩, _⟩ := cblk2 ((hW.out.b.block _ zx).trans Hx1.out)
    have zy := lt_of_block ((hW.out.b.block _ zx).trans Hx1.out)
    obtain ⟨⟨k0, _⟩, zk⟩ := (HH1.out.below hW.out.b).cells
    have hric := hid (hri.out.below hW.out.b)
    have hwa := hid (wanted_any (HGr.out wc (a_Mod.ofBelow Hbw.out)) Hg.out hric.out Hok.out.rng (by omega))
    have hwle := want_le Hg.out (met := MT) MT.length
    have hrr := want_root (g := g) (met := MT) MT.length
    have hrl : g.roots.length ≤ 4096 := Hg.out.roots
    have HHc := hid (HH1.out.below hW.out.b)
    have hTl : Hid ((putW NS g MT l.length).length = wantJ g MT MT.length) := putW_len
    by_cases hc0 : wantJ g MT MT.length = 0
    · have hr0 : g.roots.length = 0 := by omega
      have hT0 : putW NS g MT l.length = [] := List.eq_nil_of_length_eq_zero (by rw [hTl.out]; exact hc0)
      have hM0 : NS = ns := by
        rw [hNS.out, hMT.out, met_none (List.eq_nil_of_length_eq_zero hr0)]
        rfl
      have HF : Hid (Hp wc B hb ab tb m av (l ++ putW NS g MT l.length) tv tq NS trv ptv n) := show Hp _ _ _ _ _ _ _ _ _ _ _ _ _ _ by
        rw [hT0, hM0, List.append_nil]
        exact HHc.out
      rw [hc0] at hwa
      have Hr0 := hid hr0
      clear hro hna hwle hrr hr0 hT0 hM0 hTl hc0
      go_wp2_with (go_at_call 50; refine hwa.out.mono ?_; rintro e w4 ⟨rfl, hb4⟩; have Hb4 := hid hb4; clear hb4)
      go_ret2
      exact ⟨none, 0, av, tb, tv, tq, by rw [Hr0.out]; rfl, by rw [Hr0.out]; exact World.ownsRow_nil _ _ _ _, HF.out.below Hb4.out, a_Mod.ofBelow (Below.next Hbw.out Hb4.out), a_Nx.refl _ _, Or.inl ⟨rfl, rfl, rfl⟩⟩
    · obtain ⟨CT, hCT⟩ : ∃ CT, CT = wantJ g MT MT.length := ⟨_, rfl⟩
      rw [← hCT] at hwa hc0 hro hwle hrr hTl
      have hci : ¬ (CT : Int) = 0 := by omega
      have hal := hid (fun w4 (hb4 : Below wc.heap.size wc w4) => alloc_ok (HHc.out.below hb4).ar (by have := hb4.size; have := hW.out.b.size; omega) CT (by omega) (by omega))
      clear hro hna hCT
      have d0 : ((CT : Int) == 0) = false := by simpa using hci
      have ne0 : W.heap.size ≠ hb := by have := HH.out.ltz.1; omega
      have ne1 : hb ≠ W.heap.size := by omega
      have ne2 : bx ≠ hb := by have := HH.out.ltz.1; have := hW.out.f; have := Hb1.out.size; omega
      go_wp2_with (first
        | (go_at_call 50; refine hwa.out.mono ?_; rintro e w4 ⟨rfl, hb4⟩; have Hb4 := hid hb4; obtain ⟨⟨j0, _⟩, zj⟩ := (HHc.out.below hb4).cells; clear hb4)
        | (go_at_call 51; refine (hal.out _ Hb4.out).mono ?_; rintro e w5 ⟨av', rfl, hu⟩; have HU := hid hu; obtain ⟨HP6, bc5, j1, jf, jz⟩ := hp_named HH1.out hW.out Hb4.out hu; have HP := hid HP6; have HX5 := hid ((hu.mod.block _ (Nat.lt_of_lt_of_le zy Hb4.out.size) (fun hx => by have := HH.out.ltz.2.1 _ hx; omega)).trans ((Hb4.out.block _ zy).trans ((hW.out.b.block _ zx).trans Hx1.out))); obtain ⟨⟨q0, q1⟩, _⟩ := cblk2 HX5.out; have zq := lt_of_block HX5.out; clear hu HP6))
      have hlay := hid (put_lay HH.out HGk.out Hbw.out Hb4.out HU.out HP.out Ho1.out Hb1.out hW.out.b (by simp) Hg.out Hok.out Hro.out Har.out hTl.out HTr.out)
      go_wp2_with (go_at_call 52; refine hlay.out.mono ?_; rintro e w7 ⟨ro, rc', rfl, hro7, hp7, hm7, hn7⟩; have H7 := hid (And.intro hro7 (And.intro hp7 (And.intro hm7 hn7))); clear hro7 hp7 hm7 hn7)
      go_ret2
      refine ⟨ro, rc', av', tb', tv', tq', rfl, H7.out.1, H7.out.2.1, H7.out.2.2.1, H7.out.2.2.2, ?_⟩
      rcases hW.out.o with h | h
      · exact Or.inl h
      · exact Or.inr (fun k hk => Nat.le_trans Hb1.out.size (h k hk))
theorem put_ok {nv rv : Value} {g : Gf} (hH : Hp W B hb ab tb m av l tv tq ns trv ptv n) (hB : B ≤ W.heap.size) {avs : Nat → Value}
    (hGk : ∀ w', a_Mod (hb :: a_foot ab av) W w' → Gra w' nv rv g avs) (hS : Sized g) (hck : one (chk g) = [])
    (hro : (l.length + wantJ g (metF g) (metF g).length : Int) ≤ m) (hna : ns.length + (metF g).length ≤ 1024)
    (hTr : ∀ c, c < (putW (wthJ ns g (metF g) (metF g).length) g (metF g) l.length).length → 0 ≤ (putW (wthJ ns g (metF g) (metF g).length) g (metF g) l.length).getD c 0 ∧ (putW (wthJ ns g (metF g) (metF g).length) g (metF g) l.length).getD c 0 ≤ 18446744073709551615 ∧ mayB ((putW (wthJ ns g (metF g) (metF g).length) g (metF g) l.length).getD c 0) (l.length + (putW (wthJ ns g (metF g) (metF g).length) g (metF g) l.length).length) = true) :
    Calls Tryz.prog 21 #[.pointer (some ⟨hb, 0, none⟩), .agg #[nv, rv]] W fun e w' => ∃ ao c av' tb' tv' tq', e = .returned (.tuple #[.slice ao g.roots.length c, .nilIface]) ∧ w'.ownsRow W.heap.size 3 1 (.slice ao g.roots.length c) g.roots.length (((List.range g.roots.length).map (fun i => ((l.length + i : Nat) : Int))).map (Value.int .i64)) ∧ Hp w' B hb ab tb' m av' (l ++ putW (wthJ ns g (metF g) (metF g).length) g (metF g) l.length) tv' tq' (wthJ ns g (metF g) (metF g).length) trv ptv n ∧ a_Mod (hb :: a_foot ab av) W w' ∧ a_Nx W av av' ∧ ((tb' = tb ∧ tv' = tv ∧ tq' = tq) ∨ ∀ k ∈ n_foot tb' tv' tq', W.heap.size ≤ k) :=
  put_okG hH hB hGk hS hck hro (Nat.le_trans (wthJ_len ns g (metF g) (metF g).length) hna) hTr
end
end Go.Proofs.YtgmldkojldlekaaGreatDoor

namespace Go.Proofs.YtgmldkojldlekaaGreatDoor
set_option maxRecDepth 100000
open Go.RowKit
section
variable {W : World} {B p q : Nat} {v : Value} {ns : List ByteArray}
theorem wt_bad {W w5 w6 : World} {nv rv : Value} {p p5 : Nat} (h : Wt W w5 nv rv p p5) (hb : Below w5.heap.size w5 w6) (o : Obj) : Wt W (w6.alloc o) nv rv p p5 ∧ W.heap.size + 4 ≤ w6.heap.size := by
  have hz := h.size
  have h6 := h.next (below_le hb hz)
  have hz6 := h6.size
  exact ⟨h6.next (below_le (below_alloc w6 o) hz6), hz6⟩
set_option maxHeartbeats 8000000 in
theorem with_bad (hT : Tb W B p v q ns) (hB : B ≤ W.heap.size) {nv rv mv : Value} {g : Gf} {met : List Int} (hG : Gr W nv rv g) (hg : Good g) (hM : Ri W mv met) (hm : ∀ x ∈ met, 0 ≤ x ∧ x < (g.nodes.length : Int)) (hmm : met.length ≤ 100000) (hl : 1024 < (wthJ ns g met met.length).length) :
    Calls Tryz.prog 49 #[.agg #[.pointer (some ⟨p, 0, none⟩)], .agg #[nv, rv], mv] W fun e w' => (∃ fb s, e = .returned (.tuple #[.agg #[.pointer none], .iface 102 (.pointer (some ⟨fb, 0, none⟩))]) ∧ w'.heap[fb]? = some (n_faultObj 31 (-1) s)) ∧ Below W.heap.size W w' := by
  have hstart : Hid (Wt W ((((W.alloc (.cells #[.pointer (some ⟨p, 0, none⟩)] 81)).alloc (.cells #[nv, rv] 30)).alloc (.cells #[.pointer none] 81)).alloc (.cells #[.pointer (some ⟨p, 0, none⟩)] 81)) nv rv p p) := by
    have b0 := below_alloc W (.cells #[.pointer (some ⟨p, 0, none⟩)] 81)
    have b1 := Below.next b0 (below_alloc _ (.cells #[nv, rv] 30))
    have b2 := Below.next b1 (below_alloc _ (.cells #[.pointer none] 81))
    have b3 := Below.next b2 (below_alloc _ (.cells #[.pointer (some ⟨p, 0, none⟩)] 81))
    obtain ⟨x0, x1, x2, x3⟩ := alloc4 W (.cells #[.pointer (some ⟨p, 0, none⟩)] 81) (.cells #[nv, rv] 30) (.cells #[.pointer none] 81) (.cells #[.pointer (some ⟨p, 0, none⟩)] 81)
    exact ⟨b3, x0, x1, x2, x3⟩
  have hpz := hT.lt
  have HT := hid hT
  have HG := hid hG
  have HM := hid hM
  have Hg := hid hg
  have Hm := hid hm
  obtain ⟨na, nc, rfl, _⟩ := hG.1
  obtain ⟨ma, mc, rfl, _⟩ := hM
  clear hG hg hm hT
  go_enter Tryz.func49, Tryz.ntmps49
  go_wp2
  go_loopw [10, 11, 12, 13, 14, 15, 19] (fun _ _ _ _ _ _ i wr => ∃ (j p' : Nat) (v' : Value) (q' : Nat), j ≤ met.length ∧ i = .int .i64 (j : Int) ∧ Hid (Wt W wr (.slice na g.nodes.length nc) rv p p') ∧ Hid ((p' = p ∧ v' = v ∧ q' = q ∧ wthJ ns g met j = ns) ∨ Tb wr (W.heap.size + 4) p' v' q' (wthJ ns g met j)) ∧ Hid ((wthJ ns g met j).length ≤ 1024)) (fun _ _ _ _ _ _ i _ => met.length - (intOf i).toNat)
  case atStart => exact ⟨0, p, v, q, Nat.zero_le _, rfl, hstart, Or.inl ⟨rfl, rfl, rfl, rfl⟩, HT.out.len⟩
  case round =>
    clear hstart
    obtain ⟨j, p', v', q', hj, rfl, HW, hor, HLj⟩ := hrel
    have hb := HW.out.b
    obtain ⟨⟨c0, c1, c2, c3⟩, f2, f3⟩ := HW.out.cells
    have hz := HW.out.size
    by_cases hlt : j < met.length
    · have hji : (j : Int) < (met.length : Int) := by omega
      obtain ⟨mb, mo, hma, m0⟩ := (HM.out.below hb).at hlt
      subst hma
      have zm := lt_of_cell m0
      have hmr := Hm.out _ (getD_mem hlt)
      have hst : Hid (wthJ ns g met (j + 1) = wth1 (wthJ ns g met j) (g.nodes.getD (met.getD j 0).toNat nd0).name) := rfl
      generalize met.getD j 0 = y at *
      obtain ⟨yn, rfl⟩ : ∃ yn : Nat, y = (yn : Int) := ⟨y.toNat, by omega⟩
      rw [Int.toNat_natCast] at hst
      have hyn : yn < g.nodes.length := by omega
      have hyi : (yn : Int) < (g.nodes.length : Int) := by omega
      obtain ⟨nb, no, aa, ac, hna, p0, p1, p2, p3⟩ := gr_nd HG.out hb hyn
      subst hna
      have zn := lt_of_cell p1
      have hnm := good_nameC (Hg.out.node (g.nodes.getD yn nd0) (by simp [List.getD, hyn]))
      generalize (g.nodes.getD yn nd0).name = s at *
      have hs : s.size ≤ 281474976710656 := by
        rcases hnm with h | h
        · omega
        · have := n_goodS_size h
          omega
      have hTc : Hid (Tb wr B p' v' q' (wthJ ns g met j)) := by
        rcases hor.out with ⟨rfl, rfl, rfl, e⟩ | h
        · rw [e]
          exact HT.out.below hb
        · exact tb_base h (by omega)
      have hfi := hid (find_any hTc.out s hs)
      have hLl := wthJ_len ns g met j
      clear p0 p2 p3 hmr
      by_cases hin : inL (wthJ ns g met j) s = true
      · have hst2 : Hid (wthJ ns g met (j + 1) = wthJ ns g met j) := show _ = _ by rw [hst.out]; unfold wth1; rw [if_pos (Or.inl hin)]
        rw [hin] at hfi
        generalize num (wthJ ns g met j) s = nn at *
        go_wp2_with (go_at_call 77; refine hfi.out.mono ?_; rintro e w3 ⟨rfl, hw⟩; replace hw := hw.symm; subst hw)
        go_roundw
        case rel => exact ⟨j + 1, p', v', q', by omega, by go_num, HW, by rw [hst2.out]; exact hor, by rw [hst2.out]; exact HLj⟩
        case measure => simp [intOf]; omega
      · have hin' : inL (wthJ ns g met j) s = false := by simpa using hin
        rw [hin'] at hfi
        rcases hnm with ⟨hs0, hs1⟩ | hgs
        · have hst2 : Hid (wthJ ns g met (j + 1) = wthJ ns g met j) := show _ = _ by rw [hst.out]; unfold wth1; rw [if_pos (Or.inr hs0)]
          have d0 : (s.toList == []) = true := by simp [hs1]
          generalize num (wthJ ns g met j) s = nn at *
          go_wp2_with (go_at_call 77; refine hfi.out.mono ?_; rintro e w3 ⟨rfl, hw⟩; replace hw := hw.symm; subst hw)
          go_roundw
          case rel => exact ⟨j + 1, p', v', q', by omega, by go_num, HW, by rw [hst2.out]; exact hor, by rw [hst2.out]; exact HLj⟩
          case measure => simp [intOf]; omega
        · have hs32 := n_goodS_size hgs
          have hst2 : Hid (wthJ ns g met (j + 1) = wthJ ns g met j ++ [s]) := show _ = _ by rw [hst.out]; unfold wth1; rw [if_neg (by rintro (h | h); exact hin h; omega)]
          have d0 : (s.toList == []) = false := by
            cases h : s.toList with
            | nil =>
              have := size_nil h
              omega
            | cons a r => rfl
          have hcl := hid (fun w => n_clone_any s w hs)
          by_cases hL : (wthJ ns g met j).length < 1024
          · have hLs : Hid ((wthJ ns g met j ++ [s]).length ≤ 1024) := show _ ≤ _ by simp; omega
            generalize wthJ ns g met j = L at *
            generalize num L s = nn at *
            rcases hor.out with ⟨rfl, rfl, rfl, e⟩ | hTb
            · have hcp := hid (copy_any hTc.out)
              have e1 := tab_same ⟨p', 0, none⟩
              clear hor
              go_wp2_with (first
                | (go_at_call 77; refine hfi.out.mono ?_; rintro e w3 ⟨rfl, hw⟩; replace hw := hw.symm; subst hw)
                | (go_at_call 78; refine hcp.out.mono ?_; rintro e w4 ⟨p4, v4, q4, rfl, hT4, hb4⟩; have HC := hid (wt_copy HW.out hb4 hT4); have HW4 := hid (HW.out.next (below_le hb4 hz)); obtain ⟨⟨_, _, _, d3⟩, _, g3⟩ := HW4.out.cells; obtain ⟨⟨_, _, _, k3⟩, _, _⟩ := HC.out.1.cells; have HP := hid (fun w6 (hb6 : Below (w4.setCell ⟨W.heap.size + 3, 0, none⟩ (.pointer (some ⟨p4, 0, none⟩))).heap.size (w4.setCell ⟨W.heap.size + 3, 0, none⟩ (.pointer (some ⟨p4, 0, none⟩))) w6) => put_new (HC.out.2.below hb6) (by have := HC.out.1.size; have := hb6.size; omega) s hs hgs hin' hL); have z3 := hid HC.out.1.size; clear hT4 hb4))
              go_region_with (first
                | (go_at_call 36; refine (hcl.out _).mono ?_; rintro e w6 ⟨rfl, hb6⟩; have Hb6 := hid (Below.next (Below.refl _ _).drew hb6); obtain ⟨⟨_, _, _, k6⟩, _, _⟩ := (HC.out.1.next (below_le Hb6.out HC.out.1.size)).cells; clear hb6)
                | (go_at_call 79; refine (HP.out _ Hb6.out).mono ?_; rintro e w7 ⟨rfl, v7, hU, _⟩; have HU := hid (wt_put HC.out.1 HC.out.2 Hb6.out hU); clear hU))
              all_goals go_wp2
              all_goals
                go_roundw
                case rel => exact ⟨j + 1, p4, v7, q4, by omega, by go_num, hid HU.out.1, hid (Or.inr (by rw [hst2.out]; exact HU.out.2)), by rw [hst2.out]; exact hLs⟩
                case measure => simp [intOf]; omega
            · have hne : (⟨p', 0, none⟩ : Addr) ≠ ⟨p, 0, none⟩ := fun e => by
                injection e with e _ _
                have := hTb.base
                omega
              have e1 := ptr_other (P := Tryz.prog) wr 9998 79 Tryz.underlying79 Tryz.sizeOf129 hne hTb.blk (HT.out.below hb).blk
              rw [show (9998 : Nat) + 1 = 9999 from rfl] at e1
              have HB := hid hTb
              have HP := hid (fun w6 (hb6 : Below wr.heap.size wr w6) => put_new (hTb.below hb6) (by have := hb6.size; omega) s hs hgs hin' hL)
              have Hz := hid hz
              clear hor hne hTb
              go_wp2_with (go_at_call 77; refine hfi.out.mono ?_; rintro e w3 ⟨rfl, hw⟩; replace hw := hw.symm; subst hw)
              go_region_with (first
                | (go_at_call 36; refine (hcl.out _).mono ?_; rintro e w6 ⟨rfl, hb6⟩; have Hb6 := hid (Below.next (Below.refl _ _).drew hb6); obtain ⟨⟨_, _, _, k6⟩, _, _⟩ := (HW.out.next (below_le Hb6.out Hz.out)).cells; clear hb6)
                | (go_at_call 79; refine (HP.out _ Hb6.out).mono ?_; rintro e w7 ⟨rfl, v7, hU, _⟩; have HU := hid (wt_put HW.out HB.out Hb6.out hU); clear hU))
              all_goals go_wp2
              all_goals
                go_roundw
                case rel => exact ⟨j + 1, p', v7, q', by omega, by go_num, hid HU.out.1, hid (Or.inr (by rw [hst2.out]; exact HU.out.2)), by rw [hst2.out]; exact hLs⟩
                case measure => simp [intOf]; omega
          · generalize wthJ ns g met j = L at *
            generalize num L s = nn at *
            rcases hor.out with ⟨rfl, rfl, rfl, e⟩ | hTb
            · have hcp := hid (copy_any hTc.out)
              have e1 := tab_same ⟨p', 0, none⟩
              clear hor
              go_wp2_with (first
                | (go_at_call 77; refine hfi.out.mono ?_; rintro e w3 ⟨rfl, hw⟩; replace hw := hw.symm; subst hw)
                | (go_at_call 78; refine hcp.out.mono ?_; rintro e w4 ⟨p4, v4, q4, rfl, hT4, hb4⟩; have HC := hid (wt_copy HW.out hb4 hT4); have HW4 := hid (HW.out.next (below_le hb4 hz)); obtain ⟨⟨_, _, _, d3⟩, _, g3⟩ := HW4.out.cells; obtain ⟨⟨_, _, _, k3⟩, _, _⟩ := HC.out.1.cells; have HP := hid (fun w6 (hb6 : Below (w4.setCell ⟨W.heap.size + 3, 0, none⟩ (.pointer (some ⟨p4, 0, none⟩))).heap.size (w4.setCell ⟨W.heap.size + 3, 0, none⟩ (.pointer (some ⟨p4, 0, none⟩))) w6) => put_full (HC.out.2.below hb6) s hs hgs hin' hL); have z3 := hid HC.out.1.size; clear hT4 hb4))
              go_region_with (first
                | (go_at_call 36; refine (hcl.out _).mono ?_; rintro e w6 ⟨rfl, hb6⟩; have Hb6 := hid (Below.next (Below.refl _ _).drew hb6); obtain ⟨⟨_, _, _, k6⟩, _, _⟩ := (HC.out.1.next (below_le Hb6.out HC.out.1.size)).cells; clear hb6)
                | (go_at_call 79; refine (HP.out _ Hb6.out).mono ?_; rintro e w7 ⟨rfl, hw7⟩; have HB7 := hid (wt_bad HC.out.1 Hb6.out (n_faultObj 31 (-1) s)); have HF7 := hid (heap_alloc_new w6 (n_faultObj 31 (-1) s)); rw [← hw7] at HB7 HF7; clear hw7; obtain ⟨⟨_, _, v2, _⟩, fz2, _⟩ := HB7.out.1.cells))
              all_goals go_wp2
              all_goals
                have HE := heap_setCell_same w7 _ 0 _ _ (.pointer none) HB7.out.1.x2
                have hz7 := HB7.out.2
                exact bodyPost_ret (ret_tabE Tryz.results49 (by rfl) (by rfl) HE) rfl ⟨⟨w6.heap.size, s, rfl, (Below.heap_setCell _ _ _ _ (by show w6.heap.size ≠ W.heap.size + 2; omega)).trans HF7.out⟩, HB7.out.1.b.setCell (p := ⟨W.heap.size + 2, 0, none⟩) (by simp) _⟩
            · have hne : (⟨p', 0, none⟩ : Addr) ≠ ⟨p, 0, none⟩ := fun e => by
                injection e with e _ _
                have := hTb.base
                omega
              have e1 := ptr_other (P := Tryz.prog) wr 9998 79 Tryz.underlying79 Tryz.sizeOf129 hne hTb.blk (HT.out.below hb).blk
              rw [show (9998 : Nat) + 1 = 9999 from rfl] at e1
              have HB := hid hTb
              have HP := hid (fun w6 (hb6 : Below wr.heap.size wr w6) => put_full (hTb.below hb6) s hs hgs hin' hL)
              have Hz := hid hz
              clear hor hne hTb
              go_wp2_with (go_at_call 77; refine hfi.out.mono ?_; rintro e w3 ⟨rfl, hw⟩; replace hw := hw.symm; subst hw)
              go_region_with (first
                | (go_at_call 36; refine (hcl.out _).mono ?_; rintro e w6 ⟨rfl, hb6⟩; have Hb6 := hid (Below.next (Below.refl _ _).drew hb6); obtain ⟨⟨_, _, _, k6⟩, _, _⟩ := (HW.out.next (below_le Hb6.out Hz.out)).cells; clear hb6)
                | (go_at_call 79; refine (HP.out _ Hb6.out).mono ?_; rintro e w7 ⟨rfl, hw7⟩; have HB7 := hid (wt_bad HW.out Hb6.out (n_faultObj 31 (-1) s)); have HF7 := hid (heap_alloc_new w6 (n_faultObj 31 (-1) s)); rw [← hw7] at HB7 HF7; clear hw7; obtain ⟨⟨_, _, v2, _⟩, fz2, _⟩ := HB7.out.1.cells))
              all_goals go_wp2
              all_goals
                have HE := heap_setCell_same w7 _ 0 _ _ (.pointer none) HB7.out.1.x2
                have hz7 := HB7.out.2
                exact bodyPost_ret (ret_tabE Tryz.results49 (by rfl) (by rfl) HE) rfl ⟨⟨w6.heap.size, s, rfl, (Below.heap_setCell _ _ _ _ (by show w6.heap.size ≠ W.heap.size + 2; omega)).trans HF7.out⟩, HB7.out.1.b.setCell (p := ⟨W.heap.size + 2, 0, none⟩) (by simp) _⟩
    · obtain rfl : j = met.length := by omega
      have := HLj.out
      omega
end
end Go.Proofs.YtgmldkojldlekaaGreatDoor

namespace Go.Proofs.YtgmldkojldlekaaGreatDoor
set_option maxRecDepth 100000
open Go.RowKit
theorem On.push2 {w w1 w2 : World} {B : Nat} {nv : Value} {avs : List Value} {ns : List Nd} {n : Nd} {ao : Option Addr} {c g cap : Nat} (h : On w B nv avs ns) (hbk : ∀ k ∈ blocks (nv :: avs), w1.heap[k]? = w.heap[k]?) (hsz : w.heap.size ≤ w1.heap.size)
    (ha : w1.ownsRow w.heap.size 3 1 (.slice ao n.args.length c) n.args.length (n.args.map (Value.int .i64))) (hB : B ≤ w.heap.size)
    (hg : w1.grownBy w2 nv.ownBlock) (hown : w2.ownsRow B 117 4 (.slice (some ⟨g, 0, none⟩) (ns.length + 1) cap) (ns.length + 1) (ncells ns avs ++ [.int .i64 n.kind, .string n.name, .int .i64 n.num, .slice ao n.args.length c]))
    (hat : nv.ownBlock = some g ∨ w1.heap.size ≤ g) : On w2 B (.slice (some ⟨g, 0, none⟩) (ns.length + 1) cap) (avs ++ [.slice ao n.args.length c]) (ns ++ [n]) := by
  have h1 := h.keep hbk
  have hnd := h.nd
  have hlt := h.lt
  have hnew : ∀ k, Value.ownBlock (.slice ao n.args.length c) = some k → w.heap.size ≤ k ∧ k < w1.heap.size := fun k e => ha.lt k e
  have hnv : ∀ k, nv.ownBlock = some k → k ∉ blocks avs := fun k e hk => by
    have : blocks (nv :: avs) = k :: blocks avs := by simp [blocks, e]
    rw [this] at hnd
    exact (List.nodup_cons.1 hnd).1 hk
  have hkeep : ∀ k ∈ blocks avs, w2.heap[k]? = w1.heap[k]? := fun k hk => by
    have hk' : k ∈ blocks (nv :: avs) := by
      obtain ⟨v, hv, e⟩ := List.mem_filterMap.1 hk
      exact List.mem_filterMap.2 ⟨v, by simp [hv], e⟩
    exact hg.block k (by have := (hlt k hk').2; have := hsz; omega) (fun e => hnv k e.symm hk)
  refine ⟨?_, by simp [h.len], fun j hj => ?_, ?_⟩
  · rw [List.length_append, List.length_singleton, ncells_snoc ns avs n _ h.len]
    exact hown
  · by_cases e : j < ns.length
    · obtain ⟨aa, ac, e1, e2⟩ := h1.a j e
      have ej : j < avs.length := by rw [h.len]; exact e
      have en : (ns ++ [n]).getD j nd0 = ns.getD j nd0 := by simp [List.getD, List.getElem?_append_left e]
      have ev : (avs ++ [Value.slice ao n.args.length c]).getD j undef = avs.getD j undef := by simp [List.getD, List.getElem?_append_left ej]
      rw [en, ev]
      refine ⟨aa, ac, e1, own_block e2 (fun k ek => hkeep k (List.mem_filterMap.2 ⟨avs.getD j undef, by simp [List.getD, ej], by rw [e1]; exact ek⟩))⟩
    · have e' : j = ns.length := by simp at hj; omega
      subst e'
      have en : (ns ++ [n]).getD ns.length nd0 = n := by simp [List.getD]
      have ev : (avs ++ [Value.slice ao n.args.length c]).getD ns.length undef = .slice ao n.args.length c := by rw [← h.len]; simp [List.getD]
      rw [en, ev]
      refine ⟨ao, c, rfl, own_base (B := w.heap.size) (own_block ha (fun k ek => hg.block k (hnew k ek).2 (fun e2 => ?_))) hB⟩
      have := (h.n.lt k e2.symm).2
      have := (hnew k ek).1
      omega
  · have hgn : g ∉ blocks avs := fun hk => by
      rcases hat with e | e
      · exact hnv g e hk
      · have hk' : g ∈ blocks (nv :: avs) := by
          obtain ⟨v, hv, e⟩ := List.mem_filterMap.1 hk
          exact List.mem_filterMap.2 ⟨v, by simp [hv], e⟩
        have := (hlt g hk').2
        have := hsz
        omega
    have hnd' : (blocks avs).Nodup := by
      cases e : nv.ownBlock with
      | none => simpa [blocks, e] using hnd
      | some k =>
        have : blocks (nv :: avs) = k :: blocks avs := by simp [blocks, e]
        rw [this] at hnd
        exact (List.nodup_cons.1 hnd).2
    have hbl : blocks (.slice (some ⟨g, 0, none⟩) (ns.length + 1) cap :: (avs ++ [.slice ao n.args.length c])) = g :: (blocks avs ++ blocks [.slice ao n.args.length c]) := by simp [blocks, Value.ownBlock]
    rw [hbl]
    have hav : ∀ k ∈ blocks avs, k < w.heap.size := fun k hk => by
      obtain ⟨v, hv, e⟩ := List.mem_filterMap.1 hk
      exact (hlt k (List.mem_filterMap.2 ⟨v, by simp [hv], e⟩)).2
    cases eb : Value.ownBlock (.slice ao n.args.length c) with
    | none =>
      have : blocks [.slice ao n.args.length c] = [] := by simp [blocks, eb]
      rw [this, List.append_nil]
      exact List.nodup_cons.2 ⟨hgn, hnd'⟩
    | some k =>
      have : blocks [.slice ao n.args.length c] = [k] := by simp [blocks, eb]
      rw [this]
      have hk := hnew k eb
      refine List.nodup_cons.2 ⟨fun hx => ?_, List.nodup_append.2 ⟨hnd', by simp, fun a ha b hb' e => ?_⟩⟩
      · rcases List.mem_append.1 hx with hx | hx
        · exact hgn hx
        · simp at hx
          subst hx
          rcases hat with e | e
          · have := (h.n.lt g e).2
            omega
          · omega
      · simp at hb'
        subst hb' e
        have := hav a ha
        omega
theorem on_obj {w : World} {B : Nat} {nv : Value} {avs : List Value} {ns : List Nd} (h : On w B nv avs ns) : ∀ k ∈ blocks (nv :: avs), ∃ cur T, w.heap[k]? = some (.cells cur T (0, 0)) ∧ (T = 117 ∨ T = 3) := fun k hk => by
  obtain ⟨v, hv, e⟩ := List.mem_filterMap.1 hk
  rcases List.mem_cons.1 hv with rfl | hv
  · obtain ⟨cur, hc⟩ := row_obj h.n e
    exact ⟨cur, _, hc, Or.inl rfl⟩
  · obtain ⟨j, hj, rfl⟩ := List.getElem_of_mem hv
    obtain ⟨ao, c, h1, h2⟩ := h.a j (by rw [← h.len]; exact hj)
    have h3 : avs[j] = .slice ao (ns.getD j nd0).args.length c := by
      rw [← h1]
      simp [List.getD, hj]
    rw [h3] at e
    obtain ⟨cur, hc⟩ := row_obj h2 e
    exact ⟨cur, _, hc, Or.inr rfl⟩
theorem rg_not {w : World} {B rb hb mq k : Nat} {tv : Value} {TS : List Int} {cur : Array Value} {T : TypeId} (h : Rg w B rb hb tv mq TS) (hk : w.heap[k]? = some (.cells cur T (0, 0))) (h1 : T ≠ 154) (h2 : T ≠ 88) : k ∉ r_foot rb tv mq := fun hf => by
  rcases r_mem_foot.1 hf with e | e | e
  · subst e
    have := h.blk
    rw [hk] at this
    injection this with this
    injection this with _ this
    exact h1 this
  · subst e
    obtain ⟨D, ⟨es, clock, hq, _⟩, _⟩ := h.map
    rw [hq] at hk
    simp at hk
  · obtain ⟨cur2, hc2⟩ := row_obj h.own e
    rw [hk] at hc2
    injection hc2 with hc2
    injection hc2 with _ hc2
    exact h2 hc2
theorem alloc3 (W : World) (a b c : Obj) : (((W.alloc a).alloc b).alloc c).heap[W.heap.size]? = some a ∧ (((W.alloc a).alloc b).alloc c).heap[W.heap.size + 1]? = some b ∧ (((W.alloc a).alloc b).alloc c).heap[W.heap.size + 2]? = some c := by
  have s1 : (W.alloc a).heap.size = W.heap.size + 1 := by simp
  have s2 : ((W.alloc a).alloc b).heap.size = W.heap.size + 2 := by simp
  have h0 := heap_alloc_new W a
  have h1 := heap_alloc_new (W.alloc a) b
  have h2 := heap_alloc_new ((W.alloc a).alloc b) c
  rw [s1] at h1
  rw [s2] at h2
  refine ⟨?_, ?_, h2⟩
  · rw [Below.heap_alloc _ _ _ (by omega), Below.heap_alloc _ _ _ (by omega)]
    exact h0
  · rw [Below.heap_alloc _ _ _ (by omega)]
    exact h1
structure Rx (W w : World) (hb rb mq gb : Nat) (tv nv rv : Value) (TS : List Int) (avs : List Value) (nds : List Nd) (rts : List Int) : Prop where
  b : Below W.heap.size W w
  x : w.heap[W.heap.size]? = some (.cells #[.slice none 0 0, .slice none 0 0] 30)
  r : Rg w (W.heap.size + 1) rb hb tv mq TS
  g : w.heap[gb]? = some (.cells #[nv, rv] 30)
  gz : W.heap.size + 1 ≤ gb
  on : On w (W.heap.size + 1) nv avs nds
  ro : w.ownsRow (W.heap.size + 1) 3 1 rv rts.length (rts.map (Value.int .i64))
section
variable {W w w' : World} {hb rb mq gb : Nat} {tv nv rv : Value} {TS : List Int} {avs : List Value} {nds : List Nd} {rts : List Int}
theorem Rx.next (h : Rx W w hb rb mq gb tv nv rv TS avs nds rts) (hb' : Below w.heap.size w w') : Rx W w' hb rb mq gb tv nv rv TS avs nds rts :=
  ⟨Below.next h.b hb', (hb'.block _ (lt_of_block h.x)).trans h.x, h.r.below hb', (hb'.block _ (lt_of_block h.g)).trans h.g, h.gz, h.on.below hb', row_keep h.ro (fun k hk => hb'.block k (h.ro.lt k hk).2)⟩
theorem Rx.terms {tv' : Value} {TS' : List Int} (h : Rx W w hb rb mq gb tv nv rv TS avs nds rts) (hm : a_Mod (r_foot rb tv mq) w w') (hR : Rg w' (W.heap.size + 1) rb hb tv' mq TS') : Rx W w' hb rb mq gb tv' nv rv TS' avs nds rts := by
  have hf : ∀ k ∈ r_foot rb tv mq, W.heap.size + 1 ≤ k := fun k hk => by
    rcases r_mem_foot.1 hk with e | e | e
    · rw [e]
      exact h.r.base
    · rw [e]
      exact h.r.mb
    · exact (h.r.own.lt k e).1
  have hB : Below (W.heap.size + 1) w w' := hm.below hf (Nat.lt_of_lt_of_le (lt_of_block h.x) (Nat.le_refl _))
  refine ⟨h.b.trans (hB.mono (by omega)), (hB.block _ (by omega)).trans h.x, hR, (hm.block _ (lt_of_block h.g) (rg_not h.r h.g (by decide) (by decide))).trans h.g, h.gz, h.on.keep (fun k hk => ?_), row_keep h.ro (fun k hk => hm.block k (h.ro.lt k hk).2 (rg_out h.r h.ro k hk))⟩
  obtain ⟨cur, T, hc, hT⟩ := on_obj h.on k hk
  exact hm.block k (lt_of_block hc) (rg_not h.r hc (by rcases hT with rfl | rfl <;> decide) (by rcases hT with rfl | rfl <;> decide))
theorem Rx.step {wc w6 : World} {tv' : Value} {TS' : List Int} {n : Nd} {aa : Option Addr} {ac g cap : Nat} {o : Obj} (h : Rx W wc hb rb mq gb tv nv rv TS avs nds rts) (hm : a_Mod (r_foot rb tv mq) wc w) (hR : Rg w (W.heap.size + 1) rb hb tv' mq TS')
    (ha : w.ownsRow wc.heap.size 3 1 (.slice aa n.args.length ac) n.args.length (n.args.map (Value.int .i64))) (hg : (w.alloc o).grownBy w6 nv.ownBlock) (hown : w6.ownsRow (W.heap.size + 1) 117 4 (.slice (some ⟨g, 0, none⟩) (nds.length + 1) cap) (nds.length + 1) (ncells nds avs ++ [.int .i64 n.kind, .string n.name, .int .i64 n.num, .slice aa n.args.length ac])) (hat : nv.ownBlock = some g ∨ g = w.heap.size + 1) :
    w6.heap[gb]? = some (.cells #[nv, rv] 30) ∧ Rx W (w6.setCell ⟨gb, 0, none⟩ (.slice (some ⟨g, 0, none⟩) (nds.length + 1) cap)) hb rb mq gb tv' (.slice (some ⟨g, 0, none⟩) (nds.length + 1) cap) rv TS' (avs ++ [.slice aa n.args.length ac]) (nds ++ [n]) rts := by
  have h5 := h.terms hm hR
  have hnvo : ∀ k, nv.ownBlock = some k → ∃ cur, w.heap[k]? = some (.cells cur 117 (0, 0)) := fun k hk => row_obj h5.on.n hk
  have hz5 := h5.b.size
  have hzg := lt_of_block h5.g
  have hzx := lt_of_block h5.x
  have hne : ∀ {k : Nat} {cur : Array Value} {T : TypeId}, w.heap[k]? = some (.cells cur T (0, 0)) → T ≠ 117 → nv.ownBlock ≠ some k := fun {k cur T} hk hT e => by
    obtain ⟨c2, h2⟩ := hnvo k e
    rw [hk] at h2
    injection h2 with h2
    injection h2 with _ h2
    exact hT h2
  have hkp : ∀ {k : Nat}, k < w.heap.size → nv.ownBlock ≠ some k → w6.heap[k]? = w.heap[k]? := fun {k} hk hn => by
    rw [hg.block k (by simp; omega) (fun e => hn e.symm), Below.heap_alloc _ _ _ hk]
  have hg6 : w6.heap[gb]? = some (.cells #[nv, rv] 30) := (hkp hzg (hne h5.g (by decide))).trans h5.g
  have hR6 : Rg w6 (W.heap.size + 1) rb hb tv' mq TS' := hR.keep (grown_mod hg) (fun k hk => by
    obtain ⟨cur, hc⟩ := hnvo k (by simpa using hk)
    exact rg_not hR hc (by decide) (by decide))
  have hsz6 : w.heap.size ≤ w6.heap.size := by
    have := hg.size
    simp at this
    omega
  have hon6 : On w6 (W.heap.size + 1) (.slice (some ⟨g, 0, none⟩) (nds.length + 1) cap) (avs ++ [.slice aa n.args.length ac]) (nds ++ [n]) := by
    have hk0 : ∀ k ∈ blocks (nv :: avs), (w.alloc o).heap[k]? = wc.heap[k]? := fun k hk => by
      obtain ⟨cur, T, hc, hT⟩ := on_obj h.on k hk
      rw [Below.heap_alloc _ _ _ (Nat.lt_of_lt_of_le (lt_of_block hc) hm.size)]
      exact hm.block k (lt_of_block hc) (rg_not h.r hc (by rcases hT with rfl | rfl <;> decide) (by rcases hT with rfl | rfl <;> decide))
    refine On.push2 h.on hk0 (by have := hm.size; simp; omega) (World.ownsRow.alloc ha o) (Nat.lt_of_lt_of_le (lt_of_block h.x) (Nat.le_refl _)) hg hown ?_
    rcases hat with e | e
    · exact Or.inl e
    · exact Or.inr (by simp; omega)
  have hro6 : w6.ownsRow (W.heap.size + 1) 3 1 rv rts.length (rts.map (Value.int .i64)) := row_keep h5.ro (fun k hk => by
    obtain ⟨cur, hc⟩ := row_obj h5.ro hk
    exact hkp (lt_of_block hc) (hne hc (by decide)))
  have hB6 : Below (W.heap.size + 1) w w6 := ⟨hg.os, hg.tape, hg.output, hsz6, fun k hk => hkp (by omega) (fun e => by have := (h5.on.n.lt k e).1; omega)⟩
  have hs : a_Mod [gb] w6 (w6.setCell ⟨gb, 0, none⟩ (.slice (some ⟨g, 0, none⟩) (nds.length + 1) cap)) := (a_Mod.refl [gb] w6).setCell (p := ⟨gb, 0, none⟩) (Or.inl (by simp)) _
  have hx6 := (hB6.block _ (by omega)).trans h5.x
  refine ⟨hg6, ⟨(h5.b.trans (hB6.mono (by omega))).setCell (p := ⟨gb, 0, none⟩) (by have := h.gz; show W.heap.size ≤ gb; omega) _, ?_, hR6.keep hs (fun k hk => ?_), heap_setCell_same w6 gb 0 _ _ _ hg6, h.gz, ?_, ?_⟩⟩
  · rw [Below.heap_setCell _ _ _ _ (by have := h.gz; show W.heap.size ≠ gb; omega)]
    exact hx6
  · have e : k = gb := by simpa using hk
    subst e
    exact rg_not hR6 hg6 (by decide) (by decide)
  · refine hon6.keep (fun k hk => Below.heap_setCell _ _ _ _ (fun e => ?_))
    obtain ⟨cur, T, hc, hT⟩ := on_obj hon6 k hk
    have e' : k = gb := e
    subst e'
    rw [hg6] at hc
    injection hc with hc
    injection hc with _ hc
    rcases hT with rfl | rfl <;> exact absurd hc (by decide)
  · refine row_keep hro6 (fun k hk => Below.heap_setCell _ _ _ _ (fun e => ?_))
    obtain ⟨cur, hc⟩ := row_obj hro6 hk
    have e' : k = gb := e
    subst e'
    rw [hg6] at hc
    injection hc with hc
    injection hc with _ hc
    exact absurd hc (by decide)
end
end Go.Proofs.YtgmldkojldlekaaGreatDoor
