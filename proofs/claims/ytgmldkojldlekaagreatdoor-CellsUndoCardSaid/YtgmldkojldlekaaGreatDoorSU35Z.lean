/- Package cells: what lies in memory while a heap goes back to a point. -/
import Derived.Deep.DeepCutAuto
import Derived.Test.YtgmldkojldlekaaGreatDoorSU34Z
import Derived.Test.YtgmldkojldlekaaGreatDoorSU31Z
import Derived.Test.YtgmldkojldlekaaGreatDoorSU28Z
import Derived.Test.YtgmldkojldlekaaGreatDoorSU33Z
import Derived.Test.YtgmldkojldlekaaGreatDoorSU26Z
import Derived.Test.YtgmldkojldlekaaGreatDoorSU09Z
import Derived.Test.YtgmldkojldlekaaGreatDoorSU07Z
namespace Go.Proofs.YtgmldkojldlekaaGreatDoor
open Go.RowKit
theorem Nb.mod {B : Nat} {W W' : World} (h : Nb B W W') : ∃ ks, a_Mod ks W W' ∧ ∀ k ∈ ks, B ≤ k ∧ ∃ o, W.heap[k]? = some o ∧ o.isCells = false := by
  refine ⟨(List.range W.heap.size).filter (fun k => decide (B ≤ k) && (match W.heap[k]? with | some o => !o.isCells | none => false)), ⟨h.os, h.tape, h.output, h.size, fun k hk hn => ?_⟩, fun k hk => ?_⟩
  · have e : W.heap[k]? = some W.heap[k] := Array.getElem?_eq_getElem hk
    by_cases hc : k < B ∨ (W.heap[k]).isCells = true
    · rw [h.block k _ e hc, e]
    · exfalso
      apply hn
      rw [List.mem_filter]
      refine ⟨List.mem_range.2 hk, ?_⟩
      rw [e]
      have h1 : B ≤ k := by
        rcases Nat.lt_or_ge k B with h1 | h1
        · exact absurd (Or.inl h1) hc
        · exact h1
      have h2 : (W.heap[k]).isCells = false := by
        cases h3 : (W.heap[k]).isCells with
        | false => rfl
        | true => exact absurd (Or.inr h3) hc
      simp [h1, h2]
  · obtain ⟨_, h2⟩ := List.mem_filter.1 hk
    rw [Bool.and_eq_true] at h2
    refine ⟨of_decide_eq_true h2.1, ?_⟩
    cases e : W.heap[k]? with
    | none => rw [e] at h2; simp at h2
    | some o =>
      rw [e] at h2
      exact ⟨o, rfl, by simpa using h2.2⟩
section
variable {w w' : World} {B hb ab tb : Nat} {m : Int} {av : Value} {l : List Int} {tv : Value} {tq : Nat} {ns : List ByteArray} {trv : Value} {tr : List Te} {ptv : Value} {pt : List Pe} {n : Int}
theorem Hq.keep {ks : List Nat} (h : Hq w B hb ab tb m av l tv tq ns trv tr ptv pt n) (hm : a_Mod ks w w') (hk : ∀ k ∈ ks, k ∉ qfoot hb ab av trv ptv ∧ k ∉ n_foot tb tv tq) : Hq w' B hb ab tb m av l tv tq ns trv tr ptv pt n := by
  obtain ⟨r1, r2⟩ := h.rows hm (fun k hx hy => (hk k hx).1 (mem_qfoot.2 (Or.inr (Or.inr hy))))
  exact ⟨⟨(hm.block hb (lt_of_block h.hp.blk) (fun hx => (hk hb hx).1 (mem_qfoot.2 (Or.inl rfl)))).trans h.hp.blk, h.hp.base, h.hp.ar.keep hm (fun k hx hy => (hk k hx).1 (mem_qfoot.2 (Or.inr (Or.inl hy)))), h.hp.tb.keep (mod_an hm) (fun k hx => (hk k hx).2)⟩, r1, r2⟩
theorem Hq.cells {k : Nat} (h : Hq w B hb ab tb m av l tv tq ns trv tr ptv pt n) (hk : k ∈ qfoot hb ab av trv ptv) : (∃ cs T, w.heap[k]? = some (.cells cs T (0, 0))) ∧ B ≤ k := by
  rcases mem_qfoot.1 hk with rfl | hk | hk | hk
  · exact ⟨⟨_, _, h.hp.blk⟩, h.hp.base⟩
  · obtain ⟨cs, T, e, _⟩ := h.aty hk
    refine ⟨⟨cs, T, e⟩, ?_⟩
    rcases a_mem_foot.1 hk with rfl | hk
    · exact h.hp.ar.base
    · exact (h.hp.ar.row hk).1
  · obtain ⟨cur, e, _⟩ := own_block_obj h.tr hk
    exact ⟨⟨_, _, e⟩, (h.tr.lt k hk).1⟩
  · obtain ⟨cur, e, _⟩ := own_block_obj h.pt hk
    exact ⟨⟨_, _, e⟩, (h.pt.lt k hk).1⟩
theorem Hq.nb {Bq : Nat} (h : Hq w B hb ab tb m av l tv tq ns trv tr ptv pt n) (hn : Nb Bq w w') (hq : tq < Bq) : Hq w' B hb ab tb m av l tv tq ns trv tr ptv pt n := by
  obtain ⟨ks, hm, hks⟩ := hn.mod
  refine h.keep hm (fun k hk => ⟨fun hf => ?_, fun hf => ?_⟩)
  · obtain ⟨_, o, e, ho⟩ := hks k hk
    obtain ⟨⟨cs, T, e2⟩, _⟩ := h.cells hf
    rw [e2] at e
    rw [← Option.some.inj e] at ho
    cases ho
  · obtain ⟨hB, o, e, ho⟩ := hks k hk
    rcases n_mem_foot.1 hf with e1 | e1 | e1
    · subst e1
      rw [h.hp.tb.blk] at e
      rw [← Option.some.inj e] at ho
      cases ho
    · omega
    · obtain ⟨cur, hc, _⟩ := own_block_obj h.hp.tb.own e1
      rw [hc] at e
      rw [← Option.some.inj e] at ho
      cases ho
structure Ud (w : World) (B hb ab tb : Nat) (m : Int) (av : Value) (l : List Int) (tv : Value) (tq : Nat) (ns : List ByteArray) (trv : Value) (tr : List Te) (ptv : Value) (pt : List Pe) (n : Int) (T K pb : Nat) (pre : List (Nat × Te)) (W : World) : Prop where
  q : Hq W B hb ab tb m av (undW l ((tr.drop T).drop ((tr.drop T).length - pre.length))) tv tq ns trv tr ptv pt n
  m : a_Mod (qfoot hb ab av trv ptv) w W
  x : W.heap[w.heap.size]? = some (.cells #[.pointer (some ⟨hb, 0, none⟩)] 23)
  p : W.heap[pb]? = some (.cells #[.int .i64 (T : Int), .int .i64 (K : Int), .slice none 0 0] 85)
  c : pre.length ≤ (tr.drop T).length
theorem Ud.nb {Bq T K pb : Nat} {pre : List (Nat × Te)} {W W' : World} (h : Ud w B hb ab tb m av l tv tq ns trv tr ptv pt n T K pb pre W) (hn : Nb Bq W W') (hq : tq < Bq) (hw : w.heap.size ≤ Bq) : Ud w B hb ab tb m av l tv tq ns trv tr ptv pt n T K pb pre W' := by
  obtain ⟨ks, hm, hks⟩ := hn.mod
  exact ⟨h.q.nb hn hq, h.m.trans (hm.ofMem (qfoot hb ab av trv ptv ++ ks) (fun y hy => Or.inl (by simp [hy]))) (fun y hy => by
    rcases List.mem_append.1 hy with hy | hy
    · exact Or.inl hy
    · exact Or.inr (Nat.le_trans hw (hks y hy).1)), hn.block _ _ h.x (Or.inr rfl), hn.block _ _ h.p (Or.inr rfl), h.c⟩
theorem drop_snoc {es : List Te} {k : Nat} (hk : k < es.length) : es.drop (es.length - (k + 1)) = es.getD (es.length - 1 - k) (0, 0) :: es.drop (es.length - k) := by
  have h1 : es.length - 1 - k < es.length := by omega
  rw [show es.length - (k + 1) = es.length - 1 - k by omega, List.drop_eq_getElem_cons h1, show es.length - 1 - k + 1 = es.length - k by omega]
  simp [List.getD, h1]
theorem Ud.step {T K pb : Nat} {pre : List (Nat × Te)} {y : Nat × Te} {W W' : World} (h : Ud w B hb ab tb m av l tv tq ns trv tr ptv pt n T K pb pre W) (hlt : pre.length < (tr.drop T).length) (hy : y.2 = (tr.drop T).getD ((tr.drop T).length - 1 - pre.length) (0, 0)) (hw : w.heap.size < W.heap.size) (hpb : ∀ k ∈ a_foot ab av, k ≠ pb ∧ k ≠ w.heap.size)
    (hu : a_Upd 126 W W' B ab m av ((undW l ((tr.drop T).drop ((tr.drop T).length - pre.length))).set y.2.1 y.2.2) av) : Ud w B hb ab tb m av l tv tq ns trv tr ptv pt n T K pb (pre ++ [y]) W' := by
  have e : undW l ((tr.drop T).drop ((tr.drop T).length - (pre ++ [y]).length)) = (undW l ((tr.drop T).drop ((tr.drop T).length - pre.length))).set y.2.1 y.2.2 := by
    rw [List.length_append, List.length_singleton, drop_snoc hlt, hy]
    rfl
  refine ⟨?_, h.m.trans (hu.mod.ofMem (qfoot hb ab av trv ptv) (fun z hz => Or.inl (mem_qfoot.2 (Or.inr (Or.inl hz))))) (fun z hz => Or.inl hz), (hu.mod.block _ hw (fun hx => (hpb _ hx).2 rfl)).trans h.x, (hu.mod.block _ (lt_of_block h.p) (fun hx => (hpb _ hx).1 rfl)).trans h.p, by rw [List.length_append, List.length_singleton]; exact hlt⟩
  rw [e]
  exact h.q.words hu
end
end Go.Proofs.YtgmldkojldlekaaGreatDoor

namespace Go.Proofs.YtgmldkojldlekaaGreatDoor
open Go.RowKit
section
variable {W : World} {B hb ab tb : Nat} {m : Int} {av : Value} {l : List Int} {tv : Value} {tq : Nat} {ns : List ByteArray} {trv ptv : Value} {n : Int}
abbrev SkP (hb tb gb : Nat) (v0 v1 : Value) (w : World) : Prop := w.cell? ⟨hb, 1, none⟩ = some (.pointer (some ⟨tb, 0, none⟩)) ∧ w.cell? ⟨gb, 0, none⟩ = some v0 ∧ w.cell? ⟨gb, 1, none⟩ = some v1
theorem skp_dr {hb tb gb : Nat} {v0 v1 : Value} {w : World} (h : SkP hb tb gb v0 v1 w) : SkP hb tb gb v0 v1 w.drew := h
theorem skp_al {hb tb gb : Nat} {v0 v1 : Value} {w : World} {o : Obj} (h : SkP hb tb gb v0 v1 w) : SkP hb tb gb v0 v1 (w.alloc o) :=
  ⟨((below_alloc w o).cell (p := ⟨hb, 1, none⟩) (lt_of_cell h.1)).trans h.1, ((below_alloc w o).cell (p := ⟨gb, 0, none⟩) (lt_of_cell h.2.1)).trans h.2.1, ((below_alloc w o).cell (p := ⟨gb, 1, none⟩) (lt_of_cell h.2.2)).trans h.2.2⟩
theorem skp_set {hb tb gb q : Nat} {v0 v1 u : Value} {w : World} (h1 : hb ≠ q) (h2 : gb ≠ q) (h : SkP hb tb gb v0 v1 w) : SkP hb tb gb v0 v1 (w.setCell ⟨q, 0, none⟩ u) :=
  ⟨(set_far _ _ h1).trans h.1, (set_far _ _ h2).trans h.2.1, (set_far _ _ h2).trans h.2.2⟩
set_option maxRecDepth 100000 in
set_option maxHeartbeats 8000000 in
theorem put_names {nv rv : Value} {g : Gf} (hE : ErrC W) (hH : Hp W B hb ab tb m av l tv tq ns trv ptv n) (hB : B ≤ W.heap.size) (hG : Gr W nv rv g) (hS : Sized g) (hck : one (chk g) = []) (hna : 1024 < (wthJ ns g (metF g) (metF g).length).length) :
    Calls Tryz.prog 21 #[.pointer (some ⟨hb, 0, none⟩), .agg #[nv, rv]] W fun e w' => (∃ ev, e = .returned (.tuple #[.slice none 0 0, ev])) ∧ Below W.heap.size W w' := by
  have hg := chk_good hck
  have hok := met_ok hg
  have hml := hok.le
  have hN : g.nodes.length ≤ 4096 := hg.nodes
  have hb0 := below_alloc W (.cells #[nv, rv] 30)
  have hre := hid (reach_good (hG.below hb0) hS hck)
  have HG := hid hG
  have HH := hid hH
  have Hg := hid hg
  have Hok := hid hok
  have HE := hid hE
  have Hna := hid hna
  obtain ⟨na, nc, rfl, _⟩ := hG.1
  obtain ⟨ra, rc, rfl, _⟩ := hG.2
  have hx0 := hid (heap_alloc_new W (.cells #[.slice na g.nodes.length nc, .slice ra g.roots.length rc] 30))
  have Hb0 := hid hb0
  clear hg hok hH hb0 hS hck hG hE hna
  go_enter Tryz.func21, Tryz.ntmps21
  go_wp2_with (go_at_call 48; refine hre.out.mono ?_; rintro e w1 ⟨⟨mo, mc, rfl, ho1⟩, hb1⟩; have Hb1 := hid (Below.next Hb0.out hb1); have Ho1 := hid ho1; have Hx1 := hid ((hb1.block _ (by simp)).trans hx0.out); clear ho1 hb1)
  obtain ⟨⟨x0, x1⟩, _⟩ := cblk2 Hx1.out
  have HH1 := hid (HH.out.below Hb1.out)
  obtain ⟨⟨_, h1, _⟩, zh⟩ := HH1.out.cells
  have zx := lt_of_block Hx1.out
  have hri : Hid (Ri w1 (.slice mo (metF g).length mc) (metF g)) := ri_own Ho1.out
  have hwi := hid (fun wq (hbq : Below w1.heap.size w1 wq) => with_bad (HH1.out.tb.below hbq) (by have := Hb1.out.size; have := hbq.size; omega) (HG.out.below (Below.next Hb1.out hbq)) Hg.out (hri.out.below hbq) Hok.out.rng (by omega) Hna.out)
  generalize (metF g).length = ML at *
  go_cut [8, 7] from 23 to 32 (fun s8 s7 wc => ∃ bx fb s, s8 = .pointer (some ⟨bx, 0, none⟩) ∧ s7 = .iface 102 (.pointer (some ⟨fb, 0, none⟩)) ∧ Hid (Below w1.heap.size w1 wc ∧ wc.heap[fb]? = some (n_faultObj 31 (-1) s)))
  case first =>
    go_region_held3 (fun w' => w'.cell? ⟨hb, 1, none⟩ = some (.pointer (some ⟨tb, 0, none⟩)) ∧ w'.cell? ⟨W.heap.size, 0, none⟩ = some (.slice na g.nodes.length nc) ∧ w'.cell? ⟨W.heap.size, 1, none⟩ = some (.slice ra g.roots.length rc)) (first | (with_reducible exact ⟨h1, x0, x1⟩) | (with_reducible exact skp_al ⟨h1, x0, x1⟩) | (with_reducible exact skp_dr ⟨h1, x0, x1⟩) | (with_reducible exact skp_dr (skp_al ⟨h1, x0, x1⟩)) | (with_reducible exact skp_set (by omega) (by omega) ⟨h1, x0, x1⟩))
      (first
        | (go_at_call 49; with_reducible refine (hwi.out _ (Below.refl _ w1).drew).mono ?_; rintro e w3 ⟨⟨fb, sn, rfl, hf⟩, hb3⟩; have HF := hid hf; have HB5 := hid (Below.next (Below.refl _ w1).drew hb3); replace h1 := (HB5.out.cell (p := ⟨hb, 1, none⟩) zh).trans h1; replace x0 := (HB5.out.cell (p := ⟨W.heap.size, 0, none⟩) zx).trans x0; replace x1 := (HB5.out.cell (p := ⟨W.heap.size, 1, none⟩) zx).trans x1; clear hb3 hf)
        | (go_at_call 49; with_reducible refine (hwi.out _ (below_alloc w1 (.cells #[.pointer none] 81)).drew).mono ?_; rintro e w3 ⟨⟨fb, sn, rfl, hf⟩, hb3⟩; have HF := hid hf; obtain ⟨bx3, bx4, bx5⟩ := box_cell hb3; have HB5 := hid (Below.next (below_alloc w1 (.cells #[.pointer none] 81)).drew hb3); replace h1 := (HB5.out.cell (p := ⟨hb, 1, none⟩) zh).trans h1; replace x0 := (HB5.out.cell (p := ⟨W.heap.size, 0, none⟩) zx).trans x0; replace x1 := (HB5.out.cell (p := ⟨W.heap.size, 1, none⟩) zx).trans x1; clear hb3 hf))
    all_goals go_wp2_with fail
    all_goals go_meet
    all_goals first
      | exact ⟨_, fb, sn, rfl, rfl, Below.next HB5.out (below_alloc w3 _), ((below_alloc w3 _).block _ (lt_of_block HF.out)).trans HF.out⟩
      | exact ⟨_, fb, sn, rfl, rfl, HB5.out.setCell (p := ⟨w1.heap.size, 0, none⟩) (Nat.le_refl _) _, (Below.heap_setCell _ _ _ _ (by exact obj_ne HF.out bx3 (by decide))).trans HF.out⟩
  case rest =>
    obtain ⟨bx, fb, sn, rfl, rfl, hW⟩ := hcut
    have hwr := hid (wrapped_any wc (HE.out.below (Below.next Hb1.out hW.out.1)) 111 fb hW.out.2)
    have Hbw := hid (Below.next Hb1.out hW.out.1)
    clear h1 x0 x1
    go_wp2_with (go_at_call 46; refine hwr.out.mono ?_; rintro e w9 ⟨⟨b9, rfl, _⟩, hb9⟩; have Hb9 := hid (Below.next Hbw.out hb9); clear hb9)
    go_ret2
    exact ⟨⟨_, rfl⟩, Hb9.out⟩
end
end Go.Proofs.YtgmldkojldlekaaGreatDoor

namespace Go.Proofs.YtgmldkojldlekaaGreatDoor
open Go.RowKit
theorem wthJ_ge (ns : List ByteArray) (g : Gf) (met : List Int) : ∀ j, ns.length ≤ (wthJ ns g met j).length
  | 0 => Nat.le_refl _
  | j + 1 => by
    have h1 := wthJ_ge ns g met j
    show _ ≤ (wth1 _ _).length
    unfold wth1
    split
    · exact h1
    · simp
      omega
end Go.Proofs.YtgmldkojldlekaaGreatDoor

namespace Go.Proofs.YtgmldkojldlekaaGreatDoor
open Go.RowKit
section
variable {w : World} {B hb ab tb : Nat} {m : Int} {av : Value} {l : List Int} {tv : Value} {tq : Nat} {ns : List ByteArray} {ta : Option Addr} {tc : Nat} {tr : List Te} {pa : Option Addr} {pc : Nat} {pt : List Pe} {n : Int} {T K pb : Nat}
theorem ud_cut {pre : List (Nat × Te)} {W w5 : World} {v5 : Value} (h : Ud w B hb ab tb m av l tv tq ns (.slice ta tr.length tc) tr (.slice pa pt.length pc) pt n T K pb pre W) (hpre : pre.length = (tr.drop T).length) (hpb : ∀ k ∈ a_foot ab av, k ≠ pb ∧ k ≠ w.heap.size)
    (hu : a_Upd 126 W w5 B ab m av ((undW l ((tr.drop T).drop ((tr.drop T).length - pre.length))).take K) v5) :
    Hq w5 B hb ab tb m v5 (atP l tr (T, K)) tv tq ns (.slice ta tr.length tc) tr (.slice pa pt.length pc) pt n ∧ a_Mod (qfoot hb ab av (.slice ta tr.length tc) (.slice pa pt.length pc)) w w5 ∧ w5.heap[w.heap.size]? = some (.cells #[.pointer (some ⟨hb, 0, none⟩)] 23) ∧ w5.heap[pb]? = some (.cells #[.int .i64 (T : Int), .int .i64 (K : Int), .slice none 0 0] 85) := by
  have e : (undW l ((tr.drop T).drop ((tr.drop T).length - pre.length))).take K = atP l tr (T, K) := by
    rw [hpre, Nat.sub_self, List.drop_zero, undW_take]
    rfl
  rw [e] at hu
  exact ⟨h.q.words hu, h.m.trans (hu.mod.ofMem (qfoot hb ab av (.slice ta tr.length tc) (.slice pa pt.length pc)) (fun z hz => Or.inl (mem_qfoot.2 (Or.inr (Or.inl hz))))) (fun z hz => Or.inl hz), (hu.mod.block _ (lt_of_block h.x) (fun hx => (hpb _ hx).2 rfl)).trans h.x, (hu.mod.block _ (lt_of_block h.p) (fun hx => (hpb _ hx).1 rfl)).trans h.p⟩
theorem ud_frz {w5 : World} {v5 : Value} {L : List Int} {trv ptv u : Value} (h : Hq w5 B hb ab tb m v5 L tv tq ns trv tr ptv pt n) : (w5.setCell ⟨hb, 2, none⟩ u).frozen? ⟨hb, 3, none⟩ = false := by
  have e := heap_setCell_same w5 hb 2 _ _ u h.hp.blk
  simp [World.frozen?, e]
theorem ud_c3 {w5 : World} {v5 : Value} {L : List Int} {trv ptv u : Value} (h : Hq w5 B hb ab tb m v5 L tv tq ns trv tr ptv pt n) : (w5.setCell ⟨hb, 2, none⟩ u).cell? ⟨hb, 3, none⟩ = some ptv := by
  have e := heap_setCell_same w5 hb 2 _ _ u h.hp.blk
  simp [World.cell?, e]
theorem ud_fin {w5 : World} {v5 : Value} {L : List Int} {D i : Nat} (h : Hq w5 B hb ab tb m v5 L tv tq ns (.slice ta tr.length tc) tr (.slice pa pt.length pc) pt n) (hm : a_Mod (qfoot hb ab av (.slice ta tr.length tc) (.slice pa pt.length pc)) w w5) (hT : T ≤ tr.length) (hi : i < pt.length) (hK : w5.heap[D]? = some (.deferred (some []))) (hD : w.heap.size ≤ D) (htq : tq < w.heap.size) :
    ((w5.setCell ⟨hb, 2, none⟩ (.slice ta T tc)).setCell ⟨hb, 3, none⟩ (.slice pa (i + 1) pc)).heap[D]? = some (.deferred (some [])) ∧
    Hq (((w5.setCell ⟨hb, 2, none⟩ (.slice ta T tc)).setCell ⟨hb, 3, none⟩ (.slice pa (i + 1) pc)).putObj D (.deferred none)) B hb ab tb m v5 L tv tq ns (.slice ta T tc) (tr.take T) (.slice pa (i + 1) pc) (pt.take (i + 1)) n ∧
    a_Mod (qfoot hb ab av (.slice ta tr.length tc) (.slice pa pt.length pc)) w (((w5.setCell ⟨hb, 2, none⟩ (.slice ta T tc)).setCell ⟨hb, 3, none⟩ (.slice pa (i + 1) pc)).putObj D (.deferred none)) ∧
    a_Nx w (.slice ta tr.length tc) (.slice ta T tc) ∧ a_Nx w (.slice pa pt.length pc) (.slice pa (i + 1) pc) := by
  have ht := own_cut h.tr (k := T) hT
  rw [svC_take] at ht
  have h6 := h.newtr (tr' := tr.take T) (by rw [List.length_take, Nat.min_eq_left hT]; exact ht)
  have hp := own_cut h6.pt (k := i + 1) hi
  rw [mkC_take] at hp
  have h7 := h6.newpt (pt' := pt.take (i + 1)) (by rw [List.length_take, Nat.min_eq_left (by omega)]; exact hp)
  have hm7 : a_Mod (qfoot hb ab av (.slice ta tr.length tc) (.slice pa pt.length pc)) w ((w5.setCell ⟨hb, 2, none⟩ (.slice ta T tc)).setCell ⟨hb, 3, none⟩ (.slice pa (i + 1) pc)) := (hm.setCell (p := ⟨hb, 2, none⟩) (Or.inl (mem_qfoot.2 (Or.inl rfl))) _).setCell (p := ⟨hb, 3, none⟩) (Or.inl (mem_qfoot.2 (Or.inl rfl))) _
  have hDh : D ≠ hb := fun e => by
    subst e
    rw [h.hp.blk] at hK
    cases hK
  have m9 : ((w5.setCell ⟨hb, 2, none⟩ (.slice ta T tc)).setCell ⟨hb, 3, none⟩ (.slice pa (i + 1) pc)).heap[D]? = some (.deferred (some [])) := by
    rw [Below.heap_setCell _ _ _ _ hDh, Below.heap_setCell _ _ _ _ hDh]
    exact hK
  generalize (w5.setCell ⟨hb, 2, none⟩ (.slice ta T tc)).setCell ⟨hb, 3, none⟩ (.slice pa (i + 1) pc) = X at *
  have n9 : Nb w.heap.size X (X.putObj D (.deferred none)) := Nb.put (.deferred none) hD m9 rfl
  obtain ⟨ks, hmk, hks⟩ := n9.mod
  refine ⟨m9, h7.nb n9 htq, hm7.trans (hmk.ofMem (qfoot hb ab av (.slice ta tr.length tc) (.slice pa pt.length pc) ++ ks) (fun y hy => Or.inl (by simp [hy]))) (fun y hy => ?_), fun q hq => Or.inl ?_, fun q hq => Or.inl ?_⟩
  · rcases List.mem_append.1 hy with hy | hy
    · exact Or.inl hy
    · exact Or.inr (hks y hy).1
  · cases ta with
    | none => cases hq
    | some a => exact hq
  · cases pa with
    | none => cases hq
    | some a => exact hq
end
end Go.Proofs.YtgmldkojldlekaaGreatDoor
