/- split of package bisim: a class becomes two. -/
import Derived.Test.YtllafbghomohhaaBiSplit
namespace Go.Proofs.Ytllafbghomohhaa
open Go.RowKit

set_option maxRecDepth 100000 in
set_option maxHeartbeats 4000000 in
theorem split_low {w : World} {B pb c N : Nat} {v0 v1 v2 v3 v4 v5 : Value} {S : Ps} (hP : Pt w B pb v0 v1 v2 v3 v4 v5 (S.rows N)) (h : Iv N S) (hN : N ≤ 4500) (hc : c < S.C) (hm : 0 < S.mq c) (hB : B ≤ w.heap.size) (he : ¬ S.fi c + S.mq c = S.be c) (hle : S.mq c ≤ S.be c - (S.fi c + S.mq c)) :
    Calls Try.prog 86 #[.pointer (some ⟨pb, 0, none⟩), .int .i64 c] w fun e w' => e = .returned (.tuple #[]) ∧ ∃ u3 u4 u5, Pt w' B pb v0 v1 v2 u3 u4 u5 ((S.split c).rows N) ∧ Ch (pb :: blocks [v0, v1, v2, v3, v4, v5]) w w' ∧ ∀ k ∈ blocks [u3, u4, u5], k ∈ blocks [v0, v1, v2, v3, v4, v5] ∨ w.heap.size ≤ k := by
  have e0 : (S.rows N 0).length = N := rowF_len _ _
  have e1 : (S.rows N 1).length = N := rowF_len _ _
  have e2 : (S.rows N 2).length = N := rowF_len _ _
  have e3 : (S.rows N 3).length = S.C := rowF_len _ _
  have e4 : (S.rows N 4).length = S.C := rowF_len _ _
  have e5 : (S.rows N 5).length = S.C := rowF_len _ _
  have hCN := h.le
  obtain ⟨hr1, hr2, hr3⟩ := h.rng c hc
  obtain ⟨q3, c3, rfl, _⟩ : ∃ q c, v3 = .slice (some ⟨q, 0, none⟩) S.C c ∧ v3.ownBlock = some q := by
    rw [← e3]
    exact (own_form (hP.fm.own 3 (by simp))).resolve_left (fun h => by omega)
  obtain ⟨q4, c4, rfl, _⟩ : ∃ q c, v4 = .slice (some ⟨q, 0, none⟩) S.C c ∧ v4.ownBlock = some q := by
    rw [← e4]
    exact (own_form (hP.fm.own 4 (by simp))).resolve_left (fun h => by omega)
  obtain ⟨q5, c5, rfl, _⟩ : ∃ q c, v5 = .slice (some ⟨q, 0, none⟩) S.C c ∧ v5.ownBlock = some q := by
    rw [← e5]
    exact (own_form (hP.fm.own 5 (by simp))).resolve_left (fun h => by omega)
  obtain ⟨⟨a0, c0, h0⟩, ⟨a1, c1, h1⟩, ⟨a2, c2, h2⟩, _⟩ := hP.sl
  rw [e0] at h0
  rw [e1] at h1
  rw [e2] at h2
  subst h0 h1 h2
  obtain ⟨⟨z0, z1, z2, z3, z4, z5⟩, _⟩ := blk6 hP.blk
  have k3 := (hP.fm.cellN (i := 3) (j := c) (by simp) rfl e3 hc).1
  have k4 := (hP.fm.cellN (i := 4) (j := c) (by simp) rfl e4 hc).1
  have k5 := (hP.fm.cellN (i := 5) (j := c) (by simp) rfl e5 hc).1
  have k5f := (hP.fm.cellN (i := 5) (j := c) (by simp) rfl e5 hc).2
  have g3 : (S.rows N 3).getD c 0 = (S.fi c : Int) := rowF_get _ hc
  have g4 : (S.rows N 4).getD c 0 = (S.be c : Int) := rowF_get _ hc
  have g5 : (S.rows N 5).getD c 0 = (S.mq c : Int) := rowF_get _ hc
  rw [g3] at k3
  rw [g4] at k4
  rw [g5] at k5
  clear g3 g4 g5
  have m3 : q3 ∈ blocks [.slice a0 N c0, .slice a1 N c1, .slice a2 N c2, .slice (some ⟨q3, 0, none⟩) S.C c3, .slice (some ⟨q4, 0, none⟩) S.C c4, .slice (some ⟨q5, 0, none⟩) S.C c5] := mem_blocks (i := 3) (by simp) rfl
  have m4 : q4 ∈ blocks [.slice a0 N c0, .slice a1 N c1, .slice a2 N c2, .slice (some ⟨q3, 0, none⟩) S.C c3, .slice (some ⟨q4, 0, none⟩) S.C c4, .slice (some ⟨q5, 0, none⟩) S.C c5] := mem_blocks (i := 4) (by simp) rfl
  have m5 : q5 ∈ blocks [.slice a0 N c0, .slice a1 N c1, .slice a2 N c2, .slice (some ⟨q3, 0, none⟩) S.C c3, .slice (some ⟨q4, 0, none⟩) S.C c4, .slice (some ⟨q5, 0, none⟩) S.C c5] := mem_blocks (i := 5) (by simp) rfl
  have hsp : Hid (S.split c = ({ S with mq := upd S.mq c 0, fi := upd S.fi c (S.fi c + S.mq c) } : Ps).enter (S.fi c) (S.fi c + S.mq c)) := by
    show _ = _
    unfold Ps.split
    rw [if_neg he, if_pos hle]
  have hpn := hid h.pn
  have hnp := hid h.np
  have hP5 := hid (fun q => (((hP.drewN q).set5 (t := c) e5 0).congr (f' := ({ S with mq := upd S.mq c 0 } : Ps).rows N) (six rfl rfl rfl rfl rfl (rowF_set S.C c 0 S.mq))))
  have hC5 := hid (fun q => (show Ch (blocks [.slice a0 N c0, .slice a1 N c1, .slice a2 N c2, .slice (some ⟨q3, 0, none⟩) S.C c3, .slice (some ⟨q4, 0, none⟩) S.C c4, .slice (some ⟨q5, 0, none⟩) S.C c5]) w (w.drewN q) from ⟨rfl, rfl, rfl, Nat.le_refl _, fun _ _ _ => rfl⟩).put (i := c) (.int .i64 0) m5)
  have hm3 := hid m3
  have hm4 := hid m4
  have n53 : ¬ q3 = q5 := fun e => hP.fm.nd 3 5 q3 q5 (by simp) (by simp) (by omega) rfl rfl e
  have n54 : ¬ q4 = q5 := fun e => hP.fm.nd 4 5 q4 q5 (by simp) (by simp) (by omega) rfl rfl e
  have np3 : ¬ pb = q3 := fun e => hP.fm.ty hP.blk (by decide) (mem_blocks (i := 3) (by simp) (by rw [e]; rfl))
  have np4 : ¬ pb = q4 := fun e => hP.fm.ty hP.blk (by decide) (mem_blocks (i := 4) (by simp) (by rw [e]; rfl))
  have np5 : ¬ pb = q5 := fun e => hP.fm.ty hP.blk (by decide) (mem_blocks (i := 5) (by simp) (by rw [e]; rfl))
  clear e0 e1 e2 e3 e4 e5 m3 m4 m5 h
  generalize hF : S.fi c = F at *
  generalize hM : S.mq c = M at *
  generalize hE : S.be c = E at *

  go_enter Try.func86, Try.ntmps86
  go_wp2
  go_quiet (fail)
  have hP3 := hid (fun q => ((hP5.out q).set3 (t := c) (rowF_len _ _) ((F : Int) + (M : Int))).congr (f' := ({ S with mq := upd S.mq c 0, fi := upd S.fi c (F + M) } : Ps).rows N) (six rfl rfl rfl (radd _ _ _ _ _) rfl rfl))
  have hC3 := hid (fun q => (hC5.out q).put (i := c) (.int .i64 ((F : Int) + (M : Int))) hm3.out)
  have hsz : Hid (∀ q, ((((w.drewN q).setCell ⟨q5, c, none⟩ (.int .i64 0)).setCell ⟨q3, c, none⟩ (.int .i64 ((F : Int) + (M : Int)))).heap.size = w.heap.size)) := fun q => by simp
  have k3f := (hP.fm.cellN (i := 3) (j := c) (by simp) rfl (rowF_len _ _) hc).2
  have hI : ¬ ((F : Int) + (M : Int) = (E : Int)) := by omega
  have hJ : (F : Int) + (M : Int) - (F : Int) ≤ (E : Int) - ((F : Int) + (M : Int)) := by omega
  have hE1 : F + M < E := by omega
  have hE2 : E ≤ 4500 := by omega
  have hHP := hid hP
  clear hle he hP
  go_wp2_with (go_at_call 84; refine (enter_ps (a := F) (b := F + M) (hP3.out nq) hpn.out hnp.out hN (by show S.C ≤ 4500; omega) (by omega) (by omega) (by rw [hsz.out nq]; exact hB) (by omega) (by omega)).mono ?_; rintro e w1 ⟨rfl, u3, u4, u5, hE1', hE2', hE3'⟩)
  go_end0
  refine ⟨rfl, u3, u4, u5, by rw [hsp.out]; exact hE1', ((hC3.out nq).mono (fun k hk => List.mem_cons_of_mem _ hk)).trans hE2' (fun k hk => Or.inl hk), fun k hk => ?_⟩
  have := hE3' k hk
  rw [hsz.out nq] at this
  exact this
set_option maxRecDepth 100000 in
set_option maxHeartbeats 4000000 in
theorem split_high {w : World} {B pb c N : Nat} {v0 v1 v2 v3 v4 v5 : Value} {S : Ps} (hP : Pt w B pb v0 v1 v2 v3 v4 v5 (S.rows N)) (h : Iv N S) (hN : N ≤ 4500) (hc : c < S.C) (hm : 0 < S.mq c) (hB : B ≤ w.heap.size) (he : ¬ S.fi c + S.mq c = S.be c) (hle : ¬ S.mq c ≤ S.be c - (S.fi c + S.mq c)) :
    Calls Try.prog 86 #[.pointer (some ⟨pb, 0, none⟩), .int .i64 c] w fun e w' => e = .returned (.tuple #[]) ∧ ∃ u3 u4 u5, Pt w' B pb v0 v1 v2 u3 u4 u5 ((S.split c).rows N) ∧ Ch (pb :: blocks [v0, v1, v2, v3, v4, v5]) w w' ∧ ∀ k ∈ blocks [u3, u4, u5], k ∈ blocks [v0, v1, v2, v3, v4, v5] ∨ w.heap.size ≤ k := by
  have e0 : (S.rows N 0).length = N := rowF_len _ _
  have e1 : (S.rows N 1).length = N := rowF_len _ _
  have e2 : (S.rows N 2).length = N := rowF_len _ _
  have e3 : (S.rows N 3).length = S.C := rowF_len _ _
  have e4 : (S.rows N 4).length = S.C := rowF_len _ _
  have e5 : (S.rows N 5).length = S.C := rowF_len _ _
  have hCN := h.le
  obtain ⟨hr1, hr2, hr3⟩ := h.rng c hc
  obtain ⟨q3, c3, rfl, _⟩ : ∃ q c, v3 = .slice (some ⟨q, 0, none⟩) S.C c ∧ v3.ownBlock = some q := by
    rw [← e3]
    exact (own_form (hP.fm.own 3 (by simp))).resolve_left (fun h => by omega)
  obtain ⟨q4, c4, rfl, _⟩ : ∃ q c, v4 = .slice (some ⟨q, 0, none⟩) S.C c ∧ v4.ownBlock = some q := by
    rw [← e4]
    exact (own_form (hP.fm.own 4 (by simp))).resolve_left (fun h => by omega)
  obtain ⟨q5, c5, rfl, _⟩ : ∃ q c, v5 = .slice (some ⟨q, 0, none⟩) S.C c ∧ v5.ownBlock = some q := by
    rw [← e5]
    exact (own_form (hP.fm.own 5 (by simp))).resolve_left (fun h => by omega)
  obtain ⟨⟨a0, c0, h0⟩, ⟨a1, c1, h1⟩, ⟨a2, c2, h2⟩, _⟩ := hP.sl
  rw [e0] at h0
  rw [e1] at h1
  rw [e2] at h2
  subst h0 h1 h2
  obtain ⟨⟨z0, z1, z2, z3, z4, z5⟩, _⟩ := blk6 hP.blk
  have k3 := (hP.fm.cellN (i := 3) (j := c) (by simp) rfl e3 hc).1
  have k4 := (hP.fm.cellN (i := 4) (j := c) (by simp) rfl e4 hc).1
  have k5 := (hP.fm.cellN (i := 5) (j := c) (by simp) rfl e5 hc).1
  have k5f := (hP.fm.cellN (i := 5) (j := c) (by simp) rfl e5 hc).2
  have g3 : (S.rows N 3).getD c 0 = (S.fi c : Int) := rowF_get _ hc
  have g4 : (S.rows N 4).getD c 0 = (S.be c : Int) := rowF_get _ hc
  have g5 : (S.rows N 5).getD c 0 = (S.mq c : Int) := rowF_get _ hc
  rw [g3] at k3
  rw [g4] at k4
  rw [g5] at k5
  clear g3 g4 g5
  have m3 : q3 ∈ blocks [.slice a0 N c0, .slice a1 N c1, .slice a2 N c2, .slice (some ⟨q3, 0, none⟩) S.C c3, .slice (some ⟨q4, 0, none⟩) S.C c4, .slice (some ⟨q5, 0, none⟩) S.C c5] := mem_blocks (i := 3) (by simp) rfl
  have m4 : q4 ∈ blocks [.slice a0 N c0, .slice a1 N c1, .slice a2 N c2, .slice (some ⟨q3, 0, none⟩) S.C c3, .slice (some ⟨q4, 0, none⟩) S.C c4, .slice (some ⟨q5, 0, none⟩) S.C c5] := mem_blocks (i := 4) (by simp) rfl
  have m5 : q5 ∈ blocks [.slice a0 N c0, .slice a1 N c1, .slice a2 N c2, .slice (some ⟨q3, 0, none⟩) S.C c3, .slice (some ⟨q4, 0, none⟩) S.C c4, .slice (some ⟨q5, 0, none⟩) S.C c5] := mem_blocks (i := 5) (by simp) rfl
  have hsp : Hid (S.split c = ({ S with mq := upd S.mq c 0, be := upd S.be c (S.fi c + S.mq c) } : Ps).enter (S.fi c + S.mq c) (S.be c)) := by
    show _ = _
    unfold Ps.split
    rw [if_neg he, if_neg hle]
  have hpn := hid h.pn
  have hnp := hid h.np
  have hP5 := hid (fun q => (((hP.drewN q).set5 (t := c) e5 0).congr (f' := ({ S with mq := upd S.mq c 0 } : Ps).rows N) (six rfl rfl rfl rfl rfl (rowF_set S.C c 0 S.mq))))
  have hC5 := hid (fun q => (show Ch (blocks [.slice a0 N c0, .slice a1 N c1, .slice a2 N c2, .slice (some ⟨q3, 0, none⟩) S.C c3, .slice (some ⟨q4, 0, none⟩) S.C c4, .slice (some ⟨q5, 0, none⟩) S.C c5]) w (w.drewN q) from ⟨rfl, rfl, rfl, Nat.le_refl _, fun _ _ _ => rfl⟩).put (i := c) (.int .i64 0) m5)
  have hm3 := hid m3
  have hm4 := hid m4
  have n53 : ¬ q3 = q5 := fun e => hP.fm.nd 3 5 q3 q5 (by simp) (by simp) (by omega) rfl rfl e
  have n54 : ¬ q4 = q5 := fun e => hP.fm.nd 4 5 q4 q5 (by simp) (by simp) (by omega) rfl rfl e
  have np3 : ¬ pb = q3 := fun e => hP.fm.ty hP.blk (by decide) (mem_blocks (i := 3) (by simp) (by rw [e]; rfl))
  have np4 : ¬ pb = q4 := fun e => hP.fm.ty hP.blk (by decide) (mem_blocks (i := 4) (by simp) (by rw [e]; rfl))
  have np5 : ¬ pb = q5 := fun e => hP.fm.ty hP.blk (by decide) (mem_blocks (i := 5) (by simp) (by rw [e]; rfl))
  clear e0 e1 e2 e3 e4 e5 m3 m4 m5 h
  generalize hF : S.fi c = F at *
  generalize hM : S.mq c = M at *
  generalize hE : S.be c = E at *

  go_enter Try.func86, Try.ntmps86
  go_wp2
  go_quiet (fail)
  have hP3 := hid (fun q => ((hP5.out q).set4 (t := c) (rowF_len _ _) ((F : Int) + (M : Int))).congr (f' := ({ S with mq := upd S.mq c 0, be := upd S.be c (F + M) } : Ps).rows N) (six rfl rfl rfl rfl (radd _ _ _ _ _) rfl))
  have hC3 := hid (fun q => (hC5.out q).put (i := c) (.int .i64 ((F : Int) + (M : Int))) hm4.out)
  have hsz : Hid (∀ q, ((((w.drewN q).setCell ⟨q5, c, none⟩ (.int .i64 0)).setCell ⟨q4, c, none⟩ (.int .i64 ((F : Int) + (M : Int)))).heap.size = w.heap.size)) := fun q => by simp
  have k3f := (hP.fm.cellN (i := 4) (j := c) (by simp) rfl (rowF_len _ _) hc).2
  have hI : ¬ ((F : Int) + (M : Int) = (E : Int)) := by omega
  have hJ : ¬ ((F : Int) + (M : Int) - (F : Int) ≤ (E : Int) - ((F : Int) + (M : Int))) := by omega
  have hE1 : F + M < E := by omega
  have hE2 : E ≤ 4500 := by omega
  have hHP := hid hP
  clear hle he hP
  go_wp2_with (go_at_call 84; refine (enter_ps (a := F + M) (b := E) (hP3.out nq) hpn.out hnp.out hN (by show S.C ≤ 4500; omega) (by omega) (by omega) (by rw [hsz.out nq]; exact hB) (by omega) (by omega)).mono ?_; rintro e w1 ⟨rfl, u3, u4, u5, hE1', hE2', hE3'⟩)
  go_end0
  refine ⟨rfl, u3, u4, u5, by rw [hsp.out]; exact hE1', ((hC3.out nq).mono (fun k hk => List.mem_cons_of_mem _ hk)).trans hE2' (fun k hk => Or.inl hk), fun k hk => ?_⟩
  have := hE3' k hk
  rw [hsz.out nq] at this
  exact this
theorem split_any {w : World} {B pb c N : Nat} {v0 v1 v2 v3 v4 v5 : Value} {S : Ps} (hP : Pt w B pb v0 v1 v2 v3 v4 v5 (S.rows N)) (h : Iv N S) (hN : N ≤ 4500) (hc : c < S.C) (hm : 0 < S.mq c) (hB : B ≤ w.heap.size) :
    Calls Try.prog 86 #[.pointer (some ⟨pb, 0, none⟩), .int .i64 c] w fun e w' => e = .returned (.tuple #[]) ∧ ∃ u3 u4 u5, Pt w' B pb v0 v1 v2 u3 u4 u5 ((S.split c).rows N) ∧ Ch (pb :: blocks [v0, v1, v2, v3, v4, v5]) w w' ∧ ∀ k ∈ blocks [u3, u4, u5], k ∈ blocks [v0, v1, v2, v3, v4, v5] ∨ w.heap.size ≤ k := by
  by_cases he : S.fi c + S.mq c = S.be c
  · exact split_none hP h hN hc hm hB he
  · by_cases hle : S.mq c ≤ S.be c - (S.fi c + S.mq c)
    · exact split_low hP h hN hc hm hB he hle
    · exact split_high hP h hN hc hm hB he hle
end Go.Proofs.Ytllafbghomohhaa
