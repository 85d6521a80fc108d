/- split of package bisim: a class becomes two. -/
import Derived.Test.YtgmldkojldlekaaGreatDoorSR15Z
import Derived.Test.YtgmldkojldlekaaGreatDoorSR11Z
import Derived.Test.YtgmldkojldlekaaGreatDoorSR03Z
import Derived.Test.YtgmldkojldlekaaGreatDoorSR12Z
import Derived.Test.YtgmldkojldlekaaGreatDoorSR14Z
import Derived.Test.YtgmldkojldlekaaGreatDoorSR09Z
namespace Go.Proofs.YtgmldkojldlekaaGreatDoor
set_option maxRecDepth 100000
open Go.RowKit
set_option maxHeartbeats 4000000 in
theorem split_low {w : World} {B pb c N : Nat} {v0 v1 v2 v3 v4 v5 : Value} {S : Ps} (hP : Pt w B pb v0 v1 v2 v3 v4 v5 (S.rows N)) (h : Iv N S) (hN : N ≤ 4500) (hc : c < S.C) (hm : 0 < S.mq c) (hB : B ≤ w.heap.size) (he : ¬ S.fi c + S.mq c = S.be c) (hle : S.mq c ≤ S.be c - (S.fi c + S.mq c)) :
    Calls Tryz.prog 135 #[.pointer (some ⟨pb, 0, none⟩), .int .i64 c] w fun e w' => e = .returned (.tuple #[]) ∧ ∃ u3 u4 u5, Pt w' B pb v0 v1 v2 u3 u4 u5 ((S.split c).rows N) ∧ Ch (pb :: blocks [v0, v1, v2, v3, v4, v5]) w w' ∧ ∀ k ∈ blocks [u3, u4, u5], k ∈ blocks [v0, v1, v2, v3, v4, v5] ∨ w.heap.size ≤ k := by
  have e0 : (S.rows N 0).length = N := rowF_len _ _
  have e1 : (S.rows N 1).length = N := rowF_len _ _
  have e2 : (S.rows N 2).length = N := rowF_len _ _
  have e3 : (S.rows N 3).length = S.C := rowF_len _ _
  have e4 : (S.rows N 4).length = S.C := rowF_len _ _
  have e5 : (S.rows N 5).length = S.C := rowF_len _ _
  have hCN := h.le
  obtain ⟨hr1, hr2, hr3⟩ := h.rng c hc
  obtain ⟨q3, c3, rfl, _⟩ : ∃ q c, v3 = .slice (some ⟨q, 0, none⟩) S.C c ∧ v3.ownBlock = some q := by
    rw [← e3]
    exact (own_form (hP.fm.own 3 (by simp))).resolve_left (fun h => by omega)
  obtain ⟨q4, c4, rfl, _⟩ : ∃ q c, v4 = .slice (some ⟨q, 0, none⟩) S.C c ∧ v4.ownBlock = some q := by
    rw [← e4]
    exact (own_form (hP.fm.own 4 (by simp))).resolve_left (fun h => by omega)
  obtain ⟨q5, c5, rfl, _⟩ : ∃ q c, v5 = .slice (some ⟨q, 0, none⟩) S.C c ∧ v5.ownBlock = some q := by
    rw [← e5]
    exact (own_form (hP.fm.own 5 (by simp))).resolve_left (fun h => by omega)
  obtain ⟨⟨a0, c0, h0⟩, ⟨a1, c1, h1⟩, ⟨a2, c2, h2⟩, _⟩ := hP.sl
  rw [e0] at h0
  rw [e1] at h1
  rw [e2] at h2
  subst h0 h1 h2
  obtain ⟨⟨z0, z1, z2, z3, z4, z5⟩, _⟩ := blk6 hP.blk
  have k3 := (hP.fm.cellN (i := 3) (j := c) (by simp) rfl e3 hc).1
  have k4 := (hP.fm.cellN (i := 4) (j := c) (by simp) rfl e4 hc).1
  have k5 := (hP.fm.cellN (i := 5) (j := c) (by simp) rfl e5 hc).1
  have k5f := (hP.fm.cellN (i := 5) (j := c) (by simp) rfl e5 hc).2
  have g3 : (S.rows N 3).getD c 0 = (S.fi c : Int) := rowF_get _ hc
  have g4 : (S.rows N 4).getD c 0 = (S.be c : Int) := rowF_get _ hc
  have g5 : (S.rows N 5).getD c 0 = (S.mq c : Int) := rowF_get _ hc
  rw [g3] at k3
  rw [g4] at k4
  rw [g5] at k5
  clear g3 g4 g5
  have m3 : q3 ∈ blocks [.slice a0 N c0, .slice a1 N c1, .slice a2 N c2, .slice (some ⟨q3, 0, none⟩) S.C c3, .slice (some ⟨q4, 0, none⟩) S.C c4, .slice (some ⟨q5, 0, none⟩) S.C c5] := mem_blocks (i := 3) (by simp) rfl
  have m4 : q4 ∈ blocks [.slice a0 N c0, .slice a1 N c1, .slice a2 N c2, .slice (some ⟨q3, 0, none⟩) S.C c3, .slice (some ⟨q4, 0, none⟩) S.C c4, .slice (some ⟨q5, 0, none⟩) S.C c5] := mem_blocks (i := 4) (by simp) rfl
  have m5 : q5 ∈ blocks [.slice a0 N c0, .slice a1 N c1, .slice a2 N c2, .slice (some ⟨q3, 0, none⟩) S.C c3, .slice (some ⟨q4, 0, none⟩) S.C c4, .slice (some ⟨q5, 0, none⟩) S.C c5] := mem_blocks (i := 5) (by simp) rfl
  have hsp : Hid (S.split c = ({ S with mq := upd S.mq c 0, fi := upd S.fi c (S.fi c + S.mq c) } : Ps).enter (S.fi c) (S.fi c + S.mq c)) := by
    show _ = _
    unfold Ps.split
    rw [if_neg he, if_pos hle]
  have hpn := hid h.pn
  have hnp := hid h.np
  have hP5 := hid (fun q => (((hP.drewN q).set5 (t := c) e5 0).congr (f' := ({ S with mq := upd S.mq c 0 } : Ps).rows N) (six rfl rfl rfl rfl rfl (rowF_set S.C c 0 S.mq))))
  have hC5 := hid (fun q => (show Ch (blocks [.slice a0 N c0, .slice a1 N c1, .slice a2 N c2, .slice (some ⟨q3, 0, none⟩) S.C c3, .slice (some ⟨q4, 0, none⟩) S.C c4, .slice (some ⟨q5, 0, none⟩) S.C c5]) w (w.drewN q) from ⟨rfl, rfl, rfl, Nat.le_refl _, fun _ _ _ => rfl⟩).put (i := c) (.int .i64 0) m5)
  have hm3 := hid m3
  have hm4 := hid m4
  have n53 : ¬ q3 = q5 := fun e => hP.fm.nd 3 5 q3 q5 (by simp) (by simp) (by omega) rfl rfl e
  have n54 : ¬ q4 = q5 := fun e => hP.fm.nd 4 5 q4 q5 (by simp) (by simp) (by omega) rfl rfl e
  have np3 : ¬ pb = q3 := fun e => hP.fm.ty hP.blk (by decide) (mem_blocks (i := 3) (by simp) (by rw [e]; rfl))
  have np4 : ¬ pb = q4 := fun e => hP.fm.ty hP.blk (by decide) (mem_blocks (i := 4) (by simp) (by rw [e]; rfl))
  have np5 : ¬ pb = q5 := fun e => hP.fm.ty hP.blk (by decide) (mem_blocks (i := 5) (by simp) (by rw [e]; rfl))
  clear e0 e1 e2 e3 e4 e5 m3 m4 m5 h
  generalize hF : S.fi c = F at *
  generalize hM : S.mq c = M at *
  generalize hE : S.be c = E at *
  go_enter Tryz.func135, Tryz.ntmps135
  go_wp2
  go_quiet (fail)
  have hP3 := hid (fun q => ((hP5.out q).set3 (t := c) (rowF_len _ _) ((F : Int) + (M : Int))).congr (f' := ({ S with mq := upd S.mq c 0, fi := upd S.fi c (F + M) } : Ps).rows N) (six rfl rfl rfl (radd _ _ _ _ _) rfl rfl))
  have hC3 := hid (fun q => (hC5.out q).put (i := c) (.int .i64 ((F : Int) + (M : Int))) hm3.out)
  have hsz : Hid (∀ q, ((((w.drewN q).setCell ⟨q5, c, none⟩ (.int .i64 0)).setCell ⟨q3, c, none⟩ (.int .i64 ((F : Int) + (M : Int)))).heap.size = w.heap.size)) := fun q => by simp
  have k3f := (hP.fm.cellN (i := 3) (j := c) (by simp) rfl (rowF_len _ _) hc).2
  have hI : ¬ ((F : Int) + (M : Int) = (E : Int)) := by omega
  have hJ : (F : Int) + (M : Int) - (F : Int) ≤ (E : Int) - ((F : Int) + (M : Int)) := by omega
  have hE1 : F + M < E := by omega
  have hE2 : E ≤ 4500 := by omega
  have hHP := hid hP
  clear hle he hP
  go_wp2_with (go_at_call 133; refine (enter_ps (a := F) (b := F + M) (hP3.out nq) hpn.out hnp.out hN (by show S.C ≤ 4500; omega) (by omega) (by omega) (by rw [hsz.out nq]; exact hB) (by omega) (by omega)).mono ?_; rintro e w1 ⟨rfl, u3, u4, u5, hE1', hE2', hE3'⟩)
  go_end0
  refine ⟨rfl, u3, u4, u5, by rw [hsp.out]; exact hE1', ((hC3.out nq).mono (fun k hk => List.mem_cons_of_mem _ hk)).trans hE2' (fun k hk => Or.inl hk), fun k hk => ?_⟩
  have := hE3' k hk
  rw [hsz.out nq] at this
  exact this
set_option maxHeartbeats 4000000 in
theorem split_high {w : World} {B pb c N : Nat} {v0 v1 v2 v3 v4 v5 : Value} {S : Ps} (hP : Pt w B pb v0 v1 v2 v3 v4 v5 (S.rows N)) (h : Iv N S) (hN : N ≤ 4500) (hc : c < S.C) (hm : 0 < S.mq c) (hB : B ≤ w.heap.size) (he : ¬ S.fi c + S.mq c = S.be c) (hle : ¬ S.mq c ≤ S.be c - (S.fi c + S.mq c)) :
    Calls Tryz.prog 135 #[.pointer (some ⟨pb, 0, none⟩), .int .i64 c] w fun e w' => e = .returned (.tuple #[]) ∧ ∃ u3 u4 u5, Pt w' B pb v0 v1 v2 u3 u4 u5 ((S.split c).rows N) ∧ Ch (pb :: blocks [v0, v1, v2, v3, v4, v5]) w w' ∧ ∀ k ∈ blocks [u3, u4, u5], k ∈ blocks [v0, v1, v2, v3, v4, v5] ∨ w.heap.size ≤ k := by
  have e0 : (S.rows N 0).length = N := rowF_len _ _
  have e1 : (S.rows N 1).length = N := rowF_len _ _
  have e2 : (S.rows N 2).length = N := rowF_len _ _
  have e3 : (S.rows N 3).length = S.C := rowF_len _ _
  have e4 : (S.rows N 4).length = S.C := rowF_len _ _
  have e5 : (S.rows N 5).length = S.C := rowF_len _ _
  have hCN := h.le
  obtain ⟨hr1, hr2, hr3⟩ := h.rng c hc
  obtain ⟨q3, c3, rfl, _⟩ : ∃ q c, v3 = .slice (some ⟨q, 0, none⟩) S.C c ∧ v3.ownBlock = some q := by
    rw [← e3]
    exact (own_form (hP.fm.own 3 (by simp))).resolve_left (fun h => by omega)
  obtain ⟨q4, c4, rfl, _⟩ : ∃ q c, v4 = .slice (some ⟨q, 0, none⟩) S.C c ∧ v4.ownBlock = some q := by
    rw [← e4]
    exact (own_form (hP.fm.own 4 (by simp))).resolve_left (fun h => by omega)
  obtain ⟨q5, c5, rfl, _⟩ : ∃ q c, v5 = .slice (some ⟨q, 0, none⟩) S.C c ∧ v5.ownBlock = some q := by
    rw [← e5]
    exact (own_form (hP.fm.own 5 (by simp))).resolve_left (fun h => by omega)
  obtain ⟨⟨a0, c0, h0⟩, ⟨a1, c1, h1⟩, ⟨a2, c2, h2⟩, _⟩ := hP.sl
  rw [e0] at h0
  rw [e1] at h1
  rw [e2] at h2
  subst h0 h1 h2
  obtain ⟨⟨z0, z1, z2, z3, z4, z5⟩, _⟩ := blk6 hP.blk
  have k3 := (hP.fm.cellN (i := 3) (j := c) (by simp) rfl e3 hc).1
  have k4 := (hP.fm.cellN (i := 4) (j := c) (by simp) rfl e4 hc).1
  have k5 := (hP.fm.cellN (i := 5) (j := c) (by simp) rfl e5 hc).1
  have k5f := (hP.fm.cellN (i := 5) (j := c) (by simp) rfl e5 hc).2
  have g3 : (S.rows N 3).getD c 0 = (S.fi c : Int) := rowF_get _ hc
  have g4 : (S.rows N 4).getD c 0 = (S.be c : Int) := rowF_get _ hc
  have g5 : (S.rows N 5).getD c 0 = (S.mq c : Int) := rowF_get _ hc
  rw [g3] at k3
  rw [g4] at k4
  rw [g5] at k5
  clear g3 g4 g5
  have m3 : q3 ∈ blocks [.slice a0 N c0, .slice a1 N c1, .slice a2 N c2, .slice (some ⟨q3, 0, none⟩) S.C c3, .slice (some ⟨q4, 0, none⟩) S.C c4, .slice (some ⟨q5, 0, none⟩) S.C c5] := mem_blocks (i := 3) (by simp) rfl
  have m4 : q4 ∈ blocks [.slice a0 N c0, .slice a1 N c1, .slice a2 N c2, .slice (some ⟨q3, 0, none⟩) S.C c3, .slice (some ⟨q4, 0, none⟩) S.C c4, .slice (some ⟨q5, 0, none⟩) S.C c5] := mem_blocks (i := 4) (by simp) rfl
  have m5 : q5 ∈ blocks [.slice a0 N c0, .slice a1 N c1, .slice a2 N c2, .slice (some ⟨q3, 0, none⟩) S.C c3, .slice (some ⟨q4, 0, none⟩) S.C c4, .slice (some ⟨q5, 0, none⟩) S.C c5] := mem_blocks (i := 5) (by simp) rfl
  have hsp : Hid (S.split c = ({ S with mq := upd S.mq c 0, be := upd S.be c (S.fi c + S.mq c) } : Ps).enter (S.fi c + S.mq c) (S.be c)) := by
    show _ = _
    unfold Ps.split
    rw [if_neg he, if_neg hle]
  have hpn := hid h.pn
  have hnp := hid h.np
  have hP5 := hid (fun q => (((hP.drewN q).set5 (t := c) e5 0).congr (f' := ({ S with mq := upd S.mq c 0 } : Ps).rows N) (six rfl rfl rfl rfl rfl (rowF_set S.C c 0 S.mq))))
  have hC5 := hid (fun q => (show Ch (blocks [.slice a0 N c0, .slice a1 N c1, .slice a2 N c2, .slice (some ⟨q3, 0, none⟩) S.C c3, .slice (some ⟨q4, 0, none⟩) S.C c4, .slice (some ⟨q5, 0, none⟩) S.C c5]) w (w.drewN q) from ⟨rfl, rfl, rfl, Nat.le_refl _, fun _ _ _ => rfl⟩).put (i := c) (.int .i64 0) m5)
  have hm3 := hid m3
  have hm4 := hid m4
  have n53 : ¬ q3 = q5 := fun e => hP.fm.nd 3 5 q3 q5 (by simp) (by simp) (by omega) rfl rfl e
  have n54 : ¬ q4 = q5 := fun e => hP.fm.nd 4 5 q4 q5 (by simp) (by simp) (by omega) rfl rfl e
  have np3 : ¬ pb = q3 := fun e => hP.fm.ty hP.blk (by decide) (mem_blocks (i := 3) (by simp) (by rw [e]; rfl))
  have np4 : ¬ pb = q4 := fun e => hP.fm.ty hP.blk (by decide) (mem_blocks (i := 4) (by simp) (by rw [e]; rfl))
  have np5 : ¬ pb = q5 := fun e => hP.fm.ty hP.blk (by decide) (mem_blocks (i := 5) (by simp) (by rw [e]; rfl))
  clear e0 e1 e2 e3 e4 e5 m3 m4 m5 h
  generalize hF : S.fi c = F at *
  generalize hM : S.mq c = M at *
  generalize hE : S.be c = E at *
  go_enter Tryz.func135, Tryz.ntmps135
  go_wp2
  go_quiet (fail)
  have hP3 := hid (fun q => ((hP5.out q).set4 (t := c) (rowF_len _ _) ((F : Int) + (M : Int))).congr (f' := ({ S with mq := upd S.mq c 0, be := upd S.be c (F + M) } : Ps).rows N) (six rfl rfl rfl rfl (radd _ _ _ _ _) rfl))
  have hC3 := hid (fun q => (hC5.out q).put (i := c) (.int .i64 ((F : Int) + (M : Int))) hm4.out)
  have hsz : Hid (∀ q, ((((w.drewN q).setCell ⟨q5, c, none⟩ (.int .i64 0)).setCell ⟨q4, c, none⟩ (.int .i64 ((F : Int) + (M : Int)))).heap.size = w.heap.size)) := fun q => by simp
  have k3f := (hP.fm.cellN (i := 4) (j := c) (by simp) rfl (rowF_len _ _) hc).2
  have hI : ¬ ((F : Int) + (M : Int) = (E : Int)) := by omega
  have hJ : ¬ ((F : Int) + (M : Int) - (F : Int) ≤ (E : Int) - ((F : Int) + (M : Int))) := by omega
  have hE1 : F + M < E := by omega
  have hE2 : E ≤ 4500 := by omega
  have hHP := hid hP
  clear hle he hP
  go_wp2_with (go_at_call 133; refine (enter_ps (a := F + M) (b := E) (hP3.out nq) hpn.out hnp.out hN (by show S.C ≤ 4500; omega) (by omega) (by omega) (by rw [hsz.out nq]; exact hB) (by omega) (by omega)).mono ?_; rintro e w1 ⟨rfl, u3, u4, u5, hE1', hE2', hE3'⟩)
  go_end0
  refine ⟨rfl, u3, u4, u5, by rw [hsp.out]; exact hE1', ((hC3.out nq).mono (fun k hk => List.mem_cons_of_mem _ hk)).trans hE2' (fun k hk => Or.inl hk), fun k hk => ?_⟩
  have := hE3' k hk
  rw [hsz.out nq] at this
  exact this
theorem split_any {w : World} {B pb c N : Nat} {v0 v1 v2 v3 v4 v5 : Value} {S : Ps} (hP : Pt w B pb v0 v1 v2 v3 v4 v5 (S.rows N)) (h : Iv N S) (hN : N ≤ 4500) (hc : c < S.C) (hm : 0 < S.mq c) (hB : B ≤ w.heap.size) :
    Calls Tryz.prog 135 #[.pointer (some ⟨pb, 0, none⟩), .int .i64 c] w fun e w' => e = .returned (.tuple #[]) ∧ ∃ u3 u4 u5, Pt w' B pb v0 v1 v2 u3 u4 u5 ((S.split c).rows N) ∧ Ch (pb :: blocks [v0, v1, v2, v3, v4, v5]) w w' ∧ ∀ k ∈ blocks [u3, u4, u5], k ∈ blocks [v0, v1, v2, v3, v4, v5] ∨ w.heap.size ≤ k := by
  by_cases he : S.fi c + S.mq c = S.be c
  · exact split_none hP h hN hc hm hB he
  · by_cases hle : S.mq c ≤ S.be c - (S.fi c + S.mq c)
    · exact split_low hP h hN hc hm hB he hle
    · exact split_high hP h hN hc hm hB he hle
end Go.Proofs.YtgmldkojldlekaaGreatDoor

namespace Go.Proofs.YtgmldkojldlekaaGreatDoor
set_option maxRecDepth 100000
open Go.RowKit
def ints (l : List Nat) : List Int := l.map (fun n : Nat => (n : Int))
theorem ints_len (l : List Nat) : (ints l).length = l.length := by simp [ints]
theorem ints_get {l : List Nat} {k : Nat} (h : k < l.length) : (ints l).getD k 0 = ((l.getD k 0 : Nat) : Int) := by simp [ints, List.getD, h]
theorem ints_snoc (l : List Nat) (n : Nat) : ints (l ++ [n]) = ints l ++ [(n : Int)] := by simp [ints]
theorem ntake_snoc {l : List Nat} {k : Nat} (h : k < l.length) : l.take (k + 1) = l.take k ++ [l.getD k 0] := by
  rw [List.take_succ_eq_append_getElem h]
  simp [List.getD, h]
theorem nget_mem {l : List Nat} {k : Nat} (h : k < l.length) : l.getD k 0 ∈ l := by simp [List.getD, h]
theorem fewer {C : Nat} {T : List Nat} (h : T.Nodup) (hr : ∀ c ∈ T, c < C) : T.length ≤ C := by
  have := pigeon C (ints T) (by
    unfold ints
    rw [List.nodup_iff_pairwise_ne, List.pairwise_map]
    exact (List.nodup_iff_pairwise_ne.1 h).imp (fun h' e => h' (by omega))) (fun x hx => by
    obtain ⟨c, hc, rfl⟩ := List.mem_map.1 hx
    have := hr c hc
    omega)
  rwa [ints_len] at this
theorem Pt.lt {w : World} {B pb : Nat} {v0 v1 v2 v3 v4 v5 : Value} {f : Nat → List Int} (h : Pt w B pb v0 v1 v2 v3 v4 v5 f) : ∀ k ∈ pb :: blocks [v0, v1, v2, v3, v4, v5], k < w.heap.size := fun k hk => by
  rcases List.mem_cons.1 hk with h1 | h1
  · rw [h1]
    exact lt_of_block h.blk
  · exact (h.fm.lt k h1).2
theorem Pt.keep {w w' : World} {B pb : Nat} {v0 v1 v2 v3 v4 v5 : Value} {f : Nat → List Int} (h : Pt w B pb v0 v1 v2 v3 v4 v5 f) (hk : ∀ k ∈ pb :: blocks [v0, v1, v2, v3, v4, v5], w'.heap[k]? = w.heap[k]?) : Pt w' B pb v0 v1 v2 v3 v4 v5 f :=
  ⟨by rw [hk pb (by simp)]; exact h.blk, h.fm.keep (fun k hk' => hk k (List.mem_cons_of_mem _ hk')), h.ge⟩
theorem Ri.at {w : World} {a : Option Addr} {n c : Nat} {l : List Int} (h : Ri w (.slice a n c) l) {j : Nat} (hj : j < l.length) : ∃ b o, a = some ⟨b, o, none⟩ ∧ w.cell? ⟨b, o + j, none⟩ = some (.int .i64 (l.getD j 0)) := by
  obtain ⟨a', c', e, h⟩ := h
  injection e with e1 _ _
  subst e1
  exact h j hj
theorem own_read {w : World} {B n : Nat} {v : Value} {l : List Int} (hl : l.length = n) (h : w.ownsRow B 3 1 v n (l.map (Value.int .i64))) : Ri w v l := by
  subst hl
  obtain ⟨a, c, rfl⟩ := own_sl h
  exact Ri.ofOwn h
def Ru (w : World) (bu N : Nat) (V : Nat → Value) (F : Nat → List Nat) : Prop := ∀ a, a < N → w.cell? ⟨bu, a, none⟩ = some (V a) ∧ Ri w (V a) (ints (F a))
theorem flat_prefix {ms : List Nat} {F : Nat → List Nat} {k j : Nat} (hk : k < ms.length) (hj : j < (F (ms.getD k 0)).length) : (ms.take k).flatMap F ++ (F (ms.getD k 0)).take j ++ [(F (ms.getD k 0)).getD j 0] <+: ms.flatMap F := by
  have h1 : (ms.take k).flatMap F ++ (F (ms.getD k 0)).take j ++ [(F (ms.getD k 0)).getD j 0] = (ms.take k).flatMap F ++ (F (ms.getD k 0)).take (j + 1) := by
    rw [ntake_snoc hj, List.append_assoc]
  have h2 : (ms.take (k + 1)).flatMap F = (ms.take k).flatMap F ++ F (ms.getD k 0) := by
    rw [ntake_snoc hk, List.flatMap_append]
    simp
  have h3 : ms.flatMap F = (ms.take (k + 1)).flatMap F ++ (ms.drop (k + 1)).flatMap F := by rw [← List.flatMap_append, List.take_append_drop]
  rw [h1, h3, h2, List.append_assoc]
  exact (List.prefix_append_right_inj _).2 ((List.take_prefix _ _).trans (List.prefix_append _ _))
theorem flat_nodup {ms : List Nat} {F : Nat → List Nat} {k : Nat} (hk : k < ms.length) (h : (ms.flatMap F).Nodup) : (F (ms.getD k 0)).Nodup := by
  have h2 : (ms.take (k + 1)).flatMap F = (ms.take k).flatMap F ++ F (ms.getD k 0) := by
    rw [ntake_snoc hk, List.flatMap_append]
    simp
  have h3 : ms.flatMap F = (ms.take (k + 1)).flatMap F ++ (ms.drop (k + 1)).flatMap F := by rw [← List.flatMap_append, List.take_append_drop]
  rw [h3, h2] at h
  exact (List.nodup_append.1 (List.nodup_append.1 h).1).2.1
theorem flat_next {ms : List Nat} {F : Nat → List Nat} {k : Nat} (hk : k < ms.length) : (ms.take k).flatMap F ++ (F (ms.getD k 0)).take (F (ms.getD k 0)).length = (ms.take (k + 1)).flatMap F := by
  rw [ntake_snoc hk, List.flatMap_append, List.take_of_length_le (Nat.le_refl _)]
  simp
structure Pm (w wr : World) (B pb N : Nat) (v0 v1 v2 v3 v4 v5 : Value) (S S1 : Ps) (L : List Nat) (tv : Value) (T : List Nat) : Prop where
  pt : Pt wr B pb v0 v1 v2 v3 v4 v5 (S1.rows N)
  mks : Mk N S S1 L T
  own : wr.ownsRow w.heap.size 3 1 tv T.length ((ints T).map (Value.int .i64))
  ch : Ch (blocks [v0, v1, v2, v3, v4, v5]) w wr
theorem Pm.mark {w wr w1 : World} {B pb N n : Nat} {v0 v1 v2 v3 v4 v5 tv : Value} {S S1 : Ps} {L T : List Nat} (h : Pm w wr B pb N v0 v1 v2 v3 v4 v5 S S1 L tv T) (hw : ∀ k ∈ blocks [v0, v1, v2, v3, v4, v5], k < w.heap.size) (hn : n < N) (hL : n ∉ L) (h1 : S1.mq (S1.cl n) ≠ 0)
    (hP : Pt w1 B pb v0 v1 v2 v3 v4 v5 ((S1.mark n).rows N)) (hC : Ch (blocks [v0, v1, v2, v3, v4, v5]) wr w1) : Pm w w1 B pb N v0 v1 v2 v3 v4 v5 S (S1.mark n) (L ++ [n]) tv T := by
  have hm := h.mks.step hn hL
  rw [if_neg h1] at hm
  refine ⟨hP, hm, own_block h.own (fun k e => hC.far k (h.own.lt k e).2 (fun hm' => ?_)), h.ch.trans hC (fun k hk => Or.inl hk)⟩
  have := (h.own.lt k e).1
  have := hw k hm'
  omega
theorem Pm.touch {w wr w1 w2 : World} {B pb N n g cap : Nat} {o : Obj} {v0 v1 v2 v3 v4 v5 tv : Value} {S S1 : Ps} {L T : List Nat} (h : Pm w wr B pb N v0 v1 v2 v3 v4 v5 S S1 L tv T) (hw : ∀ k ∈ blocks [v0, v1, v2, v3, v4, v5], k < w.heap.size) (hn : n < N) (hL : n ∉ L) (h1 : S1.mq (S1.cl n) = 0)
    (hgr : (wr.alloc o).grownBy w1 tv.ownBlock) (hown : w1.ownsRow w.heap.size 3 1 (.slice (some ⟨g, 0, none⟩) (T.length + 1) cap) (T.length + 1) ((ints T).map (Value.int .i64) ++ [.int .i64 ((S1.cl n : Nat) : Int)]))
    (hP : Pt w2 B pb v0 v1 v2 v3 v4 v5 ((S1.mark n).rows N)) (hC : Ch (blocks [v0, v1, v2, v3, v4, v5]) w1 w2) : Pm w w2 B pb N v0 v1 v2 v3 v4 v5 S (S1.mark n) (L ++ [n]) (.slice (some ⟨g, 0, none⟩) (T.length + 1) cap) (T ++ [S1.cl n]) := by
  have hm := h.mks.step hn hL
  rw [if_pos h1] at hm
  refine ⟨hP, hm, ?_, ((h.ch.alloc o).grown hgr (fun r e => Or.inr (h.own.lt r e).1)).trans hC (fun k hk => Or.inl hk)⟩
  rw [ints_snoc, List.map_append, List.length_append, List.length_singleton]
  refine own_block hown (fun k e => hC.far k (hown.lt k e).2 (fun hm' => ?_))
  have := (hown.lt k e).1
  have := hw k hm'
  omega
theorem Pm.grown {w wr w1 : World} {B pb N : Nat} {o : Obj} {v0 v1 v2 v3 v4 v5 tv : Value} {S S1 : Ps} {L T : List Nat} (h : Pm w wr B pb N v0 v1 v2 v3 v4 v5 S S1 L tv T) (hw : ∀ k ∈ pb :: blocks [v0, v1, v2, v3, v4, v5], k < w.heap.size) (hgr : (wr.alloc o).grownBy w1 tv.ownBlock) : Pt w1 B pb v0 v1 v2 v3 v4 v5 (S1.rows N) :=
  h.pt.keep (fun k hk => by
    have h1 := hw k hk
    have h2 := h.ch.size
    rw [hgr.block k (by simp; omega) (fun e => by
      have := (h.own.lt k e.symm).1
      omega), Below.heap_alloc _ _ _ (by omega)])
def Pq (w1 wr : World) (B pb N : Nat) (v0 v1 v2 v3 v4 v5 : Value) (S1 : Ps) (T : List Nat) : Prop :=
  ∃ u3 u4 u5 S2, Pt wr B pb v0 v1 v2 u3 u4 u5 (S2.rows N) ∧ Sp N S1 S2 T ∧ Ch (pb :: blocks [v0, v1, v2, v3, v4, v5]) w1 wr ∧ ∀ k ∈ blocks [u3, u4, u5], k ∈ blocks [v0, v1, v2, v3, v4, v5] ∨ w1.heap.size ≤ k
theorem blocks_six {v0 v1 v2 v3 v4 v5 u3 u4 u5 : Value} {k : Nat} {P : Nat → Prop} (h : k ∈ blocks [v0, v1, v2, u3, u4, u5]) (h1 : ∀ k ∈ blocks [v0, v1, v2, v3, v4, v5], P k) (h2 : ∀ k ∈ blocks [u3, u4, u5], P k) : P k := by
  obtain ⟨v, hv, e⟩ := List.mem_filterMap.1 h
  have hv' : v ∈ [v0, v1, v2] ∨ v ∈ [u3, u4, u5] := List.mem_append.1 (show v ∈ [v0, v1, v2] ++ [u3, u4, u5] from hv)
  rcases hv' with h3 | h3
  · exact h1 k (List.mem_filterMap.2 ⟨v, List.mem_append_left [v3, v4, v5] h3, e⟩)
  · exact h2 k (List.mem_filterMap.2 ⟨v, h3, e⟩)
theorem Pq.step {w1 wr w2 : World} {B pb N c : Nat} {v0 v1 v2 v3 v4 v5 u3 u4 u5 t3 t4 t5 : Value} {S1 S2 : Ps} {T : List Nat} (hs : Sp N S1 S2 T) (hch : Ch (pb :: blocks [v0, v1, v2, v3, v4, v5]) w1 wr) (hk : ∀ k ∈ blocks [u3, u4, u5], k ∈ blocks [v0, v1, v2, v3, v4, v5] ∨ w1.heap.size ≤ k)
    (hc : c < S1.C) (hT : c ∉ T) (hm : 0 < S1.mq c) (hP : Pt w2 B pb v0 v1 v2 t3 t4 t5 ((S2.split c).rows N)) (hC : Ch (pb :: blocks [v0, v1, v2, u3, u4, u5]) wr w2) (hk2 : ∀ k ∈ blocks [t3, t4, t5], k ∈ blocks [v0, v1, v2, u3, u4, u5] ∨ wr.heap.size ≤ k) : Pq w1 w2 B pb N v0 v1 v2 v3 v4 v5 S1 (T ++ [c]) := by
  have hz := hch.size
  have h6 : ∀ k ∈ blocks [v0, v1, v2, u3, u4, u5], k ∈ blocks [v0, v1, v2, v3, v4, v5] ∨ w1.heap.size ≤ k := fun k h => blocks_six (v3 := v3) (v4 := v4) (v5 := v5) (P := fun k => k ∈ blocks [v0, v1, v2, v3, v4, v5] ∨ w1.heap.size ≤ k) h (fun k h => Or.inl h) hk
  refine ⟨t3, t4, t5, _, hP, hs.step hc hT hm, hch.trans hC (fun k hk' => ?_), fun k hk' => ?_⟩
  · rcases List.mem_cons.1 hk' with h1 | h1
    · exact Or.inl (by rw [h1]; simp)
    · exact (h6 k h1).imp (fun h => List.mem_cons_of_mem _ h) id
  · rcases hk2 k hk' with h1 | h1
    · exact h6 k h1
    · exact Or.inr (by omega)
set_option maxHeartbeats 4000000 in
theorem part_any {w : World} {B pb N bu cu : Nat} {v0 v1 v2 v3 v4 v5 mv : Value} {S : Ps} {ms : List Nat} {V : Nat → Value} {F : Nat → List Nat} (hP : Pt w B pb v0 v1 v2 v3 v4 v5 (S.rows N)) (hI : Iv N S) (h0 : ∀ c, c < S.C → S.mq c = 0) (hN : N ≤ 4500) (hB : B ≤ w.heap.size)
    (hms : ∀ w', Ch (pb :: blocks [v0, v1, v2, v3, v4, v5]) w w' → Ri w' mv (ints ms)) (hus : ∀ w', Ch (pb :: blocks [v0, v1, v2, v3, v4, v5]) w w' → Ru w' bu N V F)
    (hml : ms.length ≤ 4500) (hmr : ∀ m ∈ ms, m < N) (hnd : (ms.flatMap F).Nodup) (hr : ∀ n ∈ ms.flatMap F, n < N) :
    Calls Tryz.prog 129 #[.pointer (some ⟨pb, 0, none⟩), mv, .slice (some ⟨bu, 0, none⟩) N cu] w fun e w' => e = .returned (.tuple #[]) ∧ ∃ u3 u4 u5 S', Pt w' B pb v0 v1 v2 u3 u4 u5 (S'.rows N) ∧ Pd N S S' (ms.flatMap F) ∧ Ch (pb :: blocks [v0, v1, v2, v3, v4, v5]) w w' ∧ ∀ k ∈ blocks [u3, u4, u5], k ∈ blocks [v0, v1, v2, v3, v4, v5] ∨ w.heap.size ≤ k := by
  obtain ⟨i0, hi, hz0, hz1, hz2⟩ := info_parts infoI
  have hplt := hid hP.lt
  have hmv : ∃ ma mc, mv = .slice ma ms.length mc := by
    obtain ⟨ma, mc, h, _⟩ := hms w (Ch.refl _ _)
    rw [ints_len] at h
    exact ⟨ma, mc, h⟩
  obtain ⟨ma, mc, rfl⟩ := hmv
  have hst : Hid (Pm w w B pb N v0 v1 v2 v3 v4 v5 S S [] (.slice none 0 0) []) := ⟨hP, Mk.start hI h0, World.ownsRow_nil _ _ _ _, Ch.refl _ _⟩
  have hMs := hid hms
  have hUs := hid hus
  have hNd := hid hnd
  have hR := hid hr
  have hMr := hid hmr
  have hIv := hid hI
  clear hP hI h0 hms hus hnd hr hmr
  go_enter Tryz.func129, Tryz.ntmps129
  go_wp2
  go_loopw [6, 16] (fun t i wr => ∃ (k : Nat) (T : List Nat) (ta : Option Addr) (tc : Nat), k ≤ ms.length ∧ i = .int .i64 k ∧ t = .slice ta T.length tc ∧ Hid (∃ S1, Pm w wr B pb N v0 v1 v2 v3 v4 v5 S S1 ((ms.take k).flatMap F) (.slice ta T.length tc) T)) (fun _ i _ => ms.length - (intOf i).toNat)
  case atStart => exact ⟨0, [], none, 0, Nat.zero_le _, rfl, rfl, ⟨S, hst.out⟩⟩
  case round =>
    clear hst
    obtain ⟨k, T, ta, tc, hk, rfl, rfl, hS1⟩ := hrel
    obtain ⟨S1, hPm⟩ := hS1.out
    have hCh : Ch (pb :: blocks [v0, v1, v2, v3, v4, v5]) w wr := hPm.ch.mono (fun k hk => List.mem_cons_of_mem _ hk)
    by_cases hlt : k < ms.length
    · obtain ⟨mb, mo, rfl, d1⟩ := (hMs.out wr hCh).at (j := k) (by rw [ints_len]; exact hlt)
      rw [ints_get hlt] at d1
      have hm := hMr.out _ (nget_mem hlt)
      obtain ⟨d2, d3⟩ := hUs.out wr hCh _ hm
      have hpre := hid (fun j (hj : j < (F (ms.getD k 0)).length) => flat_prefix (F := F) hlt hj)
      have hnext := hid (flat_next (F := F) hlt)
      obtain ⟨va, vc, hva⟩ : ∃ va vc, V (ms.getD k 0) = .slice va (F (ms.getD k 0)).length vc := by
        obtain ⟨va, vc, h, _⟩ := d3
        rw [ints_len] at h
        exact ⟨va, vc, h⟩
      have hUm : Hid (∀ w', Ch (pb :: blocks [v0, v1, v2, v3, v4, v5]) w w' → Ri w' (.slice va (F (ms.getD k 0)).length vc) (ints (F (ms.getD k 0)))) := fun w' hc => by
        have := (hUs.out w' hc _ hm).2
        rw [hva] at this
        exact this
      rw [hva] at d2
      have hFl : Hid (∀ n ∈ F (ms.getD k 0), n < N) := fun n hn => hR.out n (List.mem_flatMap.2 ⟨_, nget_mem hlt, hn⟩)
      have hFn : (F (ms.getD k 0)).length ≤ 4500 := by
        have h1 := fewer (T := F (ms.getD k 0)) (C := N) (flat_nodup hlt hNd.out) hFl.out
        omega
      clear hva d3
      generalize ms.getD k 0 = m at d1 d2 hm hpre hnext hUm hFl hFn
      generalize hFm : F m = Fm at d2 hpre hnext hUm hFl hFn
      clear hFm
      have hin : Hid (∃ S1, Pm w wr B pb N v0 v1 v2 v3 v4 v5 S S1 ((ms.take k).flatMap F ++ Fm.take 0) (.slice ta T.length tc) T) := ⟨S1, by simpa using hPm⟩
      clear hPm hS1 hCh
      go_wp2
      go_loopw [6, 25] (fun t i wr => ∃ (j : Nat) (T : List Nat) (ta : Option Addr) (tc : Nat), j ≤ Fm.length ∧ i = .int .i64 j ∧ t = .slice ta T.length tc ∧ Hid (∃ S1, Pm w wr B pb N v0 v1 v2 v3 v4 v5 S S1 ((ms.take k).flatMap F ++ Fm.take j) (.slice ta T.length tc) T)) (fun _ i _ => Fm.length - (intOf i).toNat)
      case atStart => exact ⟨0, T, ta, tc, Nat.zero_le _, rfl, rfl, hin⟩
      case round =>
        clear hin d1 d2
        obtain ⟨j, T, ta, tc, hj, rfl, rfl, hS1⟩ := hrel
        by_cases hltj : j < Fm.length
        · obtain ⟨S1, hPm⟩ := hS1.out
          have hCh : Ch (pb :: blocks [v0, v1, v2, v3, v4, v5]) w wr := hPm.ch.mono (fun k hk => List.mem_cons_of_mem _ hk)
          obtain ⟨vb, vo, rfl, d1⟩ := (hUm.out wr hCh).at (j := j) (by rw [ints_len]; exact hltj)
          rw [ints_get hltj] at d1
          have hn := hFl.out _ (nget_mem hltj)
          have hpj := hpre.out j hltj
          have hts := hid (ntake_snoc hltj)
          generalize Fm.getD j 0 = n at d1 hn hpj hts
          have hL : n ∉ (ms.take k).flatMap F ++ Fm.take j := fun hm => by
            have h1 := List.Sublist.nodup hpj.sublist hNd.out
            exact (List.nodup_append.1 h1).2.2 n hm n (by simp) rfl
          clear hpj
          have hun : Hid (¬ S1.mkd n) := fun h => hL ((hPm.mks.mkd n hn).1 h)
          have hcl := hPm.mks.iv.cls n hn
          have e2 : (S1.rows N 2).length = N := rowF_len _ _
          have e5 : (S1.rows N 5).length = S1.C := rowF_len _ _
          have hTl : T.length ≤ 4500 := by
            have h1 := fewer hPm.mks.nodup hPm.mks.rng
            have h2 := hPm.mks.iv.le
            omega
          obtain ⟨q2, c2, hv2⟩ : ∃ q c, v2 = .slice (some ⟨q, 0, none⟩) N c := by
            rw [← e2]
            obtain ⟨q, c, h, _⟩ := (own_form (hPm.pt.fm.own 2 (by simp))).resolve_left (fun h => by omega)
            exact ⟨q, c, h⟩
          obtain ⟨q5, c5, hv5⟩ : ∃ q c, v5 = .slice (some ⟨q, 0, none⟩) S1.C c := by
            rw [← e5]
            obtain ⟨q, c, h, _⟩ := (own_form (hPm.pt.fm.own 5 (by simp))).resolve_left (fun h => by omega)
            exact ⟨q, c, h⟩
          obtain ⟨⟨_, _, z2, _, _, z5⟩, _⟩ := blk6 hPm.pt.blk
          have k2 := (hPm.pt.fm.cellN (i := 2) (j := n) (by simp) hv2 e2 hn).1
          have k5 := (hPm.pt.fm.cellN (i := 5) (j := S1.cl n) (by simp) hv5 e5 hcl).1
          have g2 : (S1.rows N 2).getD n 0 = (S1.cl n : Int) := rowF_get _ hn
          have g5 : (S1.rows N 5).getD (S1.cl n) 0 = (S1.mq (S1.cl n) : Int) := rowF_get _ hcl
          rw [g2] at k2
          rw [g5] at k5
          rw [hv2] at z2
          rw [hv5] at z5
          have hHC := hid hv2
          have hHD := hid hv5
          clear hv2 hv5 e2 e5 g2 g5
          have hCl : S1.C ≤ 4500 := Nat.le_trans hPm.mks.iv.le hN
          have hHP := hid hPm
          have hHL := hid hL
          clear hL hS1
          by_cases hq : S1.mq (S1.cl n) = 0
          · rw [hq] at k5
            have hoz := World.ownsRow.alloc hPm.own (.cells #[.int .i64 ((S1.cl n : Nat) : Int)] 3)
            have hnews := heap_alloc_new wr (.cells #[.int .i64 ((S1.cl n : Nat) : Int)] 3)
            have hsz := hPm.ch.size
            have hmkc := hid (fun w5 (h5 : Pt w5 B pb v0 v1 v2 v3 v4 v5 (S1.rows N)) => mark_ps h5 hPm.mks.iv hN hn hun.out)
            have hend := hid (fun o w5 w6 g cap => Pm.touch (o := o) (w1 := w5) (w2 := w6) (g := g) (cap := cap) hPm (fun k hk => hplt.out k (List.mem_cons_of_mem _ hk)) hn hHL.out hq)
            have hgrn := hid (fun o w5 => Pm.grown (o := o) (w1 := w5) hPm hplt.out)
            have hqq := hid hq
            clear hq hPm hCh hcl
            have hcl : ((S1.cl n : Nat) : Int) < (S1.C : Int) := by
              have := hHP.out.mks.iv.cls n hn
              omega
            generalize S1.cl n = cc at *
            go_wp2_with (first
              | (at_builtin; refine wpList_append_lies _ rfl _ _ _ rfl w.heap.size 3 i0 (.int .i64 0) 1 8 Tryz.underlying28 hi hz0 hz1 hz2 rfl (by decide) _ T.length ((ints T).map (Value.int .i64)) rfl hoz ⟨wr.heap.size, 0, none⟩ 1 1 [.int .i64 (cc : Int)] rfl rfl (World.news_of_block (cs := #[.int .i64 (cc : Int)]) (t := 3) (fr := (0, 0)) hnews) (by simp [Value.oneCell']) (by omega) (by unfold maxLen; omega) (by omega) (by simp; omega) (wr.heap.size + 1) (by simp) ?_; clear hoz; intro gg cap w5 hown5 hgr5 hat5 hlt5; have hP5 := hgrn.out _ _ hgr5)
              | (go_at_call 134; refine (hmkc.out w5 hP5).mono ?_; rintro e w6 ⟨rfl, hP6, hC6⟩))
            go_roundw
            case rel =>
              refine ⟨j + 1, T ++ [cc], some ⟨gg, 0, none⟩, cap, by omega, congrArg (Value.int .i64) (by omega), by rw [List.length_append]; rfl, ⟨S1.mark n, ?_⟩⟩
              have := hend.out _ w5 w6 gg cap hgr5 hown5 hP6 hC6
              rw [hts.out, ← List.append_assoc, List.length_append]
              exact this
            case measure => simp [intOf]; omega
          · have hqi : ¬ ((S1.mq (S1.cl n) : Nat) : Int) = 0 := by omega
            have hmkc := hid (mark_ps hPm.pt hPm.mks.iv hN hn hun.out)
            have hend := hid (fun w6 => Pm.mark (w1 := w6) hPm (fun k hk => hplt.out k (List.mem_cons_of_mem _ hk)) hn hHL.out hq)
            clear hq hPm hCh hcl
            have hcl : ((S1.cl n : Nat) : Int) < (S1.C : Int) := by
              have := hHP.out.mks.iv.cls n hn
              omega
            generalize hmm : S1.mq (S1.cl n) = mm at *
            clear hmm
            generalize S1.cl n = cc at *
            go_wp2_with (first
              | (go_at_call 134; refine hmkc.out.mono ?_; rintro e w6 ⟨rfl, hP6, hC6⟩))
            go_roundw
            case rel =>
              refine ⟨j + 1, T, ta, tc, by omega, congrArg (Value.int .i64) (by omega), rfl, ⟨S1.mark n, ?_⟩⟩
              have := hend.out w6 hP6 hC6
              rw [hts.out, ← List.append_assoc]
              exact this
            case measure => simp [intOf]; omega
        · have hjl : j = Fm.length := by omega
          subst hjl
          rw [hnext.out] at hS1
          go_wp2
          exact ⟨⟨k + 1, T, ta, tc, by omega, congrArg (Value.int .i64) (by omega), rfl, hS1⟩, by simp [intOf]; omega⟩
    · have hkl : k = ms.length := by omega
      subst hkl
      rw [List.take_of_length_le (Nat.le_refl _)] at hPm hS1
      have hHP := hid hPm
      have hTl : T.length ≤ 4500 := by
        have h1 := fewer hPm.mks.nodup hPm.mks.rng
        have h2 := hPm.mks.iv.le
        omega
      have hq0 : Hid (Pq wr wr B pb N v0 v1 v2 v3 v4 v5 S1 (T.take 0)) := ⟨v3, v4, v5, S1, hPm.pt, by simpa using Sp.start hPm.mks.iv, Ch.refl _ _, fun k hk => Or.inl (blocks_last hk)⟩
      have hrd : Hid (∀ w', Ch (pb :: blocks [v0, v1, v2, v3, v4, v5]) wr w' → Ri w' (.slice ta T.length tc) (ints T)) := fun w' hc => by
        refine own_read (B := w.heap.size) (ints_len T) (own_block hPm.own (fun q e => hc.far q (hPm.own.lt q e).2 (fun hm => ?_)))
        have := (hPm.own.lt q e).1
        have := hplt.out q hm
        omega
      have hBr : B ≤ wr.heap.size := Nat.le_trans hB hPm.ch.size
      clear hPm hS1 hMs hUs hR hMr hlt
      go_wp2
      go_loopw [55] (fun i w2 => ∃ (j : Nat), j ≤ T.length ∧ i = .int .i64 j ∧ Hid (Pq wr w2 B pb N v0 v1 v2 v3 v4 v5 S1 (T.take j))) (fun i _ => T.length - (intOf i).toNat)
      case atStart => exact ⟨0, Nat.zero_le _, rfl, hq0⟩
      case round =>
        obtain ⟨j, hj, rfl, hPq⟩ := hrel
        by_cases hltj : j < T.length
        · obtain ⟨u3, u4, u5, S2, hPt, hSp, hCh, hkb⟩ := hPq.out
          obtain ⟨tb, to, rfl, d1⟩ := (hrd.out _ hCh).at (j := j) (by rw [ints_len]; exact hltj)
          rw [ints_get hltj] at d1
          have hc := hHP.out.mks.rng _ (nget_mem hltj)
          have hmq := (hHP.out.mks.tch _ hc).1 (nget_mem hltj)
          have hts := hid (ntake_snoc hltj)
          have hnT : T.getD j 0 ∉ T.take j := fun hm => by
            have h1 := List.Sublist.nodup (List.take_sublist (j + 1) T) hHP.out.mks.nodup
            rw [hts.out] at h1
            exact (List.nodup_append.1 h1).2.2 _ hm _ (by simp) rfl
          generalize T.getD j 0 = c at d1 hc hmq hts hnT
          have hcall := hid (split_any hPt hSp.iv hN (Nat.lt_of_lt_of_le hc hSp.le) (by rw [hSp.mq c hc hnT]; exact hmq) (Nat.le_trans hBr hCh.size))
          have hend := hid (fun w3 t3 t4 t5 => Pq.step (B := B) (w2 := w3) (t3 := t3) (t4 := t4) (t5 := t5) hSp hCh hkb hc hnT hmq)
          clear hPq hPt hSp hCh hkb hnT hmq hc
          go_wp2_with (go_at_call 135; refine hcall.out.mono ?_; rintro e w3 ⟨rfl, t3, t4, t5, hP3, hC3, hk3⟩)
          go_roundw
          case rel => exact ⟨j + 1, by omega, congrArg (Value.int .i64) (by omega), by rw [hts.out]; exact hend.out w3 t3 t4 t5 hP3 hC3 hk3⟩
          case measure => simp [intOf]; omega
        · have hjl : j = T.length := by omega
          subst hjl
          rw [List.take_of_length_le (Nat.le_refl _)] at hPq
          obtain ⟨u3, u4, u5, S2, hPt, hSp, hCh, hkb⟩ := hPq.out
          go_wp2
          go_end0
          refine ⟨rfl, u3, u4, u5, S2, hPt, Sp.parted hHP.out.mks hSp, (hHP.out.ch.mono (fun k hk => List.mem_cons_of_mem _ hk)).trans hCh (fun k hk => Or.inl hk), fun k hk => ?_⟩
          have := hHP.out.ch.size
          rcases hkb k hk with h1 | h1
          · exact Or.inl h1
          · exact Or.inr (by omega)
end Go.Proofs.YtgmldkojldlekaaGreatDoor

namespace Go.Proofs.YtgmldkojldlekaaGreatDoor
set_option maxRecDepth 100000
open Go.RowKit
section
variable {w : World} {B p q : Nat} {v : Value} {ns : List ByteArray}
set_option maxHeartbeats 800000 in
theorem text_any (h : Tb w B p v q ns) (k : Nat) (hk : k < ns.length) :
    Calls Tryz.prog 84 #[.agg #[.pointer (some ⟨p, 0, none⟩)], .int .i64 (k : Int)] w fun e w' => e = .returned (.string (ns.getD k ⟨#[]⟩)) ∧ Below w.heap.size w w' := by
  have hb := hid (below_alloc w (.cells #[.pointer (some ⟨p, 0, none⟩)] 81))
  have hnm := hid (name_yes (h.below hb.out) k hk)
  have hsz : (ns.getD k ⟨#[]⟩).size ≤ 281474976710656 := by
    have h1 := h.good (ns.getD k ⟨#[]⟩) (by simp [List.getD, hk])
    have := n_goodS_size h1
    omega
  have hcl := hid (fun w => n_clone_any (ns.getD k ⟨#[]⟩) w hsz)
  generalize ns.getD k ⟨#[]⟩ = s at *
  clear h hk
  go_enter Tryz.func84, Tryz.ntmps84
  go_wp2_with (first
    | (go_at_call 111; refine hnm.out.mono ?_; rintro e w1 ⟨rfl, rfl⟩)
    | (go_at_call 36; refine (hcl.out _).mono ?_; rintro e w1 ⟨rfl, hb1⟩))
  go_ret
  exact ⟨rfl, Below.next hb.out hb1⟩
end
def rchL (k : Nat) (x : Int) : List Int := if x % 8 = 0 ∨ x % 8 = 3 ∨ x % 8 = 5 then [valOf x] else if x % 8 = 4 then (List.range (valOf x % 16).toNat).map (fun i => ((k + 1 + i : Nat) : Int)) else []
theorem rng_take {k i : Nat} : (List.range (i + 1)).map (fun i => ((k + 1 + i : Nat) : Int)) = (List.range i).map (fun i => ((k + 1 + i : Nat) : Int)) ++ [((k + 1 + i : Nat) : Int)] := by
  rw [List.range_succ, List.map_append]
  rfl
set_option maxHeartbeats 2000000 in
theorem reached_any (w : World) (k : Nat) (hk : k < 65536) (x : Int) (h0 : 0 ≤ x) (h1 : x ≤ 18446744073709551615) (hg : goodB x = true) :
    Calls Tryz.prog 71 #[.int .i64 (k : Int), .int .u64 x] w fun e w' => (∃ ao c, e = .returned (.slice ao (rchL k x).length c) ∧ w'.ownsRow w.heap.size 3 1 (.slice ao (rchL k x).length c) (rchL k x).length ((rchL k x).map (Value.int .i64))) ∧ Below w.heap.size w w' := by
  obtain ⟨i0, hi, hz0, hz1, hz2⟩ := info_parts infoI
  by_cases hp : x % 8 = 0 ∨ x % 8 = 3 ∨ x % 8 = 5
  · have hR : Hid (rchL k x = [valOf x]) := show _ = _ by unfold rchL; rw [if_pos hp]
    have hpl := hid (fun w => place_yes x w h0 h1 hg hp)
    generalize rchL k x = R at *
    generalize valOf x = y at *
    have hlit := hid (World.ownsRow_lit (base := w.heap.size) (e := 3) (size := 1) w #[.int .i64 y] 1 (Nat.le_refl _) (by unfold maxLen; omega) (by simp))
    go_enter Tryz.func71, Tryz.ntmps71
    go_wp2_with (go_at_call 94; refine (hpl.out _).mono ?_; rintro e w1 ⟨rfl, rfl⟩)
    go_ret
    rw [hR.out]
    exact ⟨⟨_, _, rfl, hlit.out⟩, below_alloc _ _⟩
  · have hpl := hid (fun w => place_no x w h0 h1 (Or.inr (by omega)))
    by_cases h4 : x % 8 = 4
    · have hfv := fun_val x hg h4
      obtain ⟨a, ha⟩ : ∃ a : Nat, valOf x % 16 = (a : Int) := ⟨(valOf x % 16).toNat, by omega⟩
      have hR : Hid (rchL k x = (List.range a).map (fun i => ((k + 1 + i : Nat) : Int))) := show _ = _ by
        unfold rchL
        rw [if_neg hp, if_pos h4, ha, Int.toNat_natCast]
      have hhd := hid (fun w => head_yes x w h0 h1 hg h4)
      rw [ha] at hhd
      have ha8 : a ≤ 8 := by omega
      generalize rchL k x = R at *
      generalize valOf x / 16 = f at *
      clear hp h4 hfv ha
      obtain ⟨W, rfl⟩ : ∃ W : World, W = w := ⟨_, rfl⟩
      go_enter Tryz.func71, Tryz.ntmps71
      go_wp2_with (first
        | (go_at_call 94; refine (hpl.out _).mono ?_; rintro e w1 ⟨rfl, hw1⟩; replace hw1 := hw1.symm; subst hw1)
        | (go_at_call 85; refine (hhd.out _).mono ?_; rintro e w1 ⟨rfl, hw1⟩; replace hw1 := hw1.symm; subst hw1))
      go_loopw [7, 11, 27] (fun s _ i wr => ∃ (j : Nat) (ao : Option Addr) (c : Nat), j ≤ a ∧ i = .int .i64 (j : Int) ∧ s = .slice ao j c ∧ Hid (Below W.heap.size W wr) ∧ Hid (wr.ownsRow W.heap.size 3 1 (.slice ao j c) j (((List.range j).map (fun i => ((k + 1 + i : Nat) : Int))).map (Value.int .i64)))) (fun _ _ i _ => a - (intOf i).toNat)
      case atStart => exact ⟨0, none, 0, Nat.zero_le _, rfl, rfl, Below.refl _ _, World.ownsRow_nil _ _ _ _⟩
      case round =>
        obtain ⟨j, ao, c, hj, rfl, rfl, hb, ho⟩ := hrel
        by_cases hlt : j < a
        · have hji : (j : Int) < (a : Int) := by omega
          have hO1 := World.ownsRow.alloc ho.out (.cells #[.int .i64 ((k : Int) + 1 + (j : Int))] 3)
          have hzk := hb.out.size
          have hlo : Hid (∀ q, (Value.slice ao j c).ownBlock = some q → W.heap.size ≤ q) := fun q hq => (ho.out.lt q hq).1
          have hst : Hid (((List.range (j + 1)).map (fun i => ((k + 1 + i : Nat) : Int))).map (Value.int .i64) = ((List.range j).map (fun i => ((k + 1 + i : Nat) : Int))).map (Value.int .i64) ++ [.int .i64 ((k : Int) + 1 + (j : Int))]) := show _ = _ by
            rw [rng_take, List.map_append]
            congr 2
          generalize ((List.range j).map (fun i => ((k + 1 + i : Nat) : Int))).map (Value.int .i64) = XS at *
          clear ho
          go_wp2_with (at_builtin; go_must (refine wpList_append_lies _ rfl _ _ 28 rfl W.heap.size 3 i0 (.int .i64 0) 1 8 Tryz.underlying28 hi hz0 hz1 hz2 rfl (by decide) _ j _ rfl hO1 ⟨wr.heap.size, 0, none⟩ 1 1 [.int .i64 ((k : Int) + 1 + (j : Int))] rfl rfl (World.news_of_block (cs := #[.int .i64 ((k : Int) + 1 + (j : Int))]) (t := 3) (fr := (0, 0)) (heap_alloc_new wr _)) (by simp [Value.oneCell']) (by decide) (by unfold maxLen; omega) (by omega) (by simp; omega) _ rfl ?_; intro g6 cap w6 hown6 hg6 hat6 hlt6))
          have hb6 : Hid (Below W.heap.size W w6) := hb.out.trans (((Below.refl _ _).alloc hzk _).grown hg6 (by simp; omega) (fun q hq => hlo.out q hq))
          go_roundw
          case rel => exact ⟨j + 1, some ⟨g6, 0, none⟩, cap, by omega, by go_num, rfl, hb6, (show World.ownsRow _ _ _ _ _ _ _ by rw [hst.out]; exact hown6)⟩
          case measure => simp [intOf]; omega
        · obtain rfl : j = a := by omega
          go_wp2
          go_ret
          rw [hR.out]
          refine ⟨⟨ao, c, by simp, ?_⟩, hb.out⟩
          have h9 := ho.out
          simp only [List.length_map, List.length_range] at h9 ⊢
          exact h9
    · have hR : Hid (rchL k x = []) := show _ = _ by unfold rchL; rw [if_neg hp, if_neg h4]
      have hhd := hid (fun w => head_no x w h0 h1 (Or.inr h4))
      generalize rchL k x = R at *
      go_enter Tryz.func71, Tryz.ntmps71
      go_wp2_with (first
        | (go_at_call 94; refine (hpl.out _).mono ?_; rintro e w1 ⟨rfl, hw1⟩; replace hw1 := hw1.symm; subst hw1)
        | (go_at_call 85; refine (hhd.out _).mono ?_; rintro e w1 ⟨rfl, hw1⟩; replace hw1 := hw1.symm; subst hw1))
      go_loopw [7, 11, 27] (fun s _ i wr => i = .int .i64 0 ∧ s = .slice none 0 0 ∧ wr = w) (fun _ _ _ _ => 0)
      case atStart => exact ⟨rfl, rfl, rfl⟩
      case round =>
        obtain ⟨rfl, rfl, rfl⟩ := hrel
        go_wp2
        go_ret
        rw [hR.out]
        exact ⟨⟨none, 0, rfl, World.ownsRow_nil _ _ _ _⟩, Below.refl _ _⟩
end Go.Proofs.YtgmldkojldlekaaGreatDoor

namespace Go.Proofs.YtgmldkojldlekaaGreatDoor
set_option maxRecDepth 100000
open Go.RowKit Go.Maps
def lv (g : Gf) (n : Nat) : Value := labV (n : Int) (g.nodes.getD n nd0)
theorem lv_iff {g : Gf} {n m : Nat} : lv g n = lv g m ↔ labE g (n : Int) (m : Int) := by
  unfold lv labV labE Gf.nd
  simp only [Int.toNat_natCast]
  generalize g.nodes.getD n nd0 = a
  generalize g.nodes.getD m nd0 = b
  constructor
  · intro h
    injection h with h
    simp only [Array.mk.injEq, List.cons.injEq, Value.int.injEq, true_and, Value.string.injEq, and_true] at h
    obtain ⟨h1, h2, h3, h4, h5⟩ := h
    refine ⟨h1, h5, h2, by omega, fun e => ?_⟩
    rw [if_pos e, if_pos (by rw [← h1]; exact e)] at h4
    exact h4
  · rintro ⟨h1, h2, h3, h4, h5⟩
    rw [h2, h3, h4, h1]
    by_cases e : b.kind = 1
    · rw [if_pos e, if_pos e, h5 (by rw [h1]; exact e)]
    · rw [if_neg e, if_neg e]
theorem good_rng {N : Nat} {n : Nd} (h : goodNd N n = true) : (1 ≤ n.kind ∧ n.kind ≤ 4) ∧ (-1125899906842624 ≤ n.num ∧ n.num ≤ 1125899906842624) ∧ n.args.length ≤ 8 := by
  unfold goodNd at h
  split at h
  · simp only [Bool.and_eq_true, decide_eq_true_eq] at h
    omega
  · split at h
    · simp only [Bool.and_eq_true, decide_eq_true_eq] at h
      omega
    · split at h
      · simp only [Bool.and_eq_true, decide_eq_true_eq] at h
        omega
      · split at h
        · simp only [Bool.and_eq_true, decide_eq_true_eq] at h
          omega
        · cases h
theorem label_wf {g : Gf} (hg : Good g) {n : Nat} (hn : n < g.nodes.length) (hS : Sized g) : ∃ kl, keyOf Tryz.prog 221 (lv g n) = some kl := by
  have hm : g.nodes.getD n nd0 ∈ g.nodes := by simp [List.getD, hn]
  obtain ⟨h1, h2, h3⟩ := good_rng (hg.node _ hm)
  have h4 := hS _ hm
  have h5 := hg.nodes
  unfold lv labV
  generalize g.nodes.getD n nd0 = x at h1 h2 h3 h4
  exact label_key _ _ _ _ _ (WalkArith.wf_i64 (by omega)) (WalkArith.wf_i64 (by omega)) (WalkArith.wf_i64 (by omega)) (WalkArith.wf_i64 (by split <;> omega)) (by unfold maxLen; omega)
structure La (g : Gf) (m C : Nat) (cl : Nat → Nat) (D : DataW Unit) : Prop where
  lt : ∀ n, n < m → cl n < C
  same : ∀ n n', n < m → n' < m → (cl n = cl n' ↔ lv g n = lv g n')
  sur : ∀ c, c < C → ∃ n, n < m ∧ cl n = c
  has : ∀ v kl, keyOf Tryz.prog 221 v = some kl → (Maps.has D kl = true ↔ ∃ n, n < m ∧ lv g n = v)
  key : ∀ n kl, n < m → keyOf Tryz.prog 221 (lv g n) = some kl → D.atKey kl (.lit (.int .i64 0)) = .lit (.int .i64 (cl n : Int))
  le : C ≤ m
  map : Maps.IsMap D
theorem La.start (g : Gf) : La g 0 0 (fun _ => 0) (.map []) := by
  refine ⟨fun _ h => absurd h (Nat.not_lt_zero _), fun _ _ h => absurd h (Nat.not_lt_zero _), fun _ h => absurd h (Nat.not_lt_zero _), fun v kl _ => ?_, fun _ _ h => absurd h (Nat.not_lt_zero _), Nat.le_refl _, ⟨[], rfl⟩⟩
  constructor
  · intro h
    simp [Maps.has] at h
  · rintro ⟨n, h, _⟩
    omega
theorem La.old {g : Gf} {m C : Nat} {cl : Nat → Nat} {D : DataW Unit} (h : La g m C cl D) {kl : Lit} (hk : keyOf Tryz.prog 221 (lv g m) = some kl) (hh : Maps.has D kl = true) {c : Int} (hc : D.atKey kl (.lit (.int .i64 0)) = .lit (.int .i64 c)) :
    ∃ x : Nat, c = (x : Int) ∧ x < C ∧ La g (m + 1) C (upd cl m x) D := by
  obtain ⟨n0, hn0, e0⟩ := (h.has _ _ hk).1 hh
  have h1 := h.key n0 kl hn0 (by rw [e0]; exact hk)
  rw [hc] at h1
  have hcx : c = (cl n0 : Int) := by simpa using h1
  have ho : ∀ n, n < m → upd cl m (cl n0) n = cl n := fun n hn => upd_other _ _ (by omega)
  refine ⟨cl n0, hcx, h.lt n0 hn0, fun n hn => ?_, fun n n' hn hn' => ?_, fun c hc => ?_, fun v kl' hk' => ?_, fun n kl' hn hk' => ?_, by have := h.le; omega, h.map⟩
  · by_cases e : n = m
    · rw [e, upd_same]
      exact h.lt n0 hn0
    · rw [ho n (by omega)]
      exact h.lt n (by omega)
  · by_cases e : n = m
    · subst e
      rw [upd_same]
      by_cases e' : n' = n
      · subst e'
        rw [upd_same]
        exact ⟨fun _ => rfl, fun _ => rfl⟩
      · rw [ho n' (by omega), h.same n0 n' hn0 (by omega), e0]
    · rw [ho n (by omega)]
      by_cases e' : n' = m
      · subst e'
        rw [upd_same, h.same n n0 (by omega) hn0, e0]
      · rw [ho n' (by omega)]
        exact h.same n n' (by omega) (by omega)
  · obtain ⟨n, hn, e⟩ := h.sur c hc
    exact ⟨n, by omega, by rw [ho n hn]; exact e⟩
  · rw [h.has v kl' hk']
    constructor
    · rintro ⟨n, hn, e⟩
      exact ⟨n, by omega, e⟩
    · rintro ⟨n, hn, e⟩
      by_cases en : n = m
      · subst en
        exact ⟨n0, hn0, e0.trans e⟩
      · exact ⟨n, by omega, e⟩
  · by_cases e : n = m
    · subst e
      rw [upd_same]
      exact h.key n0 kl' hn0 (by rw [e0]; exact hk')
    · rw [ho n (by omega)]
      exact h.key n kl' (by omega) hk'
theorem La.new {g : Gf} {m C : Nat} {cl : Nat → Nat} {D : DataW Unit} (h : La g m C cl D) {kl : Lit} (hk : keyOf Tryz.prog 221 (lv g m) = some kl) (hh : Maps.has D kl = false) : La g (m + 1) (C + 1) (upd cl m C) (D.put kl (.lit (.int .i64 (C : Int)))) := by
  have hno : ∀ n, n < m → lv g n ≠ lv g m := fun n hn e => by
    have := (h.has _ _ hk).2 ⟨n, hn, e⟩
    rw [hh] at this
    cases this
  have ho : ∀ n, n < m → upd cl m C n = cl n := fun n hn => upd_other _ _ (by omega)
  have hkl := labLaw.key hk
  have hne : ∀ v kl', keyOf Tryz.prog 221 v = some kl' → v ≠ lv g m → kl' ≠ kl := fun v kl' hk' hv e => hv (labLaw.inj (by rw [← e]; exact hk') hk)
  refine ⟨fun n hn => ?_, fun n n' hn hn' => ?_, fun c hc => ?_, fun v kl' hk' => ?_, fun n kl' hn hk' => ?_, by have := h.le; omega, ?_⟩
  · by_cases e : n = m
    · rw [e, upd_same]
      omega
    · rw [ho n (by omega)]
      have := h.lt n (by omega)
      omega
  · by_cases e : n = m
    · subst e
      rw [upd_same]
      by_cases e' : n' = n
      · subst e'
        rw [upd_same]
        exact ⟨fun _ => rfl, fun _ => rfl⟩
      · rw [ho n' (by omega)]
        have := h.lt n' (by omega)
        exact ⟨fun e1 => by omega, fun e1 => absurd e1.symm (hno n' (by omega))⟩
    · rw [ho n (by omega)]
      by_cases e' : n' = m
      · subst e'
        rw [upd_same]
        have := h.lt n (by omega)
        exact ⟨fun e1 => by omega, fun e1 => absurd e1 (hno n (by omega))⟩
      · rw [ho n' (by omega)]
        exact h.same n n' (by omega) (by omega)
  · by_cases e : c = C
    · exact ⟨m, by omega, by rw [upd_same, e]⟩
    · obtain ⟨n, hn, e1⟩ := h.sur c (by omega)
      exact ⟨n, by omega, by rw [ho n hn]; exact e1⟩
  · by_cases e : v = lv g m
    · subst e
      obtain rfl : kl = kl' := Option.some.inj (hk.symm.trans hk')
      rw [Maps.has_put_same h.map hkl]
      exact ⟨fun _ => ⟨m, by omega, rfl⟩, fun _ => rfl⟩
    · rw [Maps.has_put_other (hne v kl' hk' e), h.has v kl' hk']
      constructor
      · rintro ⟨n, hn, e1⟩
        exact ⟨n, by omega, e1⟩
      · rintro ⟨n, hn, e1⟩
        by_cases en : n = m
        · subst en
          exact absurd e1.symm e
        · exact ⟨n, by omega, e1⟩
  · by_cases e : n = m
    · subst e
      obtain rfl : kl = kl' := Option.some.inj (hk.symm.trans hk')
      rw [Maps.atKey_put_same h.map hkl, upd_same]
    · rw [Maps.atKey_put_other (hne _ kl' hk' (hno n (by omega))), ho n (by omega)]
      exact h.key n kl' (by omega) hk'
  · obtain ⟨es, rfl⟩ := h.map
    exact ⟨_, rfl⟩
def mF (cl : Nat → Nat) (m c : Nat) : List Nat := (List.range m).filter (fun n => decide (cl n = c))
theorem mF_mem {cl : Nat → Nat} {m c n : Nat} : n ∈ mF cl m c ↔ n < m ∧ cl n = c := by
  unfold mF
  rw [List.mem_filter, List.mem_range, decide_eq_true_eq]
theorem mF_nodup (cl : Nat → Nat) (m c : Nat) : (mF cl m c).Nodup := List.Sublist.nodup List.filter_sublist List.nodup_range
theorem mF_len (cl : Nat → Nat) (m c : Nat) : (mF cl m c).length ≤ m := fewer (mF_nodup cl m c) (fun _ h => (mF_mem.1 h).1)
theorem mF_succ (cl : Nat → Nat) (m c x : Nat) : mF (upd cl m x) (m + 1) c = mF cl m c ++ (if x = c then [m] else []) := by
  unfold mF
  rw [List.range_succ, List.filter_append]
  congr 1
  · apply List.filter_congr
    intro n hn
    have := List.mem_range.1 hn
    rw [upd_other _ _ (by omega)]
  · simp only [List.filter_cons, List.filter_nil, upd_same, decide_eq_true_eq]
structure Mb (w : World) (B : Nat) (mv : Value) (C : Nat) (vs : Nat → Value) (F : Nat → List Nat) : Prop where
  top : w.ownsRow B 28 1 mv C ((List.range C).map vs)
  own : ∀ c, c < C → w.ownsRow B 3 1 (vs c) (F c).length ((ints (F c)).map (Value.int .i64))
  nd : ∀ c c', c < C → c' < C → c ≠ c' → ∀ p q, (vs c).ownBlock = some p → (vs c').ownBlock = some q → p ≠ q
theorem Mb.start (w : World) (B : Nat) : Mb w B (.slice none 0 0) 0 (fun _ => .slice none 0 0) (fun _ => []) :=
  ⟨World.ownsRow_nil _ _ _ _, fun _ h => absurd h (Nat.not_lt_zero _), fun _ _ h => absurd h (Nat.not_lt_zero _)⟩
theorem Mb.congr {w : World} {B C : Nat} {mv : Value} {vs : Nat → Value} {F F' : Nat → List Nat} (h : Mb w B mv C vs F) (e : ∀ c, c < C → F c = F' c) : Mb w B mv C vs F' :=
  ⟨h.top, fun c hc => by rw [← e c hc]; exact h.own c hc, h.nd⟩
theorem Mb.ty {w : World} {B C : Nat} {mv : Value} {vs : Nat → Value} {F : Nat → List Nat} (h : Mb w B mv C vs F) {q : Nat} (hq : mv.ownBlock = some q) : ∀ c, c < C → (vs c).ownBlock ≠ some q := fun c hc e => by
  obtain ⟨c1, h1, _⟩ := own_block_obj h.top hq
  obtain ⟨c2, h2, _⟩ := own_block_obj (h.own c hc) e
  rw [h1] at h2
  simp at h2
theorem Mb.keep {w w' : World} {B C : Nat} {mv : Value} {vs : Nat → Value} {F : Nat → List Nat} (h : Mb w B mv C vs F) (hk : ∀ k, (mv.ownBlock = some k ∨ ∃ c, c < C ∧ (vs c).ownBlock = some k) → w'.heap[k]? = w.heap[k]?) : Mb w' B mv C vs F :=
  ⟨own_block h.top (fun k e => hk k (Or.inl e)), fun c hc => own_block (h.own c hc) (fun k e => hk k (Or.inr ⟨c, hc, e⟩)), h.nd⟩
theorem Mb.below {w w' : World} {B C : Nat} {mv : Value} {vs : Nat → Value} {F : Nat → List Nat} (h : Mb w B mv C vs F) (hb : Below w.heap.size w w') : Mb w' B mv C vs F :=
  h.keep (fun k e => hb.block k (by
    rcases e with e | ⟨c, hc, e⟩
    · exact (h.top.lt k e).2
    · exact ((h.own c hc).lt k e).2))
theorem Mb.cell {w : World} {B C mb mc c : Nat} {vs : Nat → Value} {F : Nat → List Nat} (h : Mb w B (.slice (some ⟨mb, 0, none⟩) C mc) C vs F) (hc : c < C) : w.cell? ⟨mb, c, none⟩ = some (vs c) ∧ w.frozen? ⟨mb, c, none⟩ = false := by
  refine ⟨?_, ?_⟩
  · have := h.top.cells (g := mb) rfl c (vs c) (by simp [hc])
    rw [Addr.add_lit, Nat.zero_add] at this
    exact this
  · obtain ⟨cur, h1, _⟩ := own_block_obj h.top (q := mb) rfl
    simp [World.frozen?, h1]
theorem Mb.form {w : World} {B C : Nat} {mv : Value} {vs : Nat → Value} {F : Nat → List Nat} (h : Mb w B mv C vs F) (hC : 0 < C) : ∃ mb mc, mv = .slice (some ⟨mb, 0, none⟩) C mc := by
  obtain ⟨q, c, h1, _⟩ := (own_form h.top).resolve_left (fun h => by omega)
  exact ⟨q, c, h1⟩
theorem Mb.far {w w2 : World} {B C mb mc c : Nat} {o : Obj} {vs : Nat → Value} {F : Nat → List Nat} (h : Mb w B (.slice (some ⟨mb, 0, none⟩) C mc) C vs F) (hc : c < C) (hgr : (w.alloc o).grownBy w2 (vs c).ownBlock) : w2.cell? ⟨mb, c, none⟩ = some (vs c) ∧ w2.frozen? ⟨mb, c, none⟩ = false := by
  have hmb := (h.top.lt mb rfl).2
  have h1 : w2.heap[mb]? = w.heap[mb]? := by rw [hgr.block mb (by simp; omega) (fun e => h.ty rfl c hc e.symm), Below.heap_alloc _ _ _ hmb]
  obtain ⟨h2, h3⟩ := h.cell hc
  refine ⟨by rw [World.cell?_of_block (a := ⟨mb, c, none⟩) h1]; exact h2, ?_⟩
  simpa [World.frozen?, h1] using h3
theorem Mb.push {w w2 : World} {B C g cap : Nat} {o : Obj} {mv : Value} {vs : Nat → Value} {F : Nat → List Nat} (h : Mb w B mv C vs F) (hown : w2.ownsRow B 28 1 (.slice (some ⟨g, 0, none⟩) (C + 1) cap) (C + 1) ((List.range C).map vs ++ [.slice none 0 0])) (hgr : (w.alloc o).grownBy w2 mv.ownBlock) :
    Mb w2 B (.slice (some ⟨g, 0, none⟩) (C + 1) cap) (C + 1) (upd vs C (.slice none 0 0)) (upd F C []) := by
  have hvs : ∀ c, c < C → upd vs C (.slice none 0 0) c = vs c := fun c hc => upd_other _ _ (by omega)
  refine ⟨?_, fun c hc => ?_, fun c c' hc hc' hne p q hp hq => ?_⟩
  · have e : (List.range (C + 1)).map (upd vs C (.slice none 0 0)) = (List.range C).map vs ++ [.slice none 0 0] := by
      rw [List.range_succ, List.map_append]
      congr 1
      · apply List.map_congr_left
        intro c hc
        exact hvs c (List.mem_range.1 hc)
      · simp [upd]
    rw [e]
    exact hown
  · by_cases e : c = C
    · subst e
      rw [upd_same, upd_same]
      exact World.ownsRow_nil _ _ _ _
    · have hc' : c < C := by omega
      rw [hvs c hc', upd_other _ _ e]
      refine own_block (h.own c hc') (fun k ek => ?_)
      have hl := ((h.own c hc').lt k ek).2
      rw [hgr.block k (by simp; omega) (fun e' => h.ty e'.symm c hc' ek), Below.heap_alloc _ _ _ hl]
  · by_cases e : c = C
    · subst e
      rw [upd_same] at hp
      cases hp
    · by_cases e' : c' = C
      · subst e'
        rw [upd_same] at hq
        cases hq
      · rw [hvs c (by omega)] at hp
        rw [hvs c' (by omega)] at hq
        exact h.nd c c' (by omega) (by omega) hne p q hp hq
theorem range_set (C t : Nat) (vs : Nat → Value) (x : Value) : ((List.range C).map vs).set t x = (List.range C).map (upd vs t x) := by
  apply List.ext_getElem
  · simp
  · intro i h1 h2
    simp only [List.getElem_set, List.getElem_map, List.getElem_range, upd]
    by_cases e : t = i
    · rw [if_pos e, if_pos e.symm]
    · rw [if_neg e, if_neg (fun e' => e e'.symm)]
theorem Mb.add {w w2 : World} {B C c n g cap mb mc : Nat} {o : Obj} {vs : Nat → Value} {F : Nat → List Nat} (h : Mb w B (.slice (some ⟨mb, 0, none⟩) C mc) C vs F) (hc : c < C)
    (hown : w2.ownsRow B 3 1 (.slice (some ⟨g, 0, none⟩) ((F c).length + 1) cap) ((F c).length + 1) ((ints (F c)).map (Value.int .i64) ++ [.int .i64 (n : Int)])) (hgr : (w.alloc o).grownBy w2 (vs c).ownBlock) (hat : (vs c).ownBlock = some g ∨ g = w.heap.size + 1) :
    Mb (w2.setCell ⟨mb, c, none⟩ (.slice (some ⟨g, 0, none⟩) ((F c).length + 1) cap)) B (.slice (some ⟨mb, 0, none⟩) C mc) C (upd vs c (.slice (some ⟨g, 0, none⟩) ((F c).length + 1) cap)) (upd F c (F c ++ [n])) := by
  have hold : ∀ q, q < w.heap.size → (vs c).ownBlock ≠ some q → w2.heap[q]? = w.heap[q]? := fun q hq hne => by
    rw [hgr.block q (by simp; omega) (fun e => hne e.symm), Below.heap_alloc _ _ _ hq]
  have hmb := (h.top.lt mb rfl).2
  have htop : w2.ownsRow B 28 1 (.slice (some ⟨mb, 0, none⟩) C mc) C ((List.range C).map vs) := own_block h.top (fun k e => by
    have e' : mb = k := by simpa [Value.ownBlock] using e
    subst e'
    exact hold mb hmb (h.ty rfl c hc))
  have hgm : g ≠ mb := fun e => by
    obtain ⟨c1, h1, _⟩ := own_block_obj htop (q := mb) rfl
    obtain ⟨c2, h2, _⟩ := own_block_obj hown (q := g) rfl
    rw [e, h1] at h2
    simp at h2
  have hnew : ∀ c' p, c' < C → c' ≠ c → (vs c').ownBlock = some p → p ≠ g := fun c' p hc' hne e e' => by
    rcases hat with h1 | h1
    · exact h.nd c' c hc' hc hne p g e h1 e'
    · have := ((h.own c' hc').lt p e).2
      omega
  refine ⟨?_, fun c' hc' => ?_, fun c1 c2 h1 h2 hne p q hp hq => ?_⟩
  · rw [← range_set]
    exact own_set htop _
  · by_cases e : c' = c
    · subst e
      rw [upd_same, upd_same, ints_snoc, List.map_append, List.length_append, List.length_singleton]
      refine own_block hown (fun k ek => Below.heap_setCell _ _ _ _ (fun e' => hgm ?_))
      have e1 : g = k := by simpa [Value.ownBlock] using ek
      exact e1.trans e'
    · rw [upd_other _ _ e, upd_other _ _ e]
      refine own_block (h.own c' hc') (fun k ek => ?_)
      have hl := ((h.own c' hc').lt k ek).2
      rw [Below.heap_setCell _ _ _ _ (fun e' => h.ty rfl c' hc' (by
        have e2 : k = mb := e'
        rw [← e2]
        exact ek))]
      exact hold k hl (fun e' => h.nd c' c hc' hc e k k ek e' rfl)
  · by_cases e1 : c1 = c
    · subst e1
      rw [upd_same] at hp
      rw [upd_other _ _ (fun e => hne e.symm)] at hq
      have ep : g = p := by simpa [Value.ownBlock] using hp
      exact fun e => hnew c2 q h2 (fun e => hne e.symm) hq (by omega)
    · rw [upd_other _ _ e1] at hp
      by_cases e2 : c2 = c
      · subst e2
        rw [upd_same] at hq
        have eq' : g = q := by simpa [Value.ownBlock] using hq
        exact fun e => hnew c1 p h1 e1 hp (by omega)
      · rw [upd_other _ _ e2] at hq
        exact h.nd c1 c2 h1 h2 hne p q hp hq
end Go.Proofs.YtgmldkojldlekaaGreatDoor
