/- The variables that the reference meets: Vars. -/
import Derived.Test.YtebmnggjblellaaGrRMet
namespace Go.Proofs.Ytebmnggjblellaa
open Go.RowKit

/-- Is it a variable? -/
def isVar (g : Gf) (x : Int) : Bool := decide ((g.nodes.getD x.toNat nd0).kind = 1)
theorem filter_snoc (p : Int → Bool) {l : List Int} {k : Nat} (h : k < l.length) : (l.take (k + 1)).filter p = if p (l.getD k 0) = true then (l.take k).filter p ++ [l.getD k 0] else (l.take k).filter p := by
  rw [take_snoc h, List.filter_append]
  generalize l.getD k 0 = x
  by_cases e : p x = true
  · rw [if_pos e, List.filter_cons_of_pos e]
    rfl
  · rw [if_neg e, List.filter_cons_of_neg e]
    simp
set_option maxRecDepth 100000 in
set_option maxHeartbeats 4000000 in
theorem rvars_any {W : World} {nv rv : Value} {g : Gf} (hg : Good g) (hG : Gr W nv rv g) :
    Calls Try.prog 20 #[.agg #[nv, rv]] W fun e w' => (∃ ao c, e = .returned (.slice ao ((meetF g (g.nodes.length + 1) g.roots []).filter (isVar g)).length c) ∧ w'.ownsRow W.heap.size 3 1 (.slice ao ((meetF g (g.nodes.length + 1) g.roots []).filter (isVar g)).length c) ((meetF g (g.nodes.length + 1) g.roots []).filter (isVar g)).length (((meetF g (g.nodes.length + 1) g.roots []).filter (isVar g)).map (Value.int .i64))) ∧ Below W.heap.size W w' := by
  obtain ⟨i0, hi, hz0, hz1, hz2⟩ := info_parts infoI
  have hgn := hg.nodes
  have hgr := hg.roots
  have hbA := below_alloc W (.cells #[nv, rv] 25)
  have hmet := rmet_any hg (hG.below hbA) (hG.2.below hbA) hg.root (by omega)
  have hMo := (meet_ok hg (g.nodes.length + 1) g.roots [] hg.root (ok_nil _)).1
  obtain ⟨na, nc, rfl, hNc⟩ := hG.1
  obtain ⟨ra, rc, rfl, _⟩ := hG.2
  generalize meetF g (g.nodes.length + 1) g.roots [] = M at hmet hMo ⊢
  have hML := hMo.le
  have cA := heap_alloc_new W (.cells #[.slice na g.nodes.length nc, .slice ra g.roots.length rc] 25)
  go_enter Try.func20, Try.ntmps20
  go_wp2_with (go_at_call 19; refine hmet.mono ?_; clear hmet; rintro e w1 ⟨⟨ma, mc, rfl, hM⟩, hb1⟩; have cB : w1.heap[W.heap.size]? = some (.cells #[.slice na g.nodes.length nc, .slice ra g.roots.length rc] 25) := (hb1.block _ (lt_of_block cA)).trans cA)
  have hMr := Ri.ofOwn hM
  have hbW := Below.next hbA hb1
  obtain ⟨_, _, hme, hMc⟩ := hMr
  injection hme with hm1 _ hm3
  subst hm1 hm3
  clear cA hM
  go_loopw [4, 5] (fun x i wr => ∃ (k : Nat) (ao : Option Addr) (c : Nat), k ≤ M.length ∧ i = .int .i64 k ∧ x = .slice ao ((M.take k).filter (isVar g)).length c ∧ Hid (Below w1.heap.size w1 wr) ∧ Hid (wr.ownsRow w1.heap.size 3 1 (.slice ao ((M.take k).filter (isVar g)).length c) ((M.take k).filter (isVar g)).length (((M.take k).filter (isVar g)).map (Value.int .i64)))) (fun _ i _ => M.length - (intOf i).toNat)
  case atStart => exact ⟨0, none, 0, Nat.zero_le _, rfl, rfl, Below.refl _ _, World.ownsRow_nil _ _ _ _⟩
  case round =>
    obtain ⟨k, ao, c, hk, rfl, rfl, hb, ho⟩ := hrel
    have cC : wr.heap[W.heap.size]? = some (.cells #[.slice na g.nodes.length nc, .slice ra g.roots.length rc] 25) := (hb.out.block _ (lt_of_block cB)).trans cB
    obtain ⟨⟨c0, _⟩, _⟩ := blk2 cC
    have hbx := Below.next hbW hb.out
    by_cases hlt : k < M.length
    · obtain ⟨mb, mo, rfl, hmc⟩ := hMc k hlt
      have hx := hMo.rng _ (getD_mem hlt)
      have hfs := filter_snoc (isVar g) hlt
      obtain ⟨n, hn⟩ : ∃ n : Nat, M.getD k 0 = (n : Int) := ⟨(M.getD k 0).toNat, by omega⟩
      rw [hn] at hx hfs hmc
      have hnN : n < g.nodes.length := by omega
      obtain ⟨nb, no, av, rfl, hnd⟩ := hNc n hnN
      obtain ⟨n0, _⟩ := hnd.below hbx
      have dm : wr.cell? ⟨mb, mo + k, none⟩ = some (.int .i64 (n : Int)) := by rw [hb.out.cell (p := ⟨mb, mo + k, none⟩) (lt_of_cell hmc)]; exact hmc
      have hV : isVar g (n : Int) = decide ((g.nodes.getD n nd0).kind = 1) := by simp [isVar]
      have hfl := List.length_filter_le (isVar g) (M.take k)
      have htl : (M.take k).length ≤ M.length := by simp; omega
      generalize (g.nodes.getD n nd0).kind = kd at n0 hV
      have hfs' := hid hfs
      generalize hF1 : (M.take k).filter (isVar g) = F1 at ho hfs' hfl
      clear hfs hmc hnd hn
      by_cases hkd : kd = 1
      · subst hkd
        have hfs2 : Hid ((M.take (k + 1)).filter (isVar g) = F1 ++ [(n : Int)]) := by
          show _ = _
          rw [hfs'.out, if_pos (by rw [hV]; rfl)]
        have hbd : Below w1.heap.size w1 wr.drew := hb.out.drew
        have hod : wr.drew.ownsRow w1.heap.size 3 1 (.slice ao F1.length c) F1.length (F1.map (Value.int .i64)) := ho.out.drew
        have hdm : wr.drew.cell? ⟨mb, mo + k, none⟩ = some (.int .i64 (n : Int)) := dm
        go_wp2
        go_region_law (fail)
        all_goals
          generalize wr.drew = wd at hbd hod hdm ⊢
          have hbs := hbd.size
          have ho1 := World.ownsRow.alloc hod (.cells #[.int .i64 (n : Int)] 3)
          go_wp2_with (at_builtin; refine wpList_append_lies _ rfl _ _ _ rfl w1.heap.size 3 i0 (.int .i64 0) 1 8 Try.underlying23 hi hz0 hz1 hz2 rfl (by decide) _ F1.length (F1.map (Value.int .i64)) rfl ho1 ⟨wd.heap.size, 0, none⟩ 1 1 [.int .i64 (n : Int)] rfl rfl (World.news_of_block (cs := #[.int .i64 (n : Int)]) (t := 3) (fr := (0, 0)) (heap_alloc_new wd _)) (by simp [Value.oneCell']) (by omega) (by unfold maxLen; omega) (by omega) (by simp; omega) (wd.heap.size + 1) (by simp) ?_; intro gg cap w2 hown2 hgr hat hltg)
          go_roundw
          case rel =>
            refine ⟨k + 1, some ⟨gg, 0, none⟩, cap, by omega, congrArg (Value.int .i64) (by omega), ?_, ?_, ?_⟩
            · rw [hfs2.out]
              simp
            · have h1 : Below w1.heap.size w1 (wd.alloc (.cells #[.int .i64 (n : Int)] 3)) := hbd.alloc (by omega) _
              exact h1.grown hgr (by simp; omega) (fun j e => (hod.lt j e).1)
            · show World.ownsRow _ _ _ _ _ _ _
              rw [hfs2.out]
              simpa using hown2
          case measure => simp [intOf]; omega
      · have hfs2 : Hid ((M.take (k + 1)).filter (isVar g) = F1) := by
          show _ = _
          rw [hfs'.out, if_neg (by rw [hV]; simpa using hkd)]
        have hbd : Below w1.heap.size w1 wr.drew := hb.out.drew
        have hod : wr.drew.ownsRow w1.heap.size 3 1 (.slice ao F1.length c) F1.length (F1.map (Value.int .i64)) := ho.out.drew
        go_wp2
        go_region_law (fail)
        all_goals go_wp2
        all_goals
          go_roundw
          case rel =>
            refine ⟨k + 1, ao, c, by omega, congrArg (Value.int .i64) (by omega), by rw [hfs2.out], hbd, ?_⟩
            rw [hfs2.out]
            exact hod
          case measure => simp [intOf]; omega
    · have ho' := own_base (B' := W.heap.size) ho.out hbW.size
      rw [List.take_of_length_le (by omega)] at ho' ⊢
      go_wp2
      go_ret
      exact ⟨⟨ao, c, rfl, ho'⟩, hbx⟩
end Go.Proofs.Ytebmnggjblellaa
