/- The nodes that the reference meets: Met. -/
import Derived.Test.YtebmnggjblellaaGrRMeet
import Derived.Test.YtebmnggjblellaaGrReach3
import Derived.Test.YtebmnggjblellaaGrTrim2
namespace Go.Proofs.Ytebmnggjblellaa
open Go.RowKit

set_option maxRecDepth 100000 in
set_option maxHeartbeats 4000000 in
theorem rmet_any {W : World} {nv rv fv : Value} {g : Gf} {l : List Int} (hg : Good g) (hG : Gr W nv rv g) (hF : Ri W fv l) (hl : ∀ x ∈ l, 0 ≤ x ∧ x < (g.nodes.length : Int)) (hlen : l.length ≤ 5000) :
    Calls Try.prog 19 #[.agg #[nv, rv], fv] W fun e w' => (∃ ao c, e = .returned (.slice ao (meetF g (g.nodes.length + 1) l []).length c) ∧ w'.ownsRow W.heap.size 3 1 (.slice ao (meetF g (g.nodes.length + 1) l []).length c) (meetF g (g.nodes.length + 1) l []).length ((meetF g (g.nodes.length + 1) l []).map (Value.int .i64))) ∧ Below W.heap.size W w' := by
  have hgn := hg.nodes
  have hmk := make_bools g.nodes.length (by omega)
  have hN := hG.1
  obtain ⟨na, nc, rfl, _⟩ := hG.1
  obtain ⟨ra, rc, rfl, _⟩ := hG.2
  obtain ⟨fa, fc, rfl, hFc⟩ := hF
  go_enter Try.func19, Try.ntmps19
  have cA : (W.alloc (.cells #[.slice na g.nodes.length nc, .slice ra g.roots.length rc] 25)).heap[W.heap.size]? = _ := heap_alloc_new W _
  obtain ⟨⟨c0, c1⟩, _⟩ := blk2 cA
  go_wp2
  have hB : Rb W (W.heap.size + 1) (W.heap.size + 1 + 1) := ⟨by omega, by omega, by omega⟩
  have hC := rmeet_any (rv := .slice ra g.roots.length rc) hg hN hB g.nodes.length
  have hS0 : Hid (Rm W (((W.alloc (.cells #[.slice na g.nodes.length nc, .slice ra g.roots.length rc] 25)).alloc (.cells (seenArr g.nodes.length []) 4)).alloc (.cells #[.slice na g.nodes.length nc, .slice ra g.roots.length rc, .slice (some ⟨W.heap.size + 1, 0, none⟩) g.nodes.length g.nodes.length, .slice none 0 0] 86)).drew (.slice na g.nodes.length nc) (.slice ra g.roots.length rc) g.nodes.length (W.heap.size + 1) (W.heap.size + 1 + 1) []) := by
    refine ⟨(((below_alloc W _).alloc (by simp) _).alloc (by simp <;> omega) _).drew, ?_, ⟨none, 0, ?_, World.ownsRow_nil _ _ _ _, fun k e => by simp [Value.ownBlock] at e⟩⟩
    · show (((W.alloc _).alloc _).alloc _).heap[_]? = _
      rw [Below.heap_alloc _ _ _ (by simp)]
      simpa using heap_alloc_new (W.alloc (.cells #[.slice na g.nodes.length nc, .slice ra g.roots.length rc] 25)) (.cells (seenArr g.nodes.length []) 4)
    · show (((W.alloc _).alloc _).alloc _).heap[_]? = _
      simpa using heap_alloc_new ((W.alloc (.cells #[.slice na g.nodes.length nc, .slice ra g.roots.length rc] 25)).alloc (.cells (seenArr g.nodes.length []) 4)) (.cells #[.slice na g.nodes.length nc, .slice ra g.roots.length rc, .slice (some ⟨W.heap.size + 1, 0, none⟩) g.nodes.length g.nodes.length, .slice none 0 0] 86)
  go_region_law (fail)
  all_goals go_wp2
  all_goals
    generalize (((W.alloc (.cells #[.slice na g.nodes.length nc, .slice ra g.roots.length rc] 25)).alloc (.cells (seenArr g.nodes.length []) 4)).alloc (.cells #[.slice na g.nodes.length nc, .slice ra g.roots.length rc, .slice (some ⟨W.heap.size + 1, 0, none⟩) g.nodes.length g.nodes.length, .slice none 0 0] 86)).drew = w3 at hS0 ⊢
    go_loopw [6] (fun i wr => ∃ k : Nat, k ≤ l.length ∧ i = .int .i64 k ∧ Hid (Rm W wr (.slice na g.nodes.length nc) (.slice ra g.roots.length rc) g.nodes.length (W.heap.size + 1) (W.heap.size + 1 + 1) (meetF g (g.nodes.length + 1) (l.take k) []))) (fun i _ => l.length - (intOf i).toNat)
    case atStart => exact ⟨0, Nat.zero_le _, rfl, by simpa [Hid, meetF_succ] using hS0⟩
    case round =>
      obtain ⟨k, hk, rfl, hS⟩ := hrel
      by_cases hlt : k < l.length
      · obtain ⟨lb, lo, rfl, hlc⟩ := hFc k hlt
        have hx := hl _ (getD_mem hlt)
        have hlc' : wr.cell? ⟨lb, lo + k, none⟩ = some (.int .i64 (l.getD k 0)) := by rw [hS.out.b.cell (p := ⟨lb, lo + k, none⟩) (lt_of_cell hlc)]; exact hlc
        have hMo := meet_ok hg (g.nodes.length + 1) (l.take k) [] (fun x hx => hl x (List.mem_of_mem_take hx)) (ok_nil _)
        have hnext : meetF g (g.nodes.length + 1) (l.take (k + 1)) [] = stepF g g.nodes.length (meetF g (g.nodes.length + 1) (l.take k) []) (l.getD k 0) := by
          rw [take_snoc hlt, meetF_succ, meetF_succ, List.foldl_append]
          rfl
        have hcall := hC (l.getD k 0) _ wr hx.1 hx.2 hMo.1 (by omega) hS.out
        rw [← hnext] at hcall
        generalize l.getD k 0 = y at hlc' hcall
        clear hnext hMo hlc hx hS0
        go_wp2_with (go_at_call 59; refine hcall.mono ?_; rintro e w4 ⟨rfl, hS4⟩)
        go_roundw
        case rel => exact ⟨k + 1, by omega, congrArg (Value.int .i64) (by omega), hS4⟩
        case measure => simp [intOf]; omega
      · have hS' := hS.out
        rw [List.take_of_length_le (by omega)] at hS'
        obtain ⟨ao, c, hm0, hm1, _⟩ := hS'.met
        obtain ⟨⟨_, _, _, q3⟩, _⟩ := blk4 hm0
        have hbw := hS'.b
        clear hS hS0 hS' hm0
        go_wp2
        go_ret
        exact ⟨⟨ao, c, rfl, hm1⟩, hbw⟩
end Go.Proofs.Ytebmnggjblellaa
