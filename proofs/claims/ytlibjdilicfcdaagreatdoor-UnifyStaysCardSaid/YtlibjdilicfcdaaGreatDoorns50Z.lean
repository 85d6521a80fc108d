/- Laws of layer 12: the heap, and the row of cells, between calls. -/
import Derived.Test.YtlibjdilicfcdaaGreatDoorns47Z
import Derived.Test.YtlibjdilicfcdaaGreatDoorns17Z
import Derived.Test.YtlibjdilicfcdaaGreatDoorns07Z
import Derived.Test.YtlibjdilicfcdaaGreatDoorns46Z
import Derived.Test.YtlibjdilicfcdaaGreatDoorns49Z
import Derived.Test.YtlibjdilicfcdaaGreatDoorns11Z
import Derived.Test.YtlibjdilicfcdaaGreatDoorns04Z
import Derived.Test.YtlibjdilicfcdaaGreatDoorns14Z
import Derived.Test.YtlibjdilicfcdaaGreatDoorns09Z
import Derived.Test.YtlibjdilicfcdaaGreatDoorns28Z
import Derived.Test.YtlibjdilicfcdaaGreatDoorns25Z
import Derived.Test.YtlibjdilicfcdaaGreatDoorns36Z
namespace Go.Proofs.YtlibjdilicfcdaaGreatDoor
set_option maxRecDepth 100000
open Go.RowKit Go.Maps
theorem putc_small {g : Gf} {z : Int} (hc : one (chk g) = []) (hn : g.nodes.length ≤ 400) (hz : 4000 ≤ z) : PutC hs0 (gAll g) z ∧ (putHs hs0 (gAll g)).l.length ≤ 4000 := by
  have hg := chk_good hc
  have hG : Good (gAll g) := ⟨hg.nodes, by rw [gAll_len]; omega, hg.node, fun x hx => by
    obtain ⟨k, hk, rfl⟩ := List.mem_map.1 hx
    have := List.mem_range.1 hk
    show 0 ≤ (k : Int) ∧ (k : Int) < (g.nodes.length : Int)
    omega⟩
  have hm : (metF (gAll g)).length ≤ 400 := Nat.le_trans (met_ok hG).le hn
  have h1 := wthJ_len [] (gAll g) (metF (gAll g)) (metF (gAll g)).length
  have h2 := want_le hG (met := metF (gAll g)) (metF (gAll g)).length
  rw [gAll_len] at h2
  have hw : wantJ (gAll g) (metF (gAll g)) (metF (gAll g)).length ≤ 4000 := by omega
  refine ⟨⟨chk_of_good hG, ?_, ?_⟩, ?_⟩
  · show (wthJ [] (gAll g) (metF (gAll g)) (metF (gAll g)).length).length ≤ 1024
    simp only [List.length_nil] at h1
    omega
  · show ((([] : List Int).length : Int) + _) ≤ z
    simp only [List.length_nil]
    omega
  · show (wdP [] [] (gAll g)).length ≤ 4000
    unfold wdP
    rw [List.length_append, putW_len]
    simp only [List.length_nil]
    omega
section
variable {W w w' : World} {B hb q n : Nat} {m : Int} {s : Hst}
theorem Hs.lt {F : Nat → Prop} (h : Hs w B hb m F s) : Hs w B hb m (fun k => F k ∧ k < w.heap.size) s := by
  obtain ⟨ab, tb, av, tv, tq, trv, ptv, hq, hf⟩ := h
  refine ⟨ab, tb, av, tv, tq, trv, ptv, hq, fun k hk => ⟨hf k hk, ?_⟩⟩
  rcases mem_qfoot.1 hk with e | e | e | e
  · rw [e]
    exact lt_of_block hq.hp.blk
  · exact hq.hp.ltz.2.1 k e
  · exact (hq.tr.lt k e).2
  · exact (hq.pt.lt k e).2
end
end Go.Proofs.YtlibjdilicfcdaaGreatDoor
