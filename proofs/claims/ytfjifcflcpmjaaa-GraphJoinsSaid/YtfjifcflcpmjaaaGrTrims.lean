/- GraphTrims, walked: the calls that it makes. -/
import Derived.Test.YtfjifcflcpmjaaaGrTrim3
import Derived.Test.YtfjifcflcpmjaaaGrTrimM
import Derived.Test.YtfjifcflcpmjaaaGrSame3
namespace Go.Proofs.Ytfjifcflcpmjaaa
open Go.RowKit

theorem keepB {w w' : World} {q : Nat} {o : Obj} (h : w.heap[q]? = some o) (hb : Below w.heap.size w w') : w'.heap[q]? = some o := by
  rw [hb.block q (lt_of_block h)]
  exact h
theorem trim_sized {g : Gf} (hg : Good g) : Sized (trimF g) := fun n hn => by
  obtain ⟨x, hx, rfl⟩ := List.mem_map.1 hn
  have hr := (met_ok hg).rng x hx
  have hgd := hg.node (g.nodes.getD x.toNat nd0) (by
    have : x.toNat < g.nodes.length := by omega
    simp [List.getD, this])
  have := good_name hgd
  simp only [renum]
  omega
theorem trim_fits {g : Gf} (hg : Good g) : Fits (trimF g) := by
  have ht := trim_good0 hg
  have h1 := ht.nodes
  have h2 := ht.roots
  exact ⟨by omega, by omega, fun n hn => by have := (good_args (ht.node n hn)).2; omega⟩
theorem trim_call {w : World} {nv rv : Value} {g : Gf} (hG : Gr w nv rv g) (hS : Sized g) (hg : Good g) :
    Calls Try.prog 16 #[.agg #[nv, rv]] w fun e w' => (∃ ao c ro rc, e = .returned (.tuple #[.agg #[.slice ao (metF g).length c, .slice ro g.roots.length rc], .nilIface]) ∧ Gr w' (.slice ao (metF g).length c) (.slice ro g.roots.length rc) (trimF g)) ∧ Below w.heap.size w w' := by
  refine (trim_good hG hS (chk_of_good hg)).mono ?_
  rintro e w' ⟨⟨nv', rv', avs, rfl, hO⟩, hb⟩
  have hgr := hO.gr
  obtain ⟨ao, c, h1⟩ := hO.nsl
  obtain ⟨ro, rc, h2, _⟩ := hO.r
  rw [trim_len hg] at h1
  have e2 : (trimF g).roots.length = g.roots.length := by simp [trimF]
  rw [e2] at h2
  subst h1 h2
  exact ⟨⟨ao, c, ro, rc, rfl, hgr⟩, hb⟩
theorem trim_call2 {w : World} {nv rv : Value} {g : Gf} (hg : Good g) (hG : Gr w nv rv (trimF g)) :
    Calls Try.prog 16 #[.agg #[nv, rv]] w fun e w' => (∃ ao c ro rc, e = .returned (.tuple #[.agg #[.slice ao (metF g).length c, .slice ro g.roots.length rc], .nilIface]) ∧ Gr w' (.slice ao (metF g).length c) (.slice ro g.roots.length rc) (trimF g)) ∧ Below w.heap.size w w' := by
  have h := trim_call hG (trim_sized hg) (trim_good0 hg)
  have e1 : (metF (trimF g)).length = (metF g).length := by rw [trim_met hg, iota_len]
  have e2 : (trimF g).roots.length = g.roots.length := by simp [trimF]
  rw [trim_twice hg, e1, e2] at h
  exact h
theorem reach_call2 {w : World} {nv rv : Value} {g : Gf} (hg : Good g) (hG : Gr w nv rv (trimF g)) :
    Calls Try.prog 14 #[.agg #[nv, rv]] w fun e w' => (∃ ao c, e = .returned (.tuple #[.slice ao (metF g).length c, .nilIface]) ∧ Ri w' (.slice ao (metF g).length c) (iota (metF g).length)) ∧ Below w.heap.size w w' := by
  refine (reach_good hG (trim_sized hg) (chk_of_good (trim_good0 hg))).mono ?_
  rintro e w' ⟨⟨ao, c, rfl, ho⟩, hb⟩
  have hr := Ri.ofOwn ho
  rw [trim_met hg, iota_len] at hr ⊢
  exact ⟨⟨ao, c, rfl, hr⟩, hb⟩
set_option maxRecDepth 100000 in
set_option maxHeartbeats 1000000 in
theorem alike_any {W : World} {k n : Int} {s : ByteArray} {aa ba : Option Addr} {m ac bc : Nat} :
    Calls Try.prog 30 #[.agg #[.int .i64 k, .string s, .int .i64 n, .slice aa m ac], .agg #[.int .i64 k, .string s, .int .i64 n, .slice ba m bc]] W fun e w' => e = .returned (.bool true) ∧ Below W.heap.size W w' := by
  have hb2 : Below W.heap.size W ((W.alloc (.cells #[.int .i64 k, .string s, .int .i64 n, .slice aa m ac] 31)).alloc (.cells #[.int .i64 k, .string s, .int .i64 n, .slice ba m bc] 31)) := (below_alloc W _).alloc (by simp) _
  go_enter Try.func30, Try.ntmps30
  go_wp2
  go_ret
  exact ⟨rfl, hb2⟩
set_option maxRecDepth 100000 in
set_option maxHeartbeats 4000000 in
/-- The law where it looks no further: a long path, a large graph, or one that is not good. -/
theorem trims_short {W : World} {nv rv pv : Value} {g : Gf} {path : List Int} (hG : Gr W nv rv g) (hS : Sized g) (hP : Ri W pv path) (root : Int) (h : 5000 < path.length ∨ smallG g = false ∨ one (chk g) ≠ []) :
    Calls Try.prog 7 #[.agg #[nv, rv], .int .i64 root, pv] W fun e w' => e = .returned (.bool true) ∧ Below W.heap.size W w' := by
  obtain ⟨pa, pc, rfl, _⟩ := hP
  have hb := below_alloc W (.cells #[nv, rv] 25)
  have b0 := heap_alloc_new W (.cells #[nv, rv] 25)
  by_cases h5 : 5000 < path.length
  · have h5' : (5000 : Int) < (path.length : Int) := by omega
    clear h hG
    go_enter Try.func7, Try.ntmps7
    go_wp2_with (go_at_call 9; refine (lives_any _).mono ?_; rintro e w1 ⟨rfl, hb1⟩; replace hb := Below.next hb hb1; clear hb1)
    go_ret
    exact ⟨rfl, hb⟩
  · have h5' : ¬ (5000 : Int) < (path.length : Int) := by omega
    have hlg : ∀ w : World, Below W.heap.size W w → _ := fun w hb => large_any (hG.below hb)
    cases hsg : smallG g with
    | false =>
      rw [hsg] at hlg
      clear h hG
      go_enter Try.func7, Try.ntmps7
      go_wp2_with (first
        | (go_at_call 9; refine (lives_any _).mono ?_; rintro e w1 ⟨rfl, hb1⟩; replace hb := Below.next hb hb1; replace b0 := keepB b0 hb1; obtain ⟨⟨c0, c1⟩, _⟩ := blk2 b0; clear hb1)
        | (go_at_call 13; refine (hlg _ hb).mono ?_; clear hlg; rintro e w2 ⟨rfl, hb1⟩; replace hb := Below.next hb hb1; replace b0 := keepB b0 hb1; clear c0 c1; obtain ⟨⟨c0, c1⟩, _⟩ := blk2 b0; clear hb1))
      go_ret
      exact ⟨rfl, hb⟩
    | true =>
      have hbad : one (chk g) ≠ [] := by
        rcases h with h | h | h
        · exact absurd h h5
        · rw [hsg] at h
          cases h
        · exact h
      rw [hsg] at hlg
      have htr : ∀ w : World, Below W.heap.size W w → _ := fun w hb => trim_bad (hG.below hb) hS hbad
      have hck : ∀ w : World, Below W.heap.size W w → _ := fun w hb => check_any (hG.below hb) hS
      clear h hG
      go_enter Try.func7, Try.ntmps7
      go_wp2_with (first
        | (go_at_call 9; refine (lives_any _).mono ?_; rintro e w1 ⟨rfl, hb1⟩; replace hb := Below.next hb hb1; replace b0 := keepB b0 hb1; obtain ⟨⟨c0, c1⟩, _⟩ := blk2 b0; clear hb1)
        | (go_at_call 13; refine (hlg _ hb).mono ?_; clear hlg; rintro e w2 ⟨rfl, hb1⟩; replace hb := Below.next hb hb1; replace b0 := keepB b0 hb1; clear c0 c1; obtain ⟨⟨c0, c1⟩, _⟩ := blk2 b0; clear hb1)
        | (go_at_call 16; refine (htr _ hb).mono ?_; clear htr; rintro e w3 ⟨⟨bb, rfl, _⟩, hb1⟩; replace hb := (Below.next hb hb1).alloc (Below.next hb hb1).size (.cells #[.slice none 0 0, .slice none 0 0] 25); replace b0 := keepB (keepB b0 hb1) (below_alloc w3 (.cells #[.slice none 0 0, .slice none 0 0] 25)); clear c0 c1; obtain ⟨⟨c0, c1⟩, _⟩ := blk2 b0; clear hb1)
        | (go_at_call 10; refine (hck _ hb).mono ?_; rintro e w4 ⟨⟨ev, rfl, hE⟩, hb1⟩; obtain ⟨b4, rfl⟩ : ∃ b, ev = .iface 70 (.pointer (some ⟨b, 0, none⟩)) := (hE.isNil.resolve_left (fun h => hbad h.1)).2; replace hb := Below.next hb hb1; clear hb1))
      go_ret
      exact ⟨rfl, hb⟩
end Go.Proofs.Ytfjifcflcpmjaaa
