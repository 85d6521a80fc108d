/- GraphWalks, walked: Reach, Vars, Trim and Cyclic answer just what the document's answer is. -/
import Derived.Test.YtebmnggjblellaaGrVars
import Derived.Test.YtebmnggjblellaaGrCyc2
import Derived.Test.YtebmnggjblellaaGrRTrim
import Derived.Test.YtebmnggjblellaaGrSame3
namespace Go.Proofs.Ytebmnggjblellaa
open Go.RowKit

theorem keepB {w w' : World} {q : Nat} {o : Obj} (h : w.heap[q]? = some o) (hb : Below w.heap.size w w') : w'.heap[q]? = some o := by
  rw [hb.block q (lt_of_block h)]
  exact h
theorem trim_sized {g : Gf} (hg : Good g) : Sized (trimF g) := fun n hn => by
  obtain ⟨x, hx, rfl⟩ := List.mem_map.1 hn
  have hr := (met_ok hg).rng x hx
  have hgd := hg.node (g.nodes.getD x.toNat nd0) (by
    have : x.toNat < g.nodes.length := by omega
    simp [List.getD, this])
  have := good_name hgd
  simp only [renum]
  omega
theorem trim_fits {g : Gf} (hg : Good g) : Fits (trimF g) := by
  have ht := trim_good0 hg
  have h1 := ht.nodes
  have h2 := ht.roots
  exact ⟨by omega, by omega, fun n hn => by have := (good_args (ht.node n hn)).2; omega⟩
theorem trim_call {w : World} {nv rv : Value} {g : Gf} (hG : Gr w nv rv g) (hS : Sized g) (hg : Good g) :
    Calls Try.prog 14 #[.agg #[nv, rv]] w fun e w' => (∃ ao c ro rc, e = .returned (.tuple #[.agg #[.slice ao (metF g).length c, .slice ro g.roots.length rc], .nilIface]) ∧ Gr w' (.slice ao (metF g).length c) (.slice ro g.roots.length rc) (trimF g)) ∧ Below w.heap.size w w' := by
  refine (trim_good hG hS (chk_of_good hg)).mono ?_
  rintro e w' ⟨⟨nv', rv', avs, rfl, hO⟩, hb⟩
  have hgr := hO.gr
  obtain ⟨ao, c, h1⟩ := hO.nsl
  obtain ⟨ro, rc, h2, _⟩ := hO.r
  rw [trim_len hg] at h1
  have e2 : (trimF g).roots.length = g.roots.length := by simp [trimF]
  rw [e2] at h2
  subst h1 h2
  exact ⟨⟨ao, c, ro, rc, rfl, hgr⟩, hb⟩
theorem rtrim_call {w : World} {nv rv : Value} {g : Gf} (hG : Gr w nv rv g) (hg : Good g) :
    Calls Try.prog 22 #[.agg #[nv, rv]] w fun e w' => (∃ ao c ro rc, e = .returned (.agg #[.slice ao (metF g).length c, .slice ro g.roots.length rc]) ∧ Gr w' (.slice ao (metF g).length c) (.slice ro g.roots.length rc) (trimF g)) ∧ Below w.heap.size w w' := by
  refine (rtrim_any hg hG).mono ?_
  rintro e w' ⟨⟨nv', rv', avs, rfl, hO⟩, hb⟩
  have hgr := hO.gr
  obtain ⟨ao, c, h1⟩ := hO.nsl
  obtain ⟨ro, rc, h2, _⟩ := hO.r
  rw [trim_len hg] at h1
  have e2 : (trimF g).roots.length = g.roots.length := by simp [trimF]
  rw [e2] at h2
  subst h1 h2
  exact ⟨⟨ao, c, ro, rc, rfl, hgr⟩, hb⟩
theorem reach_call {w : World} {nv rv : Value} {g : Gf} (hG : Gr w nv rv g) (hS : Sized g) (hg : Good g) :
    Calls Try.prog 12 #[.agg #[nv, rv]] w fun e w' => (∃ ao c, e = .returned (.tuple #[.slice ao (metF g).length c, .nilIface]) ∧ Ri w' (.slice ao (metF g).length c) (metF g)) ∧ Below w.heap.size w w' := by
  refine (reach_good hG hS (chk_of_good hg)).mono ?_
  rintro e w' ⟨⟨ao, c, rfl, ho⟩, hb⟩
  exact ⟨⟨ao, c, rfl, Ri.ofOwn ho⟩, hb⟩
theorem vars_call {w : World} {nv rv : Value} {g : Gf} (hG : Gr w nv rv g) (hS : Sized g) (hg : Good g) :
    Calls Try.prog 13 #[.agg #[nv, rv]] w fun e w' => (∃ ao c, e = .returned (.tuple #[.slice ao ((metF g).filter (isVar g)).length c, .nilIface]) ∧ Ri w' (.slice ao ((metF g).filter (isVar g)).length c) ((metF g).filter (isVar g))) ∧ Below w.heap.size w w' := by
  refine (vars_good hG hS (chk_of_good hg)).mono ?_
  rintro e w' ⟨⟨ao, c, rfl, ho⟩, hb⟩
  exact ⟨⟨ao, c, rfl, Ri.ofOwn ho⟩, hb⟩
theorem rmet_call {w : World} {nv rv : Value} {g : Gf} (hG : Gr w nv rv g) (hg : Good g) :
    Calls Try.prog 19 #[.agg #[nv, rv], rv] w fun e w' => (∃ ao c, e = .returned (.slice ao (metF g).length c) ∧ Ri w' (.slice ao (metF g).length c) (metF g)) ∧ Below w.heap.size w w' := by
  have h := rmet_any hg hG hG.2 hg.root (by have := hg.roots; omega)
  rw [rmet_met hg] at h
  refine h.mono ?_
  rintro e w' ⟨⟨ao, c, rfl, ho⟩, hb⟩
  exact ⟨⟨ao, c, rfl, Ri.ofOwn ho⟩, hb⟩
theorem rvars_call {w : World} {nv rv : Value} {g : Gf} (hG : Gr w nv rv g) (hg : Good g) :
    Calls Try.prog 20 #[.agg #[nv, rv]] w fun e w' => (∃ ao c, e = .returned (.slice ao ((metF g).filter (isVar g)).length c) ∧ Ri w' (.slice ao ((metF g).filter (isVar g)).length c) ((metF g).filter (isVar g))) ∧ Below w.heap.size w w' := by
  have h := rvars_any hg hG
  rw [rmet_met hg] at h
  refine h.mono ?_
  rintro e w' ⟨⟨ao, c, rfl, ho⟩, hb⟩
  exact ⟨⟨ao, c, rfl, Ri.ofOwn ho⟩, hb⟩
theorem rcyc_call {w : World} {nv rv : Value} {g : Gf} (hG : Gr w nv rv g) (hg : Good g) :
    Calls Try.prog 23 #[.agg #[nv, rv]] w fun e w' => e = .returned (.bool (cycF g)) ∧ Below w.heap.size w w' := by
  have h := rcyclic_any hg hG
  rw [cyc_same hg] at h
  exact h
theorem ints_same {w : World} {u v : Value} {l : List Int} (hu : Ri w u l) (hv : Ri w v l) (hl : l.length ≤ 5000) :
    Calls Try.prog 18 #[u, v] w fun e w' => e = .returned (.bool true) ∧ Below w.heap.size w w' := by
  refine (rints_any hu hv hl).mono ?_
  rintro e w' ⟨rfl, hb⟩
  exact ⟨by simp, hb⟩
theorem rsame_self {w : World} {nv rv mv sv : Value} {g : Gf} (hG : Gr w nv rv g) (hH : Gr w mv sv g) (hF : Fits g) :
    Calls Try.prog 21 #[.agg #[nv, rv], .agg #[mv, sv]] w fun e w' => e = .returned (.bool true) ∧ Below w.heap.size w w' := by
  refine (rsame_any hG hH hF).mono ?_
  rintro e w' ⟨rfl, hb⟩
  exact ⟨by rw [eqG_yes], hb⟩
set_option maxHeartbeats 400000 in
theorem bad_yes {c : Int} (hc : c ≠ 0) (a : Int) (w : World) : Calls Try.prog 17 #[.agg #[.int .i64 c, .int .i64 a, .string ⟨#[]⟩, .slice none 0 0]] w fun e w' => e = .returned (.bool true) ∧ Below w.heap.size w w' := by
  have h' : (c != 0) = true := by simpa using hc
  go_enter Try.func17, Try.ntmps17
  go_wp2
  go_ret
  exact ⟨rfl, below_alloc _ _⟩
set_option maxHeartbeats 400000 in
theorem bad_no (a : Int) (w : World) : Calls Try.prog 17 #[.agg #[.int .i64 0, .int .i64 a, .string ⟨#[]⟩, .slice none 0 0]] w fun e w' => e = .returned (.bool false) ∧ Below w.heap.size w w' := by
  go_enter Try.func17, Try.ntmps17
  go_wp2
  go_ret
  exact ⟨rfl, below_alloc _ _⟩
set_option maxRecDepth 100000 in
set_option maxHeartbeats 4000000 in
theorem walks_large {W : World} {nv rv : Value} {g : Gf} (hG : Gr W nv rv g) (hsg : smallG g = false) :
    Calls Try.prog 3 #[.agg #[nv, rv]] W fun e w' => e = .returned (.bool true) ∧ Below W.heap.size W w' := by
  have hb := below_alloc W (.cells #[nv, rv] 25)
  have b0 := heap_alloc_new W (.cells #[nv, rv] 25)
  have hlg : ∀ w : World, Below W.heap.size W w → _ := fun w hb => large_any (hG.below hb)
  rw [hsg] at hlg
  clear hG
  go_enter Try.func3, Try.ntmps3
  go_wp2_with (first
    | (go_at_call 9; refine (lives_any _).mono ?_; rintro e w1 ⟨rfl, hb1⟩; replace hb := Below.next hb hb1; replace b0 := keepB b0 hb1; (try clear c0 c1); obtain ⟨⟨c0, c1⟩, _⟩ := blk2 b0; clear hb1)
    | (go_at_call 10; refine (hlg _ hb).mono ?_; clear hlg; rintro e w2 ⟨rfl, hb1⟩; replace hb := Below.next hb hb1; replace b0 := keepB b0 hb1; clear c0 c1; obtain ⟨⟨c0, c1⟩, _⟩ := blk2 b0; clear hb1))
  go_ret
  exact ⟨rfl, hb⟩
set_option maxRecDepth 100000 in
set_option maxHeartbeats 8000000 in
theorem walks_bad {W : World} {nv rv : Value} {g : Gf} (hG : Gr W nv rv g) (hS : Sized g) (hsg : smallG g = true) (hbad : one (chk g) ≠ []) :
    Calls Try.prog 3 #[.agg #[nv, rv]] W fun e w' => e = .returned (.bool true) ∧ Below W.heap.size W w' := by
  have hb := below_alloc W (.cells #[nv, rv] 25)
  have b0 := heap_alloc_new W (.cells #[nv, rv] 25)
  have hlg : ∀ w : World, Below W.heap.size W w → _ := fun w hb => large_any (hG.below hb)
  rw [hsg] at hlg
  have hck : ∀ w : World, Below W.heap.size W w → _ := fun w hb => rcheck_any (hG.below hb) hS
  have hre := hid (fun (w : World) (hb : Below W.heap.size W w) => reach_bad (hG.below hb) hS hbad)
  have hva := hid (fun (w : World) (hb : Below W.heap.size W w) => vars_bad (hG.below hb) hS hbad)
  have htr := hid (fun (w : World) (hb : Below W.heap.size W w) => trim_bad (hG.below hb) hS hbad)
  have hcy := hid (fun (w : World) (hb : Below W.heap.size W w) => cyc_bad (hG.below hb) hS hbad)
  have hfl := hid (fun (w : World) => fl_one w (chk g))
  have hc0 : (chk g).1 ≠ 0 := fun h => hbad (by simp [one, h])
  have hby := hid (fun (a : Int) (w : World) => bad_yes hc0 a w)
  unfold flt at hck
  generalize one (chk g) = fs at hre hva htr hcy hfl
  generalize (chk g).1 = cc at hck hfl hby
  generalize (chk g).2 = ca at hck hfl
  have his := hid (fun (w : World) (ev : Value) (h : Er w ev fs) => is_any h (hfl.out w))
  clear hG hbad hc0
  go_enter Try.func3, Try.ntmps3
  go_wp2_with (first
    | (go_at_call 9; refine (lives_any _).mono ?_; rintro e w1 ⟨rfl, hb1⟩; replace hb := Below.next hb hb1; replace b0 := keepB b0 hb1; (try clear c0 c1); obtain ⟨⟨c0, c1⟩, _⟩ := blk2 b0; clear hb1)
    | (go_at_call 10; refine (hlg _ hb).mono ?_; clear hlg; rintro e w2 ⟨rfl, hb1⟩; replace hb := Below.next hb hb1; replace b0 := keepB b0 hb1; clear c0 c1; obtain ⟨⟨c0, c1⟩, _⟩ := blk2 b0; clear hb1)
    | (go_at_call 11; refine (hck _ hb).mono ?_; clear hck; rintro e w3 ⟨rfl, hb1⟩; have hbt := below_alloc w3 (.cells #[.int .i64 cc, .int .i64 ca, .string ⟨#[]⟩, .slice none 0 0] 30); have b1 := heap_alloc_new w3 (.cells #[.int .i64 cc, .int .i64 ca, .string ⟨#[]⟩, .slice none 0 0] 30); replace hb := Below.next (Below.next hb hb1) hbt; replace b0 := keepB (keepB b0 hb1) hbt; clear c0 c1 hbt; obtain ⟨⟨c0, c1⟩, _⟩ := blk2 b0; clear hb1)
    | (go_at_call 12; refine (hre.out _ hb).mono ?_; clear hre; rintro e w4 ⟨⟨q1, rfl, hE1⟩, hb1⟩; replace hb := Below.next hb hb1; replace b0 := keepB b0 hb1; replace b1 := keepB b1 hb1; clear c0 c1; obtain ⟨⟨c0, c1⟩, _⟩ := blk2 b0; clear hb1)
    | (go_at_call 13; refine (hva.out _ hb).mono ?_; clear hva; rintro e w5 ⟨⟨q2, rfl, hE2⟩, hb1⟩; replace hb := Below.next hb hb1; replace b0 := keepB b0 hb1; replace b1 := keepB b1 hb1; replace hE1 := hE1.below hb1; clear c0 c1; obtain ⟨⟨c0, c1⟩, _⟩ := blk2 b0; clear hb1)
    | (go_at_call 14; refine (htr.out _ hb).mono ?_; clear htr; rintro e w6 ⟨⟨q3, rfl, hE3⟩, hb1⟩; have hbt := below_alloc w6 (.cells #[.slice none 0 0, .slice none 0 0] 25); have b2 := heap_alloc_new w6 (.cells #[.slice none 0 0, .slice none 0 0] 25); replace hb := Below.next (Below.next hb hb1) hbt; replace b0 := keepB (keepB b0 hb1) hbt; replace b1 := keepB (keepB b1 hb1) hbt; replace hE1 := (hE1.below hb1).below hbt; replace hE2 := (hE2.below hb1).below hbt; replace hE3 := hE3.below hbt; clear c0 c1 hbt; obtain ⟨⟨c0, c1⟩, _⟩ := blk2 b0; clear hb1)
    | (go_at_call 15; refine (hcy.out _ hb).mono ?_; clear hcy; rintro e w7 ⟨⟨q4, rfl, hE4⟩, hb1⟩; replace hb := Below.next hb hb1; replace b1 := keepB b1 hb1; replace b2 := keepB b2 hb1; replace hE1 := hE1.below hb1; replace hE2 := hE2.below hb1; replace hE3 := hE3.below hb1; clear c0 c1; obtain ⟨⟨d0, d1, d2, d3⟩, _⟩ := blk4 b1; clear hb1)
    | (go_at_call 16; refine (his.out _ _ (by first | exact hE1 | exact hE2 | exact hE3 | exact hE4)).mono ?_; rintro e w8 ⟨rfl, hb1⟩; replace hb := Below.next hb hb1; replace b1 := keepB b1 hb1; replace b2 := keepB b2 hb1; replace hE1 := hE1.below hb1; replace hE2 := hE2.below hb1; replace hE3 := hE3.below hb1; replace hE4 := hE4.below hb1; clear d0 d1 d2 d3; obtain ⟨⟨d0, d1, d2, d3⟩, _⟩ := blk4 b1; clear hb1)
    | (go_at_call 17; refine (hby.out _ _).mono ?_; clear hby; rintro e w9 ⟨rfl, hb1⟩; replace hb := Below.next hb hb1; replace b2 := keepB b2 hb1; clear d0 d1 d2 d3; obtain ⟨⟨e0, e1⟩, _⟩ := blk2 b2; clear hb1))
  go_ret
  exact ⟨rfl, hb⟩
set_option maxRecDepth 100000 in
set_option maxHeartbeats 8000000 in
theorem walks_good {W : World} {nv rv : Value} {g : Gf} (hG : Gr W nv rv g) (hS : Sized g) (hsg : smallG g = true) (hgd : one (chk g) = []) :
    Calls Try.prog 3 #[.agg #[nv, rv]] W fun e w' => e = .returned (.bool true) ∧ Below W.heap.size W w' := by
  have hg := chk_good hgd
  have hb := below_alloc W (.cells #[nv, rv] 25)
  have b0 := heap_alloc_new W (.cells #[nv, rv] 25)
  have hlg : ∀ w : World, Below W.heap.size W w → _ := fun w hb => large_any (hG.below hb)
  rw [hsg] at hlg
  have hck : ∀ w : World, Below W.heap.size W w → _ := fun w hb => rcheck_any (hG.below hb) hS
  have hre := hid (fun (w : World) (hb : Below W.heap.size W w) => reach_call (hG.below hb) hS hg)
  have hva := hid (fun (w : World) (hb : Below W.heap.size W w) => vars_call (hG.below hb) hS hg)
  have htr := hid (fun (w : World) (hb : Below W.heap.size W w) => trim_call (hG.below hb) hS hg)
  have hcy := hid (fun (w : World) (hb : Below W.heap.size W w) => cyc_good (hG.below hb) hS hgd)
  have hrre := hid (fun (w : World) (hb : Below W.heap.size W w) => rmet_call (hG.below hb) hg)
  have hrva := hid (fun (w : World) (hb : Below W.heap.size W w) => rvars_call (hG.below hb) hg)
  have hrtr := hid (fun (w : World) (hb : Below W.heap.size W w) => rtrim_call (hG.below hb) hg)
  have hrcy := hid (fun (w : World) (hb : Below W.heap.size W w) => rcyc_call (hG.below hb) hg)
  have hml := (met_ok hg).le
  have hgn := hg.nodes
  have hvl := List.length_filter_le (isVar g) (metF g)
  have hia := hid (fun (w : World) (u v : Value) (hu : Ri w u (metF g)) (hv : Ri w v (metF g)) => ints_same hu hv (by omega))
  have hib := hid (fun (w : World) (u v : Value) (hu : Ri w u ((metF g).filter (isVar g))) (hv : Ri w v ((metF g).filter (isVar g))) => ints_same hu hv (by omega))
  have hsm := hid (fun (w : World) (n1 r1 n2 r2 : Value) (hu : Gr w n1 r1 (trimF g)) (hv : Gr w n2 r2 (trimF g)) => rsame_self hu hv (trim_fits hg))
  have hfl := hid (fun (w : World) => fl_one w (chk g))
  have hc0 : (chk g).1 = 0 := Classical.byContradiction fun h => by
    rw [one, if_neg h] at hgd
    cases hgd
  rw [hgd] at hfl
  unfold flt at hck
  rw [hc0] at hck hfl
  generalize (chk g).2 = ca at hck hfl
  have his := hid (fun (w : World) => is_any (W := w) (ev := .nilIface) (fs := []) rfl (hfl.out w))
  generalize metF g = M at hre hva htr hrre hrva hrtr hia hib
  generalize M.filter (isVar g) = V at hva hrva hib
  generalize trimF g = T at htr hrtr hsm
  generalize cycF g = cy at hcy hrcy
  obtain ⟨na, nc, rfl, _⟩ := hG.1
  obtain ⟨ra, rc, rfl, _⟩ := hG.2
  clear hG hgd hc0 hfl hml hvl hg
  go_enter Try.func3, Try.ntmps3
  go_wp2_with (first
    | (go_at_call 9; refine (lives_any _).mono ?_; rintro e w1 ⟨rfl, hb1⟩; replace hb := Below.next hb hb1; replace b0 := keepB b0 hb1; (try clear c0 c1); obtain ⟨⟨c0, c1⟩, _⟩ := blk2 b0; clear hb1)
    | (go_at_call 10; refine (hlg _ hb).mono ?_; clear hlg; rintro e w2 ⟨rfl, hb1⟩; replace hb := Below.next hb hb1; replace b0 := keepB b0 hb1; clear c0 c1; obtain ⟨⟨c0, c1⟩, _⟩ := blk2 b0; clear hb1)
    | (go_at_call 11; refine (hck _ hb).mono ?_; clear hck; rintro e w3 ⟨rfl, hb1⟩; have hbt := below_alloc w3 (.cells #[.int .i64 0, .int .i64 ca, .string ⟨#[]⟩, .slice none 0 0] 30); have b1 := heap_alloc_new w3 (.cells #[.int .i64 0, .int .i64 ca, .string ⟨#[]⟩, .slice none 0 0] 30); replace hb := Below.next (Below.next hb hb1) hbt; replace b0 := keepB (keepB b0 hb1) hbt; clear c0 c1 hbt; obtain ⟨⟨c0, c1⟩, _⟩ := blk2 b0; clear hb1)
    | (go_at_call 12; refine (hre.out _ hb).mono ?_; clear hre; rintro e w4 ⟨⟨a1, a2, rfl, hA⟩, hb1⟩; replace hb := Below.next hb hb1; replace b0 := keepB b0 hb1; replace b1 := keepB b1 hb1; clear c0 c1; obtain ⟨⟨c0, c1⟩, _⟩ := blk2 b0; clear hb1)
    | (go_at_call 13; refine (hva.out _ hb).mono ?_; clear hva; rintro e w5 ⟨⟨v1, v2, rfl, hV⟩, hb1⟩; replace hb := Below.next hb hb1; replace b0 := keepB b0 hb1; replace b1 := keepB b1 hb1; replace hA := hA.below hb1; clear c0 c1; obtain ⟨⟨c0, c1⟩, _⟩ := blk2 b0; clear hb1)
    | (go_at_call 14; refine (htr.out _ hb).mono ?_; clear htr; rintro e w6 ⟨⟨t1, t2, t3, t4, rfl, hT⟩, hb1⟩; have hbt := below_alloc w6 (.cells #[.slice t1 M.length t2, .slice t3 g.roots.length t4] 25); have b2 := heap_alloc_new w6 (.cells #[.slice t1 M.length t2, .slice t3 g.roots.length t4] 25); replace hb := Below.next (Below.next hb hb1) hbt; replace b0 := keepB (keepB b0 hb1) hbt; replace b1 := keepB (keepB b1 hb1) hbt; replace hA := (hA.below hb1).below hbt; replace hV := (hV.below hb1).below hbt; replace hT := hT.below hbt; clear c0 c1 hbt; obtain ⟨⟨c0, c1⟩, _⟩ := blk2 b0; clear hb1)
    | (go_at_call 15; refine (hcy.out _ hb).mono ?_; clear hcy; rintro e w7 ⟨rfl, hb1⟩; replace hb := Below.next hb hb1; replace b0 := keepB b0 hb1; replace b1 := keepB b1 hb1; replace b2 := keepB b2 hb1; replace hA := hA.below hb1; replace hV := hV.below hb1; replace hT := hT.below hb1; clear c0 c1; obtain ⟨⟨d0, d1, d2, d3⟩, _⟩ := blk4 b1; clear hb1)
    | (go_at_call 16; refine (his.out _).mono ?_; rintro e w8 ⟨rfl, hb1⟩; replace hb := Below.next hb hb1; replace b0 := keepB b0 hb1; replace b1 := keepB b1 hb1; replace b2 := keepB b2 hb1; replace hA := hA.below hb1; replace hV := hV.below hb1; replace hT := hT.below hb1; clear d0 d1 d2 d3; obtain ⟨⟨d0, d1, d2, d3⟩, _⟩ := blk4 b1; clear hb1)
    | (go_at_call 17; refine (bad_no _ _).mono ?_; rintro e w9 ⟨rfl, hb1⟩; replace hb := Below.next hb hb1; replace b0 := keepB b0 hb1; replace b2 := keepB b2 hb1; replace hA := hA.below hb1; replace hV := hV.below hb1; replace hT := hT.below hb1; clear d0 d1 d2 d3; obtain ⟨⟨c0, c1⟩, _⟩ := blk2 b0; obtain ⟨⟨e0, e1⟩, _⟩ := blk2 b2; clear hb1))
  go_region_held3 (fun w' => w'.cell? ⟨W.heap.size, 0, none⟩ = some (.slice na g.nodes.length nc) ∧ w'.cell? ⟨W.heap.size, 1, none⟩ = some (.slice ra g.roots.length rc) ∧ w'.cell? ⟨w6.heap.size, 0, none⟩ = some (.slice t1 M.length t2) ∧ w'.cell? ⟨w6.heap.size, 1, none⟩ = some (.slice t3 g.roots.length t4)) (first | exact ⟨c0, c1, e0, e1⟩ | go_keep)
    (first
      | (go_at_call 19; refine Calls.mono (hrre.out _ (by first | exact hb | exact below_drewN hb _)) ?_; clear hrre; rintro e x1 ⟨⟨m1, m2, rfl, hM⟩, hb1⟩; (try replace hb1 := undrN hb1); replace hb := Below.next hb hb1; replace b0 := keepB b0 hb1; replace b2 := keepB b2 hb1; (try replace hA := hA.below hb1); (try replace hV := hV.below hb1); (try replace hT := hT.below hb1); clear c0 c1 e0 e1; obtain ⟨⟨c0, c1⟩, _⟩ := blk2 b0; obtain ⟨⟨e0, e1⟩, _⟩ := blk2 b2; clear hb1)
      | (go_at_call 18; refine Calls.mono (hia.out _ _ _ (by exact hA) (by exact hM)) ?_; clear hia hA hM; rintro e x2 ⟨rfl, hb1⟩; (try replace hb1 := undrN hb1); replace hb := Below.next hb hb1; replace b0 := keepB b0 hb1; replace b2 := keepB b2 hb1; (try replace hA := hA.below hb1); (try replace hV := hV.below hb1); (try replace hT := hT.below hb1); clear c0 c1 e0 e1; obtain ⟨⟨c0, c1⟩, _⟩ := blk2 b0; obtain ⟨⟨e0, e1⟩, _⟩ := blk2 b2; clear hb1)
      | (go_at_call 20; refine Calls.mono (hrva.out _ (by first | exact hb | exact below_drewN hb _)) ?_; clear hrva; rintro e x3 ⟨⟨m3, m4, rfl, hM2⟩, hb1⟩; (try replace hb1 := undrN hb1); replace hb := Below.next hb hb1; replace b0 := keepB b0 hb1; replace b2 := keepB b2 hb1; (try replace hA := hA.below hb1); (try replace hV := hV.below hb1); (try replace hT := hT.below hb1); clear c0 c1 e0 e1; obtain ⟨⟨c0, c1⟩, _⟩ := blk2 b0; obtain ⟨⟨e0, e1⟩, _⟩ := blk2 b2; clear hb1)
      | (go_at_call 18; refine Calls.mono (hib.out _ _ _ (by exact hV) (by exact hM2)) ?_; clear hib hV hM2; rintro e x4 ⟨rfl, hb1⟩; (try replace hb1 := undrN hb1); replace hb := Below.next hb hb1; replace b0 := keepB b0 hb1; replace b2 := keepB b2 hb1; (try replace hA := hA.below hb1); (try replace hV := hV.below hb1); (try replace hT := hT.below hb1); clear c0 c1 e0 e1; obtain ⟨⟨c0, c1⟩, _⟩ := blk2 b0; obtain ⟨⟨e0, e1⟩, _⟩ := blk2 b2; clear hb1)
      | (go_at_call 22; refine Calls.mono (hrtr.out _ (by first | exact hb | exact below_drewN hb _)) ?_; clear hrtr; rintro e x5 ⟨⟨r1, r2, r3, r4, rfl, hT2⟩, hb1⟩; (try replace hb1 := undrN hb1); replace hb := Below.next hb hb1; replace b0 := keepB b0 hb1; replace b2 := keepB b2 hb1; (try replace hA := hA.below hb1); (try replace hV := hV.below hb1); (try replace hT := hT.below hb1); clear c0 c1 e0 e1; obtain ⟨⟨c0, c1⟩, _⟩ := blk2 b0; obtain ⟨⟨e0, e1⟩, _⟩ := blk2 b2; clear hb1)
      | (go_at_call 21; refine Calls.mono (hsm.out _ _ _ _ _ (by exact hT) (by exact hT2)) ?_; clear hsm hT hT2; rintro e x6 ⟨rfl, hb1⟩; (try replace hb1 := undrN hb1); replace hb := Below.next hb hb1; replace b0 := keepB b0 hb1; replace b2 := keepB b2 hb1; (try replace hA := hA.below hb1); (try replace hV := hV.below hb1); (try replace hT := hT.below hb1); clear c0 c1 e0 e1; obtain ⟨⟨c0, c1⟩, _⟩ := blk2 b0; obtain ⟨⟨e0, e1⟩, _⟩ := blk2 b2; clear hb1)
      | (go_at_call 23; refine Calls.mono (hrcy.out _ (by first | exact hb | exact below_drewN hb _)) ?_; clear hrcy; rintro e x7 ⟨rfl, hb1⟩; (try replace hb1 := undrN hb1); replace hb := Below.next hb hb1; replace b0 := keepB b0 hb1; replace b2 := keepB b2 hb1; (try replace hA := hA.below hb1); (try replace hV := hV.below hb1); (try replace hT := hT.below hb1); clear c0 c1 e0 e1; obtain ⟨⟨c0, c1⟩, _⟩ := blk2 b0; obtain ⟨⟨e0, e1⟩, _⟩ := blk2 b2; clear hb1))
  all_goals go_wp2
  all_goals go_ret
  all_goals exact ⟨rfl, by first | exact hb | exact below_drewN hb _⟩
theorem graphWalks_walk {W : World} (nv rv : Value) (g : Gf) (hG : Gr W nv rv g) (hS : Sized g) :
    Calls Try.prog 3 #[.agg #[nv, rv]] W fun e w' => e = .returned (.bool true) ∧ Below W.heap.size W w' := by
  cases hsg : smallG g with
  | false => exact walks_large hG hsg
  | true =>
    by_cases hgd : one (chk g) = []
    · exact walks_good hG hS hsg hgd
    · exact walks_bad hG hS hsg hgd
end Go.Proofs.Ytebmnggjblellaa
