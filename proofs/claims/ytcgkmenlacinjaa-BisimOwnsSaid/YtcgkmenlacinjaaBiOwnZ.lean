/- BisimOwns, walked at every graph: what is handed in is neither changed nor kept, what is answered is new memory. (Made by biown.py.) -/
import Derived.Test.YtcgkmenlacinjaaBiLstZ
import Derived.Test.YtcgkmenlacinjaaBiIZ
import Derived.Test.YtcgkmenlacinjaaBiHZ
namespace Go.Proofs.Ytcgkmenlacinjaa
open Go.RowKit

theorem classes_nx {w : World} {nv rv : Value} {g : Gf} {s : Nat} (hG : Gr w nv rv g) (hS : Sized g) (hc : one (chk g) = []) {ee : Nat → Nat → Bool} (he : ∀ x y : Nat, (ee x y = true ↔ Al g (x : Int) (y : Int))) (hs : s ≤ w.heap.size) :
    Calls Try.prog 24 #[.agg #[nv, rv]] w fun e w' => (∃ ao c B E, e = .returned (.tuple #[.slice ao g.nodes.length c, .nilIface]) ∧ Rw w' B E (.slice ao g.nodes.length c) (ints (csF ee g.nodes.length)) ∧ s ≤ B ∧ E ≤ w'.heap.size) ∧ Below w.heap.size w w' := by
  refine (classes_good hG hS hc ee (fun x y _ _ => he x y)).mono ?_
  rintro e w' ⟨⟨ao, c, rfl, h⟩, hb⟩
  exact ⟨⟨ao, c, _, w'.heap.size, rfl, ⟨by rw [ints_len, csF_len]; exact h, hb.size, fun k e => (h.lt k e).2⟩, hs, Nat.le_refl _⟩, hb⟩
theorem quot_nx {w : World} {nv rv : Value} {g : Gf} {s : Nat} (hG : Gr w nv rv g) (hS : Sized g) (hc : one (chk g) = []) {ee : Nat → Nat → Bool} (he : ∀ x y : Nat, (ee x y = true ↔ Al g (x : Int) (y : Int))) (hs : s ≤ w.heap.size) :
    Calls Try.prog 11 #[.agg #[nv, rv]] w fun e w' => (∃ ao c ro rc avs B E, e = .returned (.tuple #[.agg #[.slice ao (trimF (quoF ee g)).nodes.length c, .slice ro (trimF (quoF ee g)).roots.length rc], .nilIface]) ∧ Ow w' B E (.slice ao (trimF (quoF ee g)).nodes.length c) (.slice ro (trimF (quoF ee g)).roots.length rc) avs (trimF (quoF ee g)) ∧ s ≤ B ∧ E ≤ w'.heap.size) ∧ Below w.heap.size w w' := by
  refine (quot_good hG hS hc ee he).mono ?_
  rintro e w' ⟨⟨nv', rv', avs, rfl, hO⟩, hb⟩
  have hO' := Ow.of hO hb.size
  obtain ⟨ao, c, rfl⟩ := hO.nsl
  obtain ⟨ro, rc, rfl, _⟩ := hO.r
  exact ⟨⟨ao, c, ro, rc, avs, _, _, rfl, hO', hs, Nat.le_refl _⟩, hb⟩
theorem named_nx {w : World} {nv rv : Value} {g : Gf} {s : Nat} (hG : Gr w nv rv g) (hS : Sized g) (hc : one (chk g) = []) {ee : Nat → Nat → Bool} (he : ∀ x y : Nat, (ee x y = true ↔ Al g (x : Int) (y : Int))) (hs : s ≤ w.heap.size) :
    Calls Try.prog 12 #[.agg #[nv, rv]] w fun e w' => (∃ ao c B E, e = .returned (.tuple #[.slice ao (namL (trimF (quoF ee g)) (trimF (quoF ee g)).nodes.length).length c, .nilIface]) ∧ Rw w' B E (.slice ao (namL (trimF (quoF ee g)) (trimF (quoF ee g)).nodes.length).length c) (ints (namL (trimF (quoF ee g)) (trimF (quoF ee g)).nodes.length)) ∧ s ≤ B ∧ E ≤ w'.heap.size) ∧ Below w.heap.size w w' := by
  refine (named_good hG hS hc ee he).mono ?_
  rintro e w' ⟨⟨lv, rfl, h⟩, hb⟩
  obtain ⟨ao, c, rfl⟩ := own_sl h
  exact ⟨⟨ao, c, _, w'.heap.size, rfl, ⟨by rw [ints_len]; exact h, hb.size, fun k e => (h.lt k e).2⟩, hs, Nat.le_refl _⟩, hb⟩
theorem same_zero {w : World} {nv rv : Value} {g : Gf} (hG : Gr w nv rv g) (hS : Sized g) (hc : one (chk g) = []) :
    Calls Try.prog 30 #[.agg #[nv, rv], .int .i64 0, .int .i64 0] w fun e w' => (∃ x y, e = .returned (.tuple #[x, y])) ∧ Below w.heap.size w w' := by
  by_cases h : 0 < g.nodes.length
  · obtain ⟨ee, he⟩ := al_dec g
    refine (bsame_in hG hS hc ee (fun x y _ _ => he x y) (a := 0) (b := 0) h h).mono ?_
    rintro e w' ⟨rfl, hb⟩
    exact ⟨⟨_, _, rfl⟩, hb⟩
  · refine (bsame_out1 hG hS hc (i := 0) (j := 0) (Or.inr (by omega))).mono ?_
    rintro e w' ⟨⟨b, rfl, _⟩, hb⟩
    exact ⟨⟨_, _, rfl⟩, hb⟩
theorem lists_two {w : World} {s B1 E1 B2 E2 N1 N2 k1 k2 : Nat} {a1 a2 : Option Addr} {r1 r2 : Value} {v1 v2 : List Value} {g1 g2 : Gf} (T1 : Ow w B1 E1 (.slice a1 N1 k1) r1 v1 g1) (T2 : Ow w B2 E2 (.slice a2 N2 k2) r2 v2 g2) (hs : w.heap.size = s) (hl : v1.length + v2.length ≤ 4000) :
    Calls Try.prog 35 #[.slice (some ⟨s, 0, none⟩) 2 2] (w.alloc (.cells #[.slice a1 N1 k1, r1, .slice a2 N2 k2, r2] 25)) fun e w' => (∃ ao c, e = .returned (.slice ao (flat [(r1, v1), (r2, v2)]).length c) ∧ w'.ownsRow w.heap.size 23 1 (.slice ao (flat [(r1, v1), (r2, v2)]).length c) (flat [(r1, v1), (r2, v2)]).length (flat [(r1, v1), (r2, v2)])) ∧ Below w.heap.size w w' := by
  subst hs
  have hb := below_alloc w (.cells #[.slice a1 N1 k1, r1, .slice a2 N2 k2, r2] 25)
  obtain ⟨l1, rfl, n1⟩ := (T1.below hb).cells
  obtain ⟨l2, rfl, n2⟩ := (T2.below hb).cells
  have hfl : (flat [(r1, v1), (r2, v2)]).length ≤ 5000 := by simp [flat]; omega
  refine (hLists_any (L := [(r1, v1), (r2, v2)]) ⟨_, _, _, rfl, fun j hj => ?_⟩ hfl (by simp)).mono ?_
  · have hj' : j = 0 ∨ j = 1 := by simp at hj; omega
    rcases hj' with rfl | rfl
    · exact ⟨l1, by simp [go_sem], a1, k1, by simp [go_sem], n1⟩
    · exact ⟨l2, by simp [go_sem], a2, k2, by simp [go_sem], n2⟩
  · rintro e w' ⟨⟨ao, c, rfl, h⟩, hb'⟩
    exact ⟨⟨ao, c, rfl, own_base h (by simp)⟩, Below.next hb hb'⟩
theorem nd_dis {a b : List Value} (ha : (blocks a).Nodup) (hb : (blocks b).Nodup) (h : ∀ x ∈ blocks a, ∀ y ∈ blocks b, x ≠ y) : (blocks (a ++ b)).Nodup := by
  rw [blocks_app, List.nodup_append]
  exact ⟨ha, hb, h⟩
theorem bowns_rows {z : World} {E0 B1 E1 B2 E2 B3 E3 B4 E4 B5 E5 B6 E6 : Nat} {n3 n4 r3 r4 u1 u2 u5 u6 : Value} {v3 v4 : List Value} {T : Gf} {l1 l5 : List Int} (R1 : Rw z B1 E1 u1 l1) (R2 : Rw z B2 E2 u2 l1) (T3 : Ow z B3 E3 n3 r3 v3 T) (T4 : Ow z B4 E4 n4 r4 v4 T) (R5 : Rw z B5 E5 u5 l5) (R6 : Rw z B6 E6 u6 l5)
    (h1 : E0 ≤ B1) (h2 : E1 ≤ B2) (h3 : E2 ≤ B3) (h4 : E3 ≤ B4) (h5 : E4 ≤ B5) (h6 : E5 ≤ B6) (hT : T.roots.length ≤ 4900 ∧ ∀ n ∈ T.nodes, n.args.length ≤ 4900) (hl1 : l1.length ≤ 4900) (hl5 : l5.length ≤ 4900) :
    (∀ v ∈ flat [(r3, v3), (r4, v4)] ++ [u1, u2, u5, u6], Rov z E0 v) ∧ (∀ k ∈ blocks (flat [(r3, v3), (r4, v4)] ++ [u1, u2, u5, u6]), E0 ≤ k ∧ k < E6) ∧ (blocks (flat [(r3, v3), (r4, v4)] ++ [u1, u2, u5, u6])).Nodup := by
  have e1 := R1.be
  have e2 := R2.be
  have e3 := T3.be
  have e4 := T4.be
  have e5 := R5.be
  have e6 := R6.be
  have ef : flat [(r3, v3), (r4, v4)] ++ [u1, u2, u5, u6] = ((r3 :: v3) ++ (r4 :: v4)) ++ (([u1] ++ [u2]) ++ ([u5] ++ [u6])) := by simp [flat]
  rw [ef]
  have g1 := R1.rng
  have g2 := R2.rng
  have g5 := R5.rng
  have g6 := R6.rng
  have g3 : ∀ k ∈ blocks (r3 :: v3), B3 ≤ k ∧ k < E3 := fun k hk => ⟨T3.lo k hk, T3.hi k hk⟩
  have g4 : ∀ k ∈ blocks (r4 :: v4), B4 ≤ k ∧ k < E4 := fun k hk => ⟨T4.lo k hk, T4.hi k hk⟩
  have g34 : ∀ k ∈ blocks ((r3 :: v3) ++ (r4 :: v4)), B3 ≤ k ∧ k < E4 := fun k hk => by
    rw [blocks_app] at hk
    rcases List.mem_append.1 hk with hk | hk
    · have := g3 k hk
      omega
    · have := g4 k hk
      omega
  have g12 : ∀ k ∈ blocks ([u1] ++ [u2]), B1 ≤ k ∧ k < E2 := fun k hk => by
    rw [blocks_app] at hk
    rcases List.mem_append.1 hk with hk | hk
    · have := g1 k hk
      omega
    · have := g2 k hk
      omega
  have g56 : ∀ k ∈ blocks ([u5] ++ [u6]), B5 ≤ k ∧ k < E6 := fun k hk => by
    rw [blocks_app] at hk
    rcases List.mem_append.1 hk with hk | hk
    · have := g5 k hk
      omega
    · have := g6 k hk
      omega
  have gr : ∀ k ∈ blocks (([u1] ++ [u2]) ++ ([u5] ++ [u6])), (B1 ≤ k ∧ k < E2) ∨ (B5 ≤ k ∧ k < E6) := fun k hk => by
    rw [blocks_app] at hk
    rcases List.mem_append.1 hk with hk | hk
    · exact Or.inl (g12 k hk)
    · exact Or.inr (g56 k hk)
  have d34 := nd_dis T3.nd T4.nd (fun x hx y hy => by have := g3 x hx; have := g4 y hy; omega)
  have d12 := nd_dis (nd_one u1) (nd_one u2) (fun x hx y hy => by have := g1 x hx; have := g2 y hy; omega)
  have d56 := nd_dis (nd_one u5) (nd_one u6) (fun x hx y hy => by have := g5 x hx; have := g6 y hy; omega)
  have dr := nd_dis d12 d56 (fun x hx y hy => by have := g12 x hx; have := g56 y hy; omega)
  refine ⟨fun v hv => ?_, fun k hk => ?_, nd_dis d34 dr (fun x hx y hy => by have := g34 x hx; have := gr y hy; omega)⟩
  · rcases List.mem_append.1 hv with hv | hv
    · rcases List.mem_append.1 hv with hv | hv
      · exact T3.ro (by omega) hT.1 hT.2 v hv
      · exact T4.ro (by omega) hT.1 hT.2 v hv
    · rcases List.mem_append.1 hv with hv | hv
      · rcases List.mem_append.1 hv with hv | hv
        · have e : v = u1 := by simpa using hv
          rw [e]
          exact R1.ro (by omega) hl1
        · have e : v = u2 := by simpa using hv
          rw [e]
          exact R2.ro (by omega) hl1
      · rcases List.mem_append.1 hv with hv | hv
        · have e : v = u5 := by simpa using hv
          rw [e]
          exact R5.ro (by omega) hl5
        · have e : v = u6 := by simpa using hv
          rw [e]
          exact R6.ro (by omega) hl5
  · rw [blocks_app] at hk
    rcases List.mem_append.1 hk with hk | hk
    · have := g34 k hk
      omega
    · have := gr k hk
      omega
set_option maxRecDepth 100000 in
set_option maxHeartbeats 2000000 in
theorem bowns_short {W : World} {nv rv : Value} {g : Gf} (hG : Gr W nv rv g) (hs : smallK 60 g = false) :
    Calls Try.prog 7 #[.agg #[nv, rv]] W fun e w' => e = .returned (.bool true) ∧ Below W.heap.size W w' := by
  have hb := below_alloc W (.cells #[nv, rv] 25)
  have b0 := heap_alloc_new W (.cells #[nv, rv] 25)
  have hlg : ∀ w : World, Below W.heap.size W w → _ := fun w hb => llarge_any (hG.below hb)
  rw [hs] at hlg
  clear hG
  go_enter Try.func7, Try.ntmps7
  go_wp2_with (first
    | (go_at_call 8; refine (lives_any _).mono ?_; rintro e w1 ⟨rfl, hb1⟩; replace hb := Below.next hb hb1; replace b0 := keepJ b0 hb1; (try clear c0 c1); obtain ⟨⟨c0, c1⟩, _⟩ := blk2 b0; clear hb1)
    | (go_at_call 9; go_must (refine (hlg _ hb).mono ?_; clear hlg; rintro e w2 ⟨rfl, hb1⟩; replace hb := Below.next hb hb1; replace b0 := keepJ b0 hb1; clear c0 c1; obtain ⟨⟨c0, c1⟩, _⟩ := blk2 b0; clear hb1)))
  go_ret
  exact ⟨rfl, hb⟩
set_option maxRecDepth 100000 in
set_option maxHeartbeats 8000000 in
theorem bowns_bad {W : World} {nv rv : Value} {g : Gf} (hG : Gr W nv rv g) (hS : Sized g) (hs : smallK 60 g = true) (hbad : one (chk g) ≠ []) :
    Calls Try.prog 7 #[.agg #[nv, rv]] W fun e w' => e = .returned (.bool true) ∧ Below W.heap.size W w' := by
  have hb := below_alloc W (.cells #[nv, rv] 25)
  have b0 := heap_alloc_new W (.cells #[nv, rv] 25)
  have hlg : ∀ w : World, Below W.heap.size W w → _ := fun w hb => llarge_any (hG.below hb)
  rw [hs] at hlg
  obtain ⟨ha, hn0, hr0⟩ := smallK_fits hs
  have hn : g.nodes.length ≤ 300 := by omega
  have hr : g.roots.length ≤ 300 := by omega
  have hgr := hid (fun (w : World) (hb : Below W.heap.size W w) => hgraph_any (hG.below hb) hn hr ha)
  have hke := hid (fun (w : World) (B gb cap : Nat) (mrv : Value) (avs : List Value) (hm : Hg w B gb cap mrv avs g) (hb : Below W.heap.size W w) => hKept_any hm (hG.below hb) hn hr ha)
  have hcl := hid (fun (w : World) (n1 r1 : Value) (h : Gr w n1 r1 g) => classes_bad h hS hbad)
  have hqt := hid (fun (w : World) (n1 r1 : Value) (h : Gr w n1 r1 g) => quot_bad h hS hbad)
  have hnm := hid (fun (w : World) (n1 r1 : Value) (h : Gr w n1 r1 g) => named_bad h hS hbad)
  have hal := hid (fun (w : World) (n1 r1 n2 r2 : Value) (h : Gr w n1 r1 g) (k : Gr w n2 r2 g) => balike_any (B := false) h hS k hS ⟨fun h => by (cases h), fun h => absurd h.1 hbad⟩)
  have hss := hid (fun (w : World) (n1 r1 : Value) (h : Gr w n1 r1 g) => bsame_bad h hS hbad 0 0)
  obtain ⟨na, nc, rfl, _⟩ := hG.1
  obtain ⟨ra, rc, rfl, _⟩ := hG.2
  clear hG hbad hn hr ha hs hS
  go_enter Try.func7, Try.ntmps7
  go_wp2_with (first
    | (go_at_call 8; refine (lives_any _).mono ?_; rintro e w1 ⟨rfl, hb1⟩; replace hb := Below.next hb hb1; replace b0 := keepJ b0 hb1; (try clear c0 c1); obtain ⟨⟨c0, c1⟩, _⟩ := blk2 b0; clear hb1)
    | (go_at_call 9; go_must (refine (hlg _ hb).mono ?_; clear hlg; rintro e w2 ⟨rfl, hb1⟩; replace hb := Below.next hb hb1; replace b0 := keepJ b0 hb1; clear c0 c1; obtain ⟨⟨c0, c1⟩, _⟩ := blk2 b0; clear hb1))
    | (go_at_call 29; go_must (refine (hgr.out _ hb).mono ?_; clear hgr; have hB0 := lt_of_block b0; rintro e w3 ⟨⟨gb, cap, mrv, avs, rfl, hM⟩, hb1⟩; obtain ⟨mq, mc, hmr⟩ : ∃ mq mc, mrv = .slice (some ⟨mq, 0, none⟩) g.roots.length mc := (by obtain ⟨q, c, h, _⟩ := hM.r; exact ⟨q, c, h⟩); subst hmr; have hK := hid hM.rng; obtain ⟨E0, hE0⟩ : ∃ E0, E0 = w3.heap.size := ⟨_, rfl⟩; rw [← hE0] at hK; have hbt := below_alloc w3 (.cells #[.slice (some ⟨gb, 0, none⟩) g.nodes.length cap, .slice (some ⟨mq, 0, none⟩) g.roots.length mc] 25); have bm := heap_alloc_new w3 (.cells #[.slice (some ⟨gb, 0, none⟩) g.nodes.length cap, .slice (some ⟨mq, 0, none⟩) g.roots.length mc] 25); have s0 : E0 ≤ w3.heap.size := (by omega); have hW0 : W.heap.size ≤ E0 := (by have := (Below.next hb hb1).size; omega); have hEh := hid hE0; clear hE0; replace s0 := Nat.le_trans s0 hbt.size; replace hM := hM.below hbt; replace hb := Below.next (Below.next hb hb1) hbt; replace b0 := keepJ (keepJ b0 hb1) hbt; clear c0 c1 hb1 hbt; obtain ⟨⟨c0, c1⟩, _⟩ := blk2 b0; obtain ⟨⟨m0, m1⟩, _⟩ := blk2 bm))
    | (go_at_call 24; go_must (refine (hcl.out _ _ _ hM.gr).mono ?_; rintro e w4 ⟨⟨q4, rfl, _⟩, hb1⟩; replace hb := Below.next hb hb1; replace b0 := keepJ b0 hb1; replace bm := keepJ bm hb1; replace hM := hM.below hb1; replace s0 := Nat.le_trans s0 hb1.size; clear c0 c1; obtain ⟨⟨c0, c1⟩, _⟩ := blk2 b0; clear m0 m1; obtain ⟨⟨m0, m1⟩, _⟩ := blk2 bm; clear hb1))
    | (go_at_call 11; go_must (refine (hqt.out _ _ _ hM.gr).mono ?_; rintro e w4 ⟨⟨q4, rfl, _⟩, hb1⟩; have hbt := below_alloc w4 (.cells #[.slice none 0 0, .slice none 0 0] 25); replace hb1 := hb1.trans (hbt.mono hb1.size); clear hbt; replace hb := Below.next hb hb1; replace b0 := keepJ b0 hb1; replace bm := keepJ bm hb1; replace hM := hM.below hb1; replace s0 := Nat.le_trans s0 hb1.size; clear c0 c1; obtain ⟨⟨c0, c1⟩, _⟩ := blk2 b0; clear m0 m1; obtain ⟨⟨m0, m1⟩, _⟩ := blk2 bm; clear hb1))
    | (go_at_call 12; go_must (refine (hnm.out _ _ _ hM.gr).mono ?_; rintro e w4 ⟨⟨q4, rfl, _⟩, hb1⟩; replace hb := Below.next hb hb1; replace b0 := keepJ b0 hb1; replace bm := keepJ bm hb1; replace hM := hM.below hb1; replace s0 := Nat.le_trans s0 hb1.size; clear c0 c1; obtain ⟨⟨c0, c1⟩, _⟩ := blk2 b0; clear m0 m1; obtain ⟨⟨m0, m1⟩, _⟩ := blk2 bm; clear hb1))
    | (go_at_call 20; go_must (refine (hal.out _ _ _ _ _ hM.gr hM.gr).mono ?_; rintro e w4 ⟨rfl, hb1⟩; replace hb := Below.next hb hb1; replace b0 := keepJ b0 hb1; replace bm := keepJ bm hb1; replace hM := hM.below hb1; replace s0 := Nat.le_trans s0 hb1.size; clear c0 c1; obtain ⟨⟨c0, c1⟩, _⟩ := blk2 b0; clear m0 m1; obtain ⟨⟨m0, m1⟩, _⟩ := blk2 bm; clear hb1))
    | (go_at_call 30; go_must (refine (hss.out _ _ _ hM.gr).mono ?_; rintro e w4 ⟨⟨q4, rfl, _⟩, hb1⟩; replace hb := Below.next hb hb1; replace b0 := keepJ b0 hb1; replace bm := keepJ bm hb1; replace hM := hM.below hb1; replace s0 := Nat.le_trans s0 hb1.size; clear c0 c1; obtain ⟨⟨c0, c1⟩, _⟩ := blk2 b0; clear m0 m1; obtain ⟨⟨m0, m1⟩, _⟩ := blk2 bm; clear hb1))
    | (go_at_call 31; go_must (refine (hke.out _ _ _ _ _ _ hM hb).mono ?_; rintro e w4 ⟨rfl, hb1⟩; replace hb := Below.next hb hb1; replace b0 := keepJ b0 hb1; replace bm := keepJ bm hb1; replace hM := hM.below hb1; replace s0 := Nat.le_trans s0 hb1.size; clear c0 c1; obtain ⟨⟨c0, c1⟩, _⟩ := blk2 b0; clear m0 m1; obtain ⟨⟨m0, m1⟩, _⟩ := blk2 bm; clear hb1)))
  go_ret
  exact ⟨rfl, hb⟩
set_option maxRecDepth 100000 in
set_option maxHeartbeats 16000000 in
theorem bowns_good {W : World} {nv rv : Value} {g : Gf} (hG : Gr W nv rv g) (hS : Sized g) (hs : smallK 60 g = true) (hgd : one (chk g) = []) :
    Calls Try.prog 7 #[.agg #[nv, rv]] W fun e w' => e = .returned (.bool true) ∧ Below W.heap.size W w' := by
  have hg := chk_good hgd
  obtain ⟨ee, he⟩ := al_dec g
  have hq := trim_good0 (quo_good hg (al_eqv hg he))
  have hb := below_alloc W (.cells #[nv, rv] 25)
  have b0 := heap_alloc_new W (.cells #[nv, rv] 25)
  have hlg : ∀ w : World, Below W.heap.size W w → _ := fun w hb => llarge_any (hG.below hb)
  rw [hs] at hlg
  obtain ⟨ha, hn0, hr0⟩ := smallK_fits hs
  have hn : g.nodes.length ≤ 300 := by omega
  have hr : g.roots.length ≤ 300 := by omega
  have hgr := hid (fun (w : World) (hb : Below W.heap.size W w) => hgraph_any (hG.below hb) hn hr ha)
  have hke := hid (fun (w : World) (B gb cap : Nat) (mrv : Value) (avs : List Value) (hm : Hg w B gb cap mrv avs g) (hb : Below W.heap.size W w) => hKept_any hm (hG.below hb) hn hr ha)
  have hov := hid (fun (w : World) (B gb cap : Nat) (mrv : Value) (avs : List Value) (hm : Hg w B gb cap mrv avs g) => hOver_any hm hn hr ha)
  have hc1 := hid (fun (w : World) (n1 r1 : Value) (s : Nat) (h : Gr w n1 r1 g) (hs : s ≤ w.heap.size) => classes_nx h hS hgd he hs)
  have hq1 := hid (fun (w : World) (n1 r1 : Value) (s : Nat) (h : Gr w n1 r1 g) (hs : s ≤ w.heap.size) => quot_nx h hS hgd he hs)
  have hn1 := hid (fun (w : World) (n1 r1 : Value) (s : Nat) (h : Gr w n1 r1 g) (hs : s ≤ w.heap.size) => named_nx h hS hgd he hs)
  have hal := hid (fun (w : World) (n1 r1 n2 r2 : Value) (h : Gr w n1 r1 g) (k : Gr w n2 r2 g) => balike_any (B := true) h hS k hS (iff_of_true rfl (alG_refl hgd)))
  have hss := hid (fun (w : World) (n1 r1 : Value) (h : Gr w n1 r1 g) => same_zero h hS hgd)
  have hrq := hid (fun (w : World) (h : Below W.heap.size W w) => rquot_any (hG.below h) hg ee he)
  have hfit := fits_good hq
  have hqn : (trimF (quoF ee g)).nodes.length ≤ g.nodes.length := by
    have h1 := trim_len (quo_good hg (al_eqv hg he))
    have h2 := (met_ok (quo_good hg (al_eqv hg he))).le
    have h3 := quo_len ee g
    have h4 := lsF_le ee g.nodes.length
    omega
  have hqr : (trimF (quoF ee g)).roots.length = g.roots.length := by rw [least_root]; simp
  have hta : Hid (∀ n ∈ (trimF (quoF ee g)).nodes, n.args.length ≤ 4900) := fun n hx => by have := (good_args (hq.node n hx)).2; omega
  have hnl := namL_le (trimF (quoF ee g)) (trimF (quoF ee g)).nodes.length
  have hRn := hG.1
  obtain ⟨na, nc, rfl, _⟩ := hG.1
  obtain ⟨ra, rc, rfl, _⟩ := hG.2
  have hrc := hid (fun (w : World) (h : Below W.heap.size W w) => rclasses_any (rv := .slice ra g.roots.length rc) (hRn.below h) hg ee he)
  have hcl0 := csF_len ee g.nodes.length
  have hcri := hid (fun (w : World) (cb : Nat) (h : w.heap[cb]? = some (.cells (sqV g.nodes.length fun i => .int .i64 (((csF ee g.nodes.length).getD i 0 : Nat) : Int)) 3)) => cls_ri hcl0 h)
  have hll := ints_len (csF ee g.nodes.length)
  rw [hcl0] at hll
  have hnn := ints_len (namL (trimF (quoF ee g)) (trimF (quoF ee g)).nodes.length)
  have hint := hid (fun w u v (h1 : Ri w u (ints (csF ee g.nodes.length))) (h2 : Ri w v (ints (csF ee g.nodes.length))) => rints_any h1 h2 (by omega))
  rw [decide_eq_true rfl] at hint
  have hqr2 : (trimF (quoF ee g)).roots.length ≤ 60 := by omega
  clear hqr
  generalize trimF (quoF ee g) = q at *
  have hsm := hid (fun (w : World) (nv rv mv sv : Value) (h1 : Gr w nv rv q) (h2 : Gr w mv sv q) => rsame_any h1 h2 hfit)
  rw [eqG_yes] at hsm
  generalize namL q q.nodes.length = NM at *
  generalize ints (csF ee g.nodes.length) = CL at *
  generalize ints NM = NI at *
  obtain ⟨i1, hi1, hy0, hy1, hy2⟩ := info_parts infoL
  have hc2 := hc1
  have hq2 := hq1
  have hn2 := hn1
  have HLL := hid hll
  have HNN := hid hnn
  clear hG hgd hg hs ha hq hfit hRn he hS hll hnn hcl0
  go_enter Try.func7, Try.ntmps7
  go_wp2_with (first
    | (go_at_call 8; refine (lives_any _).mono ?_; rintro e w1 ⟨rfl, hb1⟩; replace hb := Below.next hb hb1; replace b0 := keepJ b0 hb1; (try clear c0 c1); obtain ⟨⟨c0, c1⟩, _⟩ := blk2 b0; clear hb1)
    | (go_at_call 9; go_must (refine (hlg _ hb).mono ?_; clear hlg; rintro e w2 ⟨rfl, hb1⟩; replace hb := Below.next hb hb1; replace b0 := keepJ b0 hb1; clear c0 c1; obtain ⟨⟨c0, c1⟩, _⟩ := blk2 b0; clear hb1))
    | (go_at_call 29; go_must (refine (hgr.out _ hb).mono ?_; clear hgr; have hB0 := lt_of_block b0; rintro e w3 ⟨⟨gb, cap, mrv, avs, rfl, hM⟩, hb1⟩; obtain ⟨mq, mc, hmr⟩ : ∃ mq mc, mrv = .slice (some ⟨mq, 0, none⟩) g.roots.length mc := (by obtain ⟨q, c, h, _⟩ := hM.r; exact ⟨q, c, h⟩); subst hmr; have hK := hid hM.rng; obtain ⟨E0, hE0⟩ : ∃ E0, E0 = w3.heap.size := ⟨_, rfl⟩; rw [← hE0] at hK; have hbt := below_alloc w3 (.cells #[.slice (some ⟨gb, 0, none⟩) g.nodes.length cap, .slice (some ⟨mq, 0, none⟩) g.roots.length mc] 25); have bm := heap_alloc_new w3 (.cells #[.slice (some ⟨gb, 0, none⟩) g.nodes.length cap, .slice (some ⟨mq, 0, none⟩) g.roots.length mc] 25); have s0 : E0 ≤ w3.heap.size := (by omega); have hW0 : W.heap.size ≤ E0 := (by have := (Below.next hb hb1).size; omega); have hEh := hid hE0; clear hE0; replace s0 := Nat.le_trans s0 hbt.size; replace hM := hM.below hbt; replace hb := Below.next (Below.next hb hb1) hbt; replace b0 := keepJ (keepJ b0 hb1) hbt; clear c0 c1 hb1 hbt; obtain ⟨⟨c0, c1⟩, _⟩ := blk2 b0; obtain ⟨⟨m0, m1⟩, _⟩ := blk2 bm))
    | (go_at_call 24; refine (hc1.out _ _ _ _ hM.gr s0).mono ?_; rintro e x1 ⟨⟨a1, k1, B1, E1, rfl, R1, h1, s1⟩, hb1⟩; clear hc1; replace hb := Below.next hb hb1; replace b0 := keepJ b0 hb1; replace bm := keepJ bm hb1; replace hM := hM.below hb1; replace s0 := Nat.le_trans s0 hb1.size; clear c0 c1; obtain ⟨⟨c0, c1⟩, _⟩ := blk2 b0; clear m0 m1; obtain ⟨⟨m0, m1⟩, _⟩ := blk2 bm; clear hb1)
    | (go_at_call 24; go_must (refine (hc2.out _ _ _ _ hM.gr s1).mono ?_; rintro e x2 ⟨⟨a2, k2, B2, E2, rfl, R2, h2, s2⟩, hb1⟩; clear hc2; replace hb := Below.next hb hb1; replace b0 := keepJ b0 hb1; replace bm := keepJ bm hb1; replace hM := hM.below hb1; replace s0 := Nat.le_trans s0 hb1.size; replace R1 := R1.below hb1; replace s1 := Nat.le_trans s1 hb1.size; clear c0 c1; obtain ⟨⟨c0, c1⟩, _⟩ := blk2 b0; clear m0 m1; obtain ⟨⟨m0, m1⟩, _⟩ := blk2 bm; clear hb1))
    | (go_at_call 11; refine (hq1.out _ _ _ _ hM.gr s2).mono ?_; rintro e x3 ⟨⟨a3, k3, r3, d3, av3, B3, E3, rfl, T3, h3, s3'⟩, hb1⟩; clear hq1; have hbt := below_alloc x3 (.cells #[.slice a3 q.nodes.length k3, .slice r3 q.roots.length d3] 25); have bt3 := heap_alloc_new x3 (.cells #[.slice a3 q.nodes.length k3, .slice r3 q.roots.length d3] 25); have s3 := Nat.le_trans s3' hbt.size; clear s3'; replace T3 := T3.below hbt; replace hb1 := hb1.trans (hbt.mono hb1.size); clear hbt; replace hb := Below.next hb hb1; replace b0 := keepJ b0 hb1; replace bm := keepJ bm hb1; replace hM := hM.below hb1; replace s0 := Nat.le_trans s0 hb1.size; replace R1 := R1.below hb1; replace s1 := Nat.le_trans s1 hb1.size; replace R2 := R2.below hb1; replace s2 := Nat.le_trans s2 hb1.size; clear c0 c1; obtain ⟨⟨c0, c1⟩, _⟩ := blk2 b0; clear m0 m1; obtain ⟨⟨m0, m1⟩, _⟩ := blk2 bm; clear hb1)
    | (go_at_call 11; go_must (refine (hq2.out _ _ _ _ hM.gr s3).mono ?_; rintro e x4 ⟨⟨a4, k4, r4, d4, av4, B4, E4, rfl, T4, h4, s4'⟩, hb1⟩; clear hq2; have hbt := below_alloc x4 (.cells #[.slice a4 q.nodes.length k4, .slice r4 q.roots.length d4] 25); have bt4 := heap_alloc_new x4 (.cells #[.slice a4 q.nodes.length k4, .slice r4 q.roots.length d4] 25); have s4 := Nat.le_trans s4' hbt.size; clear s4'; replace T4 := T4.below hbt; replace hb1 := hb1.trans (hbt.mono hb1.size); clear hbt; replace hb := Below.next hb hb1; replace b0 := keepJ b0 hb1; replace bm := keepJ bm hb1; replace hM := hM.below hb1; replace s0 := Nat.le_trans s0 hb1.size; replace R1 := R1.below hb1; replace s1 := Nat.le_trans s1 hb1.size; replace R2 := R2.below hb1; replace s2 := Nat.le_trans s2 hb1.size; replace bt3 := keepJ bt3 hb1; replace T3 := T3.below hb1; replace s3 := Nat.le_trans s3 hb1.size; clear c0 c1; obtain ⟨⟨c0, c1⟩, _⟩ := blk2 b0; clear m0 m1; obtain ⟨⟨m0, m1⟩, _⟩ := blk2 bm; clear hb1))
    | (go_at_call 12; refine (hn1.out _ _ _ _ hM.gr s4).mono ?_; rintro e x5 ⟨⟨a5, k5, B5, E5, rfl, R5, h5, s5⟩, hb1⟩; clear hn1; replace hb := Below.next hb hb1; replace b0 := keepJ b0 hb1; replace bm := keepJ bm hb1; replace hM := hM.below hb1; replace s0 := Nat.le_trans s0 hb1.size; replace R1 := R1.below hb1; replace s1 := Nat.le_trans s1 hb1.size; replace R2 := R2.below hb1; replace s2 := Nat.le_trans s2 hb1.size; replace bt3 := keepJ bt3 hb1; replace T3 := T3.below hb1; replace s3 := Nat.le_trans s3 hb1.size; replace bt4 := keepJ bt4 hb1; replace T4 := T4.below hb1; replace s4 := Nat.le_trans s4 hb1.size; clear c0 c1; obtain ⟨⟨c0, c1⟩, _⟩ := blk2 b0; clear m0 m1; obtain ⟨⟨m0, m1⟩, _⟩ := blk2 bm; clear hb1)
    | (go_at_call 12; go_must (refine (hn2.out _ _ _ _ hM.gr s5).mono ?_; rintro e x6 ⟨⟨a6, k6, B6, E6, rfl, R6, h6, s6⟩, hb1⟩; clear hn2; replace hb := Below.next hb hb1; replace b0 := keepJ b0 hb1; replace bm := keepJ bm hb1; replace hM := hM.below hb1; replace s0 := Nat.le_trans s0 hb1.size; replace R1 := R1.below hb1; replace s1 := Nat.le_trans s1 hb1.size; replace R2 := R2.below hb1; replace s2 := Nat.le_trans s2 hb1.size; replace bt3 := keepJ bt3 hb1; replace T3 := T3.below hb1; replace s3 := Nat.le_trans s3 hb1.size; replace bt4 := keepJ bt4 hb1; replace T4 := T4.below hb1; replace s4 := Nat.le_trans s4 hb1.size; replace R5 := R5.below hb1; replace s5 := Nat.le_trans s5 hb1.size; clear c0 c1; obtain ⟨⟨c0, c1⟩, _⟩ := blk2 b0; clear m0 m1; obtain ⟨⟨m0, m1⟩, _⟩ := blk2 bm; clear hb1))
    | (go_at_call 20; go_must (refine (hal.out _ _ _ _ _ hM.gr hM.gr).mono ?_; rintro e y1 ⟨rfl, hb1⟩; replace hb := Below.next hb hb1; replace b0 := keepJ b0 hb1; replace bm := keepJ bm hb1; replace hM := hM.below hb1; replace s0 := Nat.le_trans s0 hb1.size; replace R1 := R1.below hb1; replace s1 := Nat.le_trans s1 hb1.size; replace R2 := R2.below hb1; replace s2 := Nat.le_trans s2 hb1.size; replace bt3 := keepJ bt3 hb1; replace T3 := T3.below hb1; replace s3 := Nat.le_trans s3 hb1.size; replace bt4 := keepJ bt4 hb1; replace T4 := T4.below hb1; replace s4 := Nat.le_trans s4 hb1.size; replace R5 := R5.below hb1; replace s5 := Nat.le_trans s5 hb1.size; replace R6 := R6.below hb1; replace s6 := Nat.le_trans s6 hb1.size; clear c0 c1; obtain ⟨⟨c0, c1⟩, _⟩ := blk2 b0; clear m0 m1; obtain ⟨⟨m0, m1⟩, _⟩ := blk2 bm; clear hb1))
    | (go_at_call 30; go_must (refine (hss.out _ _ _ hM.gr).mono ?_; rintro e y2 ⟨⟨xx, yy, rfl⟩, hb1⟩; replace hb := Below.next hb hb1; replace b0 := keepJ b0 hb1; replace bm := keepJ bm hb1; replace hM := hM.below hb1; replace s0 := Nat.le_trans s0 hb1.size; replace R1 := R1.below hb1; replace s1 := Nat.le_trans s1 hb1.size; replace R2 := R2.below hb1; replace s2 := Nat.le_trans s2 hb1.size; replace bt3 := keepJ bt3 hb1; replace T3 := T3.below hb1; replace s3 := Nat.le_trans s3 hb1.size; replace bt4 := keepJ bt4 hb1; replace T4 := T4.below hb1; replace s4 := Nat.le_trans s4 hb1.size; replace R5 := R5.below hb1; replace s5 := Nat.le_trans s5 hb1.size; replace R6 := R6.below hb1; replace s6 := Nat.le_trans s6 hb1.size; clear c0 c1; obtain ⟨⟨c0, c1⟩, _⟩ := blk2 b0; clear m0 m1; obtain ⟨⟨m0, m1⟩, _⟩ := blk2 bm; clear hb1))
    | (go_at_call 31; go_must (refine (hke.out _ _ _ _ _ _ hM hb).mono ?_; rintro e y3 ⟨rfl, hb1⟩; replace hb := Below.next hb hb1; replace b0 := keepJ b0 hb1; replace bm := keepJ bm hb1; replace hM := hM.below hb1; replace s0 := Nat.le_trans s0 hb1.size; replace R1 := R1.below hb1; replace s1 := Nat.le_trans s1 hb1.size; replace R2 := R2.below hb1; replace s2 := Nat.le_trans s2 hb1.size; replace bt3 := keepJ bt3 hb1; replace T3 := T3.below hb1; replace s3 := Nat.le_trans s3 hb1.size; replace bt4 := keepJ bt4 hb1; replace T4 := T4.below hb1; replace s4 := Nat.le_trans s4 hb1.size; replace R5 := R5.below hb1; replace s5 := Nat.le_trans s5 hb1.size; replace R6 := R6.below hb1; replace s6 := Nat.le_trans s6 hb1.size; clear c0 c1; obtain ⟨⟨c0, c1⟩, _⟩ := blk2 b0; clear m0 m1; obtain ⟨⟨m0, m1⟩, _⟩ := blk2 bm; clear hb1))
    | (go_at_call 32; go_must (refine (hov.out _ _ _ _ _ _ hM).mono ?_; clear hov; rintro e z1 ⟨rfl, hO⟩; obtain ⟨⟨o1, o2, o3, o4⟩, hfar⟩ := over_far hO; have hty := hM.ty; have e1 := R1.be; have e2 := R2.be; have e3 := T3.be; have e4 := T4.be; have e5 := R5.be; have e6 := R6.be; replace b0 := (hfar _ (lt_of_block b0) (fun h => hty _ h _ b0)).trans b0; replace bt3 := (hfar _ (lt_of_block bt3) (fun h => hty _ h _ bt3)).trans bt3; replace bt4 := (hfar _ (lt_of_block bt4) (fun h => hty _ h _ bt4)).trans bt4; replace R1 := R1.keep (fun k hk1 hk2 => hfar k hk2 (fun h => by have := (hK.out k h).2; omega)); replace R2 := R2.keep (fun k hk1 hk2 => hfar k hk2 (fun h => by have := (hK.out k h).2; omega)); replace T3 := T3.keep (fun k hk1 hk2 => hfar k hk2 (fun h => by have := (hK.out k h).2; omega)); replace T4 := T4.keep (fun k hk1 hk2 => hfar k hk2 (fun h => by have := (hK.out k h).2; omega)); replace R5 := R5.keep (fun k hk1 hk2 => hfar k hk2 (fun h => by have := (hK.out k h).2; omega)); replace R6 := R6.keep (fun k hk1 hk2 => hfar k hk2 (fun h => by have := (hK.out k h).2; omega)); replace hb := (show Below W.heap.size W z1 from ⟨o1.trans hb.os, o2.trans hb.tape, o3.trans hb.output, Nat.le_trans hb.size o4, fun k hk => (hfar k (by have := hb.size; omega) (fun h => by have := (hK.out k h).1; omega)).trans (hb.block k hk)⟩); replace s0 := Nat.le_trans s0 o4; replace s6 := Nat.le_trans s6 o4; clear hO hfar hty hM bm m0 m1 c0 c1 s1 s2 s3 s4 s5 o1 o2 o3 o4 e1 e2 e3 e4 e5 e6; obtain ⟨⟨c0, c1⟩, _⟩ := blk2 b0; obtain ⟨⟨p30, p31⟩, _⟩ := blk2 bt3; obtain ⟨⟨p40, p41⟩, _⟩ := blk2 bt4))
    | (go_at_call 15; go_must (refine (hrq.out _ hb).mono ?_; rintro e x7 ⟨⟨nv7, rv7, av7, rfl, hO7⟩, hb1⟩; have G7 := hO7.gr; obtain ⟨n7a, n7c, rfl⟩ := hO7.nsl; obtain ⟨r7a, r7c, rfl, _⟩ := hO7.r; clear hO7; have hbt := below_alloc x7 (.cells #[.slice n7a q.nodes.length n7c, .slice r7a q.roots.length r7c] 25); have bt7 := heap_alloc_new x7 (.cells #[.slice n7a q.nodes.length n7c, .slice r7a q.roots.length r7c] 25); replace G7 := G7.below hbt; replace hb1 := hb1.trans (hbt.mono hb1.size); clear hbt; replace hb := Below.next hb hb1; replace b0 := keepJ b0 hb1; replace s0 := Nat.le_trans s0 hb1.size; replace s6 := Nat.le_trans s6 hb1.size; replace bt3 := keepJ bt3 hb1; replace bt4 := keepJ bt4 hb1; replace R1 := R1.below hb1; replace R2 := R2.below hb1; replace T3 := T3.below hb1; replace T4 := T4.below hb1; replace R5 := R5.below hb1; replace R6 := R6.below hb1; clear c0 c1; obtain ⟨⟨c0, c1⟩, _⟩ := blk2 b0; clear p30 p31; obtain ⟨⟨p30, p31⟩, _⟩ := blk2 bt3; clear p40 p41; obtain ⟨⟨p40, p41⟩, _⟩ := blk2 bt4; clear hb1))
    | (go_at_call 33; go_must (refine (hrc.out _ hb).mono ?_; rintro e x8 ⟨cb, lv, rfl, hcb, _, hb1⟩; have R8 := hcri.out _ _ hcb; clear hcb; replace hb := Below.next hb hb1; replace b0 := keepJ b0 hb1; replace s0 := Nat.le_trans s0 hb1.size; replace s6 := Nat.le_trans s6 hb1.size; replace bt3 := keepJ bt3 hb1; replace bt4 := keepJ bt4 hb1; replace R1 := R1.below hb1; replace R2 := R2.below hb1; replace T3 := T3.below hb1; replace T4 := T4.below hb1; replace R5 := R5.below hb1; replace R6 := R6.below hb1; replace bt7 := keepJ bt7 hb1; replace G7 := G7.below hb1; clear c0 c1; obtain ⟨⟨c0, c1⟩, _⟩ := blk2 b0; clear p30 p31; obtain ⟨⟨p30, p31⟩, _⟩ := blk2 bt3; clear p40 p41; obtain ⟨⟨p40, p41⟩, _⟩ := blk2 bt4; clear hb1; obtain ⟨⟨p70, p71⟩, _⟩ := blk2 bt7))
    | (go_at_call 16; go_must (refine (hsm.out _ _ _ _ _ (by first | exact T3.og.gr | exact T4.og.gr) G7).mono ?_; rintro e z2 ⟨rfl, hb1⟩; replace hb := Below.next hb hb1; replace b0 := keepJ b0 hb1; replace s0 := Nat.le_trans s0 hb1.size; replace s6 := Nat.le_trans s6 hb1.size; replace bt3 := keepJ bt3 hb1; replace bt4 := keepJ bt4 hb1; replace R1 := R1.below hb1; replace R2 := R2.below hb1; replace T3 := T3.below hb1; replace T4 := T4.below hb1; replace R5 := R5.below hb1; replace R6 := R6.below hb1; replace bt7 := keepJ bt7 hb1; replace G7 := G7.below hb1; replace R8 := R8.below hb1; clear c0 c1; obtain ⟨⟨c0, c1⟩, _⟩ := blk2 b0; clear p30 p31; obtain ⟨⟨p30, p31⟩, _⟩ := blk2 bt3; clear p40 p41; obtain ⟨⟨p40, p41⟩, _⟩ := blk2 bt4; clear p70 p71; obtain ⟨⟨p70, p71⟩, _⟩ := blk2 bt7; clear hb1))
    | (go_at_call 17; go_must (refine (hint.out _ _ _ (by first | exact own_ri rfl R1.own | exact own_ri rfl R2.own) R8).mono ?_; rintro e z2 ⟨rfl, hb1⟩; replace hb := Below.next hb hb1; replace b0 := keepJ b0 hb1; replace s0 := Nat.le_trans s0 hb1.size; replace s6 := Nat.le_trans s6 hb1.size; replace bt3 := keepJ bt3 hb1; replace bt4 := keepJ bt4 hb1; replace R1 := R1.below hb1; replace R2 := R2.below hb1; replace T3 := T3.below hb1; replace T4 := T4.below hb1; replace R5 := R5.below hb1; replace R6 := R6.below hb1; replace bt7 := keepJ bt7 hb1; replace G7 := G7.below hb1; replace R8 := R8.below hb1; clear c0 c1; obtain ⟨⟨c0, c1⟩, _⟩ := blk2 b0; clear p30 p31; obtain ⟨⟨p30, p31⟩, _⟩ := blk2 bt3; clear p40 p41; obtain ⟨⟨p40, p41⟩, _⟩ := blk2 bt4; clear p70 p71; obtain ⟨⟨p70, p71⟩, _⟩ := blk2 bt7; clear hb1))
    | (go_at_call 35; have q1 := T3.og.on.len; have q2 := T4.og.on.len; go_must (refine (lists_two T3 T4 rfl (by omega)).mono ?_; rintro e z3 ⟨⟨la, lc, rfl, hL⟩, hb1⟩; have hrows := hid (bowns_rows (E0 := E0) (R1.below hb1) (R2.below hb1) (T3.below hb1) (T4.below hb1) (R5.below hb1) (R6.below hb1) h1 h2 h3 h4 h5 h6 ⟨by omega, hta.out⟩ (by have := HLL.out; omega) (by have := HNN.out; omega)); have hfl : (flat [(.slice r3 q.roots.length d3, av3), (.slice r4 q.roots.length d4, av4)]).length ≤ 4900 := (by simp [flat]; omega); have hLb := hid (fun k e => (hL.lt k e).1); have hz3 := hb1.size; replace hL := own_base hL s0; replace hb := Below.next hb hb1; have hLz := World.ownsRow.alloc hL (.cells #[.slice a1 g.nodes.length k1, .slice a2 g.nodes.length k2, .slice a5 NM.length k5, .slice a6 NM.length k6] 23); clear hb1 R1 R2 T3 T4 R5 R6 G7 R8 b0 bt3 bt4 bt7 c0 c1 p30 p31 p40 p41 p70 p71 q1 q2; generalize (flat [(.slice r3 q.roots.length d3, av3), (.slice r4 q.roots.length d4, av4)]) = FL at hL hLz hrows hfl hLb ⊢))
    | (at_builtin; go_must (refine wpList_append_lies _ rfl _ _ _ rfl E0 23 i1 (.slice none 0 0) 1 24 Try.underlying55 hi1 hy0 hy1 hy2 rfl (by decide) _ FL.length FL rfl hLz ⟨z3.heap.size, 0, none⟩ 4 4 [.slice a1 g.nodes.length k1, .slice a2 g.nodes.length k2, .slice a5 NM.length k5, .slice a6 NM.length k6] rfl rfl (World.news_of_block (cs := #[.slice a1 g.nodes.length k1, .slice a2 g.nodes.length k2, .slice a5 NM.length k5, .slice a6 NM.length k6]) (t := 23) (fr := (0, 0)) (heap_alloc_new z3 _)) (by simp [Value.oneCell']) (by omega) (by unfold maxLen; omega) (by omega) (by simp; omega) (z3.heap.size + 1) (by simp) ?_; intro g9 cap9 z4 hown9 hgr9 hat9 hlt9; have hb4 := (hb.alloc hb.size (.cells #[.slice a1 g.nodes.length k1, .slice a2 g.nodes.length k2, .slice a5 NM.length k5, .slice a6 NM.length k6] 23)).grown hgr9 (by simp; have := hb.size; omega) (fun k e => by have := hLb.out k e; have := hb.size; omega); have hz4 := hgr9.size; have hro4 := hid (fun v (hv : v ∈ FL ++ [.slice a1 g.nodes.length k1, .slice a2 g.nodes.length k2, .slice a5 NM.length k5, .slice a6 NM.length k6]) => (hrows.out.1 v hv).keep (w' := z4) (fun k ek => by have hk := hrows.out.2.1 k (List.mem_filterMap.2 ⟨v, hv, ek⟩); rw [hgr9.block k (by simp; omega) (fun e => by have := hLb.out k e.symm; omega), Below.heap_alloc _ _ _ (by omega)]))))
    | (go_at_call 34; go_must (refine (apart_own (B := E0) (vs := FL ++ [.slice a1 g.nodes.length k1, .slice a2 g.nodes.length k2, .slice a5 NM.length k5, .slice a6 NM.length k6]) (by simp) hown9 hro4.out hrows.out.2.2 (by simp; omega) (by simp at hz4; omega)).mono ?_; rintro e z5 ⟨rfl, hAf⟩)))
  go_ret
  refine ⟨rfl, hAf.os.trans hb4.os, hAf.tape.trans hb4.tape, hAf.output.trans hb4.output, Nat.le_trans hb4.size hAf.size, fun k hk => ?_⟩
  rw [hAf.far k (by have := hb4.size; omega) (fun h => by have := (hrows.out.2.1 k h).1; omega)]
  exact hb4.block k hk
theorem bisimOwns_walk {W : World} (nv rv : Value) (g : Gf) (hG : Gr W nv rv g) (hS : Sized g) :
    Calls Try.prog 7 #[.agg #[nv, rv]] W fun e w' => e = .returned (.bool true) ∧ Below W.heap.size W w' := by
  by_cases hs : smallK 60 g = true
  · by_cases hb : one (chk g) = []
    · exact bowns_good hG hS hs hb
    · exact bowns_bad hG hS hs hb
  · exact bowns_short hG (by simpa using hs)
end Go.Proofs.Ytcgkmenlacinjaa
