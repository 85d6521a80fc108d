/- Solve of package solve. -/
import Derived.Test.YtllafbghomohhaaAFZ
import Derived.Test.YtllafbghomohhaaGrRef3
namespace Go.Proofs.Ytllafbghomohhaa
open Go.RowKit

theorem goodA_of {g : Gf} (hg : Good g) : GoodA g.nodes := by
  have hin : ∀ x, x < g.nodes.length → goodNd g.nodes.length (ndN g.nodes x) = true := fun x hx => hg.node _ (by simp [ndN, List.getD, hx])
  have hout : ∀ x, ¬ x < g.nodes.length → ndN g.nodes x = nd0 := fun x hx => by
    unfold ndN
    rw [List.getD, List.getElem?_eq_none (by omega)]
    rfl
  refine ⟨fun x hx k hk => ?_, fun x hk => ?_, fun x => ?_⟩
  · have := (good_args (hin x hx)).1 _ (getD_mem hk)
    unfold argN
    omega
  · by_cases hx : x < g.nodes.length
    · have h := hin x hx
      unfold goodNd at h
      rw [if_pos hk] at h
      simp at h
      exact h.2
    · rw [hout x hx]
  · by_cases hx : x < g.nodes.length
    · exact (good_args (hin x hx)).2
    · rw [hout x hx]; exact Nat.zero_le _
/-- Good pairs. -/
def PsG (g : Gf) (ps : List (Int × Int)) : Prop := ∀ p ∈ ps, (0 ≤ p.1 ∧ p.1 < (g.nodes.length : Int)) ∧ 0 ≤ p.2 ∧ p.2 < (g.nodes.length : Int)
theorem chkS_good {g : Gf} {ps : List (Int × Int)} (h : chkS g ps = []) : Good g ∧ PsG g ps := by
  unfold chkS at h
  split at h
  · rename_i h1
    split at h
    · cases h
    · rename_i h2
      refine ⟨chk_good h1, fun p hp => ?_⟩
      have := ixOf_all _ _ h2 p hp
      simp [badP, strange] at this
      omega
  · rename_i h1
    exact absurd h h1
theorem gE_good {g : Gf} (hg : Good g) {E : Nat → Nat} (hE : ∀ x, x < g.nodes.length → E x < g.nodes.length) : Good (gE g.nodes g.roots E) := by
  have hEI : ∀ z : Int, 0 ≤ z ∧ z < (g.nodes.length : Int) → 0 ≤ EI E z ∧ EI E z < (g.nodes.length : Int) := fun z hz => by
    have := hE z.toNat (by omega)
    unfold EI
    omega
  have hl : (gE g.nodes g.roots E).nodes.length = g.nodes.length := by simp [gE]
  refine ⟨by rw [hl]; exact hg.nodes, by simp [gE]; exact hg.roots, fun n hn => ?_, fun z hz => ?_⟩
  · obtain ⟨y, hy, rfl⟩ := List.mem_map.1 hn
    rw [hl]
    have hgd := hg.node y hy
    exact renum_good hgd (fun z hz => hEI z ((good_args hgd).1 z hz))
  · obtain ⟨y, hy, rfl⟩ := List.mem_map.1 hz
    rw [hl]
    exact hEI y (hg.root y hy)
/-- The least graph of what the roots become. -/
def LeastS (g : Gf) (ps : List (Int × Int)) (t : Gf) : Prop := ∃ (E : Nat → Nat) (ee : Nat → Nat → Bool), Un g.nodes (ps.map natP) E [] ∧ (∀ x y : Nat, (ee x y = true ↔ Al (gE g.nodes g.roots E) (x : Int) (y : Int))) ∧ t = trimF (quoF ee (gE g.nodes g.roots E))
theorem ret_gbe {w : World} {fn : Func} {t s r : Tmp} (hfn : fn.results = #[.cell t 25, .tmp s, .tmp r]) {tmps : Array Value} {q : Nat} {u0 u1 v1 v2 : Value} (h4 : tmps[t]?.getD undef = .pointer (some ⟨q, 0, none⟩)) (h5 : tmps[s]?.getD undef = v1) (h6 : tmps[r]?.getD undef = v2) (hq : w.heap[q]? = some (.cells #[u0, u1] 25)) : (results fn tmps).run Try.prog w = .ok (.tuple #[.agg #[u0, u1], v1, v2]) w := by
  obtain ⟨⟨z0, z1⟩, _⟩ := blk2y hq
  simp [results, hfn, go_sem, h4, h5, h6, z0, z1]
abbrev grZ : Obj := .cells #[.slice none 0 0, .slice none 0 0] 25
/-- The boxes of Solve. -/
structure Sb (W : World) (nv rv : Value) (w : World) : Prop where
  g : w.heap[W.heap.size]? = some (.cells #[nv, rv] 25)
  r : w.heap[W.heap.size + 1]? = some grZ
  b : Below W.heap.size W w
theorem Sb.new (W : World) (nv rv : Value) : Sb W nv rv ((W.alloc (.cells #[nv, rv] 25)).alloc grZ) := by
  have h1 := heap_alloc_new (W.alloc (.cells #[nv, rv] 25)) grZ
  rw [show (W.alloc (.cells #[nv, rv] 25)).heap.size = W.heap.size + 1 by simp] at h1
  exact ⟨(Below.heap_alloc _ _ _ (by simp)).trans (heap_alloc_new W _), h1, (below_alloc W _).alloc (by simp) _⟩
theorem Sb.next {W w w' : World} {nv rv : Value} (h : Sb W nv rv w) (hb : Below w.heap.size w w') : Sb W nv rv w' :=
  ⟨(hb.block _ (lt_of_block h.g)).trans h.g, (hb.block _ (lt_of_block h.r)).trans h.r, Below.next h.b hb⟩
theorem Sb.fin {W w : World} {nv rv : Value} (h : Sb W nv rv w) (u0 u1 : Value) : ((w.setCell ⟨W.heap.size + 1, 0, none⟩ u0).setCell ⟨W.heap.size + 1, 1, none⟩ u1).heap[W.heap.size + 1]? = some (.cells #[u0, u1] 25) ∧ Below W.heap.size W ((w.setCell ⟨W.heap.size + 1, 0, none⟩ u0).setCell ⟨W.heap.size + 1, 1, none⟩ u1) :=
  ⟨blk2_set h.r, (h.b.setCell (p := ⟨W.heap.size + 1, 0, none⟩) (Nat.le_succ _) _).setCell (p := ⟨W.heap.size + 1, 1, none⟩) (Nat.le_succ _) _⟩
theorem er_keep {W w : World} {q : Nat} {u0 u1 : Value} (hq : w.heap[q]? = some grZ) : ∀ {fs : Fs} {ev : Value}, Er w ev fs → Er ((w.setCell ⟨q, 0, none⟩ u0).setCell ⟨q, 1, none⟩ u1) ev fs
  | [], _, h => h
  | _ :: _, _, ⟨h0, b, ev, he, hb, hr⟩ => ⟨h0, b, ev, he, by
      have hne : b ≠ q := fun e => by
        subst e
        rw [hq] at hb
        injection hb with hb
        injection hb with _ hb
        exact absurd hb (by decide)
      rw [Below.heap_setCell _ _ _ _ hne, Below.heap_setCell _ _ _ _ hne]
      exact hb, er_keep (W := W) hq hr⟩
set_option maxRecDepth 100000 in
set_option maxHeartbeats 4000000 in
theorem solve_bad {W : World} {nv rv pv : Value} {g : Gf} {ps : List (Int × Int)} (hG : Gr W nv rv g) (hS : Sized g) (hP : Rp W pv ps) (hl : ps.length ≤ 5000) (hc : chkS g ps ≠ []) :
    Calls Try.prog 7 #[.agg #[nv, rv], pv] W fun e w' => (∃ ev, e = .returned (.tuple #[.agg #[.slice none 0 0, .slice none 0 0], .bool false, ev]) ∧ Er w' ev (chkS g ps)) ∧ Below W.heap.size W w' := by
  obtain ⟨na, nc, rfl, _⟩ := hG.1
  obtain ⟨ra, rc, rfl, _⟩ := hG.2
  have hB := Sb.new W (.slice na g.nodes.length nc) (.slice ra g.roots.length rc)
  have hck := checked_any (hG.below hB.b) hS (hP.below hB.b) hl
  have hnil : Hid (∀ (w1 : World) (ev : Value), Er w1 ev (chkS g ps) → ∃ b, ev = .iface 70 (.pointer (some ⟨b, 0, none⟩))) := fun w1 ev h => by
    rcases h.isNil with ⟨h1, _⟩ | ⟨_, h2⟩
    · exact absurd h1 hc
    · exact h2
  have HB := hid hB
  clear hG hP hS hc hB
  go_enter Try.func7, Try.ntmps7
  go_wp2_with (go_at_call 21; go_must (refine hck.mono ?_; clear hck; rintro e w1 ⟨⟨ev, rfl, hev⟩, hb1⟩; obtain ⟨fb, rfl⟩ := hnil.out w1 ev hev; have HB1 := hid (HB.out.next hb1); have hE1 := hid hev; have hr1 := HB1.out.r; have zr1 := lt_of_block hr1; obtain ⟨⟨s0, s1⟩, s2, s3⟩ := blk2y hr1; clear hev hb1 hr1))
  obtain ⟨g1, g2⟩ := HB1.out.fin (.slice none 0 0) (.slice none 0 0)
  exact bodyPost_ret (ret_gbe Try.results7 (by rfl) (by rfl) (by rfl) g1) rfl ⟨⟨_, rfl, er_keep (W := W) HB1.out.r hE1.out⟩, g2⟩
set_option maxRecDepth 100000 in
set_option maxHeartbeats 8000000 in
theorem solve_no {W : World} {nv rv pv : Value} {g : Gf} {ps : List (Int × Int)} (hG : Gr W nv rv g) (hS : Sized g) (hP : Rp W pv ps) (hl : ps.length ≤ 5000) (hc : chkS g ps = []) (hn : NoSol g.nodes (ps.map natP)) :
    Calls Try.prog 7 #[.agg #[nv, rv], pv] W fun e w' => e = .returned (.tuple #[.agg #[.slice none 0 0, .slice none 0 0], .bool false, .nilIface]) ∧ Below W.heap.size W w' := by
  obtain ⟨hg, hpg⟩ := chkS_good hc
  have hA := goodA_of hg
  obtain ⟨na, nc, rfl, _⟩ := hG.1
  obtain ⟨ra, rc, rfl, _⟩ := hG.2
  have hB := Sb.new W (.slice na g.nodes.length nc) (.slice ra g.roots.length rc)
  have hck := checked_any (hG.below hB.b) hS (hP.below hB.b) hl
  rw [hc] at hck
  have hN : g.nodes.length ≤ 10000 := by have := hg.nodes; omega
  have hap := hid (fun w1 (hb : Below W.heap.size W w1) => apart_any (w := w1) (hG.below hb).1 hN)
  have hal : Hid (∀ (w1 w2 : World) (mb : Nat) (lv : Value) (L : List Nat), Below W.heap.size W w1 → Mg w1 w2 mb (.slice na g.nodes.length nc) lv g.nodes L → Ld L id → Calls Try.prog 23 #[.pointer (some ⟨mb, 0, none⟩), pv] w2 fun e w' => e = .returned (.bool false) ∧ Below w1.heap.size w1 w') := fun w1 w2 mb lv L hb hm hl' => by
    refine (all_any hm hl' hA hN (Un.init _) (hP.below hb) hpg hl).mono ?_
    rintro e w' (⟨rfl, E, hU, _⟩ | ⟨rfl, _, hb', _⟩)
    · obtain ⟨h1, h2, _⟩ := hU.done
      exact absurd (hn _ h1 h2) (fun h => h)
    · exact ⟨rfl, hb'⟩
  have HB := hid hB
  clear hG hP hS hc hB hg hpg hA hn
  go_enter Try.func7, Try.ntmps7
  go_wp2_with (first
    | (go_at_call 21; go_must (refine hck.mono ?_; clear hck; rintro e w1 ⟨⟨ev, rfl, hev⟩, hb1⟩; have hev1 : ev = .nilIface := hev; subst hev1; have HB1 := hid (HB.out.next hb1); have hg1 := HB1.out.g; have zg1 := lt_of_block hg1; obtain ⟨⟨s0, s1⟩, _⟩ := blk2y hg1; clear hev hb1 hg1))
    | (go_at_call 22; go_must (refine (hap.out _ HB1.out.b).mono ?_; rintro e w2 ⟨mb, lv, L, rfl, hm, hld⟩; have hcall := hid (hal.out w1 w2 mb lv L HB1.out.b hm hld); clear hm hld))
    | (go_at_call 23; go_must (refine hcall.out.mono ?_; rintro e w3 ⟨rfl, hb3⟩; have HB3 := hid (HB1.out.next hb3); have hr3 := HB3.out.r; have zr3 := lt_of_block hr3; obtain ⟨⟨t0, t1⟩, t2, t3⟩ := blk2y hr3; clear hr3 hb3)))
  obtain ⟨g1, g2⟩ := HB3.out.fin (.slice none 0 0) (.slice none 0 0)
  exact bodyPost_ret (ret_gbe Try.results7 (by rfl) (by rfl) (by rfl) g1) rfl ⟨rfl, g2⟩
set_option maxRecDepth 100000 in
set_option maxHeartbeats 8000000 in
theorem solve_yes {W : World} {nv rv pv : Value} {g : Gf} {ps : List (Int × Int)} (hG : Gr W nv rv g) (hS : Sized g) (hP : Rp W pv ps) (hl : ps.length ≤ 5000) (hc : chkS g ps = []) (hn : ¬ NoSol g.nodes (ps.map natP)) :
    Calls Try.prog 7 #[.agg #[nv, rv], pv] W fun e w' => (∃ t na nc ra rc avs, e = .returned (.tuple #[.agg #[.slice na t.nodes.length nc, .slice ra t.roots.length rc], .bool true, .nilIface]) ∧ LeastS g ps t ∧ Og w' W.heap.size (.slice na t.nodes.length nc) (.slice ra t.roots.length rc) avs t) ∧ Below W.heap.size W w' := by
  obtain ⟨hg, hpg⟩ := chkS_good hc
  have hA := goodA_of hg
  obtain ⟨na, nc, rfl, _⟩ := hG.1
  obtain ⟨ra, rc, rfl, _⟩ := hG.2
  have hB := Sb.new W (.slice na g.nodes.length nc) (.slice ra g.roots.length rc)
  have hck := checked_any (hG.below hB.b) hS (hP.below hB.b) hl
  rw [hc] at hck
  have hN : g.nodes.length ≤ 10000 := by have := hg.nodes; omega
  have hR5 : g.roots.length ≤ 5000 := by have := hg.roots; omega
  have hap := hid (fun w1 (hb : Below W.heap.size W w1) => apart_any (w := w1) (hG.below hb).1 hN)
  have hal : Hid (∀ (w1 w2 : World) (mb : Nat) (lv : Value) (L : List Nat), Below W.heap.size W w1 → Mg w1 w2 mb (.slice na g.nodes.length nc) lv g.nodes L → Ld L id → Calls Try.prog 23 #[.pointer (some ⟨mb, 0, none⟩), pv] w2 fun e w' => e = .returned (.bool true) ∧ Below w1.heap.size w1 w' ∧ ∃ E, Un g.nodes (ps.map natP) E [] ∧ ∃ L, Mg w1 w' mb (.slice na g.nodes.length nc) lv g.nodes L ∧ Ld L E) := fun w1 w2 mb lv L hb hm hl' => by
    refine (all_any hm hl' hA hN (Un.init _) (hP.below hb) hpg hl).mono ?_
    rintro e w' (⟨rfl, E, hU, hL⟩ | ⟨rfl, h1, _, _⟩)
    · obtain ⟨L2, h3, h4⟩ := hL.mg
      exact ⟨rfl, h3.bel, E, hU, L2, h3, h4⟩
    · exact absurd h1 hn
  have hgr : Hid (∀ (w1 w2 : World) (mb : Nat) (lv : Value) (L : List Nat) (E : Nat → Nat), Below W.heap.size W w1 → Un g.nodes (ps.map natP) E [] → Mg w1 w2 mb (.slice na g.nodes.length nc) lv g.nodes L → Ld L E → Calls Try.prog 25 #[.pointer (some ⟨mb, 0, none⟩), .slice ra g.roots.length rc] w2 fun e w' => (∃ na' nc' ra' rc', e = .returned (.agg #[.slice na' g.nodes.length nc', .slice ra' g.roots.length rc']) ∧ Gr w' (.slice na' g.nodes.length nc') (.slice ra' g.roots.length rc') (gE g.nodes g.roots E)) ∧ Below w1.heap.size w1 w') := fun w1 w2 mb lv L E hb hU hm hl' => sgraph_any hm hl' (hG.below hb).2 hg.root (fun j hj x hx => (good_args (hg.node (g.nodes.getD j nd0) (by simp [List.getD, hj]))).1 x hx) (fun j hj => (good_args (hg.node (g.nodes.getD j nd0) (by simp [List.getD, hj]))).2) hR5 hN
  have hqu : Hid (∀ (w1 : World) (E : Nat → Nat) (na' : Option Addr) (nc' : Nat) (ra' : Option Addr) (rc' : Nat), Un g.nodes (ps.map natP) E [] → Gr w1 (.slice na' g.nodes.length nc') (.slice ra' g.roots.length rc') (gE g.nodes g.roots E) → Calls Try.prog 24 #[.agg #[.slice na' g.nodes.length nc', .slice ra' g.roots.length rc']] w1 fun r w' => (∃ t na nc ra rc avs, r = .returned (.tuple #[.agg #[.slice na t.nodes.length nc, .slice ra t.roots.length rc], .nilIface]) ∧ LeastS g ps t ∧ Og w' w1.heap.size (.slice na t.nodes.length nc) (.slice ra t.roots.length rc) avs t) ∧ Below w1.heap.size w1 w') := fun w1 E na' nc' ra' rc' hU hGr => by
    obtain ⟨ee, hd⟩ := al_dec (gE g.nodes g.roots E)
    have hgd := gE_good hg hU.rng
    refine (quot_good hGr (good_sized hgd) (chk_of_good hgd) ee hd).mono ?_
    rintro e w' ⟨⟨nv', rv', avs, rfl, hO⟩, hb⟩
    obtain ⟨a1, c1, rfl⟩ := hO.nsl
    obtain ⟨a2, c2, rfl, _⟩ := hO.r
    exact ⟨⟨_, a1, c1, a2, c2, avs, rfl, ⟨E, ee, hU, hd, rfl⟩, hO⟩, hb⟩
  have HB := hid hB
  clear hG hP hS hc hB hg hpg hA hn
  go_enter Try.func7, Try.ntmps7
  go_wp2_with (first
    | (go_at_call 21; go_must (refine hck.mono ?_; clear hck; rintro e w1 ⟨⟨ev, rfl, hev⟩, hb1⟩; have hev1 : ev = .nilIface := hev; subst hev1; have HB1 := hid (HB.out.next hb1); have hg1 := HB1.out.g; have zg1 := lt_of_block hg1; obtain ⟨⟨s0, s1⟩, _⟩ := blk2y hg1; clear hev hb1 hg1))
    | (go_at_call 22; go_must (refine (hap.out _ HB1.out.b).mono ?_; rintro e w2 ⟨mb, lv, L, rfl, hm, hld⟩; have hcall := hid (hal.out w1 w2 mb lv L HB1.out.b hm hld); clear hm hld))
    | (go_at_call 23; go_must (refine hcall.out.mono ?_; rintro e w3 ⟨rfl, hb3, E, hU, L3, hm3, hl3⟩; have HB3 := hid (HB1.out.next hb3); have hg3 := HB3.out.g; have zg3 := lt_of_block hg3; obtain ⟨⟨v0, v1⟩, _⟩ := blk2y hg3; have hU3 := hid hU; have hcg := hid (hgr.out w1 w3 mb lv L3 E HB1.out.b hU hm3 hl3); clear hb3 hg3 hU hm3 hl3))
    | (go_at_call 25; go_must (refine hcg.out.mono ?_; rintro e w4 ⟨⟨na', nc', ra', rc', rfl, hGr⟩, hb4⟩; have HB4 := hid (HB1.out.next hb4); have hcq := hid (hqu.out w4 E na' nc' ra' rc' hU3.out hGr); clear hGr hb4))
    | (go_at_call 24; go_must (refine hcq.out.mono ?_; rintro e w5 ⟨⟨t, n5, c5, r5, d5, avs5, rfl, hLS, hO5⟩, hb5⟩; have HB5 := hid (HB4.out.next hb5); have hLS' := hid hLS; have hO5' := hid hO5; have hs4 := hid HB4.out.b.size; have hr5 := HB5.out.r; have zr5 := lt_of_block hr5; obtain ⟨⟨t0, t1⟩, t2, t3⟩ := blk2y hr5; have hzz := hid (lt_of_block HB4.out.r); clear hLS hO5 hb5 hr5)))
  obtain ⟨g1, g2⟩ := HB5.out.fin (.slice n5 t.nodes.length c5) (.slice r5 t.roots.length d5)
  have g3 := (Below.heap_alloc _ (.cells #[.slice n5 t.nodes.length c5, .slice r5 t.roots.length d5] 25) _ (lt_of_block g1)).trans g1
  have hsz : W.heap.size ≤ ((w5.setCell ⟨W.heap.size + 1, 0, none⟩ (.slice n5 t.nodes.length c5)).setCell ⟨W.heap.size + 1, 1, none⟩ (.slice r5 t.roots.length d5)).heap.size := g2.size
  have g4 := g2.alloc hsz (.cells #[.slice n5 t.nodes.length c5, .slice r5 t.roots.length d5] 25)
  have hO6 := og_base (og_keep (w' := ((w5.setCell ⟨W.heap.size + 1, 0, none⟩ (.slice n5 t.nodes.length c5)).setCell ⟨W.heap.size + 1, 1, none⟩ (.slice r5 t.roots.length d5)).alloc (.cells #[.slice n5 t.nodes.length c5, .slice r5 t.roots.length d5] 25)) hO5'.out (fun k h1 h2 => by
    have h3 := hzz.out
    rw [Below.heap_alloc _ _ _ (by simpa using h2), Below.heap_setCell _ _ _ _ (by show k ≠ W.heap.size + 1; omega), Below.heap_setCell _ _ _ _ (by show k ≠ W.heap.size + 1; omega)])) hs4.out
  exact bodyPost_ret (ret_gbe Try.results7 (by rfl) (by rfl) (by rfl) g3) rfl ⟨⟨t, n5, c5, r5, d5, avs5, rfl, hLS'.out, hO6⟩, g4⟩
end Go.Proofs.Ytllafbghomohhaa

/- The fixed fact of layer 10. -/
namespace Go.Proofs.Ytllafbghomohhaa
open Go.RowKit

abbrev fS : ByteArray := ⟨#[102]⟩
abbrev aS : ByteArray := ⟨#[97]⟩
/-- The graph that is asked, and what it becomes. -/
def g0S : Gf := ⟨[⟨1, ⟨#[]⟩, 0, []⟩, ⟨4, fS, 0, [0]⟩, ⟨2, aS, 0, []⟩], [0]⟩
def g1S : Gf := ⟨[⟨1, ⟨#[]⟩, 0, []⟩, ⟨4, fS, 0, [1]⟩, ⟨2, aS, 0, []⟩], [1]⟩
theorem g0_good : Good g0S := by
  have hf : goodS fS = true := by decide
  have ha : goodS aS = true := by decide
  refine ⟨by decide, by decide, fun n hn => ?_, fun x hx => ?_⟩
  · have h : n = ⟨1, ⟨#[]⟩, 0, []⟩ ∨ n = ⟨4, fS, 0, [0]⟩ ∨ n = ⟨2, aS, 0, []⟩ := by simpa [g0S] using hn
    rcases h with rfl | rfl | rfl
    · simp [goodNd, ByteArray.toList_eq]
    · simp [goodNd, hf, strange, g0S]
    · simp [goodNd, ha]
  · have h : x = 0 := by simpa [g0S] using hx
    subst h
    decide
theorem chk0 : chkS g0S [(0, 1)] = [] := by
  unfold chkS
  rw [if_pos (chk_of_good g0_good)]
  simp [ixOf, badP, strange, g0S]
theorem chk1 : chkS g0S [(1, 2)] = [] := by
  unfold chkS
  rw [if_pos (chk_of_good g0_good)]
  simp [ixOf, badP, strange, g0S]
theorem nd_0 : ndN g0S.nodes 0 = ⟨1, ⟨#[]⟩, 0, []⟩ := rfl
theorem nd_1 : ndN g0S.nodes 1 = ⟨4, fS, 0, [0]⟩ := rfl
theorem nd_2 : ndN g0S.nodes 2 = ⟨2, aS, 0, []⟩ := rfl
theorem no1 : NoSol g0S.nodes ([((1 : Int), (2 : Int))].map natP) := fun R hR hp => by
  have h := hp (1, 2) (by simp [natP])
  have := (hR.lab 1 2 (by decide) (by decide) h (by rw [nd_1]; decide) (by rw [nd_2]; decide)).1.1
  rw [nd_1, nd_2] at this
  exact absurd this (by decide)
theorem yes0 : ¬ NoSol g0S.nodes ([((0 : Int), (1 : Int))].map natP) := fun hn => by
  refine hn (fun x y => x = y ∨ (x ≤ 1 ∧ y ≤ 1)) ⟨⟨fun x => Or.inl rfl, fun x y h => ?_, fun x y z h k => ?_⟩, fun x y hx hy h hkx hky => ?_⟩ (fun p hp => ?_)
  · rcases h with e | e
    · exact Or.inl e.symm
    · exact Or.inr ⟨e.2, e.1⟩
  · rcases h with e | e
    · subst e; exact k
    · rcases k with f | f
      · subst f; exact Or.inr e
      · exact Or.inr ⟨e.1, f.2⟩
  · have e : x = y := by
      rcases h with e | ⟨e1, e2⟩
      · exact e
      · have hx1 : x ≠ 0 := fun e => hkx (by rw [e, nd_0])
        have hy1 : y ≠ 0 := fun e => hky (by rw [e, nd_0])
        omega
    subst e
    exact ⟨labS.refl _, fun k _ => Or.inl rfl⟩
  · have e : p = (0, 1) := by simpa [natP] using hp
    subst e
    exact Or.inr ⟨by decide, by decide⟩
theorem g1_no (x y : Nat) (hx : x < 3) (hy : y < 3) (hne : x ≠ y) : ¬ Al g1S (x : Int) (y : Int) := fun h => by
  obtain ⟨_, _, ⟨h1, _, _, _, h5⟩, _⟩ := al_sim g1S _ _ h
  have ex : x = 0 ∨ x = 1 ∨ x = 2 := by omega
  have ey : y = 0 ∨ y = 1 ∨ y = 2 := by omega
  rcases ex with rfl | rfl | rfl <;> rcases ey with rfl | rfl | rfl <;> first | exact absurd rfl hne | exact absurd h1 (by decide) | exact absurd (h5 rfl) (by decide)
theorem g1_trim {e : Nat → Nat → Bool} (he : ∀ x y : Nat, (e x y = true ↔ Al g1S (x : Int) (y : Int))) : trimF (quoF e g1S) = ⟨[⟨4, fS, 0, [0]⟩], [0]⟩ := by
  have hf : ∀ x y : Nat, x < 3 → y < 3 → x ≠ y → e x y = false := fun x y hx hy hne => by
    cases h : e x y
    · rfl
    · exact absurd ((he x y).1 h) (g1_no x y hx hy hne)
  have h1 := hf 1 0 (by omega) (by omega) (by omega)
  have h2 := hf 2 0 (by omega) (by omega) (by omega)
  have h3 := hf 2 1 (by omega) (by omega) (by omega)
  have hc : csF e 3 = [0, 1, 2] ∧ lsF e 3 = [0, 1, 2] := by simp [csF, lsF, numF, fnd, h1, h2, h3]
  have c1 : clsI e 3 1 = 1 := by simp [clsI, hc.1, ints]
  have hq : quoF e g1S = g1S := by simp [quoF, g1S, hc.2, renum, c1]
  rw [hq]
  have hm : metF g1S = [1] := by simp [metF, g1S, meetF, Gf.argsOf]
  unfold trimF
  rw [hm]
  simp [g1S, renum, posF, pos]
theorem least0 {t : Gf} (h : LeastS g0S [(0, 1)] t) : t = ⟨[⟨4, fS, 0, [0]⟩], [0]⟩ := by
  obtain ⟨E, ee, hU, hd, rfl⟩ := h
  obtain ⟨_, hp, _⟩ := hU.done
  have e01 : E 0 = E 1 := hp (0, 1) (by simp [natP])
  obtain ⟨h1, h2, _⟩ := hU.rep 1 (by decide) (by rw [nd_1]; decide)
  have hr := hU.rng 1 (by decide)
  have hr3 : E 1 < 3 := hr
  have e1 : E 1 = 1 := by
    have hc : E 1 = 0 ∨ E 1 = 1 ∨ E 1 = 2 := by omega
    rcases hc with h | h | h
    · rw [h, nd_0] at h1; exact absurd rfl h1
    · exact h
    · have := h2.1
      rw [h, nd_1, nd_2] at this
      exact absurd this (by decide)
  have hg : gE g0S.nodes g0S.roots E = g1S := by
    simp [gE, g0S, g1S, renum, EI, e01, e1]
  rw [hg] at hd ⊢
  exact g1_trim hd
end Go.Proofs.Ytllafbghomohhaa

/- The fixed fact of layer 10: its walk. -/
namespace Go.Proofs.Ytllafbghomohhaa
open Go.RowKit

abbrev oA : Obj := .cells #[.int .i64 0] 3
abbrev oB (q : Nat) : Obj := .cells #[.int .i64 1, .string ⟨#[]⟩, .int .i64 0, .slice none 0 0, .int .i64 4, .string fS, .int .i64 0, .slice (some ⟨q, 0, none⟩) 1 1, .int .i64 2, .string aS, .int .i64 0, .slice none 0 0] 56
theorem gr_lit {w : World} {a b c : Nat} (ha : w.heap[a]? = some oA) (hb : w.heap[b]? = some (oB a)) (hc : w.heap[c]? = some oA) : Gr w (.slice (some ⟨b, 0, none⟩) 3 3) (.slice (some ⟨c, 0, none⟩) 1 1) g0S := by
  have hri : ∀ q, w.heap[q]? = some oA → Ri w (.slice (some ⟨q, 0, none⟩) 1 1) [0] := fun q hq => ⟨some ⟨q, 0, none⟩, 1, rfl, fun j hj => by
    have e : j = 0 := by simpa using hj
    subst e
    exact ⟨q, 0, rfl, by simp [World.cell?, hq]⟩⟩
  refine ⟨⟨some ⟨b, 0, none⟩, 3, rfl, fun j hj => ?_⟩, hri c hc⟩
  have hj3 : j = 0 ∨ j = 1 ∨ j = 2 := by
    have : j < 3 := hj
    omega
  rcases hj3 with rfl | rfl | rfl
  · exact ⟨b, 0, .slice none 0 0, rfl, by simp [World.cell?, hb, g0S], by simp [World.cell?, hb, g0S], by simp [World.cell?, hb, g0S], by simp [World.cell?, hb], Ri.nil _⟩
  · exact ⟨b, 0, .slice (some ⟨a, 0, none⟩) 1 1, rfl, by simp [World.cell?, hb, g0S], by simp [World.cell?, hb, g0S], by simp [World.cell?, hb, g0S], by simp [World.cell?, hb], hri a ha⟩
  · exact ⟨b, 0, .slice none 0 0, rfl, by simp [World.cell?, hb, g0S], by simp [World.cell?, hb, g0S], by simp [World.cell?, hb, g0S], by simp [World.cell?, hb], Ri.nil _⟩
theorem rp_lit {w : World} {q : Nat} {x y : Int} (h : w.heap[q]? = some (.cells #[.int .i64 x, .int .i64 y] 48)) : Rp w (.slice (some ⟨q, 0, none⟩) 1 1) [(x, y)] := ⟨some ⟨q, 0, none⟩, 1, rfl, fun j hj => by
  have e : j = 0 := by simpa using hj
  subst e
  exact ⟨q, 0, rfl, by simp [World.cell?, h], by simp [World.cell?, h]⟩⟩
abbrev oD (b c : Nat) : Obj := .cells #[.slice (some ⟨b, 0, none⟩) 3 3, .slice (some ⟨c, 0, none⟩) 1 1] 25
/-- The world behind the literal. -/
abbrev litW (w : World) : World := (((w.alloc oA).alloc (oB w.heap.size)).alloc oA).alloc (oD (w.heap.size + 1) (w.heap.size + 1 + 1))
structure Lt (w w' : World) : Prop where
  a : w'.heap[w.heap.size]? = some oA
  b : w'.heap[w.heap.size + 1]? = some (oB w.heap.size)
  c : w'.heap[w.heap.size + 1 + 1]? = some oA
  d : w'.heap[w.heap.size + 1 + 1 + 1]? = some (oD (w.heap.size + 1) (w.heap.size + 1 + 1))
  bel : Below w.heap.size w w'
theorem Lt.new (w : World) : Lt w (litW w) := by
  have s1 : (w.alloc oA).heap.size = w.heap.size + 1 := by simp
  have s2 : ((w.alloc oA).alloc (oB w.heap.size)).heap.size = w.heap.size + 1 + 1 := by simp
  have s3 : (((w.alloc oA).alloc (oB w.heap.size)).alloc oA).heap.size = w.heap.size + 1 + 1 + 1 := by simp
  have h1 := heap_alloc_new w oA
  have h2 := heap_alloc_new (w.alloc oA) (oB w.heap.size)
  have h3 := heap_alloc_new ((w.alloc oA).alloc (oB w.heap.size)) oA
  have h4 := heap_alloc_new (((w.alloc oA).alloc (oB w.heap.size)).alloc oA) (oD (w.heap.size + 1) (w.heap.size + 1 + 1))
  rw [s1] at h2
  rw [s2] at h3
  rw [s3] at h4
  refine ⟨?_, ?_, ?_, h4, ?_⟩
  · exact (Below.heap_alloc _ _ _ (by rw [s3]; omega)).trans ((Below.heap_alloc _ _ _ (by rw [s2]; omega)).trans ((Below.heap_alloc _ _ _ (by rw [s1]; omega)).trans h1))
  · exact (Below.heap_alloc _ _ _ (by rw [s3]; omega)).trans ((Below.heap_alloc _ _ _ (by rw [s2]; omega)).trans h2)
  · exact (Below.heap_alloc _ _ _ (by rw [s3]; omega)).trans h3
  · exact (((below_alloc w oA).alloc (by rw [s1]; omega) _).alloc (by rw [s2]; omega) _).alloc (by rw [s3]; omega) _
theorem Lt.next {w w' w'' : World} (h : Lt w w') (hb : Below w'.heap.size w' w'') : Lt w w'' :=
  ⟨(hb.block _ (lt_of_block h.a)).trans h.a, (hb.block _ (lt_of_block h.b)).trans h.b, (hb.block _ (lt_of_block h.c)).trans h.c, (hb.block _ (lt_of_block h.d)).trans h.d, Below.next h.bel hb⟩
set_option maxRecDepth 100000 in
set_option maxHeartbeats 4000000 in
theorem slives_any (w : World) : Calls Try.prog 5 #[] w fun e w' => e = .returned (.bool true) ∧ Below w.heap.size w w' := by
  have hL0 := hid (Lt.new w)
  have hs1 : Hid (∀ (w1 : World) (n : Nat), n = w1.heap.size → Lt w w1 → Calls Try.prog 7 #[.agg #[.slice (some ⟨w.heap.size + 1, 0, none⟩) 3 3, .slice (some ⟨w.heap.size + 1 + 1, 0, none⟩) 1 1], .slice (some ⟨n, 0, none⟩) 1 1] (w1.alloc (.cells #[.int .i64 0, .int .i64 1] 48)) fun e w' => Lt w w' ∧ ∃ nb no nc ra rc aa ac, e = .returned (.tuple #[.agg #[.slice (some ⟨nb, no, none⟩) 1 nc, .slice ra 1 rc], .bool true, .nilIface]) ∧ w'.cell? ⟨nb, no + 3, none⟩ = some (.slice aa 1 ac)) := fun w1 n en h1 => by
    subst en
    have hb := below_alloc w1 (.cells #[.int .i64 0, .int .i64 1] 48)
    have h2 := h1.next hb
    refine (solve_yes (ps := [(0, 1)]) (gr_lit h2.a h2.b h2.c) (good_sized g0_good) (rp_lit (heap_alloc_new w1 _)) (by simp) chk0 yes0).mono ?_
    rintro e w' ⟨⟨t, na, nc, ra, rc, avs, rfl, hLS, hO⟩, hb'⟩
    have ht := least0 hLS
    subst ht
    obtain ⟨ao, c, e1, hn⟩ := hO.gr.1
    injection e1 with e2 _ _
    subst e2
    obtain ⟨nb, no, av, rfl, _, _, _, h3, hri⟩ := hn 0 (by simp)
    obtain ⟨aa, ac, rfl, _⟩ := hri
    simp only [Nat.zero_mul, Nat.add_zero] at h3
    exact ⟨h2.next hb', nb, no, nc, ra, rc, aa, ac, rfl, h3⟩
  have hs2 : Hid (∀ (w1 : World) (n : Nat), n = w1.heap.size → Lt w w1 → Calls Try.prog 7 #[.agg #[.slice (some ⟨w.heap.size + 1, 0, none⟩) 3 3, .slice (some ⟨w.heap.size + 1 + 1, 0, none⟩) 1 1], .slice (some ⟨n, 0, none⟩) 1 1] (w1.alloc (.cells #[.int .i64 1, .int .i64 2] 48)) fun e w' => e = .returned (.tuple #[.agg #[.slice none 0 0, .slice none 0 0], .bool false, .nilIface]) ∧ Below w.heap.size w w') := fun w1 n en h1 => by
    subst en
    have hb := below_alloc w1 (.cells #[.int .i64 1, .int .i64 2] 48)
    have h2 := h1.next hb
    refine (solve_no (ps := [(1, 2)]) (gr_lit h2.a h2.b h2.c) (good_sized g0_good) (rp_lit (heap_alloc_new w1 _)) (by simp) chk1 no1).mono ?_
    rintro e w' ⟨rfl, hb'⟩
    exact ⟨rfl, (h2.next ⟨hb'.os, hb'.tape, hb'.output, hb'.size, hb'.block⟩).bel⟩
  have m1 : True := trivial
  go_enter Try.func5, Try.ntmps5
  go_wp2_with (first
    | (have _m := m1; go_at_call 7; go_must (refine (hs1.out (litW w) (w.heap.size + 1 + 1 + 1 + 1) (by simp) hL0.out).mono ?_; clear m1 _m hs1; rintro e w1 ⟨hL1, nb, no, nc, ra, rc, aa, ac, rfl, h3⟩; have z3 := lt_of_cell h3; have HL1 := hid (hL1.next (below_alloc w1 (.cells #[.slice (some ⟨nb, no, none⟩) 1 nc, .slice ra 1 rc] 25))); have hd1 := HL1.out.d; have zd := lt_of_block hd1; obtain ⟨⟨d0, d1⟩, _⟩ := blk2y hd1; have zw := lt_of_block hL1.d; clear hL1 hd1))
    | (go_at_call 7; go_must (refine (hs2.out (w1.alloc (.cells #[.slice (some ⟨nb, no, none⟩) 1 nc, .slice ra 1 rc] 25)) (w1.heap.size + 1) (by simp) HL1.out).mono ?_; rintro e w2 ⟨rfl, hb2⟩)))
  go_ret
  exact ⟨rfl, hb2⟩
end Go.Proofs.Ytllafbghomohhaa

/- The size of graphs: Small of package tendrilhand. -/
namespace Go.Proofs.Ytllafbghomohhaa
open Go.RowKit

/-- Is a graph small? -/
def smallK (K : Nat) (g : Gf) : Bool := decide (g.nodes.length ≤ K) && decide (g.roots.length ≤ K) && g.nodes.all (fun n => decide (n.args.length ≤ 40))
theorem smallK_fits {K : Nat} {g : Gf} (h : smallK K g = true) : (∀ n ∈ g.nodes, n.args.length ≤ 40) ∧ g.nodes.length ≤ K ∧ g.roots.length ≤ K := by
  simp only [smallK, Bool.and_eq_true, decide_eq_true_eq, List.all_eq_true] at h
  obtain ⟨⟨h1, h2⟩, h3⟩ := h
  exact ⟨fun n hn => h3 n hn, h1, h2⟩
set_option maxRecDepth 100000 in
set_option maxHeartbeats 2000000 in
theorem smallK_any {K : Nat} (hK : K ≤ 5000) {W : World} {nv rv : Value} {g : Gf} (hG : Gr W nv rv g) :
    Calls Try.prog 20 #[.agg #[nv, rv], .int .i64 (K : Int)] W fun e w' => e = .returned (.bool (smallK K g)) ∧ Below W.heap.size W w' := by
  obtain ⟨l, lr⟩ := g
  obtain ⟨ua, uc, rfl, hu⟩ := hG.1
  obtain ⟨ra, rc, rfl, _⟩ := hG.2
  dsimp only at hu ⊢
  have hE := hid (show smallK K ⟨l, lr⟩ = (decide (l.length ≤ K) && decide (lr.length ≤ K) && l.all (fun n => decide (n.args.length ≤ 40))) from rfl)
  generalize smallK K ⟨l, lr⟩ = R at hE ⊢
  by_cases h1 : K < l.length
  · have h1' : (K : Int) < (l.length : Int) := by omega
    have hR := hid (show R = false by rw [hE.out, decide_eq_false (by omega : ¬ l.length ≤ K)]; rfl)
    clear hE hu hG
    go_enter Try.func20, Try.ntmps20
    go_wp2
    go_ret
    exact ⟨ret_bool hR.out.symm, below_alloc _ _⟩
  · by_cases h2 : K < lr.length
    · have h1' : ¬ (K : Int) < (l.length : Int) := by omega
      have h2' : (K : Int) < (lr.length : Int) := by omega
      have hR := hid (show R = false by rw [hE.out, decide_eq_false (by omega : ¬ lr.length ≤ K)]; simp)
      clear hE hu hG
      go_enter Try.func20, Try.ntmps20
      go_wp2
      go_ret
      exact ⟨ret_bool hR.out.symm, below_alloc _ _⟩
    · have h1' : ¬ (K : Int) < (l.length : Int) := by omega
      have h2' : ¬ (K : Int) < (lr.length : Int) := by omega
      go_enter Try.func20, Try.ntmps20
      go_wp2
      go_loopw [22] (fun i wr => ∃ k : Nat, k ≤ l.length ∧ i = .int .i64 k ∧ Hid (Below W.heap.size W wr) ∧ Hid (∀ j, j < k → (l.getD j nd0).args.length ≤ 40)) (fun i _ => l.length - (intOf i).toNat)
      case atStart => exact ⟨0, Nat.zero_le _, rfl, below_alloc _ _, fun j hj => absurd hj (Nat.not_lt_zero _)⟩
      case round =>
        obtain ⟨k, hk, rfl, hb, hp⟩ := hrel
        by_cases hlt : k < l.length
        · obtain ⟨ub, uo, uav, rfl, hcu⟩ := hu k hlt
          obtain ⟨p0, p1, p2, p3, hA⟩ := hcu.below hb.out
          obtain ⟨aa, ac, rfl, _⟩ := hA
          have hin : l.getD k nd0 ∈ l := by simp [List.getD, hlt]
          have hlp := lt_of_cell p0
          by_cases h40 : 40 < (l.getD k nd0).args.length
          · have hR := hid (show R = false by
              rw [hE.out]
              have : l.all (fun n => decide (n.args.length ≤ 40)) = false := List.all_eq_false.2 ⟨_, hin, by simpa using h40⟩
              rw [this]
              simp)
            clear hin hcu hu hp hE hG
            generalize l.getD k nd0 = x at p0 p1 p2 p3 h40
            obtain ⟨xk, xs, xn, xl⟩ := x
            dsimp only at p0 p1 p2 p3 h40
            have h40' : (40 : Int) < (xl.length : Int) := by omega
            go_wp2
            go_ret
            exact ⟨ret_bool hR.out.symm, hb.out.alloc hb.out.size _⟩
          · have hp' : Hid (∀ j, j < k + 1 → (l.getD j nd0).args.length ≤ 40) := fun j hj => by
              rcases Nat.lt_or_eq_of_le (Nat.le_of_lt_succ hj) with h | h
              · exact hp.out j h
              · subst h; omega
            clear hin hcu hu hp hE hG
            generalize l.getD k nd0 = x at p0 p1 p2 p3 h40
            obtain ⟨xk, xs, xn, xl⟩ := x
            dsimp only at p0 p1 p2 p3 h40
            have h40' : ¬ (40 : Int) < (xl.length : Int) := by omega
            go_wp2
            go_roundw
            case rel => exact ⟨k + 1, by omega, congrArg (Value.int .i64) (by omega), hb.out.alloc hb.out.size _, hp'⟩
            case measure => simp [intOf]; omega
        · have hR := hid (show R = true by
            rw [hE.out, decide_eq_true (by omega : l.length ≤ K), decide_eq_true (by omega : lr.length ≤ K)]
            simp only [Bool.true_and, List.all_eq_true, decide_eq_true_eq]
            intro n hn
            obtain ⟨i, hi, rfl⟩ := List.getElem_of_mem hn
            have := hp.out i (by omega)
            simpa [List.getD, hi] using this)
          clear hE hu hG hp
          go_wp2
          go_ret
          exact ⟨ret_bool hR.out.symm, hb.out⟩
end Go.Proofs.Ytllafbghomohhaa
