/- The reference's Join, walked. -/
import Derived.Test.YtfjifcflcpmjaaaGrSides
import Derived.Test.YtfjifcflcpmjaaaGrWays
namespace Go.Proofs.Ytfjifcflcpmjaaa
open Go.RowKit

/-- What Join answers: the graph. -/
def ansG (gs : List Gf) : Gf := match joinC gs with
  | [] => joinG gs
  | _ => ⟨[], []⟩
theorem ans_good {gs : List Gf} (h : joinC gs = []) : ansG gs = joinG gs := by unfold ansG; rw [h]
theorem ans_bad {gs : List Gf} (h : joinC gs ≠ []) : ansG gs = ⟨[], []⟩ := by
  unfold ansG
  split
  · rename_i e; exact absurd e h
  · rfl
theorem join_ans {W : World} {v : Value} {gs : List Gf} (hG : Rg W v gs) (hS : ∀ g ∈ gs, Sized g) (hl : gs.length ≤ 1000) :
    Calls Try.prog 26 #[v] W fun e w' => (∃ nv rv ev, e = .returned (.tuple #[.agg #[nv, rv], ev]) ∧ Gr w' nv rv (ansG gs) ∧ Er w' ev (joinC gs)) ∧ Below W.heap.size W w' := by
  refine (join_any hG hS hl).mono ?_
  rintro e w' (⟨h, ⟨k, rfl, hE⟩, hb⟩ | ⟨h, ⟨nv, rv, avs, rfl, hO⟩, hb⟩)
  · exact ⟨⟨_, _, _, rfl, by rw [ans_bad h]; exact ⟨Rn.nil _, Ri.nil _⟩, hE⟩, hb⟩
  · exact ⟨⟨_, _, _, rfl, by rw [ans_good h]; exact hO.gr, by rw [h]; exact rfl⟩, hb⟩
theorem one_zero {x : Int × Int} (h : one x = []) : x.1 = 0 := by
  unfold one at h
  split at h
  · assumption
  · cases h
set_option maxRecDepth 100000 in
set_option maxHeartbeats 400000 in
theorem rled_any {W : World} (k : Int) (c a : Int) (cv : Value) :
    Calls Try.prog 55 #[.int .i64 44, .int .i64 k, .agg #[.int .i64 c, .int .i64 a, .string ⟨#[]⟩, cv]] W fun e w' => (∃ b, e = .returned (.agg #[.int .i64 44, .int .i64 k, .string ⟨#[]⟩, .slice (some ⟨b, 0, none⟩) 1 1]) ∧ W.heap.size ≤ b ∧ w'.heap[b]? = some (.cells #[.int .i64 c, .int .i64 a, .string ⟨#[]⟩, cv] 35)) ∧ Below W.heap.size W w' := by
  go_enter Try.func55, Try.ntmps55
  go_wp2
  refine bodyPost_ret (v := .agg #[.int .i64 44, .int .i64 k, .string ⟨#[]⟩, .slice (some ⟨W.heap.size + 1 + 1, 0, none⟩) 1 1]) (by simp [results, Try.results55, go_sem]) rfl ⟨⟨W.heap.size + 1 + 1, rfl, by omega, ?_⟩, ((below_alloc W _).alloc (by simp) _).alloc (by simp <;> omega) _⟩
  have := heap_alloc_new ((W.alloc (.cells #[.int .i64 c, .int .i64 a, .string ⟨#[]⟩, cv] 35)).alloc (.cells #[.int .i64 44, .int .i64 k, .string ⟨#[]⟩, .slice (some ⟨W.heap.size + 1 + 1, 0, none⟩) 1 1] 35)) (.cells #[.int .i64 c, .int .i64 a, .string ⟨#[]⟩, cv] 35)
  simpa using this
theorem bad_no (a : Int) (w : World) : Calls Try.prog 18 #[.agg #[.int .i64 0, .int .i64 a, .string ⟨#[]⟩, .slice none 0 0]] w fun e w' => e = .returned (.bool false) ∧ Below w.heap.size w w' := by
  refine (bad_flt (0, a) w).mono ?_
  rintro e w' ⟨rfl, hb⟩
  exact ⟨by simp [one], hb⟩
theorem bad_yes {c : Int} (hc : c ≠ 0) (a : Int) (w : World) : Calls Try.prog 18 #[.agg #[.int .i64 c, .int .i64 a, .string ⟨#[]⟩, .slice none 0 0]] w fun e w' => e = .returned (.bool true) ∧ Below w.heap.size w w' := by
  refine (bad_flt (c, a) w).mono ?_
  rintro e w' ⟨rfl, hb⟩
  exact ⟨by simp [one, hc], hb⟩
theorem one_not {x : Int × Int} (h : one x ≠ []) : x.1 ≠ 0 := fun e => h (by simp [one, e])
theorem ret_gf {w : World} {fn : Func} {s t : Tmp} (hfn : fn.results = #[.cell t 25, .cell s 35]) {tmps : Array Value} {q r : Nat} {u0 u1 x0 x1 x2 x3 : Value} (h4 : tmps[t]?.getD undef = .pointer (some ⟨q, 0, none⟩)) (hs : tmps[s]?.getD undef = .pointer (some ⟨r, 0, none⟩)) (hq : w.heap[q]? = some (.cells #[u0, u1] 25)) (hr : w.heap[r]? = some (.cells #[x0, x1, x2, x3] 35)) : (results fn tmps).run Try.prog w = .ok (.tuple #[.agg #[u0, u1], .agg #[x0, x1, x2, x3]]) w := by
  obtain ⟨⟨z0, z1⟩, _⟩ := blk2 hq
  obtain ⟨⟨y0, y1, y2, y3⟩, _⟩ := blk4 hr
  simp [results, hfn, go_sem, h4, hs, z0, z1, y0, y1, y2, y3]
/-- The two results, written. -/
abbrev six (w : World) (q : Nat) (u0 u1 x0 x1 x2 x3 : Value) : World := (((((w.setCell ⟨q, 0, none⟩ u0).setCell ⟨q, 1, none⟩ u1).setCell ⟨q + 1, 0, none⟩ x0).setCell ⟨q + 1, 1, none⟩ x1).setCell ⟨q + 1, 2, none⟩ x2).setCell ⟨q + 1, 3, none⟩ x3
theorem six_two {w : World} {q : Nat} {a0 a1 b0 b1 b2 b3 : Value} {T U : TypeId} (e0 : w.heap[q]? = some (.cells #[a0, a1] T)) (e1 : w.heap[q + 1]? = some (.cells #[b0, b1, b2, b3] U)) (u0 u1 x0 x1 x2 x3 : Value) :
    (six w q u0 u1 x0 x1 x2 x3).heap[q]? = some (.cells #[u0, u1] T) ∧ (six w q u0 u1 x0 x1 x2 x3).heap[q + 1]? = some (.cells #[x0, x1, x2, x3] U) ∧ ∀ k, k ≠ q → k ≠ q + 1 → (six w q u0 u1 x0 x1 x2 x3).heap[k]? = w.heap[k]? := by
  refine ⟨?_, ?_, fun k h1 h2 => ?_⟩
  · rw [Below.heap_setCell _ _ _ _ (by simp), Below.heap_setCell _ _ _ _ (by simp), Below.heap_setCell _ _ _ _ (by simp), Below.heap_setCell _ _ _ _ (by simp)]
    exact blk2_set e0
  · exact box_set0 (by rw [Below.heap_setCell _ _ _ _ (by simp), Below.heap_setCell _ _ _ _ (by simp)]; exact e1)
  · rw [Below.heap_setCell _ _ _ _ h2, Below.heap_setCell _ _ _ _ h2, Below.heap_setCell _ _ _ _ h2, Below.heap_setCell _ _ _ _ h2, Below.heap_setCell _ _ _ _ h1, Below.heap_setCell _ _ _ _ h1]
theorem six_below {W w : World} (h : Below W.heap.size W w) (u0 u1 x0 x1 x2 x3 : Value) : Below W.heap.size W (six w W.heap.size u0 u1 x0 x1 x2 x3) :=
  (((((h.setCell (Nat.le_refl _) _).setCell (Nat.le_refl _) _).setCell (Nat.le_succ _) _).setCell (Nat.le_succ _) _).setCell (Nat.le_succ _) _).setCell (Nat.le_succ _) _
set_option maxRecDepth 100000 in
set_option maxHeartbeats 4000000 in
theorem rjoin_any {W : World} {v : Value} {gs : List Gf} (hG : Rg W v gs) (hS : ∀ g ∈ gs, Sized g) (hl : gs.length ≤ 1000) :
    Calls Try.prog 27 #[v] W fun e w' => (∃ nv rv c a co cn ck, e = .returned (.tuple #[.agg #[nv, rv], .agg #[.int .i64 c, .int .i64 a, .string ⟨#[]⟩, .slice co cn ck]]) ∧ Gr w' nv rv (ansG gs) ∧ Fl w' c a (.slice co cn ck) (joinC gs)) ∧ Below W.heap.size W w' := by
  have hG0 := hid hG
  obtain ⟨ga, gc, rfl, hGc⟩ := hG
  go_enter Try.func27, Try.ntmps27
  go_wp2
  go_loopw [4, 5, 6] (fun x y i wr => ∃ k : Nat, k ≤ gs.length ∧ i = .int .i64 k ∧ x = .int .i64 (totN (gs.take k) : Int) ∧ y = .int .i64 (totR (gs.take k) : Int) ∧ Hid (Below W.heap.size W wr) ∧ Hid (wr.heap[W.heap.size]? = some (.cells #[.slice none 0 0, .slice none 0 0] 25)) ∧ Hid (wr.heap[W.heap.size + 1]? = some (.cells #[.int .i64 0, .int .i64 0, .string ⟨#[]⟩, .slice none 0 0] 35)) ∧ Hid (∀ j, j < k → badG (gs.getD j gf0) = false) ∧ Hid (∀ g ∈ gs.take k, Good g)) (fun _ _ i _ => gs.length - (intOf i).toNat)
  case atStart => exact ⟨0, Nat.zero_le _, rfl, rfl, rfl, (below_alloc W _).alloc (by simp) _, keepJ (heap_alloc_new W _) (below_alloc _ _), by have := heap_alloc_new (W.alloc (.cells #[.slice none 0 0, .slice none 0 0] 25)) (.cells #[.int .i64 0, .int .i64 0, .string ⟨#[]⟩, .slice none 0 0] 35); simpa [Hid] using this, fun j hj => absurd hj (Nat.not_lt_zero _), fun g hg => by simp at hg⟩
  case round =>
    obtain ⟨k, hk, rfl, rfl, rfl, hb, hq, hq2, hp, hgd⟩ := hrel
    have htl := tot_le _ hgd.out
    have htk : (gs.take k).length = k := by simp; omega
    rw [htk] at htl
    by_cases hlt : k < gs.length
    · obtain ⟨gb, go, nv, rv, rfl, g0, g1, hgr⟩ := hGc k hlt
      have d0 : wr.cell? ⟨gb, go + k * 2, none⟩ = some nv := by rw [hb.out.cell (p := ⟨gb, go + k * 2, none⟩) (lt_of_cell g0)]; exact g0
      have d1 : wr.cell? ⟨gb, go + k * 2 + 1, none⟩ = some rv := by rw [hb.out.cell (p := ⟨gb, go + k * 2 + 1, none⟩) (lt_of_cell g1)]; exact g1
      have hmem : gs.getD k gf0 ∈ gs := by simp [List.getD, hlt]
      have hck : ∀ w : World, Below wr.heap.size wr w → _ := fun w h => rcheck_any (W := w) ((hgr.below hb.out).below h) (hS _ hmem)
      have hts := gtake_snoc hlt
      have htn := tot_snoc (gs.take k) (gs.getD k gf0)
      obtain ⟨na, nc, rfl, _⟩ := hgr.1
      obtain ⟨ra, rc, rfl, _⟩ := hgr.2
      have hbs := hb.out.size
      have hlb := lt_of_cell d0
      by_cases hgood : one (chk (gs.getD k gf0)) = []
      · have hgg := chk_good hgood
        have hgn := hgg.nodes
        have hgro := hgg.roots
        have hc0 : (chk (gs.getD k gf0)).1 = 0 := one_zero hgood
        have hp' : Hid (∀ j, j < k + 1 → badG (gs.getD j gf0) = false) := fun j hj => by
          rcases Nat.lt_or_eq_of_le (Nat.le_of_lt_succ hj) with h | h
          · exact hp.out j h
          · subst h
            unfold badG
            rw [decide_eq_true hgood]
            rfl
        have hgd' : Hid (∀ g ∈ gs.take (k + 1), Good g) := fun g hg => by
          rw [hts] at hg
          rcases List.mem_append.1 hg with h | h
          · exact hgd.out g h
          · simp only [List.mem_singleton] at h
            rw [h]
            exact hgg
        rw [← hts] at htn
        have htN := hid htn.1
        have htR := hid htn.2
        unfold flt at hck
        rw [hc0] at hck
        generalize (chk (gs.getD k gf0)).2 = ca at hck
        generalize gs.getD k gf0 = X at d0 d1 hck hgn hgro htN htR
        clear hgood hgr hp hgd hts htn hgg hG0 hGc hS htk hc0
        go_wp2_with (first
          | (go_at_call 12; refine (hck _ (by first | exact Below.refl _ _ | exact below_alloc wr _)).mono ?_; rintro e w1 ⟨rfl, hb1⟩)
          | (go_at_call 18; refine (bad_no _ _).mono ?_; rintro e w2 ⟨rfl, hb2⟩; replace hb1 := Below.next (Below.next hb1 (below_alloc w1 _)) hb2; replace d0 := (hb1.cell (p := ⟨gb, go + k * 2, none⟩) (lt_of_cell d0)).trans d0; replace d1 := (hb1.cell (p := ⟨gb, go + k * 2 + 1, none⟩) (lt_of_cell d1)).trans d1))
        go_roundw
        case rel => exact ⟨k + 1, by omega, congrArg (Value.int .i64) (by omega), congrArg (Value.int .i64) (by rw [htN.out]; omega), congrArg (Value.int .i64) (by rw [htR.out]; omega), Below.next hb.out hb1, keepJ hq.out hb1, keepJ hq2.out hb1, hp', hgd'⟩
        case measure => simp [intOf]; omega
      · have hix : ixOf badG gs = (k : Int) := ixOf_hit gf0 badG gs k hlt hp.out (by
          unfold badG
          rw [decide_eq_false hgood]
          rfl)
        have hJ := hid (show joinC gs = [(44, (k : Int)), chk (gs.getD k gf0)] by
          unfold joinC
          rw [hix, if_pos (by omega), Int.toNat_natCast])
        have hc0 := one_not hgood
        unfold flt at hck
        generalize gs.getD k gf0 = X at d0 d1 hck hJ hc0
        generalize hcx : chk X = cx at hck hJ hc0
        obtain ⟨cc, ca⟩ := cx
        dsimp only at hck hc0
        have hba := hid (bad_yes hc0 ca)
        have hld := hid (fun w : World => rled_any (W := w) (k : Int) cc ca (.slice none 0 0))
        clear hgood hgr hp hgd hts htn hG0 hGc hS htk hix hmem hcx
        go_wp2_with (first
          | (go_at_call 12; refine (hck _ (by first | exact Below.refl _ _ | exact below_alloc wr _)).mono ?_; rintro e w1 ⟨rfl, hb1⟩)
          | (go_at_call 18; refine (hba.out _).mono ?_; rintro e w2 ⟨rfl, hb2⟩; have f7 : w2.heap[w1.heap.size]? = some (.cells #[.int .i64 cc, .int .i64 ca, .string ⟨#[]⟩, .slice none 0 0] 35) := keepJ (heap_alloc_new w1 _) hb2; replace hb1 := Below.next (Below.next hb1 (below_alloc w1 _)) hb2; obtain ⟨⟨y0, y1, y2, y3⟩, _⟩ := blk4 f7)
          | (go_at_call 55; refine (hld.out _).mono ?_; rintro e w3 ⟨⟨lb, rfl, hlb3, hlq⟩, hb3⟩; have hz2 := lt_of_block (keepJ hq2.out hb1); replace hb1 := Below.next hb1 hb3; have e0 := keepJ hq.out hb1; have e1 := keepJ hq2.out hb1; obtain ⟨⟨x0, x1⟩, x2, x3⟩ := blk2 e0; obtain ⟨⟨v0, v1, v2, v3⟩, v4, v5, v6, v7⟩ := blk4 e1; have hz1 := lt_of_block e1))
        obtain ⟨s0, s1, s2⟩ := six_two e0 e1 (.slice none 0 0) (.slice none 0 0) (.int .i64 44) (.int .i64 k) (.string ⟨#[]⟩) (.slice (some ⟨lb, 0, none⟩) 1 1)
        refine bodyPost_ret (ret_gf Try.results27 (by rfl) (by rfl) s0 s1) rfl ⟨⟨_, _, _, _, _, _, _, rfl, ?_, ?_⟩, six_below (Below.next hb.out hb1) _ _ _ _ _ _⟩
        · rw [ans_bad (by rw [hJ.out]; simp)]
          exact ⟨Rn.nil _, Ri.nil _⟩
        · rw [hJ.out]
          obtain ⟨⟨p0, p1, p2, p3⟩, _⟩ := blk4 ((s2 lb (by omega) (by omega)).trans hlq)
          exact ⟨rfl, rfl, by decide, lb, 1, cc, ca, none, 0, 0, rfl, p0, p1, p2, p3, rfl, rfl, hc0, rfl⟩
    · have hix : ixOf badG gs = -1 := ixOf_miss gf0 badG gs (fun j hj => hp.out j (by omega))
      have hall : ∀ g ∈ gs, Good g := fun g hg => hgd.out g (by rw [List.take_of_length_le (by omega)]; exact hg)
      have htk2 : gs.take k = gs := List.take_of_length_le (by omega)
      rw [htk2] at htl ⊢
      have hJ0 : joinC gs = if 4096 < totN gs then [(41, (totN gs : Int))] else if 4096 < totR gs then [(42, (totR gs : Int))] else [] := by
        unfold joinC
        rw [hix, if_neg (by omega)]
      have hra := hid (fun (c a : Int) (w : World) => rat_any c a w)
      unfold flt at hra
      by_cases hN : 4096 < totN gs
      · rw [if_pos hN] at hJ0
        have hJ := hid hJ0
        have hN' : (4096 : Int) < (totN gs : Int) := by omega
        clear hJ0 hp hgd hG0 hGc hS htk hix hall htk2
        go_wp2_with (go_at_call 39; refine (hra.out _ _ _).mono ?_; rintro e w1 ⟨rfl, hb1⟩; have e0 := keepJ hq.out hb1; have e1 := keepJ hq2.out hb1; obtain ⟨⟨x0, x1⟩, x2, x3⟩ := blk2 e0; obtain ⟨⟨v0, v1, v2, v3⟩, v4, v5, v6, v7⟩ := blk4 e1; have hz1 := lt_of_block e1)
        obtain ⟨s0, s1, s2⟩ := six_two e0 e1 (.slice none 0 0) (.slice none 0 0) (.int .i64 41) (.int .i64 (totN gs : Int)) (.string ⟨#[]⟩) (.slice none 0 0)
        refine bodyPost_ret (ret_gf Try.results27 (by rfl) (by rfl) s0 s1) rfl ⟨⟨_, _, _, _, _, _, _, rfl, ?_, ?_⟩, six_below (Below.next hb.out hb1) _ _ _ _ _ _⟩
        · rw [ans_bad (by rw [hJ.out]; simp)]
          exact ⟨Rn.nil _, Ri.nil _⟩
        · rw [hJ.out]
          exact ⟨rfl, rfl, by decide, rfl⟩
      · have hN' : ¬ (4096 : Int) < (totN gs : Int) := by omega
        rw [if_neg hN] at hJ0
        by_cases hR : 4096 < totR gs
        · rw [if_pos hR] at hJ0
          have hJ := hid hJ0
          have hR' : (4096 : Int) < (totR gs : Int) := by omega
          clear hJ0 hp hgd hG0 hGc hS htk hix hall htk2
          go_wp2_with (go_at_call 39; refine (hra.out _ _ _).mono ?_; rintro e w1 ⟨rfl, hb1⟩; have e0 := keepJ hq.out hb1; have e1 := keepJ hq2.out hb1; obtain ⟨⟨x0, x1⟩, x2, x3⟩ := blk2 e0; obtain ⟨⟨v0, v1, v2, v3⟩, v4, v5, v6, v7⟩ := blk4 e1; have hz1 := lt_of_block e1)
          obtain ⟨s0, s1, s2⟩ := six_two e0 e1 (.slice none 0 0) (.slice none 0 0) (.int .i64 42) (.int .i64 (totR gs : Int)) (.string ⟨#[]⟩) (.slice none 0 0)
          refine bodyPost_ret (ret_gf Try.results27 (by rfl) (by rfl) s0 s1) rfl ⟨⟨_, _, _, _, _, _, _, rfl, ?_, ?_⟩, six_below (Below.next hb.out hb1) _ _ _ _ _ _⟩
          · rw [ans_bad (by rw [hJ.out]; simp)]
            exact ⟨Rn.nil _, Ri.nil _⟩
          · rw [hJ.out]
            exact ⟨rfl, rfl, by decide, rfl⟩
        · rw [if_neg hR] at hJ0
          have hJ := hid hJ0
          have hR' : ¬ (4096 : Int) < (totR gs : Int) := by omega
          clear hJ0 hp hgd htk hix htk2 hra
          obtain ⟨w3, hw3⟩ : ∃ w3, w3 = wr := ⟨wr, rfl⟩
          subst hw3
          have hj0 : Hid (J w3 (w3.alloc (.cells #[.slice none 0 0, .slice none 0 0] 25)) (joinG []) none 0 none 0 []) := ⟨below_alloc _ _, heap_alloc_new w3 _, ⟨On.nil _ _, ⟨none, 0, rfl⟩, ⟨none, 0, rfl, World.ownsRow_nil _ _ _ _⟩, fun k e => by simp [Value.ownBlock] at e⟩⟩
          go_wp2
          go_loopw [9] (fun i wr => ∃ (j : Nat) (ao : Option Addr) (c : Nat) (ro : Option Addr) (rc : Nat) (avs : List Value), j ≤ gs.length ∧ i = .int .i64 j ∧ Hid (J w3 wr (joinG (gs.take j)) ao c ro rc avs)) (fun i _ => gs.length - (intOf i).toNat)
          case atStart => exact ⟨0, none, 0, none, 0, [], Nat.zero_le _, rfl, by simpa [Hid] using hj0⟩
          case round =>
            clear hj0
            obtain ⟨j, ao, c, ro, rc, avs, hj, rfl, hJj⟩ := hrel
            by_cases hjl : j < gs.length
            · obtain ⟨i1, hi1, hy0, hy1, hy2⟩ := info_parts infoN
              obtain ⟨i0, hi, hz0, hz1, hz2⟩ := info_parts infoI
              obtain ⟨gb, go, nv, rv, rfl, g0, g1, hgr⟩ := hGc j hjl
              have hbw := Below.next hb.out hJj.out.b
              have hmem : gs.getD j gf0 ∈ gs := by simp [List.getD, hjl]
              have hX := hall _ hmem
              have hXn := hX.nodes
              have hXr := hX.roots
              have hjs : Hid (joinG (gs.take (j + 1)) = joinS (joinG (gs.take j)) (gs.getD j gf0)) := by
                show _ = _
                unfold joinG
                rw [gtake_snoc hjl, List.foldl_append]
                rfl
              have hjn : (joinG (gs.take j)).nodes.length = totN (gs.take j) := by
                have := (joinG_len (gs.take j) ⟨[], []⟩).1
                simpa [joinG] using this
              have hjr : (joinG (gs.take j)).roots.length = totR (gs.take j) := by
                have := (joinG_len (gs.take j) ⟨[], []⟩).2
                simpa [joinG] using this
              have htt := tot_take gs j
              have hXt : totN (gs.take j) + (gs.getD j gf0).nodes.length ≤ totN gs ∧ totR (gs.take j) + (gs.getD j gf0).roots.length ≤ totR gs := by
                have h1 := tot_take gs (j + 1)
                rw [gtake_snoc hjl] at h1
                have h2 := tot_snoc (gs.take j) (gs.getD j gf0)
                omega
              have hL0 : (joinG (gs.take j)).nodes.length ≤ 4096 := by omega
              have hL1 : (joinG (gs.take j)).roots.length ≤ 4096 := by omega
              have hL2 : (joinG (gs.take j)).nodes.length + (gs.getD j gf0).nodes.length ≤ 4096 := by omega
              have hL3 : (joinG (gs.take j)).roots.length + (gs.getD j gf0).roots.length ≤ 4096 := by omega
              clear hjn hjr htt hXt
              generalize joinG (gs.take j) = acc at hJj hjs hL0 hL1 hL2 hL3
              generalize gs.getD j gf0 = X at hgr hX hXn hXr hjs hL2 hL3
              clear hmem hall hG0 hGc hS htl
              have hgrW := hid hgr
              obtain ⟨na, nc, rfl, hNc⟩ := hgr.1
              obtain ⟨ra, rcX, rfl, hRc⟩ := hgr.2
              obtain ⟨⟨o0, o1⟩, o2, o3⟩ := blk2 hJj.out.out
              have d0 : wr.cell? ⟨gb, go + j * 2, none⟩ = some (.slice na X.nodes.length nc) := by rw [hbw.cell (p := ⟨gb, go + j * 2, none⟩) (lt_of_cell g0)]; exact g0
              have hcd : Hid (∀ w : World, Below W.heap.size W w → w.cell? ⟨gb, go + j * 2, none⟩ = some (.slice na X.nodes.length nc) ∧ w.cell? ⟨gb, go + j * 2 + 1, none⟩ = some (.slice ra X.roots.length rcX)) := fun w h => ⟨by rw [h.cell (p := ⟨gb, go + j * 2, none⟩) (lt_of_cell g0)]; exact g0, by rw [h.cell (p := ⟨gb, go + j * 2 + 1, none⟩) (lt_of_cell g1)]; exact g1⟩
              clear g0 g1 hgr
              go_wp2
              clear o0 o1 o2 o3 d0
              go_loopw [11] (fun i wr => ∃ (m : Nat) (ao : Option Addr) (c : Nat) (avs : List Value), m ≤ X.nodes.length ∧ i = .int .i64 m ∧ Hid (J w3 wr ⟨acc.nodes ++ (X.nodes.take m).map (renum (fun x => (acc.nodes.length : Int) + x)), acc.roots⟩ ao c ro rc avs)) (fun i _ => X.nodes.length - (intOf i).toNat)
              case atStart => exact ⟨0, ao, c, avs, Nat.zero_le _, rfl, by simpa [Hid] using hJj⟩
              case round =>
                clear hJj hbw
                obtain ⟨m, ao, c, avs, hm, rfl, hJm⟩ := hrel
                have hLm : (acc.nodes ++ (X.nodes.take m).map (renum (fun x => (acc.nodes.length : Int) + x))).length = acc.nodes.length + m := by simp; omega
                have hbw2 := Below.next hb.out hJm.out.b
                obtain ⟨d0, d1⟩ := hcd.out _ hbw2
                have hout := hJm.out.out
                have hzo := lt_of_block hout
                have hzg := lt_of_cell d0
                by_cases hml : m < X.nodes.length
                · obtain ⟨nb, no, av, rfl, hnd⟩ := hNc m hml
                  obtain ⟨n0, n1, n2, n3, hAr⟩ := hnd.below hbw2
                  have hgd2 := hX.node (X.nodes.getD m nd0) (by simp [List.getD, hml])
                  have hga := good_args hgd2
                  have hlp := lt_of_cell n0
                  have hNS : Hid ((⟨acc.nodes ++ (X.nodes.take (m + 1)).map (renum (fun x => (acc.nodes.length : Int) + x)), acc.roots⟩ : Gf) = ⟨(acc.nodes ++ (X.nodes.take m).map (renum (fun x => (acc.nodes.length : Int) + x))) ++ [renum (fun x => (acc.nodes.length : Int) + x) (X.nodes.getD m nd0)], acc.roots⟩) := by
                    show _ = _
                    rw [ntake_snoc hml]
                    simp
                  have honn := hJm.out.og.on.n
                  have hnv : ∀ k, Value.ownBlock (.slice ao (acc.nodes ++ (X.nodes.take m).map (renum (fun x => (acc.nodes.length : Int) + x))).length c) = some k → w3.heap.size + 1 ≤ k := fun k e => (honn.lt k e).1
                  have hpush := hid (fun (w4 w5 : World) (aa : Option Addr) (ac gg cap : Nat) => J.push (w4 := w4) (w5 := w5) (aa := aa) (ac := ac) (g := gg) (cap := cap) (F := fun x => (acc.nodes.length : Int) + x) (n := X.nodes.getD m nd0) hJm.out hLm)
                  dsimp only at honn hout hnv
                  rw [hLm] at honn hout hnv
                  obtain ⟨aa0, ac0, hav, hac⟩ := hAr
                  subst hav
                  generalize X.nodes.getD m nd0 = x at n0 n1 n2 n3 hac hNS hpush hga
                  generalize hcells : ncells (acc.nodes ++ (X.nodes.take m).map (renum (fun x => (acc.nodes.length : Int) + x))) avs = CS at honn hpush
                  obtain ⟨kind, name, num, args⟩ := x
                  dsimp only at n0 n1 n2 n3 hac hpush hga
                  have hsz3 := hJm.out.b.size
                  clear hnd hgd2 hJm hLm
                  obtain ⟨wm, hwm⟩ : ∃ wm, wm = wr := ⟨wr, rfl⟩
                  subst hwm
                  go_wp2
                  clear d0 d1 n0 n1 n2 n3
                  go_loopw [13, 14] (fun x i wr => ∃ (k : Nat) (aa : Option Addr) (ac : Nat), k ≤ args.length ∧ i = .int .i64 k ∧ x = .slice aa k ac ∧ Hid (Below (wm.heap.size + 1) (wm.alloc (.cells #[.int .i64 kind, .string name, .int .i64 num, .slice aa0 args.length ac0] 31)) wr) ∧ Hid (wr.ownsRow (wm.heap.size + 1) 3 1 (.slice aa k ac) k (((args.take k).map (fun x => (acc.nodes.length : Int) + x)).map (Value.int .i64)))) (fun _ i _ => args.length - (intOf i).toNat)
                  case atStart => exact ⟨0, none, 0, Nat.zero_le _, rfl, rfl, Below.refl _ _, World.ownsRow_nil _ _ _ _⟩
                  case round =>
                    obtain ⟨k, aa, ac, hk, rfl, rfl, hba, hoa⟩ := hrel
                    have hbm : Below wm.heap.size wm wr := (below_alloc wm _).trans (hba.out.mono (by omega))
                    have hnx : wr.heap[wm.heap.size]? = some (.cells #[.int .i64 kind, .string name, .int .i64 num, .slice aa0 args.length ac0] 31) := by rw [hba.out.block _ (by omega)]; exact heap_alloc_new wm _
                    obtain ⟨⟨n0, n1, n2, n3⟩, n4, n5, n6, n7⟩ := blk4 hnx
                    have hzm := lt_of_block hnx
                    by_cases hka : k < args.length
                    · obtain ⟨vb, vo, rfl, hcv⟩ := hac k hka
                      have dv : wr.cell? ⟨vb, vo + k, none⟩ = some (.int .i64 (args.getD k 0)) := by rw [hbm.cell (p := ⟨vb, vo + k, none⟩) (lt_of_cell hcv)]; exact hcv
                      have hxr := hga.1 _ (getD_mem hka)
                      have hst : Hid (((args.take k).map (fun x => (acc.nodes.length : Int) + x)).map (Value.int .i64) ++ [.int .i64 (args.getD k 0 + (acc.nodes.length : Int))] = ((args.take (k + 1)).map (fun x => (acc.nodes.length : Int) + x)).map (Value.int .i64)) := by
                        show _ = _
                        rw [take_snoc hka]
                        simp [Int.add_comm]
                      generalize args.getD k 0 = y at dv hxr hst
                      have hy1' : 0 ≤ y := hxr.1
                      have hy2' : y ≤ 4096 := by omega
                      have hal := hga.2
                      have ho1 := World.ownsRow.alloc hoa.out (.cells #[.int .i64 (y + (acc.nodes.length : Int))] 3)
                      go_wp2_with (at_builtin; refine wpList_append_lies _ rfl _ _ _ rfl (wm.heap.size + 1) 3 i0 (.int .i64 0) 1 8 Try.underlying23 hi hz0 hz1 hz2 rfl (by decide) _ k (((args.take k).map (fun x => (acc.nodes.length : Int) + x)).map (Value.int .i64)) rfl ho1 ⟨wr.heap.size, 0, none⟩ 1 1 [.int .i64 (y + (acc.nodes.length : Int))] rfl rfl (World.news_of_block (cs := #[.int .i64 (y + (acc.nodes.length : Int))]) (t := 3) (fr := (0, 0)) (heap_alloc_new wr _)) (by simp [Value.oneCell']) (by omega) (by unfold maxLen; omega) (by omega) (by simp; omega) (wr.heap.size + 1) (by simp) ?_; intro gg cap w2 hown2 hgr hat hltg)
                      go_roundw
                      case rel =>
                        refine ⟨k + 1, some ⟨gg, 0, none⟩, cap, by omega, congrArg (Value.int .i64) (by omega), rfl, ?_, ?_⟩
                        · have h1 : Below (wm.heap.size + 1) (wm.alloc (.cells #[.int .i64 kind, .string name, .int .i64 num, .slice (some ⟨vb, vo, none⟩) args.length ac0] 31)) (wr.alloc (.cells #[.int .i64 (y + (acc.nodes.length : Int))] 3)) := hba.out.alloc (by omega) _
                          exact h1.grown hgr (by simp; omega) (fun j e => (hoa.out.lt j e).1)
                        · show World.ownsRow _ _ _ _ _ _ _
                          rw [← hst.out]
                          exact hown2
                      case measure => simp [intOf]; omega
                    · have hkl : k = args.length := by omega
                      have hao := hoa.out
                      rw [hkl, List.take_of_length_le (Nat.le_refl _)] at hao
                      have hba' := hba.out
                      clear hba hoa
                      subst hkl
                      have hb4 : Below wm.heap.size wm (wr.setCell ⟨wm.heap.size, 3, none⟩ (.slice aa args.length ac)) := hbm.setCell (Nat.le_refl _) _
                      have hao4 : (wr.setCell ⟨wm.heap.size, 3, none⟩ (.slice aa args.length ac)).ownsRow wm.heap.size 3 1 (.slice aa args.length ac) args.length ((args.map (fun x => (acc.nodes.length : Int) + x)).map (Value.int .i64)) := own_base (own_block hao (fun k e => Below.heap_setCell _ _ _ _ (by have := (hao.lt k e).1; show k ≠ wm.heap.size; omega))) (by omega)
                      have hon4 := World.ownsRow.alloc (own_below honn hb4) (.cells #[.int .i64 kind, .string name, .int .i64 num, .slice aa args.length ac] 31)
                      have d4 := keepJ hout hb4
                      obtain ⟨⟨q0, _⟩, q1, _⟩ := blk2 d4
                      obtain ⟨⟨p0, _⟩, p1, _⟩ := blk2 (keepJ hout hbm)
                      have hsz4 : (wr.setCell ⟨wm.heap.size, 3, none⟩ (.slice aa args.length ac)).heap.size = wr.heap.size := by simp
                      have hnews := heap_alloc_new (wr.setCell ⟨wm.heap.size, 3, none⟩ (.slice aa args.length ac)) (.cells #[.int .i64 kind, .string name, .int .i64 num, .slice aa args.length ac] 31)
                      rw [hsz4] at hnews
                      have hz4 := hb4.size
                      rw [hsz4] at hz4
                      clear hao hba' hac hNc
                      go_wp2_with (at_builtin; refine wpList_append_lies _ rfl _ _ _ rfl (w3.heap.size + 1) 31 i1 (.agg #[.int .i64 0, .string ⟨#[]⟩, .int .i64 0, .slice none 0 0]) 4 56 Try.underlying22 hi1 hy0 hy1 hy2 rfl (by omega) _ (acc.nodes.length + m) CS rfl hon4 ⟨wr.heap.size, 0, none⟩ 1 1 [.int .i64 kind, .string name, .int .i64 num, .slice aa args.length ac] rfl rfl (World.news_of_block (cs := #[.int .i64 kind, .string name, .int .i64 num, .slice aa args.length ac]) (t := 31) (fr := (0, 0)) hnews) (by simp [Value.oneCell']) (by omega) (by unfold maxLen; omega) (by omega) (by simp; omega) (wr.heap.size + 1) (by simp) ?_; intro gg cap w5 hown5 hgr5 hat hlt5; have d5 : w5.heap[w3.heap.size]? = some (.cells #[.slice ao (acc.nodes.length + m) c, .slice ro acc.roots.length rc] 25) := (by rw [hgr5.block _ (by simp; omega) (fun e => by have := hnv _ e.symm; omega), Below.heap_alloc _ _ _ (by simp; omega)]; exact d4); obtain ⟨⟨s0, _⟩, s1, _⟩ := blk2 d5)
                      have hP := (hpush.out _ w5 aa ac gg cap hb4 hao4 _ hgr5 hown5 (by rw [hsz4]; exact hat)).1
                      refine ⟨⟨m + 1, some ⟨gg, 0, none⟩, cap, avs ++ [.slice aa args.length ac], by omega, congrArg (Value.int .i64) (by omega), ?_⟩, by simp [intOf]; omega⟩
                      show J _ _ _ _ _ _ _ _
                      rw [hNS.out]
                      exact hP
                · have hJx : Hid (J w3 wr ⟨acc.nodes ++ X.nodes.map (renum (fun x => (acc.nodes.length : Int) + x)), acc.roots⟩ ao c ro rc avs) := by
                    have := hJm.out
                    rw [List.take_of_length_le (by omega)] at this
                    exact this
                  clear hJm hLm hout hzo hNc
                  have hJs : Hid (joinG (gs.take (j + 1)) = ⟨acc.nodes ++ X.nodes.map (renum (fun x => (acc.nodes.length : Int) + x)), acc.roots ++ X.roots.map (fun x => (acc.nodes.length : Int) + x)⟩) := hjs
                  clear hjs
                  generalize acc.nodes ++ X.nodes.map (renum (fun x => (acc.nodes.length : Int) + x)) = AN at hJx hJs
                  go_wp2
                  clear d0 d1
                  go_loopw [15] (fun i wr => ∃ (m : Nat) (ro : Option Addr) (rc : Nat), m ≤ X.roots.length ∧ i = .int .i64 m ∧ Hid (J w3 wr ⟨AN, acc.roots ++ (X.roots.take m).map (fun x => (acc.nodes.length : Int) + x)⟩ ao c ro rc avs)) (fun i _ => X.roots.length - (intOf i).toNat)
                  case atStart => exact ⟨0, ro, rc, Nat.zero_le _, rfl, by simpa [Hid] using hJx⟩
                  case round =>
                    clear hJx hbw2 hzg
                    obtain ⟨m, ro, rc, hm, rfl, hJm⟩ := hrel
                    have hLm : (acc.roots ++ (X.roots.take m).map (fun x => (acc.nodes.length : Int) + x)).length = acc.roots.length + m := by simp; omega
                    have hbw2 := Below.next hb.out hJm.out.b
                    obtain ⟨d0, d1⟩ := hcd.out _ hbw2
                    have hout := hJm.out.out
                    have hzo := lt_of_block hout
                    have hzg := lt_of_cell d0
                    by_cases hml : m < X.roots.length
                    · obtain ⟨vb, vo, rfl, hcv⟩ := hRc m hml
                      have dv : wr.cell? ⟨vb, vo + m, none⟩ = some (.int .i64 (X.roots.getD m 0)) := by rw [hbw2.cell (p := ⟨vb, vo + m, none⟩) (lt_of_cell hcv)]; exact hcv
                      have hxr := hX.root _ (getD_mem hml)
                      have hNS : Hid ((⟨AN, acc.roots ++ (X.roots.take (m + 1)).map (fun x => (acc.nodes.length : Int) + x)⟩ : Gf) = ⟨AN, (acc.roots ++ (X.roots.take m).map (fun x => (acc.nodes.length : Int) + x)) ++ [X.roots.getD m 0 + (acc.nodes.length : Int)]⟩) := by
                        show _ = _
                        rw [take_snoc hml]
                        simp [Int.add_comm]
                      generalize X.roots.getD m 0 = y at dv hxr hNS
                      have hy1' : 0 ≤ y := hxr.1
                      have hy2' : y ≤ 4096 := by omega
                      obtain ⟨ror, rcr, hreq, hror⟩ := hJm.out.og.r
                      have hre1 : ror = ro ∧ rcr = rc := by
                        injection hreq with h1 _ h3
                        exact ⟨h1.symm, h3.symm⟩
                      obtain ⟨rfl, rfl⟩ := hre1
                      have hmore := hid (fun (w4 w5 : World) (gg cap : Nat) => J.more (w4 := w4) (w5 := w5) (g := gg) (cap := cap) (l := [y + (acc.nodes.length : Int)]) hJm.out hLm)
                      dsimp only at hror hout hreq
                      rw [hLm] at hror hout
                      generalize (acc.roots ++ (X.roots.take m).map (fun x => (acc.nodes.length : Int) + x)).map (Value.int .i64) = RS at hror hmore
                      have hrv : ∀ k, Value.ownBlock (.slice ror (acc.roots.length + m) rcr) = some k → w3.heap.size + 1 ≤ k := fun k e => (hror.lt k e).1
                      have ho1 := World.ownsRow.alloc hror (.cells #[.int .i64 (y + (acc.nodes.length : Int))] 3)
                      obtain ⟨⟨_, o1⟩, _, o3⟩ := blk2 hout
                      generalize AN.length = NL at hout
                      have hJms := hJm.out.b.size
                      have hwr : IntKind.i64.wrap (y + (acc.nodes.length : Int)) = y + (acc.nodes.length : Int) := by rw [IntKind.wrap_i64]; omega
                      clear hreq hJm hLm hcv
                      go_wp2
                      go_region_law
                        (first
                          | (refine step_append_lies _ (by rfl) _ _ _ (by rfl) (w3.heap.size + 1) 3 i0 (.int .i64 0) 1 8 Try.underlying23 hi hz0 hz1 hz2 rfl (by omega) _ (acc.roots.length + m) RS (by rfl) (ho1.drew) ⟨wr.heap.size, 0, none⟩ 1 1 [.int .i64 (y + (acc.nodes.length : Int))] (by rfl) (by rfl) (World.news_of_block (cs := #[.int .i64 (y + (acc.nodes.length : Int))]) (t := 3) (fr := (0, 0)) (heap_alloc_new wr _)) (by simp [Value.oneCell']) (by omega) (by unfold maxLen; omega) (by omega) (by simp; omega) (wr.heap.size + 1) (by simp) ?_; intro gg cap w5 hown5 hgr5 hat hlt5; have d5 : w5.heap[w3.heap.size]? = some (.cells #[.slice ao NL c, .slice ror (acc.roots.length + m) rcr] 25) := (hgr5.block _ (by simp; omega) (fun e => by have := hrv _ e.symm; omega)).trans (keepJ hout (below_alloc wr (.cells #[.int .i64 (y + (acc.nodes.length : Int))] 3)).drew); obtain ⟨⟨_, s0⟩, _, s1⟩ := blk2 d5))
                      all_goals go_wp2
                      all_goals
                        go_roundw
                        case rel =>
                          refine ⟨m + 1, some ⟨gg, 0, none⟩, cap, by omega, congrArg (Value.int .i64) (by omega), ?_⟩
                          show J _ _ _ _ _ _ _ _
                          rw [hNS.out]
                          exact hmore.out _ w5 gg cap (below_alloc wr (.cells #[.int .i64 (y + (acc.nodes.length : Int))] 3)).drew hgr5 hown5 (by simpa using hat)
                        case measure => simp [intOf]; omega
                    · have hJr : Hid (J w3 wr (joinG (gs.take (j + 1))) ao c ro rc avs) := by
                        have := hJm.out
                        rw [List.take_of_length_le (by omega)] at this
                        rw [hJs.out]
                        exact this
                      clear hJm hJs hLm hout
                      go_wp2
                      exact ⟨⟨j + 1, ao, c, ro, rc, avs, by omega, congrArg (Value.int .i64) (by omega), hJr⟩, by simp [intOf]; omega⟩
            · have hJe : Hid (J w3 wr (joinG gs) ao c ro rc avs) := by
                have := hJj.out
                rw [List.take_of_length_le (by omega)] at this
                exact this
              have e0 : wr.heap[W.heap.size]? = some (.cells #[.slice none 0 0, .slice none 0 0] 25) := by rw [hJe.out.b.block _ (lt_of_block hq.out)]; exact hq.out
              have e1 : wr.heap[W.heap.size + 1]? = some (.cells #[.int .i64 0, .int .i64 0, .string ⟨#[]⟩, .slice none 0 0] 35) := by rw [hJe.out.b.block _ (lt_of_block hq2.out)]; exact hq2.out
              have hz := lt_of_block hq2.out
              have hout := hJe.out.out
              have hO := hid (fun (w1 : World) (h : Below wr.heap.size wr w1) (nl rl : Nat) (h1 : (joinG gs).nodes.length = nl) (h2 : (joinG gs).roots.length = rl) => (show Gr (six w1 W.heap.size (.slice ao nl c) (.slice ro rl rc) (.int .i64 0) (.int .i64 0) (.string ⟨#[]⟩) (.slice none 0 0)) (.slice ao nl c) (.slice ro rl rc) (joinG gs) from by
                subst h1 h2
                exact ((hJe.out.og.below h).keep (fun k hk1 _ => (six_two (keepJ e0 h) (keepJ e1 h) _ _ _ _ _ _).2.2 k (by omega) (by omega))).gr))
              have hbe := Below.next hb.out hJe.out.b
              generalize hnl : (joinG gs).nodes.length = nl at hout
              generalize hrl : (joinG gs).roots.length = rl at hout
              obtain ⟨⟨o0, o1⟩, _⟩ := blk2 hout
              have hnl' := hid hnl
              have hrl' := hid hrl
              have hrn := hid rno_any
              unfold flt at hrn
              clear hnl hrl hJj hG0 hGc hS hall hJe
              go_wp2
              go_region_law
                (first
                  | (go_simp; go_at_call 41; refine (hrn.out _).mono ?_; rintro e w1 ⟨rfl, hb1⟩; replace hb1 := undr1 hb1; replace e0 := keepJ e0 hb1; replace e1 := keepJ e1 hb1; obtain ⟨⟨x0, x1⟩, x2, x3⟩ := blk2 e0; obtain ⟨⟨v0, v1, v2, v3⟩, v4, v5, v6, v7⟩ := blk4 e1; replace hout := keepJ hout hb1; clear o0 o1; obtain ⟨⟨o0, o1⟩, _⟩ := blk2 hout))
              all_goals go_wp2
              all_goals
                obtain ⟨s0, s1, _⟩ := six_two e0 e1 (.slice ao nl c) (.slice ro rl rc) (.int .i64 0) (.int .i64 0) (.string ⟨#[]⟩) (.slice none 0 0)
                refine bodyPost_ret (ret_gf Try.results27 (by rfl) (by rfl) s0 s1) rfl ⟨⟨_, _, _, _, _, _, _, rfl, ?_, ?_⟩, six_below (Below.next hbe hb1) _ _ _ _ _ _⟩
                · rw [ans_good hJ.out]
                  exact hO.out w1 hb1 nl rl hnl'.out hrl'.out
                · rw [hJ.out]
                  exact rfl
end Go.Proofs.Ytfjifcflcpmjaaa
