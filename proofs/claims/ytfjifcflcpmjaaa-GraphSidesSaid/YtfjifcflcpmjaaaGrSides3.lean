/- GraphSides, walked. -/
import Derived.Test.YtfjifcflcpmjaaaGrSides2
namespace Go.Proofs.Ytfjifcflcpmjaaa
open Go.RowKit

theorem at_joined {a b : Gf} (ha : Good a) (hb : Good b) (hs : a.nodes.length + b.nodes.length ≤ 4096) (hr : a.roots.length + b.roots.length ≤ 4096) {n : Int} (h0 : 0 ≤ n) (h1 : n < a.nodes.length) (path : List Int) : atF (joinS a b) n path = atF a n path := by
  rw [at_good ha h0 h1, at_good (join_good2 ha hb hs hr) h0 (by rw [joinS_len]; omega), join_path ha path n h0 h1]
theorem good_sized {g : Gf} (h : Good g) : Sized g := fun n hn => by
  have := good_name (h.node n hn)
  omega
theorem Ri.pre {w : World} {ra : Option Addr} {l m : List Int} {k c c' : Nat} (h : Ri w (.slice ra k c) (l ++ m)) : Ri w (.slice ra l.length c') l := by
  obtain ⟨ao, c0, h1, h2⟩ := h
  injection h1 with h1 _ _
  subst h1
  refine ⟨_, _, rfl, fun j hj => ?_⟩
  obtain ⟨b, o, h3, h4⟩ := h2 j (by rw [List.length_append]; omega)
  refine ⟨b, o, h3, ?_⟩
  rw [h4]
  simp [List.getD, List.getElem?_append_left hj]
theorem Ri.post {w : World} {g k c c' : Nat} {l m : List Int} (h : Ri w (.slice (some ⟨g, 0, none⟩) k c) (l ++ m)) : Ri w (.slice (some ⟨g, l.length, none⟩) m.length c') m := by
  obtain ⟨ao, c0, h1, h2⟩ := h
  injection h1 with h1 _ _
  subst h1
  refine ⟨_, _, rfl, fun j hj => ?_⟩
  obtain ⟨b, o, h3, h4⟩ := h2 (l.length + j) (by rw [List.length_append]; omega)
  injection h3 with h3
  injection h3 with h3 h5 _
  subst h3 h5
  refine ⟨_, _, rfl, ?_⟩
  rw [Nat.zero_add] at h4
  rw [h4]
  simp [List.getD, List.getElem?_append_right (Nat.le_add_right _ _)]
theorem Ri.zero {w : World} {ao : Option Addr} {k c : Nat} {l : List Int} (h : k = l.length) (h0 : k = 0) : Ri w (.slice ao k c) l := by
  subst h
  exact ⟨_, _, rfl, fun j hj => by omega⟩
/-- What the walk asks of the calls. -/
def Reaches (w : World) (nv rv : Value) (P : Int → Prop) : Prop :=
  Calls Try.prog 14 #[.agg #[nv, rv]] w fun e w' => (∃ ao c l, e = .returned (.tuple #[.slice ao l.length c, .nilIface]) ∧ Ri w' (.slice ao l.length c) l ∧ l.length ≤ 4096 ∧ ∀ x ∈ l, P x) ∧ Below w.heap.size w w'
theorem reach_sides {w : World} {nv rv : Value} {g : Gf} (hG : Gr w nv rv g) (hg : Good g) {P : Int → Prop} (hP : ∀ x ∈ metF g, P x) : Reaches w nv rv P := by
  refine (reach_good hG (good_sized hg) (chk_of_good hg)).mono ?_
  rintro e w' ⟨⟨ao, c, rfl, ho⟩, hb⟩
  have := (met_ok hg).le
  have := hg.nodes
  exact ⟨⟨ao, c, _, rfl, Ri.ofOwn ho, by omega, hP⟩, hb⟩
set_option maxRecDepth 100000 in
set_option maxHeartbeats 8000000 in
theorem sides_main {W : World} {nv rv mv sv pv : Value} {g h : Gf} {path : List Int} (hG : Gr W nv rv g) (hS : Sized g) (hH : Gr W mv sv h) (hT : Sized h) (hP : Ri W pv path) (n : Int) (h5 : ¬ 5000 < path.length) (hsg : smallG g = true) (hsh : smallG h = true)
    (hc : joinC [g, h] = []) (hg : Good g) (hh : Good h) :
    Calls Try.prog 31 #[.agg #[nv, rv], .agg #[mv, sv], .int .i64 n, pv] W fun e w' => e = .returned (.bool true) ∧ Below W.heap.size W w' := by
  have hx := Two.start W nv rv mv sv
  have hPs := hid hP
  obtain ⟨pa, pc, rfl, _⟩ := hP
  have h5' : ¬ (5000 : Int) < (path.length : Int) := by omega
  have hz1 := (small_fits hsg).2
  have hz2 := (small_fits hsh).2
  have hs4 : g.nodes.length + h.nodes.length ≤ 4096 := by omega
  have hr4 : g.roots.length + h.roots.length ≤ 4096 := by omega
  have hlg : ∀ w : World, Below W.heap.size W w → _ := fun w hb => large_any (hG.below hb)
  have hlh : ∀ w : World, Below W.heap.size W w → _ := fun w hb => large_any (hH.below hb)
  rw [hsg] at hlg
  rw [hsh] at hlh
  have hjn : ∀ w : World, Below W.heap.size W w → _ := fun w hb => join2_good (hG.below hb) hS (hH.below hb) hT hc
  have hA1 : ∀ w : World, Below W.heap.size W w → _ := fun w hb => at_any (hG.below hb) hS (hPs.out.below hb) (by omega) n
  have hA2 := hid (fun (w : World) (nv rv : Value) (hb : Below W.heap.size W w) (hJ : Gr w nv rv (joinS g h)) => at_any hJ (good_sized (join_good2 hg hh hs4 hr4)) (hPs.out.below hb) (by omega) n)
  have hR1 := hid (fun (w : World) (nv rv : Value) (hJ : Gr w nv rv ⟨(joinS g h).nodes, g.roots⟩) => reach_sides hJ (left_good hg hh hs4) (left_met hg))
  have hR2 := hid (fun (w : World) (nv rv : Value) (hJ : Gr w nv rv ⟨(joinS g h).nodes, h.roots.map (fun x => (g.nodes.length : Int) + x)⟩) => reach_sides hJ (right_good hg hh hs4) (right_met hh))
  have hAJ := hid (fun (h0 : 0 ≤ n) (h1 : n < g.nodes.length) => at_joined hg hh hs4 hr4 h0 h1 path)
  obtain ⟨na, nc, rfl, _⟩ := hG.1
  obtain ⟨ra, rc, rfl, _⟩ := hG.2
  clear hsg hsh hG hH hc hS hT
  generalize atF g n path = X at hA1 hAJ
  generalize atF (joinS g h) n path = Y at hA2 hAJ
  obtain ⟨xn, xb⟩ := X
  obtain ⟨yn, yb⟩ := Y
  have hcase : ¬ 0 ≤ n ∨ (0 ≤ n ∧ ¬ n < (g.nodes.length : Int)) ∨ (0 ≤ n ∧ n < (g.nodes.length : Int) ∧ yn = xn ∧ yb = xb) := by
    by_cases h0 : 0 ≤ n
    · by_cases h1 : n < (g.nodes.length : Int)
      · have := hAJ.out h0 h1
        injection this with h2 h3
        exact Or.inr (Or.inr ⟨h0, h1, h2, h3⟩)
      · exact Or.inr (Or.inl ⟨h0, h1⟩)
    · exact Or.inl h0
  clear hAJ
  rcases hcase with hn0 | ⟨hn0, hn1⟩ | ⟨hn0, hn1, rfl, rfl⟩
  all_goals
    go_enter Try.func31, Try.ntmps31
    go_wp2_with (first
      | (go_at_call 9; refine (lives_any _).mono ?_; rintro e w1 ⟨rfl, hb1⟩; replace hx := hx.below hb1; have c0 := hx.n; have c1 := hx.r; clear hb1)
      | (go_at_call 13; refine (hlg w1 hx.b).mono ?_; clear hlg; rintro e w2 ⟨rfl, hb1⟩; replace hx := hx.below hb1; clear c0 c1; have c2 := hx.m; have c3 := hx.s; clear hb1)
      | (go_at_call 13; refine (hlh w2 hx.b).mono ?_; clear hlh; rintro e w3 ⟨rfl, hb1⟩; replace hx := hx.below hb1; clear c2 c3; have c0 := hx.n; have c1 := hx.r; have c2 := hx.m; have c3 := hx.s; clear hb1)
      | (go_at_call 26; have hW3 := hx.b; refine (hjn w3 hx.b).mono ?_; clear hjn; rintro e w4 ⟨⟨ja, jc, ka, kc, rfl, hJ, hkc, hka⟩, hb1⟩; have hbj := below_alloc w4 (.cells #[.slice ja (g.nodes.length + h.nodes.length) jc, .slice ka (g.roots.length + h.roots.length) kc] 25); have b1 := heap_alloc_new w4 (.cells #[.slice ja (g.nodes.length + h.nodes.length) jc, .slice ka (g.roots.length + h.roots.length) kc] 25); replace hx := (hx.below hb1).below hbj; have hW4 : W.heap.size ≤ w4.heap.size := (Below.next hW3 hb1).size; clear hW3; clear c0 c1 c2 c3; have c0 := hx.n; have c1 := hx.r; clear hb1)
      | (go_at_call 29; refine (hA1 _ hx.b).mono ?_; clear hA1; rintro e w5 ⟨rfl, hb1⟩; replace hx := hx.below hb1; replace hbj := Below.next hbj hb1; replace b1 := keepB b1 hb1; clear c0 c1; obtain ⟨⟨e0, e1⟩, _⟩ := blk2 b1; clear hb1)
      | (go_at_call 29; refine (hA2.out _ _ _ hx.b (hJ.below hbj)).mono ?_; clear hA2; rintro e w6 ⟨rfl, hb1⟩; replace hx := hx.below hb1; replace hbj := Below.next hbj hb1; replace b1 := keepB b1 hb1; clear e0 e1; obtain ⟨⟨e0, e1⟩, _⟩ := blk2 b1; have c0 := hx.n; have c1 := hx.r; have c1' := cell1 c1; have e1' := cell1 e1; have hq46 : w4.heap.size ≤ w6.heap.size := hbj.size; clear hb1)
      | (go_at_call 14; refine Calls.mono (hR1.out (w6.alloc (.cells #[.slice ja (g.nodes.length + h.nodes.length) jc, .slice ka g.roots.length kc] 25)) (.slice ja (g.nodes.length + h.nodes.length) jc) (.slice ka g.roots.length kc) ⟨hJ.1.below (Below.next hbj (below_alloc w6 _)), Ri.pre (hJ.2.below (Below.next hbj (below_alloc w6 _)))⟩) ?_; clear hR1; rintro e w7 ⟨⟨ma, mc, l1, rfl, hM, hml, hmp⟩, hb1⟩; clear c1' e1'; have b2 := keepB (heap_alloc_new w6 (.cells #[.slice ja (g.nodes.length + h.nodes.length) jc, .slice ka g.roots.length kc] 25)) hb1; replace hb1 := Below.next (below_alloc w6 _) hb1; replace hx := hx.below hb1; replace hbj := Below.next hbj hb1; replace b1 := keepB b1 hb1; clear e0 e1 c0 c1; obtain ⟨⟨e0, e1⟩, _⟩ := blk2 b1; obtain ⟨⟨f0, f1⟩, f2, f3⟩ := blk2 b2; have c0 := hx.n; have c1 := hx.r; clear hb1))
    go_loop [106] (fun i => ∃ k : Nat, k ≤ l1.length ∧ i = .int .i64 k) (fun i => l1.length - (intOf i).toNat)
    case atStart => exact ⟨0, Nat.zero_le _, rfl⟩
    case round =>
      obtain ⟨k, hk, rfl⟩ := hrel
      by_cases hlt : k < l1.length
      · obtain ⟨mb, mo, rfl, hmc⟩ : ∃ mb mo, ma = some ⟨mb, mo, none⟩ ∧ w7.cell? ⟨mb, mo + k, none⟩ = some (.int .i64 (l1.getD k 0)) := by
          obtain ⟨ao', c', h1, h2⟩ := hM
          obtain ⟨lb, lo, h3, h4⟩ := h2 k hlt
          injection h1 with h1 _ _
          exact ⟨lb, lo, h1.trans h3, h4⟩
        have hq := hmp _ (getD_mem hlt)
        generalize l1.getD k 0 = q at hmc hq
        go_wp2
        go_round
        case rel => exact ⟨k + 1, by omega, congrArg (Value.int .i64) (by omega)⟩
        case measure => simp [intOf]; omega
      · have hwb : Below w4.heap.size w4 w7 := hbj
        have hq4 : w4.heap.size ≤ w6.heap.size := hq46
        have hqW : W.heap.size ≤ w6.heap.size := Nat.le_trans hW4 hq46
        rcases hka with ⟨rfl, hr1, hr2, rfl⟩ | ⟨q, rfl⟩
        · rw [hr1, hr2]
          rw [hr1] at c1 e1 f1
          rw [hr2] at e1
          go_wp2_with (go_at_call 14; refine Calls.mono (hR2.out (w7.setCell ⟨w6.heap.size, 1, none⟩ (.slice none 0 0)) (.slice ja (g.nodes.length + h.nodes.length) jc) (.slice none 0 0) ⟨hJ.1.below (hbj.setCell hq4 _), Ri.zero (by simp [hr2]) rfl⟩) ?_; clear hR2; rintro e w8 ⟨⟨ua, uc, l2, rfl, hU, hul, hup⟩, hb1⟩; have hbW := Below.next (hx.b.setCell (p := ⟨w6.heap.size, 1, none⟩) hqW (.slice none 0 0)) hb1; clear hb1)
          go_loop [128] (fun i => ∃ k : Nat, k ≤ l2.length ∧ i = .int .i64 k) (fun i => l2.length - (intOf i).toNat)
          case atStart => exact ⟨0, Nat.zero_le _, rfl⟩
          case round =>
            obtain ⟨k, hk, rfl⟩ := hrel
            by_cases hlt : k < l2.length
            · obtain ⟨mb, mo, rfl, hmc⟩ : ∃ mb mo, ua = some ⟨mb, mo, none⟩ ∧ w8.cell? ⟨mb, mo + k, none⟩ = some (.int .i64 (l2.getD k 0)) := by
                obtain ⟨ao', c', h1, h2⟩ := hU
                obtain ⟨lb, lo, h3, h4⟩ := h2 k hlt
                injection h1 with h1 _ _
                exact ⟨lb, lo, h1.trans h3, h4⟩
              have hq := (hup _ (getD_mem hlt)).1
              generalize l2.getD k 0 = q at hmc hq
              go_wp2
              go_round
              case rel => exact ⟨k + 1, by omega, congrArg (Value.int .i64) (by omega)⟩
              case measure => simp [intOf]; omega
            · go_wp2
              go_ret
              exact ⟨rfl, hbW⟩
        · by_cases hk0 : kc = g.roots.length
          · subst hk0
            have hr2 : h.roots.length = 0 := by omega
            rw [hr2] at e1 hkc ⊢
            go_wp2_with (go_at_call 14; refine Calls.mono (hR2.out (w7.setCell ⟨w6.heap.size, 1, none⟩ (.slice (some ⟨q, 0, none⟩) 0 0)) (.slice ja (g.nodes.length + h.nodes.length) jc) (.slice (some ⟨q, 0, none⟩) 0 0) ⟨hJ.1.below (hbj.setCell hq4 _), Ri.zero (by simp [hr2]) rfl⟩) ?_; clear hR2; rintro e w8 ⟨⟨ua, uc, l2, rfl, hU, hul, hup⟩, hb1⟩; have hbW := Below.next (hx.b.setCell (p := ⟨w6.heap.size, 1, none⟩) hqW (.slice (some ⟨q, 0, none⟩) 0 0)) hb1; clear hb1)
            go_loop [128] (fun i => ∃ k : Nat, k ≤ l2.length ∧ i = .int .i64 k) (fun i => l2.length - (intOf i).toNat)
            case atStart => exact ⟨0, Nat.zero_le _, rfl⟩
            case round =>
              obtain ⟨k, hk, rfl⟩ := hrel
              by_cases hlt : k < l2.length
              · obtain ⟨mb, mo, rfl, hmc⟩ : ∃ mb mo, ua = some ⟨mb, mo, none⟩ ∧ w8.cell? ⟨mb, mo + k, none⟩ = some (.int .i64 (l2.getD k 0)) := by
                  obtain ⟨ao', c', h1, h2⟩ := hU
                  obtain ⟨lb, lo, h3, h4⟩ := h2 k hlt
                  injection h1 with h1 _ _
                  exact ⟨lb, lo, h1.trans h3, h4⟩
                have hq := (hup _ (getD_mem hlt)).1
                generalize l2.getD k 0 = q at hmc hq
                go_wp2
                go_round
                case rel => exact ⟨k + 1, by omega, congrArg (Value.int .i64) (by omega)⟩
                case measure => simp [intOf]; omega
              · go_wp2
                go_ret
                exact ⟨rfl, hbW⟩
          · go_wp2_with (go_at_call 14; refine Calls.mono (hR2.out (w7.setCell ⟨w6.heap.size, 1, none⟩ (.slice (some ⟨q, g.roots.length, none⟩) h.roots.length (kc - g.roots.length))) (.slice ja (g.nodes.length + h.nodes.length) jc) (.slice (some ⟨q, g.roots.length, none⟩) h.roots.length (kc - g.roots.length)) ⟨hJ.1.below (hbj.setCell hq4 _), by have := Ri.post (c' := kc - g.roots.length) (hJ.2.below (hbj.setCell (p := ⟨w6.heap.size, 1, none⟩) hq4 (.slice (some ⟨q, g.roots.length, none⟩) h.roots.length (kc - g.roots.length)))); rw [List.length_map] at this; exact this⟩) ?_; clear hR2; rintro e w8 ⟨⟨ua, uc, l2, rfl, hU, hul, hup⟩, hb1⟩; have hbW := Below.next (hx.b.setCell (p := ⟨w6.heap.size, 1, none⟩) hqW (.slice (some ⟨q, g.roots.length, none⟩) h.roots.length (kc - g.roots.length))) hb1; clear hb1)
            go_loop [128] (fun i => ∃ k : Nat, k ≤ l2.length ∧ i = .int .i64 k) (fun i => l2.length - (intOf i).toNat)
            case atStart => exact ⟨0, Nat.zero_le _, rfl⟩
            case round =>
              obtain ⟨k, hk, rfl⟩ := hrel
              by_cases hlt : k < l2.length
              · obtain ⟨mb, mo, rfl, hmc⟩ : ∃ mb mo, ua = some ⟨mb, mo, none⟩ ∧ w8.cell? ⟨mb, mo + k, none⟩ = some (.int .i64 (l2.getD k 0)) := by
                  obtain ⟨ao', c', h1, h2⟩ := hU
                  obtain ⟨lb, lo, h3, h4⟩ := h2 k hlt
                  injection h1 with h1 _ _
                  exact ⟨lb, lo, h1.trans h3, h4⟩
                have hq := (hup _ (getD_mem hlt)).1
                generalize l2.getD k 0 = q at hmc hq
                go_wp2
                go_round
                case rel => exact ⟨k + 1, by omega, congrArg (Value.int .i64) (by omega)⟩
                case measure => simp [intOf]; omega
              · go_wp2
                go_ret
                exact ⟨rfl, hbW⟩
set_option maxRecDepth 100000 in
set_option maxHeartbeats 2000000 in
theorem graphSides_walk {W : World} (nv rv : Value) (g : Gf) (mv sv : Value) (h : Gf) (n : Int) (pv : Value) (path : List Int) (hG : Gr W nv rv g) (hS : Sized g) (hH : Gr W mv sv h) (hT : Sized h) (hP : Ri W pv path) (_ : path.length ≤ 9223372036854775807) :
    Calls Try.prog 8 #[.agg #[nv, rv, mv, sv, .int .i64 n, pv]] W fun e w' => e = .returned (.bool true) ∧ Below W.heap.size W w' := by
  have hb := below_alloc W (.cells #[nv, rv, mv, sv, .int .i64 n, pv] 50)
  have hC : Calls Try.prog 31 #[.agg #[nv, rv], .agg #[mv, sv], .int .i64 n, pv] (W.alloc (.cells #[nv, rv, mv, sv, .int .i64 n, pv] 50)) fun e w' => e = .returned (.bool true) ∧ Below (W.alloc (.cells #[nv, rv, mv, sv, .int .i64 n, pv] 50)).heap.size (W.alloc (.cells #[nv, rv, mv, sv, .int .i64 n, pv] 50)) w' := by
    by_cases h5 : 5000 < path.length
    · exact sides_short (hG.below hb) (hH.below hb) (hP.below hb) n (Or.inl h5)
    · cases hsg : smallG g with
      | false => exact sides_short (hG.below hb) (hH.below hb) (hP.below hb) n (Or.inr (Or.inl hsg))
      | true =>
        cases hsh : smallG h with
        | false => exact sides_short (hG.below hb) (hH.below hb) (hP.below hb) n (Or.inr (Or.inr hsh))
        | true =>
          have hz1 := (small_fits hsg).2
          have hz2 := (small_fits hsh).2
          rcases joinC_two g h (by omega) (by omega) with ⟨h1, h2, h3⟩ | ⟨h1, h2⟩
          · exact sides_main (hG.below hb) hS (hH.below hb) hT (hP.below hb) n h5 hsg hsh h1 h2 h3
          · exact sides_bad (hG.below hb) hS (hH.below hb) hT (hP.below hb) n h5 hsg hsh h1 h2
  clear hG hH hP
  go_enter Try.func8, Try.ntmps8
  go_wp2_with (go_at_call 31; refine hC.mono ?_; rintro e w1 ⟨rfl, hb1⟩)
  go_ret
  exact ⟨rfl, Below.next hb hb1⟩
end Go.Proofs.Ytfjifcflcpmjaaa
