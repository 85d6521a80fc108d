/- knotted of package tie. -/
import Derived.Test.Ytncileojdighnaaow40Z
namespace Go.Proofs.Ytncileojdighnaa
set_option maxRecDepth 100000
open Go.RowKit Go.Maps
theorem KnS.lay {W w w' : World} {kb cb : Nat} {nv lv rv : Value} {avs : List Value} {st st' : List Nd} {L : List Nat} {rs : List Int} {E : Nat → Nat} (hK : Kn w W.heap.size kb cb nv lv rv avs st L rs) (hE : Ld L E) (hb : Below W.heap.size W w) (hU : LayU w w' W.heap.size kb cb nv lv rv avs L st' rs) : Below W.heap.size W w' ∧ ∃ nv' lv' avs' L', Kn w' W.heap.size kb cb nv' lv' rv avs' st' L' rs ∧ Ld L' E := by
  obtain ⟨L', hU, hL⟩ := hU
  refine ⟨KnU.below hK hU rfl hb, ?_⟩
  obtain ⟨nv', lv', avs', hK', _, _⟩ := hU
  exact ⟨nv', lv', avs', L', hK', hL E hE⟩
theorem bindAll_app (E : Nat → Nat) (ps : List (Nat × Nat)) (p : Nat × Nat) : bindAll E (ps ++ [p]) = bindE (bindAll E ps) p := by simp [bindAll]
theorem bindAll_out : ∀ (ps : List (Nat × Nat)) (E : Nat → Nat) (x : Nat), E x = x → (∀ p ∈ ps, p.1 ≠ x) → bindAll E ps x = x
  | [], E, x, h, _ => h
  | p :: r, E, x, h, hp => by
    refine bindAll_out r (bindE E p) x ?_ (fun q hq => hp q (by simp [hq]))
    unfold bindE
    rw [h, if_neg (fun e => hp p (by simp) e.symm)]
theorem layQ_names (ns : List ByteArray) : ∀ (st : List Nd) (qs : List (ByteArray × Ex)), (layQ ns st qs).1.map (·.1) = qs.map (fun q => ixN ns q.1)
  | st, [] => by rw [layQ]; rfl
  | st, q :: r => by rw [layQ, List.map_cons, layQ_names ns _ r, List.map_cons]
theorem ixN_inj {l : List ByteArray} {s t : ByteArray} (hs : inN l s = true) (ht : inN l t = true) (e : ixN l s = ixN l t) : s = t := by rw [← ixN_at hs, ← ixN_at ht, e]
theorem rep_succ (j : Nat) : List.replicate (j + 1) varN = List.replicate j varN ++ [varN] := List.replicate_succ'
theorem next_self {names : List ByteArray} {st : List Nd} {qs : List (ByteArray × Ex)} (hin : ∀ q ∈ qs, inN names q.1 = true) (hnd : ∀ i j, i < j → j < qs.length → (qs.getD i q0).1 ≠ (qs.getD j q0).1) {j : Nat} (hj : j < qs.length) : bindAll id (layQ names st (qs.take j)).1 (ixN names (qs.getD j q0).1) = ixN names (qs.getD j q0).1 := by
  refine bindAll_out _ _ _ rfl (fun p hp e => ?_)
  have h1 : p.1 ∈ (layQ names st (qs.take j)).1.map (·.1) := List.mem_map.2 ⟨p, hp, rfl⟩
  rw [layQ_names] at h1
  obtain ⟨q, hq, e2⟩ := List.mem_map.1 h1
  rw [e] at e2
  have hqm := List.mem_of_mem_take hq
  have e3 := ixN_inj (hin q hqm) (hin (qs.getD j q0) (by simp [List.getD, hj])) e2
  obtain ⟨i, hi, rfl⟩ := List.getElem_of_mem hq
  have hij : i < j := by simp at hi; omega
  refine hnd i j hij hj ?_
  rw [← e3]
  simp [List.getD, show i < qs.length by omega]
theorem layX_lt {names : List ByteArray} {st : List Nd} {x : Ex} (hok : okX names x) (hst : names.length ≤ st.length) : (layX names st x).1 < (layX names st x).2.length := by
  obtain ⟨k, n, m, xs⟩ := x
  rw [layX]
  split
  · rename_i h
    have := ixN_lt (hok.1 h)
    show ixN names n < st.length
    omega
  · split
    · simp
    · simp only [setA_len]
      have := (layXs_le names (st ++ [⟨k, n, m, []⟩]) xs).1
      simp at this
      omega
set_option maxHeartbeats 8000000 in
theorem knotted_any {W : World} {B0 cb cq oth : Nat} {cv : Value} {names : List ByteArray} (hC : Cs W B0 cb cv cq names oth) {xv qv : Value} {xs : List Ex} {qs : List (ByteArray × Ex)} (hX : Rxs W xv xs) (hQ : Rqs W qv qs) (hzx : szXs xs) (hzq : ∀ q ∈ qs, q.1.size ≤ 281474976710656 ∧ szX q.2) (hokx : okXs names xs) (hokq : ∀ q ∈ qs, inN names q.1 = true ∧ okX names q.2) (hnd : ∀ i j, i < j → j < qs.length → (qs.getD i q0).1 ≠ (qs.getD j q0).1) (hp : names.length + prtXs xs + prtQ qs ≤ 80000) :
    Calls Try.prog 30 #[.pointer (some ⟨cb, 0, none⟩), xv, qv] W fun e w' => (∃ kb, e = .returned (.pointer (some ⟨kb, 0, none⟩)) ∧ KnS w' W.heap.size kb cb (layQ names (layXs names (List.replicate names.length varN) xs).2 qs).2 (layXs names (List.replicate names.length varN) xs).1 (bindAll id (layQ names (layXs names (List.replicate names.length varN) xs).2 qs).1)) ∧ Below W.heap.size W w' := by
  obtain ⟨i0, hi, hz0, hz1, hz2⟩ := info_parts infoI
  obtain ⟨xa, xc, rfl, hXat⟩ := hX
  obtain ⟨qa, qc, rfl, hQat⟩ := hQ
  have hXA := hid hXat
  have hQA := hid hQat
  have hxl := prt_len xs
  have hql := prtQ_len qs
  have hcl := hC.cells
  have hcb := lt_of_block hC.blk
  obtain ⟨na, nc, hcv⟩ := own_sl hC.own
  subst hcv
  have c0 := hcl.1.1
  have HC := hid hC
  have hK0 : Hid (KnS (W.alloc (.cells #[.pointer (some ⟨cb, 0, none⟩), .slice none 0 0, .slice none 0 0, .slice none 0 0] 105)) W.heap.size W.heap.size cb (List.replicate 0 varN) [] id) := KnS.start W cb
  have hB0 := hid (below_alloc W (.cells #[.pointer (some ⟨cb, 0, none⟩), .slice none 0 0, .slice none 0 0, .slice none 0 0] 105))
  have hZX := hid (fun j (hj : j < xs.length) => (⟨szXs_mem hzx _ (xs_at hj), okXs_mem hokx _ (xs_at hj)⟩ : szX (xs.getD j x0) ∧ okX names (xs.getD j x0)))
  have hZQ := hid (fun j (hj : j < qs.length) => (⟨hzq (qs.getD j q0) (by simp [List.getD, hj]), hokq (qs.getD j q0) (by simp [List.getD, hj])⟩ : ((qs.getD j q0).1.size ≤ 281474976710656 ∧ szX (qs.getD j q0).2) ∧ (inN names (qs.getD j q0).1 = true ∧ okX names (qs.getD j q0).2)))
  have hself := hid (fun j (hj : j < qs.length) => next_self (st := (layXs names (List.replicate names.length varN) xs).2) (fun q hq => (hokq q hq).1) hnd hj)
  have hlen : Hid (∀ j, j < xs.length → (layXs names (List.replicate names.length varN) (xs.take j)).2.length + prtX (xs.getD j x0) ≤ 90000) := fun j hj => by
    have h1 := (layXs_le names (List.replicate names.length varN) (xs.take j)).2
    have h2 := othXs_le (xs.take j)
    have h3 := prtXs_take xs (j + 1)
    rw [take_x hj, prtXs_app] at h3
    simp at h1
    omega
  have hlenq : Hid (∀ j, j < qs.length → (layQ names (layXs names (List.replicate names.length varN) xs).2 (qs.take j)).2.length + prtX (qs.getD j q0).2 ≤ 90000 ∧ names.length ≤ (layQ names (layXs names (List.replicate names.length varN) xs).2 (qs.take j)).2.length) := fun j hj => by
    have h0 := layXs_le names (List.replicate names.length varN) xs
    have h1 := layQ_le names (layXs names (List.replicate names.length varN) xs).2 (qs.take j)
    have h2 := othQ_le (qs.take j)
    have h4 := othXs_le xs
    have h3 := prtQ_take qs (j + 1)
    rw [take_q hj, prtQ_app] at h3
    simp at h0
    constructor <;> omega
  clear hXat hQat hzx hzq hokx hokq hnd hC hcl
  go_enter Try.func30, Try.ntmps30
  go_wp2
  go_loopw [20] (fun i wr => ∃ j : Nat, j ≤ names.length ∧ i = .int .i64 (j : Int) ∧ Hid (KnS wr W.heap.size W.heap.size cb (List.replicate j varN) [] id) ∧ Hid (Below W.heap.size W wr)) (fun i _ => names.length - (intOf i).toNat)
  case atStart => exact ⟨0, by omega, rfl, hK0, hB0⟩
  case round =>
    clear hK0 hB0
    obtain ⟨j, hj, rfl, hK, hB⟩ := hrel
    by_cases hlt : j < names.length
    · obtain ⟨nv, lv, rv, avs, L, hKn, hL⟩ := hK.out
      have hcall := kadd_any hKn 1 ⟨#[]⟩ 0 (by simp; omega) hB.out.size
      have hnx : Hid (∀ w', KnU wr w' W.heap.size W.heap.size cb nv lv rv avs (List.replicate j varN ++ [varN]) (L ++ [L.length]) [] → KnS w' W.heap.size W.heap.size cb (List.replicate (j + 1) varN) [] id ∧ Below W.heap.size W w') := fun w' hU => by
        refine ⟨?_, KnU.below hKn hU rfl hB.out⟩
        obtain ⟨nv', lv', avs', hK', _, _⟩ := hU
        rw [rep_succ]
        exact ⟨nv', lv', rv, avs', _, hK', hL.add⟩
      clear hK hKn hL hB
      go_wp2_with (go_at_call 50; refine hcall.mono ?_; rintro e w2 ⟨rfl, hU⟩; obtain ⟨hK2, hB2⟩ := hnx.out w2 hU)
      go_roundw
      case rel => exact ⟨j + 1, by omega, by go_num, hK2, hB2⟩
      case measure => simp [intOf]; omega
    · obtain rfl : j = names.length := by omega
      have hK1 : Hid (KnS wr W.heap.size W.heap.size cb (layXs names (List.replicate names.length varN) (xs.take 0)).2 (layXs names (List.replicate names.length varN) (xs.take 0)).1 id) := hK.out
      have hB1 := hid hB.out
      clear hK hB
      go_wp2
      go_loopw [28] (fun i wr => ∃ j : Nat, j ≤ xs.length ∧ i = .int .i64 (j : Int) ∧ Hid (KnS wr W.heap.size W.heap.size cb (layXs names (List.replicate names.length varN) (xs.take j)).2 (layXs names (List.replicate names.length varN) (xs.take j)).1 id) ∧ Hid (Below W.heap.size W wr)) (fun i _ => xs.length - (intOf i).toNat)
      case atStart => exact ⟨0, by omega, rfl, hK1, hB1⟩
      case round =>
        clear hK1 hB1
        obtain ⟨j, hj, rfl, hK, hB⟩ := hrel
        by_cases hlt : j < xs.length
        · obtain ⟨b, o, k', n', m', aa, al, ac, rfl, d0, d1, d2, d3, hx⟩ := hXA.out j hlt
          obtain ⟨nv, lv, rv, avs, L, hKn, hL⟩ := hK.out
          have hz := lt_of_cell d0
          have c0 := ((bcell hB.out).1 b _ hz).trans d0
          have c1 := ((bcell hB.out).1 b _ hz).trans d1
          have c2 := ((bcell hB.out).1 b _ hz).trans d2
          have c3 := ((bcell hB.out).1 b _ hz).trans d3
          have hzr : b < wr.heap.size := Nat.lt_of_lt_of_le hz hB.out.size
          have hb2 := below_alloc wr (.cells #[.int .i64 k', .string n', .int .i64 m', .slice aa al ac] 48)
          have hB2 := Below.next hB.out hb2
          have hK2 := hKn.next hb2
          obtain ⟨zx, ox⟩ := hZX.out j hlt
          have hcall := lay_any HC.out _ (wr.alloc (.cells #[.int .i64 k', .string n', .int .i64 m', .slice aa al ac] 48)).drew _ W.heap.size nv lv rv avs _ L _ hx zx ox hB2.drew (hK2.keep (fun _ _ => rfl)) (hlen.out j hlt)
          have htk := hid (layXs_app names (List.replicate names.length varN) (xs.take j) (xs.getD j x0))
          rw [← take_x hlt] at htk
          obtain ⟨ra, rc, hrv⟩ := own_sl hKn.r
          have hrl := layXs_len1 names (List.replicate names.length varN) (xs.take j)
          rw [List.length_take, Nat.min_eq_left hj] at hrl
          generalize hY : layX names (layXs names (List.replicate names.length varN) (xs.take j)).2 (xs.getD j x0) = Y at *
          generalize hZ : layXs names (List.replicate names.length varN) (xs.take j) = Z at *
          obtain ⟨y1, y2⟩ := Y
          obtain ⟨rs, st⟩ := Z
          dsimp only at hcall htk hrl hKn hK2 hrv
          subst hrv
          rw [hrl] at hKn hK2 hcall
          have hcl := hK2.cells
          have kc3 := hcl.1.2.2.2
          have hkz := lt_of_block hK2.blk
          have hbx := heap_alloc_new wr (.cells #[.int .i64 k', .string n', .int .i64 m', .slice aa al ac] 48)
          have hsz : wr.heap.size < (wr.alloc (.cells #[.int .i64 k', .string n', .int .i64 m', .slice aa al ac] 48)).heap.size := by simp
          clear hY hZ hK hB hKn hx d0 d1 d2 d3 hb2 hz
          go_wp2
          generalize wr.alloc (.cells #[.int .i64 k', .string n', .int .i64 m', .slice aa al ac] 48) = wb at *
          generalize wr.heap.size = sb at *
          obtain ⟨⟨x0', x1', x2', x3'⟩, _⟩ := xblk hbx
          have hnx : Hid (∀ w2, LayU wb.drew w2 W.heap.size W.heap.size cb nv lv (.slice ra j rc) avs L y2 rs → ((w2.cell? ⟨W.heap.size, 3, none⟩ = some (.slice ra j rc) ∧ W.heap.size < w2.heap.size) ∧ w2.ownsRow W.heap.size 3 1 (.slice ra j rc) j (rs.map (Value.int .i64))) ∧ ∀ (w3 : World) (o : Obj) (g cap : Nat), w3.ownsRow W.heap.size 3 1 (.slice (some ⟨g, 0, none⟩) (j + 1) cap) (j + 1) (rs.map (Value.int .i64) ++ [.int .i64 (y1 : Int)]) → (w2.alloc o).grownBy w3 (Value.slice ra j rc).ownBlock → ((Value.slice ra j rc).ownBlock = some g ∨ g = w2.heap.size + 1) → (w3.cell? ⟨W.heap.size, 3, none⟩ = some (.slice ra j rc) ∧ w3.frozen? ⟨W.heap.size, 3, none⟩ = false ∧ W.heap.size < w3.heap.size) ∧ KnS (w3.setCell ⟨W.heap.size, 3, none⟩ (.slice (some ⟨g, 0, none⟩) (j + 1) cap)) W.heap.size W.heap.size cb y2 (rs ++ [(y1 : Int)]) id ∧ Below W.heap.size W (w3.setCell ⟨W.heap.size, 3, none⟩ (.slice (some ⟨g, 0, none⟩) (j + 1) cap))) := fun w2 hU => by
            obtain ⟨hB3, nv', lv', avs', L', hK3, hL3⟩ := KnS.lay (W := W) (hK2.keep (w' := wb.drew) (fun _ _ => rfl)) hL hB2.drew hU
            have hkz3 := lt_of_block hK3.blk
            have hr3 := hK3.r
            rw [hrl] at hr3
            refine ⟨⟨⟨hK3.cells.1.2.2.2, hkz3⟩, hr3⟩, fun w3 o g cap hown hg hat => ?_⟩
            have hsg := hg.size
            simp at hsg
            have b3 : w3.heap[W.heap.size]? = some (.cells #[.pointer (some ⟨cb, 0, none⟩), nv', lv', .slice ra j rc] 105) := by
              rw [hg.block _ (by simp; omega) (fun e => absurd (hK3.dj 0 3 _ rfl e.symm) (by decide)), Below.heap_alloc _ _ _ hkz3]
              exact hK3.blk
            refine ⟨⟨by simp [World.cell?, b3], by simp [World.frozen?, b3], by omega⟩, ⟨nv', lv', .slice (some ⟨g, 0, none⟩) (j + 1) cap, avs', L', ?_, hL3⟩, ?_⟩
            · have h9 := hK3.root (r := (y1 : Int)) (by rw [hrl]; exact hown) hg hat
              rw [hrl] at h9
              exact h9
            · exact (((hB3.alloc (Nat.le_of_lt hkz3) o).grown hg (by simp; omega) (fun k hk => (hr3.lt k hk).1)).setCell (p := ⟨W.heap.size, 3, none⟩) (Nat.le_refl _) _)
          clear hK2 hL hB2 hcl hbx
          go_region_law
            (first
              | (go_simp; go_at_call 51; refine hcall.mono ?_; rintro e w2 ⟨rfl, hU⟩; obtain ⟨⟨⟨t0, t1⟩, t2⟩, hnn⟩ := hnx.out w2 hU; have t3 := World.ownsRow.alloc t2 (.cells #[.int .i64 (y1 : Int)] 3))
              | (refine step_append_lies _ (by rfl) _ _ _ (by rfl) W.heap.size 3 i0 (.int .i64 0) 1 8 Try.underlying27 hi hz0 hz1 hz2 rfl (by omega) _ j (rs.map (Value.int .i64)) (by rfl) t3 ⟨w2.heap.size, 0, none⟩ 1 1 [.int .i64 (y1 : Int)] (by rfl) (by rfl) (World.news_of_block (cs := #[.int .i64 (y1 : Int)]) (t := 3) (fr := (0, 0)) (heap_alloc_new w2 _)) (by simp [Value.oneCell']) (by omega) (by unfold maxLen; omega) (by omega) (by simp; omega) (w2.heap.size + 1) (by simp) ?_; intro g cap w3 hown3 hg3 hat3 hlt3; obtain ⟨⟨v0, v1, v2⟩, hK4, hB4⟩ := hnn w3 _ g cap hown3 hg3 hat3))
          all_goals go_wp2
          all_goals
            go_roundw
            case rel => exact ⟨j + 1, by omega, by go_num, (show KnS _ _ _ _ _ _ _ by rw [htk.out]; exact hK4), hB4⟩
            case measure => simp [intOf]; omega
        · obtain rfl : j = xs.length := by omega
          have hst1 : Hid (names.length ≤ (layXs names (List.replicate names.length varN) xs).2.length) := by
            have := (layXs_le names (List.replicate names.length varN) xs).1
            simp at this
            exact this
          have hK1 : Hid (KnS wr W.heap.size W.heap.size cb (layQ names (layXs names (List.replicate names.length varN) xs).2 (qs.take 0)).2 (layXs names (List.replicate names.length varN) xs).1 (bindAll id (layQ names (layXs names (List.replicate names.length varN) xs).2 (qs.take 0)).1)) := by
            have h9 := hK.out
            rw [List.take_length] at h9
            exact h9
          have hB1 := hid hB.out
          clear hK hB hlen
          generalize hZ1 : layXs names (List.replicate names.length varN) xs = Z1 at hK1 hself hlenq hst1
          obtain ⟨rs1, st1⟩ := Z1
          have HZ := hid hZ1
          dsimp only at hK1 hself hlenq hst1
          clear hZ1
          go_wp2
          go_loopw [47] (fun i wr => ∃ j : Nat, j ≤ qs.length ∧ i = .int .i64 (j : Int) ∧ Hid (KnS wr W.heap.size W.heap.size cb (layQ names st1 (qs.take j)).2 rs1 (bindAll id (layQ names st1 (qs.take j)).1)) ∧ Hid (Below W.heap.size W wr)) (fun i _ => qs.length - (intOf i).toNat)
          case atStart => exact ⟨0, by omega, rfl, hK1, hB1⟩
          case round =>
            clear hK1 hB1
            obtain ⟨j, hj, rfl, hK, hB⟩ := hrel
            by_cases hlt : j < qs.length
            · obtain ⟨b, o, k', n', m', aa, al, ac, rfl, d0, d1, d2, d3, d4, hx⟩ := hQA.out j hlt
              obtain ⟨nv, lv, rv, avs, L, hKn, hL⟩ := hK.out
              have hz := lt_of_cell d0
              have c0 := ((bcell hB.out).1 b _ hz).trans d0
              have c1 := ((bcell hB.out).1 b _ hz).trans d1
              have c2 := ((bcell hB.out).1 b _ hz).trans d2
              have c3 := ((bcell hB.out).1 b _ hz).trans d3
              have c4 := ((bcell hB.out).1 b _ hz).trans d4
              have hzr : b < wr.heap.size := Nat.lt_of_lt_of_le hz hB.out.size
              obtain ⟨⟨zn, zx⟩, hin, ox⟩ := hZQ.out j hlt
              obtain ⟨hl1, hl2⟩ := hlenq.out j hlt
              have hsf := hself.out j hlt
              have htk := hid (layQ_app names st1 (qs.take j) (qs.getD j q0))
              rw [← take_q hlt] at htk
              have hylt := layX_lt ox hl2
              generalize hQJ : qs.getD j q0 = Q at *
              obtain ⟨nm, r⟩ := Q
              dsimp only at c0 hx zn zx hin ox hl1 hsf htk hylt
              clear hQJ
              have hb2 := below_alloc wr (.cells #[.string nm, .int .i64 k', .string n', .int .i64 m', .slice aa al ac] 51)
              have hB2 := Below.next hB.out hb2
              have hK2 := hKn.next hb2
              have hcall := lay_any HC.out _ (wr.alloc (.cells #[.string nm, .int .i64 k', .string n', .int .i64 m', .slice aa al ac] 51)).drew _ W.heap.size nv lv rv avs _ L _ hx zx ox hB2.drew (hK2.keep (fun _ _ => rfl)) hl1
              have hixl := ixN_lt hin
              generalize hY : layX names (layQ names st1 (qs.take j)).2 r = Y at *
              generalize hZ : layQ names st1 (qs.take j) = Z at *
              obtain ⟨y1, y2⟩ := Y
              obtain ⟨ps, st⟩ := Z
              dsimp only at hcall htk hKn hK2 hL hsf hylt hl2
              have hbx := heap_alloc_new wr (.cells #[.string nm, .int .i64 k', .string n', .int .i64 m', .slice aa al ac] 51)
              have hsz : wr.heap.size < (wr.alloc (.cells #[.string nm, .int .i64 k', .string n', .int .i64 m', .slice aa al ac] 51)).heap.size := by simp
              have hql9 : Hid (∀ k, KnF W.heap.size nv lv rv avs k → k < wr.heap.size) := fun k ⟨_, hk⟩ => (hKn.lt hk).2
              have hly : st.length ≤ y2.length := by
                have := (layX_le names st r).1
                rw [show layX names st r = (y1, y2) by rw [← hY]] at this
                exact this
              have hkey := WideMaps.keyOf_string_mk (P := Try.prog) (k := 9) Try.underlying9 (s := nm) (by unfold maxLen; omega)
              have hlk : Hid (∀ w2, Below W.heap.size W w2 → (Instr.lookup 69 (.map (some cq)) (.string nm) false).run Try.prog w2 = .ok (.int .i64 (ixN names nm : Int)) w2 ∧ w2.cell? ⟨cb, 1, none⟩ = some (.map (some cq)) ∧ cb < w2.heap.size) := fun w2 hb => by
                have hC2 := HC.out.next hb
                obtain ⟨D, hD, hM⟩ := hC2.map
                obtain ⟨c, hrun, hat, _⟩ := hD.lookup_int (string_keyed Try.underlying9) Try.underlying69 Try.underlying3 (zeroI w2) hkey
                rw [hM.2.2 nm hin] at hat
                injection hat with hat
                injection hat with _ hat
                rw [hat]
                exact ⟨hrun, hC2.cells.1.2.1, lt_of_block hC2.blk⟩
              clear hY hZ hK hB hKn hx d0 d1 d2 d3 d4 hb2 hz
              go_wp2
              generalize wr.alloc (.cells #[.string nm, .int .i64 k', .string n', .int .i64 m', .slice aa al ac] 51) = wb at *
              generalize wr.heap.size = sb at *
              obtain ⟨⟨x0', x1', x2', x3', x4'⟩, _⟩ := tblk5 hbx
              obtain ⟨l0, l1, l2⟩ := hlk.out wb.drew hB2.drew
              have l1' : wb.cell? ⟨cb, 1, none⟩ = some (.map (some cq)) := l1
              have l2' : cb < wb.heap.size := l2
              have hnx : Hid (∀ w2, LayU wb.drew w2 W.heap.size W.heap.size cb nv lv rv avs L y2 rs1 → ((Instr.lookup 69 (.map (some cq)) (.string nm) false).run Try.prog w2 = .ok (.int .i64 (ixN names nm : Int)) w2 ∧ w2.cell? ⟨cb, 1, none⟩ = some (.map (some cq)) ∧ cb < w2.heap.size) ∧ w2.heap[sb]? = some (.cells #[.string nm, .int .i64 k', .string n', .int .i64 m', .slice aa al ac] 51) ∧ Calls Try.prog 52 #[.pointer (some ⟨W.heap.size, 0, none⟩), .int .i64 (ixN names nm : Int), .int .i64 (y1 : Int)] w2 fun e w' => e = .returned (.tuple #[]) ∧ KnS w' W.heap.size W.heap.size cb y2 rs1 (bindE (bindAll id ps) (ixN names nm, y1)) ∧ Below W.heap.size W w') := fun w2 hU => by
                obtain ⟨hB3, nv', lv', avs', L', hK3, hL3⟩ := KnS.lay (W := W) (hK2.keep (w' := wb.drew) (fun _ _ => rfl)) hL hB2.drew hU
                refine ⟨hlk.out w2 hB3, ?_, (bind_any hK3 hL3 (ixN names nm) y1 (by omega) hylt hsf).mono ?_⟩
                · obtain ⟨_, ⟨_, _, _, _, hm, _⟩, _⟩ := hU
                  rw [hm.block sb hsz (fun h => Nat.lt_irrefl _ (hql9.out _ h))]
                  exact hbx
                · rintro e w' ⟨rfl, L4, hK4, hL4, hM4⟩
                  exact ⟨rfl, ⟨_, _, _, _, L4, hK4, hL4⟩, hB3.trans (hM4.below (fun k hk => (hK3.lt (i := 2) hk).1) hB3.size)⟩
              clear hK2 hL hB2 hbx
              go_region_law
                (first
                  | (go_simp; go_at_call 51; refine hcall.mono ?_; rintro e w2 ⟨rfl, hU⟩; obtain ⟨⟨p0, p1, p2⟩, hbx2, hbind⟩ := hnx.out w2 hU; obtain ⟨⟨t0, t1, t2, t3, t4⟩, _⟩ := tblk5 hbx2; have hzz2 := lt_of_block hbx2)
                  | (go_simp; go_at_call 52; refine hbind.mono ?_; rintro e w3 ⟨rfl, hK4, hB4⟩))
              all_goals go_wp2
              all_goals
                go_roundw
                case rel => exact ⟨j + 1, by omega, by go_num, (show KnS _ _ _ _ _ _ _ by rw [htk.out, bindAll_app]; exact hK4), hB4⟩
                case measure => simp [intOf]; omega
            · obtain rfl : j = qs.length := by omega
              have hK9 := hK.out
              rw [List.take_length] at hK9
              have hK8 := hid hK9
              have hB8 := hid hB.out
              clear hK hB hK9
              go_wp2
              go_ret
              refine ⟨⟨_, rfl, ?_⟩, hB8.out⟩
              rw [HZ.out]
              exact hK8.out
end Go.Proofs.Ytncileojdighnaa
