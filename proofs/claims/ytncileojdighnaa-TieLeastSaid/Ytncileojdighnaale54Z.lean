/- TieLeast, walked. -/
import Derived.Test.Ytncileojdighnaale52Z
import Derived.Test.Ytncileojdighnaale35Z
import Derived.Test.Ytncileojdighnaale53Z
import Derived.Test.Ytncileojdighnaale13Z
namespace Go.Proofs.Ytncileojdighnaa
set_option maxRecDepth 100000
open Go.RowKit Go.Maps
theorem tieC_good {xs : List Ex} {qs : List (ByteArray × Ex)} (hc : (tieC xs qs).1 = 0) : GoodT xs qs ∧ (namA xs qs).length + othA xs qs ≤ 4096 := by
  have hk : (chkT xs qs).1 = 0 := Classical.byContradiction fun h => by
    unfold tieC at hc
    rw [if_pos h] at hc
    exact h hc
  refine ⟨chkT_good hk, Classical.byContradiction fun h => ?_⟩
  unfold tieC at hc
  rw [if_neg (by simpa using hk), if_pos (by omega)] at hc
  cases hc
theorem good_fits {g : Gf} (hg : Good g) : Fits g := ⟨by have := hg.nodes; omega, by have := hg.roots; omega, fun n hn => by have := (good_args (hg.node n hn)).2; omega⟩
theorem lea_more {xs : List Ex} {qs : List (ByteArray × Ex)} (hc : (tieC xs qs).1 = 0) {e : Nat → Nat → Bool} (hd : ∀ x y : Nat, (e x y = true ↔ Al (tieG xs qs) (x : Int) (y : Int))) {ms : List (ByteArray × Int)} (hms : ms = nmdF e (tieG xs qs) (tieE xs qs) (namA xs qs) (namA xs qs).length) (hc' : (tieC (xs ++ (ms.map (·.1)).map vX) qs).1 = 0) {e' : Nat → Nat → Bool} (hd' : ∀ x y : Nat, (e' x y = true ↔ Al (tieG (xs ++ (ms.map (·.1)).map vX) qs) (x : Int) (y : Int))) :
    (trimF (quoF e' (tieG (xs ++ (ms.map (·.1)).map vX) qs))).nodes.length = (trimF (quoF e (tieG xs qs))).nodes.length ∧ (trimF (quoF e' (tieG (xs ++ (ms.map (·.1)).map vX) qs))).roots.length = xs.length + ms.length ∧ ∀ i, i < ms.length → (trimF (quoF e' (tieG (xs ++ (ms.map (·.1)).map vX) qs))).roots.getD (xs.length + i) 0 = (ms.getD i nm0).2 := by
  obtain ⟨hg, hb⟩ := tieC_good hc
  obtain ⟨hg', hb'⟩ := tieC_good hc'
  obtain ⟨h1, h2⟩ := least_more hg hb hd ms hms hg' hb' hd'
  have hr : (trimF (quoF e (tieG xs qs))).roots.length = xs.length := by simp [trimF, quoF, tieG, gE, (tie_good hg).rl]
  refine ⟨by rw [h1], by rw [h2, List.length_append, hr, List.length_map], fun i hi => ?_⟩
  rw [h2, ← hr]
  simp [List.getD, hi]
theorem lea_names {xs : List Ex} {qs : List (ByteArray × Ex)} (hzx : szXs xs) (hzq : ∀ q ∈ qs, q.1.size ≤ 281474976710656 ∧ szX q.2) {e : Nat → Nat → Bool} {g : Gf} {E : Nat → Nat} : ∀ s ∈ (nmdF e g E (namA xs qs) (namA xs qs).length).map (·.1), s.size ≤ 281474976710656 := fun s hs => by
  obtain ⟨p, hp, rfl⟩ := List.mem_map.1 hs
  obtain ⟨j, hj, e1, _⟩ := nmd_at _ _ _ _ _ p hp
  rw [e1]
  exact namQ_sz (namXs [] xs) qs (namXs_sz [] xs (by simp) hzx) hzq _ (inN_iff.1 (sg_in hj))
set_option maxHeartbeats 8000000 in
theorem tieLeast_walk (v0 : Value) (l0 : List Ex) {W : World} (hX0 : Rxs W v0 l0) (hZ0 : szXs l0) (z0 : l0.length ≤ 281474976710656) (v1 : Value) (l1 : List (ByteArray × Ex)) (hX1 : Rqs W v1 l1) (hZ1 : ∀ q ∈ l1, q.1.size ≤ 281474976710656 ∧ szX q.2) (z1 : l1.length ≤ 281474976710656) :
    Calls Try.prog 5 #[v0, v1] W fun e w' => e = .returned (.bool true) ∧ Below W.heap.size W w' := by
  obtain ⟨i4, hi4, hw0, hw1, hw2⟩ := info_parts infoX
  have HX := hid hX0
  have HQ := hid hX1
  have HZX := hid hZ0
  have HZQ := hid hZ1
  obtain ⟨xo, xc, rfl, -⟩ := hX0
  obtain ⟨qo, qc, rfl, -⟩ := hX1
  have hla := hid (fun (w : World) (hb : Below W.heap.size W w) => tlarge_any (HX.out.next hb) (HQ.out.next hb) hZ0 hZ1 z0 z1)
  clear hZ0 hZ1
  cases hL : largeT l0 l1 with
  | true =>
    rw [hL] at hla
    clear hL
    go_enter Try.func5, Try.ntmps5
    go_wp2_with (first
      | (go_at_call 8; go_must (refine (hla.out _ hb1).mono ?_; clear hla; rintro e2 w2 ⟨rfl, hb2⟩; have hB := Below.next hb1 hb2; clear hb1 hb2))
      | (go_at_call 7; go_must (refine (tlives_any _).mono ?_; rintro e1 w1 ⟨rfl, hb1⟩)))
    go_ret
    exact ⟨rfl, Below.next hB hb1⟩
  | false =>
    obtain ⟨s1, s2, s3⟩ := large_small hL
    rw [hL] at hla
    clear hL
    have hp : prtXs l0 + prtQ l1 ≤ 30000 := by omega
    by_cases hc : (tieC l0 l1).1 = 0
    · obtain ⟨ee, hd⟩ := al_dec (tieG l0 l1)
      obtain ⟨hgT, hgB⟩ := tieC_good hc
      have hGG := tie_goodG hgT hgB
      have ht := hid (fun (w : World) (hb : Below W.heap.size W w) => tie_ok (HX.out.next hb) (HQ.out.next hb) HZX.out HZQ.out hp hc ee hd)
      have hTg : Good (trimF (quoF ee (tieG l0 l1))) := trim_good0 (quo_good hGG (al_eqv hGG hd))
      obtain ⟨e3, hd3⟩ := al_dec (trimF (quoF ee (tieG l0 l1)))
      have hidm := least_idem hGG hd hd3
      have hTr : (trimF (quoF ee (tieG l0 l1))).roots.length = l0.length := by simp [trimF, quoF, tieG, gE, (tie_good hgT).rl]
      have hlm := hid (fun (hc' : (tieC (l0 ++ ((nmdF ee (tieG l0 l1) (tieE l0 l1) (namA l0 l1) (namA l0 l1).length).map (·.1)).map vX) l1).1 = 0) (e' : Nat → Nat → Bool) hd' => lea_more hc hd rfl hc' (e' := e') hd')
      have hnz := hid (lea_names (e := ee) (g := tieG l0 l1) (E := tieE l0 l1) HZX.out HZQ.out)
      have hml := nmdF_len ee (tieG l0 l1) (tieE l0 l1) (namA l0 l1) (namA l0 l1).length
      have hnl := namA_len l0 l1
      have hms : (nmdF ee (tieG l0 l1) (tieE l0 l1) (namA l0 l1) (namA l0 l1).length).length ≤ 350 := by omega
      clear hml hnl hgT hgB hGG hd
      generalize nmdF ee (tieG l0 l1) (tieE l0 l1) (namA l0 l1) (namA l0 l1).length = ms at *
      generalize trimF (quoF ee (tieG l0 l1)) = T at *
      have hq := hid (fun (w : World) (nv rv : Value) (hG : Gr w nv rv T) => quot_good hG (good_sized hTg) (chk_of_good hTg) e3 hd3)
      rw [hidm] at hq
      have hsm := hid (fun (w : World) (nv rv mv sv : Value) (h1 : Gr w nv rv T) (h2 : Gr w mv sv T) => same_any h1 h2 (good_fits hTg))
      rw [eqG_yes] at hsm
      clear hidm hd3 hTg hc
      have HTR := hid hTr
      clear hTr
      go_enter Try.func5, Try.ntmps5
      go_wp2_with (first
        | (go_at_call 8; go_must (refine (hla.out _ hb1).mono ?_; clear hla; rintro e2 w2 ⟨rfl, hb2⟩; have hB := Below.next hb1 hb2; clear hb1 hb2))
        | (go_at_call 7; go_must (refine (tlives_any _).mono ?_; rintro e1 w1 ⟨rfl, hb1⟩))
        | (go_at_call 9; go_must (refine (ht.out w2 hB).mono ?_; clear ht; rintro r w3 ⟨⟨nv, rv, avs, mv, rfl, hO, hM⟩, hb3⟩; have hG3 := hid hO.gr; obtain ⟨n0, n9, rfl⟩ := hO.nsl; obtain ⟨r0, r9, rfl, _⟩ := hO.r; obtain ⟨mo, mc, rfl⟩ := own_sl hM; rw [HTR.out] at hG3; rw [HTR.out]; have hM3 := hid hM; clear hM hO; generalize T.nodes.length = TN at *; have hb4 := Below.next (Below.next hB hb3) (below_alloc w3 (.cells #[.slice n0 TN n9, .slice r0 l0.length r9] 29)); have hx5 := heap_alloc_new w3 (.cells #[.slice n0 TN n9, .slice r0 l0.length r9] 29)))
        | (go_at_call 20; go_must (refine (hq.out _ _ _ (hG3.out.below (below_alloc w3 _))).mono ?_; rintro e w4 ⟨⟨nq, rq, avq, rfl, hOq⟩, hbq⟩; have hGq := hid hOq.gr; obtain ⟨q0', q9, rfl⟩ := hOq.nsl; obtain ⟨p0, p9, rfl, _⟩ := hOq.r; have hx5b := (hbq.block w3.heap.size (by simp)).trans hx5; obtain ⟨⟨k0, k1⟩, _⟩ := blk2 hx5b; have hz5 := lt_of_block hx5b; clear hOq))
        | (go_at_call 16; go_must (refine (hsm.out _ _ _ _ _ (((hG3.out.below (below_alloc w3 _)).below hbq).below (below_alloc w4 _)) (hGq.out.below (below_alloc w4 _))).mono ?_; rintro e w5 ⟨rfl, hb5⟩; have hx5w := ((Below.next (below_alloc w4 (.cells #[.slice q0' T.nodes.length q9, .slice p0 T.roots.length p9] 29)) hb5).block _ hz5).trans hx5b; obtain ⟨⟨j0, j1⟩, _⟩ := blk2 hx5w; have hz5w := lt_of_block hx5w))
        | (at_builtin; go_must (refine wpList_copyX rfl _ _ rfl (B := w5.heap.size) (g := w5.heap.size) rfl rfl HX.out (Below.next (Below.next (Below.next (Below.next hb4 hbq) (below_alloc w4 _)) hb5) (below_alloc w5 _)) (heap_alloc_new w5 _) (Nat.le_refl _) (by omega) ?_; intro ao c F w6 hF4 hFX hown hgr)))
      have hbW := hid (Below.next (Below.next (Below.next hb4 hbq) (below_alloc w4 _)) hb5)
      have hb35 : Below w3.heap.size w3 w5 := Below.next (Below.next (Below.next (below_alloc w3 _) hbq) (below_alloc w4 _)) hb5
      have hMc : Hid (∀ i, i < ms.length → ∃ b, mo = some ⟨b, 0, none⟩ ∧ b < w5.heap.size ∧ w5.cell? ⟨b, i * 2, none⟩ = some (.string (ms.getD i nm0).1) ∧ w5.cell? ⟨b, i * 2 + 1, none⟩ = some (.int .i64 (ms.getD i nm0).2)) := fun i hi => by
        obtain ⟨b, e, c1, c2⟩ := nmd_cell hM3.out hi
        have hz := lt_of_cell c1
        have hs := hb35.size
        exact ⟨b, e, by omega, ((bcell hb35).1 b _ hz).trans c1, ((bcell hb35).1 b _ hz).trans c2⟩
      have hX5 := hid hx5w
      have hb6 := hid ((below_alloc w5 (.cells #[] 48)).grown hgr (by simp) (fun q hq => by
        have e : w5.heap.size = q := by simpa using hq
        omega))
      have hF := hid (show (∀ j, (F j).length = 4) ∧ ∀ j, j < l0.length → XC W (l0.getD j x0) (F j) from ⟨hF4, hFX⟩)
      have hown6 := hid (show w6.ownsRow w5.heap.size 48 4 (.slice ao l0.length c) l0.length (flatV (moreV F l0.length (ms.map (·.1))) l0.length) by rw [flatV_more]; exact hown)
      clear hown hgr hF4 hFX hx5w hx5b hx5 k0 k1 j0 j1 hz5 hz5w hGq hG3 hM3 hb4 hB hb3 hbq hb5 hb35
      go_loopw [10, 60] (fun x i wr => ∃ (i' : Nat) (ao : Option Addr) (c n : Nat), i' ≤ ms.length ∧ i = .int .i64 (i' : Int) ∧ x = .slice ao n c ∧ Hid (n = l0.length + i') ∧ Hid (wr.ownsRow w5.heap.size 48 4 (.slice ao n c) n (flatV (moreV F l0.length (ms.map (·.1))) n)) ∧ Hid (Below w5.heap.size w5 wr)) (fun _ i _ => ms.length - (intOf i).toNat)
      case atStart => exact ⟨0, ao, c, l0.length, by omega, rfl, rfl, (show _ = _ by omega), hown6, hb6⟩
      case round =>
        clear hown6 hb6
        obtain ⟨i', ao, c, n, hi, rfl, rfl, hn, hO, hB⟩ := hrel
        by_cases hlt : i' < ms.length
        · obtain ⟨b, rfl, hz, d0, d1⟩ := hMc.out i' hlt
          have hbr := hB.out
          have c0 := ((bcell hbr).1 b _ hz).trans d0
          have c1 := ((bcell hbr).1 b _ hz).trans d1
          have hzr : b < wr.heap.size := Nat.lt_of_lt_of_le hz hbr.size
          have hst : flatV (moreV F l0.length (ms.map (·.1))) (n + 1) = flatV (moreV F l0.length (ms.map (·.1))) n ++ vcl (ms.getD i' nm0).1 := by
            rw [hn.out, flatV_next]
            congr 2
            simp [List.getD, hlt]
          have hnb : n ≤ 500 := by have := hn.out; omega
          have hn2 : Hid (n + 1 = l0.length + (i' + 1)) := show _ = _ by have := hn.out; omega
          clear d0 d1 hn
          generalize (ms.getD i' nm0).1 = qn at *
          generalize (ms.getD i' nm0).2 = qk at *
          have HST := hid hst
          have hbx := heap_alloc_new wr (.cells #[.string qn, .int .i64 qk] 56)
          have hro := World.ownsRow.alloc hO.out (.cells #[.string qn, .int .i64 qk] 56)
          have hbn := Below.next hbr (below_alloc wr (.cells #[.string qn, .int .i64 qk] 56))
          have hnx : Hid (∀ w6, Below (wr.alloc (.cells #[.string qn, .int .i64 qk] 56)).heap.size (wr.alloc (.cells #[.string qn, .int .i64 qk] 56)) w6 → (w6.alloc (.cells #[.int .i64 1, .string qn, .int .i64 0, .slice none 0 0] 48)).ownsRow w5.heap.size 48 4 (.slice ao n c) n (flatV (moreV F l0.length (ms.map (·.1))) n) ∧ w5.heap.size ≤ w6.heap.size ∧ ∀ w7 g7 c7, w7.ownsRow w5.heap.size 48 4 (.slice (some ⟨g7, 0, none⟩) (n + 1) c7) (n + 1) (flatV (moreV F l0.length (ms.map (·.1))) n ++ vcl qn) → (w6.alloc (.cells #[.int .i64 1, .string qn, .int .i64 0, .slice none 0 0] 48)).grownBy w7 (Value.slice ao n c).ownBlock → Hid (w7.ownsRow w5.heap.size 48 4 (.slice (some ⟨g7, 0, none⟩) (n + 1) c7) (n + 1) (flatV (moreV F l0.length (ms.map (·.1))) (n + 1))) ∧ Hid (Below w5.heap.size w5 w7)) := fun w6 hb6 => by
            have hb7 := Below.next hbn hb6
            have hs7 := hb7.size
            have hr6 := row_keep hro (fun q hq => hb6.block q (hro.lt q hq).2)
            refine ⟨World.ownsRow.alloc hr6 _, hs7, fun w7 g7 c7 hown hg => ⟨?_, ?_⟩⟩
            · show World.ownsRow _ _ _ _ _ _ _
              rw [HST.out]
              exact hown
            · exact (hb7.alloc hs7 _).grown hg (by simp; omega) (fun q hq => (hr6.lt q hq).1)
          obtain ⟨⟨t0, t1⟩, _⟩ := blk2 hbx
          clear hst hO hB hbr hro hbn hbx
          go_wp2_with (first
            | (go_at_call 18; go_must (refine (v_any qn _).mono ?_; rintro e w6 ⟨rfl, hb6⟩; obtain ⟨u6, u8, u7⟩ := hnx.out w6 hb6))
            | (at_builtin; go_must (refine wpList_append_lies _ rfl _ _ 22 rfl w5.heap.size 48 i4 (.agg #[.int .i64 0, .string ⟨#[]⟩, .int .i64 0, .slice none 0 0]) 4 56 Try.underlying22 hi4 hw0 hw1 hw2 rfl (by decide) (.slice ao n c) n (flatV (moreV F l0.length (ms.map (·.1))) n) rfl u6 ⟨w6.heap.size, 0, none⟩ 1 1 (vcl qn) rfl (by rfl) (World.news_of_block (cs := #[.int .i64 1, .string qn, .int .i64 0, .slice none 0 0]) (t := 48) (fr := (0, 0)) (heap_alloc_new w6 _)) (by simp [Value.oneCell']) (by omega) (by unfold maxLen; omega) (by omega) (by simp; omega) (w6.heap.size + 1) (by simp) ?_; intro g7 c7 w7 hown7 hg7 hat7 hlt7; obtain ⟨r7, b7⟩ := u7 w7 g7 c7 hown7 hg7)))
          go_roundw
          case rel => exact ⟨i' + 1, some ⟨g7, 0, none⟩, c7, n + 1, by omega, by go_num, rfl, hn2, r7, b7⟩
          case measure => simp [intOf]; omega
        · obtain rfl : i' = ms.length := by omega
          obtain ⟨w9, hw9⟩ : ∃ w9, w9 = wr := ⟨_, rfl⟩
          subst hw9
          have hn' : n = (l0 ++ (ms.map (·.1)).map vX).length := by
            have := hn.out
            simp
            omega
          have hK : (l0 ++ (ms.map (·.1)).map vX).length = l0.length + ms.length := by simp
          have hxc := moreV_xc (W := W) (ss := ms.map (·.1)) hF.out.2
          have hzz := szXs_cat HZX.out (szXs_vars hnz.out)
          have hpp : prtXs (l0 ++ (ms.map (·.1)).map vX) + prtQ l1 ≤ 30000 := by
            rw [prtXs_cat, prt_vars]
            simp
            omega
          have hbB := Below.next hbW.out hB.out
          have hRX : Rxs w9 (.slice ao n c) (l0 ++ (ms.map (·.1)).map vX) := by
            have hO' := hO.out
            rw [hn'] at hO' ⊢
            exact own_rxs0 (moreV_len hF.out.1) hO' (fun j hj => (hxc j hj).next hbB)
          have hgx := hid ((hB.out.block w3.heap.size (lt_of_block hX5.out)).trans hX5.out)
          have hMc9 : Hid (∀ i, i < ms.length → ∃ b, mo = some ⟨b, 0, none⟩ ∧ b < w9.heap.size ∧ w9.cell? ⟨b, i * 2, none⟩ = some (.string (ms.getD i nm0).1) ∧ w9.cell? ⟨b, i * 2 + 1, none⟩ = some (.int .i64 (ms.getD i nm0).2)) := fun i hi => by
            obtain ⟨b, e, h0, h1, h2⟩ := hMc.out i hi
            have hs := hB.out.size
            exact ⟨b, e, by omega, ((bcell hB.out).1 b _ h0).trans h1, ((bcell hB.out).1 b _ h0).trans h2⟩
          by_cases hc2 : (tieC (l0 ++ (ms.map (·.1)).map vX) l1).1 = 0
          · obtain ⟨e2, hd2⟩ := al_dec (tieG (l0 ++ (ms.map (·.1)).map vX) l1)
            have hsr := hlm.out hc2 e2 hd2
            have ht2 := tie_ok hRX (HQ.out.next hbB) hzz HZQ.out hpp hc2 e2 hd2
            rw [← hK, ← hn'] at hsr
            generalize trimF (quoF e2 (tieG (l0 ++ (ms.map (·.1)).map vX) l1)) = T2 at hsr ht2
            have HSR := hid hsr
            have hB9 := hid hbB
            have hnb : n ≤ 500 := by omega
            have hnk1 : l0.length + ms.length ≤ n := by omega
            have hnk2 : n ≤ l0.length + ms.length := by omega
            have HMC := hid hMc9.out
            clear hd2 hc2 hO hB hn hn' hK hxc hzz hpp hRX hsr hMc hMc9 hlm hbB
            go_wp2_with (go_at_call 9; go_must (refine ht2.mono ?_; clear ht2; rintro r w8 ⟨⟨nv, rv, avs, mv2, rfl, hO, _⟩, hb8⟩; obtain ⟨m0, m9, rfl⟩ := hO.nsl; obtain ⟨p0, p9, rfl, hpr⟩ := hO.r; have hpr' := hid hpr; obtain ⟨hR1, hR2, hR3⟩ := HSR.out; rw [hR1, hR2]; rw [hR2] at hpr'; have hgx8 := (hb8.block _ (lt_of_block hgx.out)).trans hgx.out; obtain ⟨⟨k0, k1⟩, _⟩ := blk2 hgx8; have hz8 := lt_of_block hgx8; clear hO hpr))
            go_loopw [97] (fun i wr => ∃ j : Nat, j ≤ ms.length ∧ i = .int .i64 (j : Int) ∧ Hid (Below (w8.alloc (.cells #[.slice m0 TN m9, .slice p0 n p9] 29)).heap.size (w8.alloc (.cells #[.slice m0 TN m9, .slice p0 n p9] 29)) wr)) (fun i _ => ms.length - (intOf i).toNat)
            case atStart => exact ⟨0, by omega, rfl, Below.refl _ _⟩
            case round =>
              clear k0 k1 hz8 hgx8
              obtain ⟨j, hj, rfl, hbw⟩ := hrel
              by_cases hlt : j < ms.length
              · obtain ⟨kk, hkk⟩ : ∃ kk : Nat, l0.length + j = kk := ⟨_, rfl⟩
                obtain ⟨rb, rfl, r1⟩ := int_cell (R := T2.roots) (by rw [HSR.out.2.1]; exact hpr'.out) (i := kk) (by rw [HSR.out.2.1]; omega)
                rw [← hkk, HSR.out.2.2 j hlt] at r1
                obtain ⟨b, rfl, hz, d0, d1⟩ := HMC.out j hlt
                rw [hkk] at r1
                have hbb := Below.next (below_alloc w8 (.cells #[.slice m0 TN m9, .slice (some ⟨rb, 0, none⟩) n p9] 29)) hbw.out
                have hb9r := Below.next hb8 hbb
                have hrz := lt_of_cell r1
                have q1 := ((bcell hbb).1 rb _ hrz).trans r1
                have c0 := ((bcell hb9r).1 b _ hz).trans d0
                have c1 := ((bcell hb9r).1 b _ hz).trans d1
                have hzr : b < wr.heap.size := Nat.lt_of_lt_of_le hz hb9r.size
                have hrl : rb < wr.heap.size := Nat.lt_of_lt_of_le hrz hbb.size
                have hgx9 := (hbw.out.block w8.heap.size (by simp)).trans (heap_alloc_new w8 _)
                obtain ⟨⟨g0, g1⟩, _⟩ := blk2 hgx9
                have hg2 := lt_of_block hgx9
                have hki : (l0.length : Int) + (j : Int) = (kk : Int) := by omega
                have hkn : ¬ (n : Int) ≤ (kk : Int) := by omega
                have hkb : kk ≤ 1000 := by omega
                have hkR : kk < n := by omega
                have hbn := hid (hbw.out.alloc hbw.out.size (.cells #[.string (ms.getD j nm0).1, .int .i64 (ms.getD j nm0).2] 56))
                clear r1 d0 d1 hz hrz hbb hb9r hkk hgx9 hnk1 hnk2 HSR HMC
                generalize (ms.getD j nm0).1 = qn at *
                generalize (ms.getD j nm0).2 = qk at *
                obtain ⟨⟨t0, t1⟩, _⟩ := blk2 (heap_alloc_new wr (.cells #[.string qn, .int .i64 qk] 56))
                go_wp2
                go_quiet (fail)
                go_wp2
                go_roundw
                case rel => exact ⟨j + 1, by omega, by go_num, below_drewN hbn.out _⟩
                case measure => simp [intOf]; omega
              · go_wp2
                go_ret
                exact ⟨rfl, Below.next (Below.next (Below.next hB9.out hb8) (below_alloc w8 _)) hbw.out⟩
          · have ht2 := tie_bad hRX (HQ.out.next hbB) hzz HZQ.out (by omega) hc2
            clear hO hB hn hn' hK hxc hzz hpp hRX hMc hMc9 hlm hc2
            go_wp2_with (go_at_call 9; go_must (refine ht2.mono ?_; clear ht2; rintro r w8 ⟨⟨ev, rfl, hE⟩, hb8⟩; obtain ⟨eb, rfl, _⟩ := hE; have hbf := hid (Below.next (Below.next hbB hb8) (below_alloc w8 (.cells #[.slice none 0 0, .slice none 0 0] 29)))))
            go_ret
            exact ⟨rfl, hbf.out⟩
    · have ht := hid (fun (w : World) (hb : Below W.heap.size W w) => tie_bad (HX.out.next hb) (HQ.out.next hb) HZX.out HZQ.out (by omega) hc)
      go_enter Try.func5, Try.ntmps5
      go_wp2_with (first
        | (go_at_call 8; go_must (refine (hla.out _ hb1).mono ?_; clear hla; rintro e2 w2 ⟨rfl, hb2⟩; have hB := Below.next hb1 hb2; clear hb1 hb2))
        | (go_at_call 7; go_must (refine (tlives_any _).mono ?_; rintro e1 w1 ⟨rfl, hb1⟩))
        | (go_at_call 9; go_must (refine (ht.out w2 hB).mono ?_; clear ht; rintro r w3 ⟨⟨ev, rfl, hE⟩, hb3⟩; obtain ⟨eb, rfl, _⟩ := hE; have hbf := Below.next (Below.next hB hb3) (below_alloc w3 (.cells #[.slice none 0 0, .slice none 0 0] 29)))))
      go_ret
      exact ⟨rfl, hbf⟩
end Go.Proofs.Ytncileojdighnaa
