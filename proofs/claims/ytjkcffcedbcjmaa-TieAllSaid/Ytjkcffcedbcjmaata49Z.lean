/- tied of tendrilref08. -/
import Derived.Test.Ytjkcffcedbcjmaata47Z
import Derived.Test.Ytjkcffcedbcjmaata45Z
import Derived.Test.Ytjkcffcedbcjmaata44Z
namespace Go.Proofs.Ytjkcffcedbcjmaa
set_option maxRecDepth 100000
open Go.RowKit Go.Maps
section
variable {M : List Nd} {Sf : Nat → Int} {B : List Int} {ns : List ByteArray}
set_option maxHeartbeats 16000000 in
theorem rtied_any {w : World} {B0 tb : Nat} {lv nv rov stv : Value} {avs : List Value} (hP : Ptb w B0 tb lv nv avs M) (hL : Rsn w lv ns) (hRo : Ri w rov B) (hSt : Ri w stv ((List.range ns.length).map Sf)) (hG : Good (allM M Sf B ns.length)) (hM : ∀ n ∈ M, n.kind = 1 → 0 ≤ n.num ∧ n.num ≤ (ns.length : Int)) (hA : ∀ n ∈ M, ∀ a ∈ n.args, 0 ≤ a ∧ a < (M.length : Int)) (hBr : ∀ b ∈ B, 0 ≤ b ∧ b < (M.length : Int)) (ee : Nat → Nat → Bool) (he : ∀ x y : Nat, (ee x y = true ↔ Al (smlM M Sf B ns.length) (x : Int) (y : Int))) :
    Calls Try.prog 36 #[.pointer (some ⟨tb, 0, none⟩), rov, stv] w fun r w' => (∃ nv' rv' mo mc, r = .returned (.tuple #[.agg #[nv', rv'], .slice mo (nmdF ee (smlM M Sf B ns.length) (fun i => (posF (metF (allM M Sf B ns.length)) (Sf i)).toNat) ns ns.length).length mc, fV 0 0 ⟨#[]⟩]) ∧ (∃ av', Og w' w.heap.size nv' rv' av' (trimF (quoF ee (smlM M Sf B ns.length)))) ∧ w'.ownsRow w.heap.size 56 2 (.slice mo (nmdF ee (smlM M Sf B ns.length) (fun i => (posF (metF (allM M Sf B ns.length)) (Sf i)).toNat) ns ns.length).length mc) (nmdF ee (smlM M Sf B ns.length) (fun i => (posF (metF (allM M Sf B ns.length)) (Sf i)).toNat) ns ns.length).length (mcells (nmdF ee (smlM M Sf B ns.length) (fun i => (posF (metF (allM M Sf B ns.length)) (Sf i)).toNat) ns ns.length))) ∧ Below w.heap.size w w' := by
  obtain ⟨i0, hi, hz0, hz1, hz2⟩ := info_parts infoI
  obtain ⟨i1, hi1, hy0, hy1, hy2⟩ := info_parts infoN
  have hMn : M.length ≤ 4096 := by have := hG.nodes; simpa using this
  have hBm : B.length + ns.length ≤ 4096 := by have := hG.roots; simpa using this
  have HA8 := hid (fun n (hn : n ∈ M) => (show n.args.length ≤ 8 by have := (good_args (hG.node _ (List.mem_map.2 ⟨n, hn, rfl⟩))).2; simpa [whX] using this))
  obtain ⟨na, nc, rfl⟩ := own_sl hP.on.n
  have hRn := hid hP.on.rn
  have hTb : Hid (∀ w', Below w.heap.size w w' → w'.cell? ⟨tb, 0, none⟩ = some lv ∧ w'.cell? ⟨tb, 1, none⟩ = some (.slice na M.length nc) ∧ tb < w'.heap.size) := fun w' hb => by
    have h1 := (hb.block _ (lt_of_block hP.box)).trans hP.box
    obtain ⟨⟨t0, t1⟩, _⟩ := blk2 h1
    exact ⟨t0, t1, lt_of_block h1⟩
  have hztb := lt_of_block hP.box
  have hmk := make_cls M.length (by omega)
  obtain ⟨so, sc, rfl, hSc⟩ := hSt
  obtain ⟨ro, rc, rfl, hRc⟩ := hRo
  have HS := hid hSc
  have HR := hid hRc
  have HL := hid hL
  have HG := hid hG
  have HM := hid hM
  have HA := hid hA
  have HB := hid hBr
  have HE := hid he
  obtain ⟨ta, tc, rfl, _⟩ := hL
  have hsl : ((List.range ns.length).map Sf).length = ns.length := by simp
  rw [hsl]
  have b2 : Below w.heap.size w ((w.alloc (.cells #[.slice none 0 0, .slice none 0 0] 29)).alloc (.cells #[.int .i64 0, .int .i64 0, .string ⟨#[]⟩, .slice none 0 0] 37)) := (below_alloc w _).alloc (by simp) _
  obtain ⟨q0, q1, q2⟩ := hTb.out _ b2
  have hT0 : Hid (Tr w (((w.alloc (.cells #[.slice none 0 0, .slice none 0 0] 29)).alloc (.cells #[.int .i64 0, .int .i64 0, .string ⟨#[]⟩, .slice none 0 0] 37)).alloc (irow M.length (fun _ => 0))) (w.heap.size + 1 + 1) M.length (upto (fun k => toF M Sf (k : Int)) 0) (.cells #[.slice none 0 0, .slice none 0 0] 29) (.cells #[.int .i64 0, .int .i64 0, .string ⟨#[]⟩, .slice none 0 0] 37)) := by
    refine ⟨b2.alloc (by have := b2.size; simpa using this) _, ?_, ?_, ?_, rfl⟩
    · rw [Below.heap_alloc _ _ _ (by simp; omega), Below.heap_alloc _ _ _ (by simp)]
      exact heap_alloc_new w _
    · rw [Below.heap_alloc _ _ _ (by simp)]
      simpa using heap_alloc_new (w.alloc (.cells #[.slice none 0 0, .slice none 0 0] 29)) (.cells #[.int .i64 0, .int .i64 0, .string ⟨#[]⟩, .slice none 0 0] 37)
    · have h9 := heap_alloc_new ((w.alloc (.cells #[.slice none 0 0, .slice none 0 0] 29)).alloc (.cells #[.int .i64 0, .int .i64 0, .string ⟨#[]⟩, .slice none 0 0] 37)) (irow M.length (fun _ => 0))
      simp only [World.size_alloc] at h9
      exact h9.trans (congrArg some (irow_congr (fun i _ => by simp [upto])))
  clear hP hSc hRc hG hM hA hBr he b2
  go_enter Try.func36, Try.ntmps36
  go_wp2
  clear q0 q1 q2
  have hT0q : Hid (∃ tq, tq = w.heap.size + 1 + 1) := ⟨_, rfl⟩
  generalize hq : w.heap.size + 1 + 1 = tq at hT0 ⊢
  have HQ := hid hq
  have hqw : w.heap.size + 1 < tq := by omega
  clear hq hT0q
  go_loopw [10] (fun i wr => ∃ (j : Nat), j ≤ M.length ∧ i = .int .i64 (j : Int) ∧ Hid (Tr w wr tq M.length (upto (fun k => toF M Sf (k : Int)) j) (.cells #[.slice none 0 0, .slice none 0 0] 29) (.cells #[.int .i64 0, .int .i64 0, .string ⟨#[]⟩, .slice none 0 0] 37))) (fun i _ => M.length - (intOf i).toNat)
  case atStart => exact ⟨0, Nat.zero_le _, rfl, hT0.out⟩
  case round =>
    clear hT0
    obtain ⟨j, hj, rfl, hT⟩ := hrel
    obtain ⟨q0, q1, q2⟩ := hTb.out _ hT.out.b
    by_cases hlt : j < M.length
    · obtain ⟨x0, x1⟩ := irow_cell hT.out.r hlt
      have hzq := lt_of_block hT.out.r
      obtain ⟨_, _, e1, hnd⟩ := hRn.out
      injection e1 with e1 _ e2
      subst e1 e2
      obtain ⟨nb, no, av, rfl, hnj⟩ := hnd j hlt
      obtain ⟨n0, n1, n2, n3, _⟩ := hnj.below hT.out.b
      have hmr := HM.out (M.getD j nd0) (by simp [List.getD, hlt])
      have hst := hid (fun v (h : toF M Sf (j : Int) = v) => ((hT.out.set j v).congr (upto_one h)))
      have hst2 := hid (fun v (h : toF M Sf (j : Int) = v) => by
        have h9 := ((hT.out.set j (j : Int)).set j v).congr (g := upto (fun k => toF M Sf (k : Int)) (j + 1)) (fun i hi => by rw [updI_two]; exact upto_one h i hi)
        exact h9)
      have htf : toF M Sf (j : Int) = if (M.getD j nd0).kind = 1 ∧ 0 < (M.getD j nd0).num then Sf ((M.getD j nd0).num - 1).toNat else (j : Int) := by
        unfold toF
        rw [Int.toNat_natCast]
      have hzn : nb < w.heap.size := lt_of_cell hnj.1
      have hbT := hT.out.b
      have hws := hbT.size
      have hTn := hid (fun v (h : toF M Sf (j : Int) = v) => hst.out v h)
      generalize M.getD j nd0 = x at n0 n1 n2 n3 hmr htf
      obtain ⟨kind, name, num, args⟩ := x
      dsimp only at n0 n1 n2 n3 hmr htf
      clear hnd hnj
      by_cases hk : kind = 1
      · subst hk
        obtain ⟨h1, h2⟩ := hmr rfl
        by_cases hn0 : 0 < num
        · obtain ⟨zn, rfl⟩ : ∃ zn : Nat, num = (zn : Int) + 1 := ⟨(num - 1).toNat, by omega⟩
          have hzm : zn < ns.length := by omega
          obtain ⟨sb, s0, hso, hsc⟩ := HS.out zn (by simpa using hzm)
          subst hso
          have hsz := lt_of_cell hsc
          have hsc2 := (hbT.cell (p := ⟨sb, s0 + zn, none⟩) hsz).trans hsc
          rw [show ((List.range ns.length).map Sf).getD zn 0 = Sf zn by simp [List.getD, hzm]] at hsc2
          have hfv := hid (hst2.out (Sf zn) (by rw [htf, if_pos ⟨rfl, by omega⟩]; congr 1; omega))
          clear hsc htf hst hst2 hTn
          go_wp2
          go_roundw
          case rel => exact ⟨j + 1, by omega, by go_num, hfv.out⟩
          case measure => simp [intOf]; omega
        · have hfv := hid (hst.out (j : Int) (by rw [htf, if_neg (fun h => hn0 h.2)]))
          clear htf hst hst2 hTn
          go_wp2
          go_roundw
          case rel => exact ⟨j + 1, by omega, by go_num, hfv.out⟩
          case measure => simp [intOf]; omega
      · have hfv := hid (hst.out (j : Int) (by rw [htf, if_neg (fun h => hk h.1)]))
        clear htf hst hst2 hTn
        go_wp2
        go_roundw
        case rel => exact ⟨j + 1, by omega, by go_num, hfv.out⟩
        case measure => simp [intOf]; omega
    · obtain rfl : j = M.length := by omega
      obtain ⟨wA, hwA⟩ : ∃ wA, wA = wr := ⟨wr, rfl⟩
      subst hwA
      have hT1 := hT.out.congr (upto_last _ _)
      have hbA := hT1.b
      have hwz := hbA.size
      have hToR := hid (irow_ri hT1.r)
      have hX1 := hid hT1.x1
      have hX2 := hid hT1.x2
      have hRA := hid (hRn.out.below hbA)
      have hJ0 : Hid (J wA (wA.alloc (.cells #[.slice none 0 0, .slice none 0 0] 29)) gf0 none 0 none 0 []) := ⟨below_alloc _ _, heap_alloc_new wA _, og_nil _ _⟩
      have hxz := lt_of_block hT1.x2
      have hqz := lt_of_block hT1.r
      clear hT hT1
      go_wp2
      clear q0 q1 q2
      go_loopw [12] (fun i wr => ∃ (k : Nat) (ao : Option Addr) (c : Nat) (avs2 : List Value), k ≤ M.length ∧ i = .int .i64 k ∧ Hid (J wA wr ⟨(M.take k).map (whX M Sf), []⟩ ao c none 0 avs2)) (fun i _ => M.length - (intOf i).toNat)
      case atStart => exact ⟨0, none, 0, [], Nat.zero_le _, rfl, by simpa [Hid] using hJ0⟩
      case round =>
        clear hJ0
        obtain ⟨j, ao, c, avs2, hj, rfl, hT⟩ := hrel
        obtain ⟨q0, q1, q2⟩ := hTb.out _ (Below.next hbA hT.out.b)
        by_cases hjl : j < M.length
        · have hts : M.take (j + 1) = M.take j ++ [M.getD j nd0] := by
            rw [List.take_add_one]
            simp [List.getD, hjl]
          have hbe := hT.out.b
          obtain ⟨_, _, e1, hnds⟩ := hRA.out
          injection e1 with e1 _ e2
          subst e1 e2
          obtain ⟨nb, no, av, rfl, hnd⟩ := hnds j hjl
          obtain ⟨n0, n1, n2, n3, hA⟩ := hnd.below hbe
          have hga := HA.out (M.getD j nd0) (by simp [List.getD, hjl])
          have hNS : Hid ((M.take (j + 1)).map (whX M Sf) = (M.take j).map (whX M Sf) ++ [whX M Sf (M.getD j nd0)]) := by
            show _ = _
            rw [hts]
            simp
          have hL : ((M.take j).map (whX M Sf)).length = j := by simp; omega
          generalize (M.take j).map (whX M Sf) = NS at hT hNS hL
          have hHA := hid hA
          have hal8 := HA8.out (M.getD j nd0) (by simp [List.getD, hjl])
          have hgr1 := hid hga
          generalize M.getD j nd0 = x at n0 n1 n2 n3 hNS hA hHA hgr1 hal8
          obtain ⟨kind, name, num, args⟩ := x
          dsimp only at n0 n1 n2 n3 hA hHA hgr1 hal8
          obtain ⟨aa0, ac0, rfl, _⟩ := hA
          have HT := hid hT
          have p0 := cell1 q0
          have p1 := cell1 q1
          have zb := lt_of_cell n0
          clear hnds hnd hga hT hts
          obtain ⟨wo, hwo⟩ : ∃ wo, wo = wr := ⟨wr, rfl⟩
          subst hwo
          have q5 := cell1 n0
          have q6 := cell1 n1
          have q7 := cell1 n2
          have q8 := cell1 n3
          by_cases hk : kind = 1
          · subst hk
            replace hNS := hid (hNS.out.trans (show _ = NS ++ [renum (toF M Sf) ⟨1, name, 0, args⟩] by unfold whX renum; rw [if_pos rfl]))
            have hstep := hid (fun (w4 w5 : World) (aa : Option Addr) (ac gg cap : Nat) => J.push (w4 := w4) (w5 := w5) (aa := aa) (ac := ac) (g := gg) (cap := cap) (F := toF M Sf) (n := ⟨1, name, 0, args⟩) HT.out.out hL)
            dsimp only at hstep
            go_wp2
            have hA0 : Hid (Aq wo (wo.alloc (.cells #[.int .i64 1, .string name, .int .i64 0, .slice aa0 args.length ac0] 63)) 1 name 0 (.slice aa0 args.length ac0) (.slice none 0 0) 0 []) := ⟨below_alloc _ _, heap_alloc_new _ _, World.ownsRow_nil _ _ _ _⟩
            clear p0 p1 q0 q1 q2 q5 q6 q7 q8
            go_loopw [14, 15] (fun x i wr => ∃ (m : Nat) (aa : Option Addr) (ac : Nat), m ≤ args.length ∧ i = .int .i64 m ∧ x = .slice aa m ac ∧ Hid (Aq wo wr 1 name 0 (.slice aa0 args.length ac0) (.slice aa m ac) m ((args.take m).map (toF M Sf)))) (fun _ i _ => args.length - (intOf i).toNat)
            case atStart => exact ⟨0, none, 0, Nat.zero_le _, rfl, rfl, by simpa [Hid] using hA0⟩
            case round =>
              clear hA0
              obtain ⟨m, aa, ac, hm, rfl, rfl, hQ⟩ := hrel
              obtain ⟨⟨x0, x1, x2, x3⟩, y0, y1, y2, y3⟩ := blk4 hQ.out.box
              by_cases hml : m < args.length
              · have hbo := Below.next HT.out.out.b hQ.out.b
                obtain ⟨ua, uc, hue, huc⟩ := hHA.out.below hQ.out.b
                obtain ⟨ub, uo, hua, hu⟩ := huc m hml
                have hue' : aa0 = ua := by injection hue
                subst hue'
                subst hua
                have hxr := hgr1.out _ (getD_mem hml)
                have hsn := hid (take_snoc hml)
                obtain ⟨ca, cc, hce, hccs⟩ := hToR.out.below hbo
                generalize args.getD m 0 = z at hu hxr hsn
                obtain ⟨zn, rfl⟩ : ∃ zn : Nat, z = (zn : Int) := ⟨z.toNat, by omega⟩
                have hzN : zn < M.length := by omega
                obtain ⟨vb, vo, hva, hv⟩ := hccs zn (by simp; exact hzN)
                have hce' : ca = some ⟨tq, 0, none⟩ := by injection hce with h1; exact h1.symm
                rw [hce'] at hva
                have hva' : tq = vb ∧ 0 = vo := by simpa using hva
                obtain ⟨rfl, rfl⟩ := hva'
                rw [Nat.zero_add] at hv
                have hcI : Hid (((List.range M.length).map (fun k : Nat => toF M Sf (k : Int))).getD zn 0 = (toF M Sf) (zn : Int)) := by show _ = _; simp [List.getD, hzN]
                generalize ((List.range M.length).map (fun k : Nat => toF M Sf (k : Int))).getD zn 0 = y at hv hcI
                have ho1 := World.ownsRow.alloc hQ.out.row (.cells #[.int .i64 y] 3)
                have hzs := lt_of_block hQ.out.box
                have hlen : ((args.take m).map (toF M Sf)).length = m := by simp; omega
                clear hue huc hce hccs hva
                go_wp2_with (at_builtin; refine wpList_append_lies _ rfl _ _ _ rfl (wo.heap.size + 1) 3 i0 (.int .i64 0) 1 8 Try.underlying27 hi hz0 hz1 hz2 rfl (by decide) _ m (((args.take m).map (toF M Sf)).map (Value.int .i64)) rfl ho1 ⟨wr.heap.size, 0, none⟩ 1 1 [.int .i64 y] rfl rfl (World.news_of_block (cs := #[.int .i64 y]) (t := 3) (fr := (0, 0)) (heap_alloc_new wr _)) (by simp [Value.oneCell']) (by omega) (by unfold maxLen; omega) (by omega) (by simp; omega) (wr.heap.size + 1) (by simp) ?_; intro gg cap w5 hown5 hgr5 hat5 hlt5)
                go_roundw
                case rel =>
                  refine ⟨m + 1, some ⟨gg, 0, none⟩, cap, by omega, by go_num, rfl, ?_⟩
                  show Aq _ _ _ _ _ _ _ _ _
                  rw [hsn.out, List.map_append]
                  have := hQ.out.more hgr5 hown5
                  rw [hcI.out] at this
                  exact this
                case measure => simp [intOf]; omega
              · obtain rfl : m = args.length := by omega
                have hQr := hQ.out.row
                rw [List.take_of_length_le (Nat.le_refl _)] at hQr
                have hQb := hQ.out.b
                have hb4s : Below wo.heap.size wo (wr.setCell ⟨wo.heap.size, 3, none⟩ (.slice aa args.length ac)) := hQb.setCell (Nat.le_refl _) _
                have haos : (wr.setCell ⟨wo.heap.size, 3, none⟩ (.slice aa args.length ac)).ownsRow wo.heap.size 3 1 (.slice aa args.length ac) args.length ((args.map (toF M Sf)).map (Value.int .i64)) := own_base (own_block hQr (fun k e => Below.heap_setCell _ _ _ _ (by have := (hQr.lt k e).1; show k ≠ wo.heap.size; omega))) (by omega)
                have hon := HT.out.out.og.on
                have hout := HT.out.out.out
                dsimp only at hon hout
                rw [hL] at hon hout
                have honn := hon.n
                rw [hL] at honn
                have hzo := lt_of_block hout
                have hnv : ∀ k, Value.ownBlock (.slice ao j c) = some k → wA.heap.size + 1 ≤ k := fun k e => (hon.n.lt k e).1
                have hon4 := World.ownsRow.alloc (own_below honn hb4s) (.cells #[.int .i64 1, .string name, .int .i64 0, .slice aa args.length ac] 63)
                have d4 : (wr.setCell ⟨wo.heap.size, 3, none⟩ (.slice aa args.length ac)).heap[wA.heap.size]? = some (.cells #[.slice ao j c, .slice none 0 0] 29) := by rw [hb4s.block _ hzo]; exact hout
                obtain ⟨⟨g0, _⟩, g1, _⟩ := blk2 d4
                obtain ⟨⟨gg0, _⟩, gg1, _⟩ := blk2 ((hQb.block _ hzo).trans hout)
                have hsz4 : (wr.setCell ⟨wo.heap.size, 3, none⟩ (.slice aa args.length ac)).heap.size = wr.heap.size := by simp
                have hz5 := hb4s.size
                rw [hsz4] at hz5
                have hnews := heap_alloc_new (wr.setCell ⟨wo.heap.size, 3, none⟩ (.slice aa args.length ac)) (.cells #[.int .i64 1, .string name, .int .i64 0, .slice aa args.length ac] 63)
                rw [hsz4] at hnews
                have hw1s := HT.out.out.b.size
                clear hQ hQr hQb hon
                go_wp2_with (at_builtin; refine wpList_append_lies _ rfl _ _ _ rfl (wA.heap.size + 1) 63 i1 (.agg #[.int .i64 0, .string ⟨#[]⟩, .int .i64 0, .slice none 0 0]) 4 56 Try.underlying26 hi1 hy0 hy1 hy2 rfl (by omega) _ j (ncells NS avs2) rfl hon4 ⟨wr.heap.size, 0, none⟩ 1 1 [.int .i64 1, .string name, .int .i64 0, .slice aa args.length ac] rfl rfl (World.news_of_block (cs := #[.int .i64 1, .string name, .int .i64 0, .slice aa args.length ac]) (t := 63) (fr := (0, 0)) hnews) (by simp [Value.oneCell']) (by omega) (by unfold maxLen; omega) (by omega) (by simp; omega) (wr.heap.size + 1) (by simp) ?_; intro gg cap w5 hown5 hgr5 hat hlt5; have d5 : w5.heap[wA.heap.size]? = some (.cells #[.slice ao j c, .slice none 0 0] 29) := (by rw [hgr5.block _ (by simp; omega) (fun e => by have := hnv _ e.symm; omega), Below.heap_alloc _ _ _ (by simp; omega)]; exact d4); obtain ⟨⟨d0', _⟩, d1', _⟩ := blk2 d5)
                go_roundw
                case rel =>
                  refine ⟨j + 1, some ⟨gg, 0, none⟩, cap, avs2 ++ [.slice aa args.length ac], by omega, by go_num, ?_⟩
                  show J _ _ _ _ _ _ _ _
                  rw [hNS.out]
                  exact (hstep.out _ w5 aa ac gg cap hb4s haos _ hgr5 hown5 (by rw [hsz4]; exact hat)).1
                case measure => simp [intOf]; omega
          · replace hNS := hid (hNS.out.trans (show _ = NS ++ [renum (toF M Sf) ⟨kind, name, num, args⟩] by unfold whX renum; rw [if_neg hk]))
            have hstep := hid (fun (w4 w5 : World) (aa : Option Addr) (ac gg cap : Nat) => J.push (w4 := w4) (w5 := w5) (aa := aa) (ac := ac) (g := gg) (cap := cap) (F := toF M Sf) (n := ⟨kind, name, num, args⟩) HT.out.out hL)
            dsimp only at hstep
            go_wp2
            clear hk
            have hA0 : Hid (Aq wo (wo.alloc (.cells #[.int .i64 kind, .string name, .int .i64 num, .slice aa0 args.length ac0] 63)) kind name num (.slice aa0 args.length ac0) (.slice none 0 0) 0 []) := ⟨below_alloc _ _, heap_alloc_new _ _, World.ownsRow_nil _ _ _ _⟩
            clear p0 p1 q0 q1 q2 q5 q6 q7 q8
            go_loopw [14, 15] (fun x i wr => ∃ (m : Nat) (aa : Option Addr) (ac : Nat), m ≤ args.length ∧ i = .int .i64 m ∧ x = .slice aa m ac ∧ Hid (Aq wo wr kind name num (.slice aa0 args.length ac0) (.slice aa m ac) m ((args.take m).map (toF M Sf)))) (fun _ i _ => args.length - (intOf i).toNat)
            case atStart => exact ⟨0, none, 0, Nat.zero_le _, rfl, rfl, by simpa [Hid] using hA0⟩
            case round =>
              clear hA0
              obtain ⟨m, aa, ac, hm, rfl, rfl, hQ⟩ := hrel
              obtain ⟨⟨x0, x1, x2, x3⟩, y0, y1, y2, y3⟩ := blk4 hQ.out.box
              by_cases hml : m < args.length
              · have hbo := Below.next HT.out.out.b hQ.out.b
                obtain ⟨ua, uc, hue, huc⟩ := hHA.out.below hQ.out.b
                obtain ⟨ub, uo, hua, hu⟩ := huc m hml
                have hue' : aa0 = ua := by injection hue
                subst hue'
                subst hua
                have hxr := hgr1.out _ (getD_mem hml)
                have hsn := hid (take_snoc hml)
                obtain ⟨ca, cc, hce, hccs⟩ := hToR.out.below hbo
                generalize args.getD m 0 = z at hu hxr hsn
                obtain ⟨zn, rfl⟩ : ∃ zn : Nat, z = (zn : Int) := ⟨z.toNat, by omega⟩
                have hzN : zn < M.length := by omega
                obtain ⟨vb, vo, hva, hv⟩ := hccs zn (by simp; exact hzN)
                have hce' : ca = some ⟨tq, 0, none⟩ := by injection hce with h1; exact h1.symm
                rw [hce'] at hva
                have hva' : tq = vb ∧ 0 = vo := by simpa using hva
                obtain ⟨rfl, rfl⟩ := hva'
                rw [Nat.zero_add] at hv
                have hcI : Hid (((List.range M.length).map (fun k : Nat => toF M Sf (k : Int))).getD zn 0 = (toF M Sf) (zn : Int)) := by show _ = _; simp [List.getD, hzN]
                generalize ((List.range M.length).map (fun k : Nat => toF M Sf (k : Int))).getD zn 0 = y at hv hcI
                have ho1 := World.ownsRow.alloc hQ.out.row (.cells #[.int .i64 y] 3)
                have hzs := lt_of_block hQ.out.box
                have hlen : ((args.take m).map (toF M Sf)).length = m := by simp; omega
                clear hue huc hce hccs hva
                go_wp2_with (at_builtin; refine wpList_append_lies _ rfl _ _ _ rfl (wo.heap.size + 1) 3 i0 (.int .i64 0) 1 8 Try.underlying27 hi hz0 hz1 hz2 rfl (by decide) _ m (((args.take m).map (toF M Sf)).map (Value.int .i64)) rfl ho1 ⟨wr.heap.size, 0, none⟩ 1 1 [.int .i64 y] rfl rfl (World.news_of_block (cs := #[.int .i64 y]) (t := 3) (fr := (0, 0)) (heap_alloc_new wr _)) (by simp [Value.oneCell']) (by omega) (by unfold maxLen; omega) (by omega) (by simp; omega) (wr.heap.size + 1) (by simp) ?_; intro gg cap w5 hown5 hgr5 hat5 hlt5)
                go_roundw
                case rel =>
                  refine ⟨m + 1, some ⟨gg, 0, none⟩, cap, by omega, by go_num, rfl, ?_⟩
                  show Aq _ _ _ _ _ _ _ _ _
                  rw [hsn.out, List.map_append]
                  have := hQ.out.more hgr5 hown5
                  rw [hcI.out] at this
                  exact this
                case measure => simp [intOf]; omega
              · obtain rfl : m = args.length := by omega
                have hQr := hQ.out.row
                rw [List.take_of_length_le (Nat.le_refl _)] at hQr
                have hQb := hQ.out.b
                have hb4s : Below wo.heap.size wo (wr.setCell ⟨wo.heap.size, 3, none⟩ (.slice aa args.length ac)) := hQb.setCell (Nat.le_refl _) _
                have haos : (wr.setCell ⟨wo.heap.size, 3, none⟩ (.slice aa args.length ac)).ownsRow wo.heap.size 3 1 (.slice aa args.length ac) args.length ((args.map (toF M Sf)).map (Value.int .i64)) := own_base (own_block hQr (fun k e => Below.heap_setCell _ _ _ _ (by have := (hQr.lt k e).1; show k ≠ wo.heap.size; omega))) (by omega)
                have hon := HT.out.out.og.on
                have hout := HT.out.out.out
                dsimp only at hon hout
                rw [hL] at hon hout
                have honn := hon.n
                rw [hL] at honn
                have hzo := lt_of_block hout
                have hnv : ∀ k, Value.ownBlock (.slice ao j c) = some k → wA.heap.size + 1 ≤ k := fun k e => (hon.n.lt k e).1
                have hon4 := World.ownsRow.alloc (own_below honn hb4s) (.cells #[.int .i64 kind, .string name, .int .i64 num, .slice aa args.length ac] 63)
                have d4 : (wr.setCell ⟨wo.heap.size, 3, none⟩ (.slice aa args.length ac)).heap[wA.heap.size]? = some (.cells #[.slice ao j c, .slice none 0 0] 29) := by rw [hb4s.block _ hzo]; exact hout
                obtain ⟨⟨g0, _⟩, g1, _⟩ := blk2 d4
                obtain ⟨⟨gg0, _⟩, gg1, _⟩ := blk2 ((hQb.block _ hzo).trans hout)
                have hsz4 : (wr.setCell ⟨wo.heap.size, 3, none⟩ (.slice aa args.length ac)).heap.size = wr.heap.size := by simp
                have hz5 := hb4s.size
                rw [hsz4] at hz5
                have hnews := heap_alloc_new (wr.setCell ⟨wo.heap.size, 3, none⟩ (.slice aa args.length ac)) (.cells #[.int .i64 kind, .string name, .int .i64 num, .slice aa args.length ac] 63)
                rw [hsz4] at hnews
                have hw1s := HT.out.out.b.size
                clear hQ hQr hQb hon
                go_wp2_with (at_builtin; refine wpList_append_lies _ rfl _ _ _ rfl (wA.heap.size + 1) 63 i1 (.agg #[.int .i64 0, .string ⟨#[]⟩, .int .i64 0, .slice none 0 0]) 4 56 Try.underlying26 hi1 hy0 hy1 hy2 rfl (by omega) _ j (ncells NS avs2) rfl hon4 ⟨wr.heap.size, 0, none⟩ 1 1 [.int .i64 kind, .string name, .int .i64 num, .slice aa args.length ac] rfl rfl (World.news_of_block (cs := #[.int .i64 kind, .string name, .int .i64 num, .slice aa args.length ac]) (t := 63) (fr := (0, 0)) hnews) (by simp [Value.oneCell']) (by omega) (by unfold maxLen; omega) (by omega) (by simp; omega) (wr.heap.size + 1) (by simp) ?_; intro gg cap w5 hown5 hgr5 hat hlt5; have d5 : w5.heap[wA.heap.size]? = some (.cells #[.slice ao j c, .slice none 0 0] 29) := (by rw [hgr5.block _ (by simp; omega) (fun e => by have := hnv _ e.symm; omega), Below.heap_alloc _ _ _ (by simp; omega)]; exact d4); obtain ⟨⟨d0', _⟩, d1', _⟩ := blk2 d5)
                go_roundw
                case rel =>
                  refine ⟨j + 1, some ⟨gg, 0, none⟩, cap, avs2 ++ [.slice aa args.length ac], by omega, by go_num, ?_⟩
                  show J _ _ _ _ _ _ _ _
                  rw [hNS.out]
                  exact (hstep.out _ w5 aa ac gg cap hb4s haos _ hgr5 hown5 (by rw [hsz4]; exact hat)).1
                case measure => simp [intOf]; omega
        · obtain rfl : j = M.length := by omega
          have hTe : Hid (J wA wr ⟨M.map (whX M Sf), []⟩ ao c none 0 avs2) := by
            have := hT.out
            rw [List.take_of_length_le (Nat.le_refl _)] at this
            exact this
          have hlm : (M.map (whX M Sf)).length = M.length := by simp
          have HWN := hid (rfl : M.map (whX M Sf) = M.map (whX M Sf))
          clear hT
          go_wp2
          clear q0 q1 q2
          go_loopw [16] (fun i wr => ∃ (m : Nat) (ro2 : Option Addr) (rcc : Nat), m ≤ B.length ∧ i = .int .i64 m ∧ Hid (J wA wr ⟨M.map (whX M Sf), (B.take m).map (toF M Sf)⟩ ao c ro2 rcc avs2)) (fun i _ => B.length - (intOf i).toNat)
          case atStart => exact ⟨0, none, 0, Nat.zero_le _, rfl, by simpa [Hid] using hTe⟩
          case round =>
            clear hTe
            obtain ⟨m, ro2, rcc, hm, rfl, hJm⟩ := hrel
            have hLm : ((B.take m).map (toF M Sf)).length = m := by simp; omega
            have hbw2 := Below.next hbA hJm.out.b
            have hout := hJm.out.out
            dsimp only at hout
            rw [hLm, hlm] at hout
            have hzo := lt_of_block hout
            by_cases hml : m < B.length
            · obtain ⟨ub, uo, hua, hu0⟩ := HR.out m hml
              subst hua
              have hu := (hbw2.cell (p := ⟨ub, uo + m, none⟩) (lt_of_cell hu0)).trans hu0
              have zu := lt_of_cell hu
              have hxr := HB.out _ (getD_mem hml)
              have hsn := hid (take_snoc hml)
              clear hu0
              generalize B.getD m 0 = z at hu hxr hsn
              obtain ⟨zn, rfl⟩ : ∃ zn : Nat, z = (zn : Int) := ⟨z.toNat, by omega⟩
              have hzN : zn < M.length := by omega
              obtain ⟨ca, cc, hce, hccs⟩ := hToR.out.below hJm.out.b
              obtain ⟨vb, vo, hva, hv⟩ := hccs zn (by simp; exact hzN)
              have hce' : ca = some ⟨tq, 0, none⟩ := by injection hce with h1; exact h1.symm
              rw [hce'] at hva
              have hva' : tq = vb ∧ 0 = vo := by simpa using hva
              obtain ⟨rfl, rfl⟩ := hva'
              rw [Nat.zero_add] at hv
              have zv := lt_of_cell hv
              have hcI : Hid (((List.range M.length).map (fun k : Nat => toF M Sf (k : Int))).getD zn 0 = toF M Sf (zn : Int)) := by show _ = _; simp [List.getD, hzN]
              have hNS2 : Hid ((⟨M.map (whX M Sf), (B.take (m + 1)).map (toF M Sf)⟩ : Gf) = ⟨M.map (whX M Sf), (B.take m).map (toF M Sf) ++ [((List.range M.length).map (fun k : Nat => toF M Sf (k : Int))).getD zn 0]⟩) := by
                show _ = _
                rw [hsn.out, hcI.out]
                simp
              generalize ((List.range M.length).map (fun k : Nat => toF M Sf (k : Int))).getD zn 0 = y at hv hNS2
              obtain ⟨ror, rcr, hreq, hror⟩ := hJm.out.og.r
              have hre1 : ror = ro2 ∧ rcr = rcc := by
                injection hreq with h1 _ h3
                exact ⟨h1.symm, h3.symm⟩
              obtain ⟨rfl, rfl⟩ := hre1
              have hmore := hid (fun (w4 w5 : World) (gg cap : Nat) => J.more (w4 := w4) (w5 := w5) (g := gg) (cap := cap) (l := [y]) hJm.out hLm)
              dsimp only at hror hreq
              rw [hLm] at hror
              generalize ((B.take m).map (toF M Sf)).map (Value.int .i64) = RS at hror hmore
              have hrv : ∀ k, Value.ownBlock (.slice ror m rcr) = some k → wA.heap.size + 1 ≤ k := fun k e => (hror.lt k e).1
              have ho1 := World.ownsRow.alloc hror (.cells #[.int .i64 y] 3)
              obtain ⟨⟨_, o1⟩, _, o3⟩ := blk2 hout
              have hJms := hJm.out.b.size
              clear hreq hJm hLm hce hccs hva hcI hsn
              go_wp2
              go_region_law
                (first
                  | (refine step_append_lies _ (by rfl) _ _ _ (by rfl) (wA.heap.size + 1) 3 i0 (.int .i64 0) 1 8 Try.underlying27 hi hz0 hz1 hz2 rfl (by omega) _ m RS (by rfl) (ho1.drew) ⟨wr.heap.size, 0, none⟩ 1 1 [.int .i64 y] (by rfl) (by rfl) (World.news_of_block (cs := #[.int .i64 y]) (t := 3) (fr := (0, 0)) (heap_alloc_new wr _)) (by simp [Value.oneCell']) (by omega) (by unfold maxLen; omega) (by omega) (by simp; omega) (wr.heap.size + 1) (by simp) ?_; intro gg cap w5 hown5 hgr5 hat hlt5; have d5 : w5.heap[wA.heap.size]? = some (.cells #[.slice ao M.length c, .slice ror m rcr] 29) := (hgr5.block _ (by simp; omega) (fun e => by have := hrv _ e.symm; omega)).trans (keepJ hout (below_alloc wr (.cells #[.int .i64 y] 3)).drew); obtain ⟨⟨_, s0⟩, _, s1⟩ := blk2 d5))
              all_goals go_wp2
              all_goals
                go_roundw
                case rel =>
                  refine ⟨m + 1, some ⟨gg, 0, none⟩, cap, by omega, congrArg (Value.int .i64) (by omega), ?_⟩
                  show J _ _ _ _ _ _ _ _
                  rw [hNS2.out]
                  exact hmore.out _ w5 gg cap (below_alloc wr (.cells #[.int .i64 y] 3)).drew hgr5 hown5 (by simpa using hat)
                case measure => simp [intOf]; omega
            · obtain rfl : m = B.length := by omega
              have hJe : Hid (J wA wr ⟨M.map (whX M Sf), B.map (toF M Sf)⟩ ao c ro2 rcc avs2) := by
                have := hJm.out
                rw [List.take_of_length_le (Nat.le_refl _)] at this
                exact this
              obtain ⟨⟨o0, o1⟩, _⟩ := blk2 hout
              clear hJm
              have hbr := Below.next hbA hJe.out.b
              have hwrz := hbr.size
              have hRi1 : Ri ((wr.alloc (.cells #[.slice ao M.length c, .slice ro2 B.length rcc] 29)).alloc (.cells #[] 3)) (.slice ro2 B.length rcc) (B.map (toF M Sf)) := by
                have h8 := hJe.out.og.gr.2
                simp only [List.length_map] at h8
                exact h8.below ((below_alloc wr _).alloc (by simp) _)
              have hown1 : ((wr.alloc (.cells #[.slice ao M.length c, .slice ro2 B.length rcc] 29)).alloc (.cells #[] 3)).ownsRow (wr.heap.size + 1) 3 1 (.slice (some ⟨wr.heap.size + 1, 0, none⟩) 0 0) 0 (([] : List Int).map (Value.int .i64)) := by
                have h8 := own_empty7 (wr.alloc (.cells #[.slice ao M.length c, .slice ro2 B.length rcc] 29)) (B := wr.heap.size + 1) (z := 1) (T := 3) (by simp)
                simpa using h8
              have hR2 := hid (fun w2 (hg2 : ((wr.alloc (.cells #[.slice ao M.length c, .slice ro2 B.length rcc] 29)).alloc (.cells #[] 3)).grownBy w2 (some (wr.heap.size + 1))) => (show Ri w2 (.slice so ns.length sc) ((List.range ns.length).map Sf) by
                have h8 : Ri w (.slice so ns.length sc) ((List.range ns.length).map Sf) := ⟨so, sc, by rw [hsl], HS.out⟩
                exact h8.below (((hbr.alloc hwrz _).alloc (by simp; omega) _).grown hg2 (by simp; omega) (fun k e => by injection e with e; omega))))
              have hsz2 := hid (fun w2 (hg2 : ((wr.alloc (.cells #[.slice ao M.length c, .slice ro2 B.length rcc] 29)).alloc (.cells #[] 3)).grownBy w2 (some (wr.heap.size + 1))) => (show wr.heap.size + 1 ≤ w2.heap.size by have := hg2.size; simp at this; omega))
              have hall := hid (fun (w2 w3 : World) (g1 g2 c2 : Nat) => td_all (w2 := w2) (w3 := w3) (g1 := g1) (g2 := g2) (c2 := c2) (s := (List.range ns.length).map Sf) (m := B.length + ns.length) hJe.out)
              have htr := hid (fun (w4 : World) (nv4 rv4 : Value) (h : Gr w4 nv4 rv4 (allM M Sf B ns.length)) => rtrim_any HG.out h)
              dsimp only at hall
              simp only [List.length_map] at hall
              go_wp2_with (first
                | (go_at_call 63; refine (htr.out _ _ _ hG4).mono ?_; rintro e w5 ⟨⟨nv5, rv5, av5, rfl, hO5⟩, hb5⟩; obtain ⟨n5, m5, rfl⟩ := hO5.nsl; obtain ⟨r5, p5, rfl, _⟩ := hO5.r)
                | (at_builtin; refine wpList_moreI rfl _ _ rfl (l0 := B.map (toF M Sf)) (l := (List.range ns.length).map Sf) (t := B.length + ns.length) rfl rfl (hR2.out w2 hg2) hown2 (hsz2.out w2 hg2) (by simp; omega) (by omega) (by simp) ?_; intro g2 c2 w3 hown3 hg3 hB3; obtain ⟨hG4, hb4, hx4, hz4⟩ := hall.out w2 w3 g1 g2 c2 hg2 hg3 hB2 (by simp) hown3; obtain ⟨⟨d0, d1⟩, d2, d3⟩ := blk2 hx4)
                | (at_builtin; refine wpList_moreI rfl _ _ rfl (l0 := []) (l := B.map (toF M Sf)) (t := B.length) rfl rfl hRi1 hown1 (by simp) (by simp; omega) (by omega) (by simp) ?_; intro g1 c1 w2 hown2 hg2 hB2))
              have HS2 := hid (smlM_good HG.out)
              have hb5w := Below.next (Below.next hbr hb4) hb5
              have hb5A := Below.next (Below.next hJe.out.b hb4) hb5
              have hRT := hO5.gr.1
              have hRR := hO5.gr.2
              have hcls := rclasses_any (rv := .slice r5 (trimF (allM M Sf B ns.length)).roots.length p5) (g := smlM M Sf B ns.length) (hRT.below (below_alloc w5 (.cells #[.slice n5 (trimF (allM M Sf B ns.length)).nodes.length m5, .slice r5 (trimF (allM M Sf B ns.length)).roots.length p5] 29))) HS2.out ee HE.out
              dsimp only [smlM] at hcls
              have hsb := heap_alloc_new w5 (.cells #[.slice n5 (trimF (allM M Sf B ns.length)).nodes.length m5, .slice r5 (trimF (allM M Sf B ns.length)).roots.length p5] 29)
              have hTR := sml_roots (M := M) (Sf := Sf) (B := B) (m := ns.length)
              have hTN4 := HS2.out.nodes
              have hgdN := hid (fun n (hn : n ∈ (trimF (allM M Sf B ns.length)).nodes) => good_args (HS2.out.node n hn))
              have hRTr := hid (fun x (hx : x ∈ (smlM M Sf B ns.length).roots) => HS2.out.root x hx)
              have hZr := hid (fun i (hi : i < ns.length) => sml_rng HG.out hi)
              have hRTl : ((smlM M Sf B ns.length).roots).length = B.length := by simp
              dsimp only [smlM] at hTN4 hRTr
              clear hall htr hR2 hsz2 hRi1 hown1 hown2 hown3 hg2 hg3 hB2 hB3 hG4 hx4 d0 d1 d2 d3 hO5 hJe o0 o1 hout hlm HWN
              generalize hTNd : (trimF (allM M Sf B ns.length)).nodes = TN at hRT hcls hsb hTN4 hgdN hRTr hZr ⊢
              generalize hRd : (trimF (allM M Sf B ns.length)).roots = TR at hRR hcls hsb hTR ⊢
              have hTRl : B.length + ns.length ≤ TR.length := by rw [hTR, List.length_append, hRTl]; simp
              have HTN := hid hTNd
              have HTR := hid hTR
              have HRTl := hid hRTl
              clear hTNd hRd hTR hRTl
              obtain ⟨⟨s0, s1⟩, s2, s3⟩ := blk2 hsb
              go_wp2_with (go_at_call 64; refine hcls.mono ?_; clear hcls; rintro e wD ⟨cb, lv7, rfl, hcb, hlv, hb7⟩; obtain ⟨la, lc, rfl⟩ := own_sl hlv)
              have hbD := Below.next (hb5w.alloc hb5w.size (.cells #[.slice n5 TN.length m5, .slice r5 TR.length p5] 29)) hb7
              have hbAD := Below.next (hb5A.alloc hb5A.size (.cells #[.slice n5 TN.length m5, .slice r5 TR.length p5] 29)) hb7
              have hb5D := Below.next (below_alloc w5 (.cells #[.slice n5 TN.length m5, .slice r5 TR.length p5] 29)) hb7
              have hsbD := (hb7.block _ (by simp)).trans hsb
              have hRTD := hid (hRT.below hb5D)
              have hRRD := hid (hRR.below hb5D)
              have hcl := csF_len ee TN.length
              have hClR := hid (cls_ri hcl hcb)
              have hlL := ints_len (lsF ee TN.length)
              have hll := lsF_le ee TN.length
              have hllt := hid (lsF_lt ee TN.length)
              obtain ⟨L, hLd⟩ : ∃ L, L = (lsF ee TN.length).length := ⟨_, rfl⟩
              rw [← hLd] at hlL hll hlv ⊢
              have HLd := hid hLd
              have hLsR := hid (Ri.ofOwn (l := ints (lsF ee TN.length)) (by rw [hlL]; exact hlv))
              have hT0 : Hid (J wD (wD.alloc (.cells #[.slice none 0 0, .slice none 0 0] 29)) gf0 none 0 none 0 []) := ⟨below_alloc _ _, heap_alloc_new wD _, og_nil _ _⟩
              have hszD := hbD.size
              have hsz5 := hb5w.size
              have hz5D := hb5D.size
              clear hLd hRT hRR hsb s0 s1 s2 s3 hcb hlv hb7 hb5 hb4 hbr
              go_loopw [23] (fun i wr => ∃ (k : Nat) (ao : Option Addr) (c : Nat) (avs2 : List Value), k ≤ L ∧ i = .int .i64 k ∧ Hid (J wD wr ⟨((lsF ee TN.length).take k).map (fun n => renum (clsI ee TN.length) (TN.getD n nd0)), []⟩ ao c none 0 avs2)) (fun i _ => L - (intOf i).toNat)
              case atStart => exact ⟨0, none, 0, [], Nat.zero_le _, rfl, by simpa [Hid] using hT0⟩
              case round =>
                clear hT0
                obtain ⟨j, ao, c, avs2, hj, rfl, hT⟩ := hrel
                have hzDr := hT.out.b.size
                have hsbR := (hT.out.b.block _ (lt_of_block hsbD)).trans hsbD
                obtain ⟨⟨s0, s1⟩, s2, s3⟩ := blk2 hsbR
                by_cases hjl : j < L
                · have hjl' : j < (lsF ee TN.length).length := by rw [← HLd.out]; exact hjl
                  have hts := ntake_snoc hjl'
                  have hnN := hllt.out _ (nget_mem hjl')
                  obtain ⟨la', lc', hle, hlcs⟩ := hLsR.out.below hT.out.b
                  obtain ⟨lb, lo, hla, hlc⟩ := hlcs j (by rw [hlL]; exact hjl)
                  have hle' : la = la' := by injection hle
                  subst hle'
                  subst hla
                  rw [ints_get hjl'] at hlc
                  generalize (lsF ee TN.length).getD j 0 = n at hts hnN hlc
                  obtain ⟨_, _, e1, hnds⟩ := hRTD.out.below hT.out.b
                  injection e1 with e1 _ e2
                  subst e1 e2
                  obtain ⟨nb, no, av, rfl, hnd⟩ := hnds n hnN
                  obtain ⟨n0, n1, n2, n3, hA⟩ := hnd
                  have hga := hgdN.out (TN.getD n nd0) (by simp [List.getD, hnN])
                  have hNS : Hid (((lsF ee TN.length).take (j + 1)).map (fun n => renum (clsI ee TN.length) (TN.getD n nd0)) = ((lsF ee TN.length).take j).map (fun n => renum (clsI ee TN.length) (TN.getD n nd0)) ++ [renum (clsI ee TN.length) (TN.getD n nd0)]) := by
                    show _ = _
                    rw [hts]
                    simp
                  have hL : (((lsF ee TN.length).take j).map (fun n => renum (clsI ee TN.length) (TN.getD n nd0))).length = j := by simp; omega
                  generalize ((lsF ee TN.length).take j).map (fun n => renum (clsI ee TN.length) (TN.getD n nd0)) = NS at hT hNS hL
                  have hHA := hid hA
                  have hstep := hid (fun (w4 w5 : World) (aa : Option Addr) (ac gg cap : Nat) => J.push (w4 := w4) (w5 := w5) (aa := aa) (ac := ac) (g := gg) (cap := cap) (F := clsI ee TN.length) (n := TN.getD n nd0) hT.out hL)
                  have hal := hga.2
                  have hgr1 := hid hga.1
                  generalize TN.getD n nd0 = x at n0 n1 n2 n3 hNS hstep hA hHA hal hgr1
                  obtain ⟨kind, name, num, args⟩ := x
                  dsimp only at n0 n1 n2 n3 hstep hA hHA hal hgr1
                  obtain ⟨aa0, ac0, rfl, _⟩ := hA
                  have HT := hid hT
                  have p0 := cell1 s0
                  have p1 := cell1 hlc
                  have q0 := cell1 n0
                  have q1 := cell1 n1
                  have q2 := cell1 n2
                  have q5 := cell1 n3
                  have q6 := q0
                  have q7 := q0
                  have q8 := q0
                  have zb := lt_of_cell n0
                  have zl := lt_of_cell hlc
                  have zc := lt_of_cell s0
                  clear hnds hga hT hts hsbR
                  obtain ⟨wo, hwo⟩ : ∃ wo, wo = wr := ⟨wr, rfl⟩
                  subst hwo
                  go_wp2
                  go_big_region
                  have hbd : Below wo.heap.size wo (wo.alloc (.cells #[.int .i64 kind, .string name, .int .i64 num, .slice aa0 args.length ac0] 63)).drew := (below_alloc wo _).drew
                  have hnw : (wo.alloc (.cells #[.int .i64 kind, .string name, .int .i64 num, .slice aa0 args.length ac0] 63)).drew.heap[wo.heap.size]? = some (.cells #[.int .i64 kind, .string name, .int .i64 num, .slice aa0 args.length ac0] 63) := heap_alloc_new wo _
                  generalize (wo.alloc (.cells #[.int .i64 kind, .string name, .int .i64 num, .slice aa0 args.length ac0] 63)).drew = wd at hbd hnw ⊢
                  have hA0 : Hid (Aq wo wd kind name num (.slice aa0 args.length ac0) (.slice none 0 0) 0 []) := ⟨hbd, hnw, World.ownsRow_nil _ _ _ _⟩
                  clear s0 s1 s2 s3
                  go_wp2
                  clear p0 p1 q0 q1 q2 q5 q6 q7 q8
                  go_loopw [25, 26] (fun x i wr => ∃ (m : Nat) (aa : Option Addr) (ac : Nat), m ≤ args.length ∧ i = .int .i64 m ∧ x = .slice aa m ac ∧ Hid (Aq wo wr kind name num (.slice aa0 args.length ac0) (.slice aa m ac) m ((args.take m).map (clsI ee TN.length)))) (fun _ i _ => args.length - (intOf i).toNat)
                  case atStart => exact ⟨0, none, 0, Nat.zero_le _, rfl, rfl, by simpa [Hid] using hA0⟩
                  case round =>
                    clear hA0
                    obtain ⟨m, aa, ac, hm, rfl, rfl, hQ⟩ := hrel
                    obtain ⟨⟨x0, x1, x2, x3⟩, y0, y1, y2, y3⟩ := blk4 hQ.out.box
                    by_cases hml : m < args.length
                    · have hbo := Below.next HT.out.out.b hQ.out.b
                      obtain ⟨ua, uc, hue, huc⟩ := hHA.out.below hQ.out.b
                      obtain ⟨ub, uo, hua, hu⟩ := huc m hml
                      have hue' : aa0 = ua := by injection hue
                      subst hue'
                      subst hua
                      have hxr := hgr1.out _ (getD_mem hml)
                      have hsn := hid (take_snoc hml)
                      obtain ⟨ca, cc, hce, hccs⟩ := hClR.out.below hbo
                      generalize args.getD m 0 = z at hu hxr hsn
                      obtain ⟨zn, rfl⟩ : ∃ zn : Nat, z = (zn : Int) := ⟨z.toNat, by omega⟩
                      have hzN : zn < TN.length := by omega
                      obtain ⟨vb, vo, hva, hv⟩ := hccs zn (by rw [ints_len, hcl]; exact hzN)
                      have hce' : ca = some ⟨cb, 0, none⟩ := by injection hce with h1; exact h1.symm
                      rw [hce'] at hva
                      have hva' : cb = vb ∧ 0 = vo := by simpa using hva
                      obtain ⟨rfl, rfl⟩ := hva'
                      rw [Nat.zero_add] at hv
                      have hcI : Hid ((ints (csF ee TN.length)).getD zn 0 = (clsI ee TN.length) (zn : Int)) := by show _ = _; unfold clsI; rw [Int.toNat_natCast]
                      generalize (ints (csF ee TN.length)).getD zn 0 = y at hv hcI
                      have ho1 := World.ownsRow.alloc hQ.out.row (.cells #[.int .i64 y] 3)
                      have hzs := lt_of_block hQ.out.box
                      have hlen : ((args.take m).map (clsI ee TN.length)).length = m := by simp; omega
                      clear hue huc hce hccs hva
                      go_wp2_with (at_builtin; refine wpList_append_lies _ rfl _ _ _ rfl (wo.heap.size + 1) 3 i0 (.int .i64 0) 1 8 Try.underlying27 hi hz0 hz1 hz2 rfl (by decide) _ m (((args.take m).map (clsI ee TN.length)).map (Value.int .i64)) rfl ho1 ⟨wr.heap.size, 0, none⟩ 1 1 [.int .i64 y] rfl rfl (World.news_of_block (cs := #[.int .i64 y]) (t := 3) (fr := (0, 0)) (heap_alloc_new wr _)) (by simp [Value.oneCell']) (by omega) (by unfold maxLen; omega) (by omega) (by simp; omega) (wr.heap.size + 1) (by simp) ?_; intro gg cap w5 hown5 hgr5 hat5 hlt5)
                      go_roundw
                      case rel =>
                        refine ⟨m + 1, some ⟨gg, 0, none⟩, cap, by omega, by go_num, rfl, ?_⟩
                        show Aq _ _ _ _ _ _ _ _ _
                        rw [hsn.out, List.map_append]
                        have := hQ.out.more hgr5 hown5
                        rw [hcI.out] at this
                        exact this
                      case measure => simp [intOf]; omega
                    · obtain rfl : m = args.length := by omega
                      have hQr := hQ.out.row
                      rw [List.take_of_length_le (Nat.le_refl _)] at hQr
                      have hQb := hQ.out.b
                      have hb4s : Below wo.heap.size wo (wr.setCell ⟨wo.heap.size, 3, none⟩ (.slice aa args.length ac)) := hQb.setCell (Nat.le_refl _) _
                      have haos : (wr.setCell ⟨wo.heap.size, 3, none⟩ (.slice aa args.length ac)).ownsRow wo.heap.size 3 1 (.slice aa args.length ac) args.length ((args.map (clsI ee TN.length)).map (Value.int .i64)) := own_base (own_block hQr (fun k e => Below.heap_setCell _ _ _ _ (by have := (hQr.lt k e).1; show k ≠ wo.heap.size; omega))) (by omega)
                      have hon := HT.out.out.og.on
                      have hout := HT.out.out.out
                      dsimp only at hon hout
                      rw [hL] at hon hout
                      have honn := hon.n
                      rw [hL] at honn
                      have hzo := lt_of_block hout
                      have hnv : ∀ k, Value.ownBlock (.slice ao j c) = some k → wD.heap.size + 1 ≤ k := fun k e => (hon.n.lt k e).1
                      have hon4 := World.ownsRow.alloc (own_below honn hb4s) (.cells #[.int .i64 kind, .string name, .int .i64 num, .slice aa args.length ac] 63)
                      have d4 : (wr.setCell ⟨wo.heap.size, 3, none⟩ (.slice aa args.length ac)).heap[wD.heap.size]? = some (.cells #[.slice ao j c, .slice none 0 0] 29) := by rw [hb4s.block _ hzo]; exact hout
                      obtain ⟨⟨g0, _⟩, g1, _⟩ := blk2 d4
                      obtain ⟨⟨gg0, _⟩, gg1, _⟩ := blk2 ((hQb.block _ hzo).trans hout)
                      have hsz4 : (wr.setCell ⟨wo.heap.size, 3, none⟩ (.slice aa args.length ac)).heap.size = wr.heap.size := by simp
                      have hz5 := hb4s.size
                      rw [hsz4] at hz5
                      have hnews := heap_alloc_new (wr.setCell ⟨wo.heap.size, 3, none⟩ (.slice aa args.length ac)) (.cells #[.int .i64 kind, .string name, .int .i64 num, .slice aa args.length ac] 63)
                      rw [hsz4] at hnews
                      have hw1s := HT.out.out.b.size
                      clear hQ hQr hQb hon
                      go_wp2_with (at_builtin; refine wpList_append_lies _ rfl _ _ _ rfl (wD.heap.size + 1) 63 i1 (.agg #[.int .i64 0, .string ⟨#[]⟩, .int .i64 0, .slice none 0 0]) 4 56 Try.underlying26 hi1 hy0 hy1 hy2 rfl (by omega) _ j (ncells NS avs2) rfl hon4 ⟨wr.heap.size, 0, none⟩ 1 1 [.int .i64 kind, .string name, .int .i64 num, .slice aa args.length ac] rfl rfl (World.news_of_block (cs := #[.int .i64 kind, .string name, .int .i64 num, .slice aa args.length ac]) (t := 63) (fr := (0, 0)) hnews) (by simp [Value.oneCell']) (by omega) (by unfold maxLen; omega) (by omega) (by simp; omega) (wr.heap.size + 1) (by simp) ?_; intro gg cap w5 hown5 hgr5 hat hlt5; have d5 : w5.heap[wD.heap.size]? = some (.cells #[.slice ao j c, .slice none 0 0] 29) := (by rw [hgr5.block _ (by simp; omega) (fun e => by have := hnv _ e.symm; omega), Below.heap_alloc _ _ _ (by simp; omega)]; exact d4); obtain ⟨⟨d0', _⟩, d1', _⟩ := blk2 d5)
                      go_roundw
                      case rel =>
                        refine ⟨j + 1, some ⟨gg, 0, none⟩, cap, avs2 ++ [.slice aa args.length ac], by omega, by go_num, ?_⟩
                        show J _ _ _ _ _ _ _ _
                        rw [hNS.out]
                        exact (hstep.out _ w5 aa ac gg cap hb4s haos _ hgr5 hown5 (by rw [hsz4]; exact hat)).1
                      case measure => simp [intOf]; omega
                · have hTe : Hid (J wD wr ⟨(lsF ee TN.length).map (fun n => renum (clsI ee TN.length) (TN.getD n nd0)), []⟩ ao c none 0 avs2) := by
                    have := hT.out
                    rw [List.take_of_length_le (by rw [← HLd.out]; omega)] at this
                    exact this
                  have hQn : Hid ((quoF ee (smlM M Sf B ns.length)).nodes = (lsF ee TN.length).map (fun n => renum (clsI ee TN.length) (TN.getD n nd0))) := by
                    show _ = _
                    rw [← HTN.out]
                    rfl
                  have hlm : ((lsF ee TN.length).map (fun n => renum (clsI ee TN.length) (TN.getD n nd0))).length = L := by rw [List.length_map]; exact HLd.out.symm
                  generalize (lsF ee TN.length).map (fun n => renum (clsI ee TN.length) (TN.getD n nd0)) = NS at hTe hQn hlm
                  clear hT
                  obtain ⟨RT, hRTd⟩ : ∃ RT, RT = (smlM M Sf B ns.length).roots := ⟨_, rfl⟩
                  have HTR2 : Hid (TR = RT ++ (List.range ns.length).map (fun i => posF (metF (allM M Sf B ns.length)) (Sf i))) := by rw [hRTd]; exact HTR.out
                  have HRTl2 : Hid (RT.length = B.length) := by rw [hRTd]; exact HRTl.out
                  have HRTr2 : Hid (∀ x ∈ RT, 0 ≤ x ∧ x < (TN.length : Int)) := by rw [hRTd]; exact hRTr.out
                  have HRT := hid hRTd
                  clear hRTd
                  have hQr : Hid ((quoF ee (smlM M Sf B ns.length)).roots = RT.map (clsI ee TN.length)) := by
                    show _ = _
                    rw [HRT.out, ← HTN.out]
                    rfl
                  go_wp2
                  clear s0 s1 s2 s3 hsbR
                  go_loopw [27] (fun i wr => ∃ (m : Nat) (ro2 : Option Addr) (rcc : Nat), m ≤ B.length ∧ i = .int .i64 m ∧ Hid (J wD wr ⟨NS, (RT.take m).map (clsI ee TN.length)⟩ ao c ro2 rcc avs2)) (fun i _ => B.length - (intOf i).toNat)
                  case atStart => exact ⟨0, none, 0, Nat.zero_le _, rfl, by simpa [Hid] using hTe⟩
                  case round =>
                    clear hTe
                    obtain ⟨m, ro2, rcc, hm, rfl, hJm⟩ := hrel
                    have hLm : ((RT.take m).map (clsI ee TN.length)).length = m := by have := HRTl2.out; simp; omega
                    have hsbR := (hJm.out.b.block _ (lt_of_block hsbD)).trans hsbD
                    obtain ⟨⟨s0, s1⟩, s2, s3⟩ := blk2 hsbR
                    have zsb := lt_of_block hsbR
                    have hout := hJm.out.out
                    dsimp only at hout
                    rw [hLm, hlm] at hout
                    have hzo := lt_of_block hout
                    by_cases hml : m < B.length
                    · have hmRT : m < RT.length := by rw [HRTl2.out]; exact hml
                      have hmTR : m < TR.length := by omega
                      obtain ⟨_, _, e1, hrcs⟩ := hRRD.out.below hJm.out.b
                      injection e1 with e1 _ e2
                      subst e1 e2
                      obtain ⟨ub, uo, hua, hu⟩ := hrcs m (by omega)
                      subst hua
                      have hgu : TR.getD m 0 = RT.getD m 0 := by
                        rw [HTR2.out]
                        simp [List.getD, List.getElem?_append_left hmRT]
                      rw [hgu] at hu
                      clear hgu hrcs
                      have zu := lt_of_cell hu
                      have hxr := HRTr2.out _ (getD_mem hmRT)
                      have hsn := hid (take_snoc hmRT)
                      generalize RT.getD m 0 = z at hu hxr hsn
                      obtain ⟨zn, rfl⟩ : ∃ zn : Nat, z = (zn : Int) := ⟨z.toNat, by omega⟩
                      have hzN : zn < TN.length := by omega
                      obtain ⟨ca, cc, hce, hccs⟩ := hClR.out.below hJm.out.b
                      obtain ⟨vb, vo, hva, hv⟩ := hccs zn (by rw [ints_len, hcl]; exact hzN)
                      have hce' : ca = some ⟨cb, 0, none⟩ := by injection hce with h1; exact h1.symm
                      rw [hce'] at hva
                      have hva' : cb = vb ∧ 0 = vo := by simpa using hva
                      obtain ⟨rfl, rfl⟩ := hva'
                      rw [Nat.zero_add] at hv
                      have zv := lt_of_cell hv
                      have hcI : Hid ((ints (csF ee TN.length)).getD zn 0 = clsI ee TN.length (zn : Int)) := by show _ = _; unfold clsI; rw [Int.toNat_natCast]
                      have hNS2 : Hid ((⟨NS, (RT.take (m + 1)).map (clsI ee TN.length)⟩ : Gf) = ⟨NS, (RT.take m).map (clsI ee TN.length) ++ [(ints (csF ee TN.length)).getD zn 0]⟩) := by
                        show _ = _
                        rw [hsn.out, hcI.out]
                        simp
                      generalize (ints (csF ee TN.length)).getD zn 0 = y at hv hNS2
                      obtain ⟨ror, rcr, hreq, hror⟩ := hJm.out.og.r
                      have hre1 : ror = ro2 ∧ rcr = rcc := by
                        injection hreq with h1 _ h3
                        exact ⟨h1.symm, h3.symm⟩
                      obtain ⟨rfl, rfl⟩ := hre1
                      have hmore := hid (fun (w4 w5 : World) (gg cap : Nat) => J.more (w4 := w4) (w5 := w5) (g := gg) (cap := cap) (l := [y]) hJm.out hLm)
                      dsimp only at hror hreq
                      rw [hLm] at hror
                      generalize ((RT.take m).map (clsI ee TN.length)).map (Value.int .i64) = RS at hror hmore
                      have hrv : ∀ k, Value.ownBlock (.slice ror m rcr) = some k → wD.heap.size + 1 ≤ k := fun k e => (hror.lt k e).1
                      have ho1 := World.ownsRow.alloc hror (.cells #[.int .i64 y] 3)
                      obtain ⟨⟨_, o1⟩, _, o3⟩ := blk2 hout
                      have hJms := hJm.out.b.size
                      clear hreq hJm hLm hce hccs hva hcI hsn
                      go_wp2
                      go_region_law
                        (first
                          | (refine step_append_lies _ (by rfl) _ _ _ (by rfl) (wD.heap.size + 1) 3 i0 (.int .i64 0) 1 8 Try.underlying27 hi hz0 hz1 hz2 rfl (by omega) _ m RS (by rfl) (ho1.drew) ⟨wr.heap.size, 0, none⟩ 1 1 [.int .i64 y] (by rfl) (by rfl) (World.news_of_block (cs := #[.int .i64 y]) (t := 3) (fr := (0, 0)) (heap_alloc_new wr _)) (by simp [Value.oneCell']) (by omega) (by unfold maxLen; omega) (by omega) (by simp; omega) (wr.heap.size + 1) (by simp) ?_; intro gg cap w5 hown5 hgr5 hat hlt5; have d5 : w5.heap[wD.heap.size]? = some (.cells #[.slice ao L c, .slice ror m rcr] 29) := (hgr5.block _ (by simp; omega) (fun e => by have := hrv _ e.symm; omega)).trans (keepJ hout (below_alloc wr (.cells #[.int .i64 y] 3)).drew); obtain ⟨⟨_, s0⟩, _, s1⟩ := blk2 d5))
                      all_goals go_wp2
                      all_goals
                        go_roundw
                        case rel =>
                          refine ⟨m + 1, some ⟨gg, 0, none⟩, cap, by omega, congrArg (Value.int .i64) (by omega), ?_⟩
                          show J _ _ _ _ _ _ _ _
                          rw [hNS2.out]
                          exact hmore.out _ w5 gg cap (below_alloc wr (.cells #[.int .i64 y] 3)).drew hgr5 hown5 (by simpa using hat)
                        case measure => simp [intOf]; omega
                    · obtain rfl : m = B.length := by omega
                      have hJe : Hid (J wD wr (quoF ee (smlM M Sf B ns.length)) ao c ro2 rcc avs2) := by
                        have := hJm.out
                        rw [List.take_of_length_le (by rw [HRTl2.out]; exact Nat.le_refl _)] at this
                        rw [show quoF ee (smlM M Sf B ns.length) = ⟨NS, RT.map (clsI ee TN.length)⟩ by rw [← hQn.out, ← hQr.out]]
                        exact this
                      obtain ⟨⟨o0, o1⟩, _⟩ := blk2 hout
                      have hqg := quo_good HS2.out (al_eqv HS2.out HE.out)
                      have hGq : Gr wr (.slice ao L c) (.slice ro2 B.length rcc) (quoF ee (smlM M Sf B ns.length)) := by
                        have h := hJe.out.og.gr
                        rw [hQn.out, hQr.out, List.length_map, hlm, HRTl2.out] at h
                        exact h
                      have hmt := rmet_any hqg hGq hGq.2 hqg.root (by have := hqg.roots; omega)
                      rw [rmet_met hqg] at hmt
                      have hmok := met_ok hqg
                      have hMle := hmok.le
                      have hMnd := hid hmok.nodup
                      have hqn := hqg.nodes
                      have HGq := hid hGq
                      have Hqg := hid hqg
                      have hbwr := Below.next hbD hJe.out.b
                      have hbrA := Below.next hbAD hJe.out.b
                      have hJm7 := hid hJe.out
                      have houtx := hid hout
                      clear hJm hJe hout hmok hGq hqg
                      obtain ⟨MT, hMT⟩ : ∃ MT, MT = metF (quoF ee (smlM M Sf B ns.length)) := ⟨_, rfl⟩
                      rw [← hMT] at hmt hMle hMnd
                      have HMT := hid hMT
                      have hM4 : MT.length ≤ 4096 := by omega
                      clear hMT hMle
                      go_wp2_with (go_at_call 65; refine hmt.mono ?_; clear hmt; rintro e wE ⟨⟨mo, mc, rfl, hmown⟩, hbE⟩)
                      have hMR := hid (Ri.ofOwn hmown)
                      have hbEw := Below.next hbwr hbE
                      have hszE := hbEw.size
                      clear hmown
                      obtain ⟨i3, hi3, hx0, hx1, hx2⟩ := info_parts infoMd
                      have hI0 : Hid (wE.ownsRow wE.heap.size 56 2 (.slice none (nmdF ee (smlM M Sf B ns.length) (fun i => (posF (metF (allM M Sf B ns.length)) (Sf i)).toNat) ns 0).length 0) (nmdF ee (smlM M Sf B ns.length) (fun i => (posF (metF (allM M Sf B ns.length)) (Sf i)).toNat) ns 0).length (mcells (nmdF ee (smlM M Sf B ns.length) (fun i => (posF (metF (allM M Sf B ns.length)) (Sf i)).toNat) ns 0))) := World.ownsRow_nil _ _ _ _
                      have hRRE := hid (hRRD.out.below (Below.next (show Below wD.heap.size wD wr from hJm7.out.b) hbE))
                      have hClE := hid (hClR.out.below (Below.next (show Below wD.heap.size wD wr from hJm7.out.b) hbE))
                      have hsbE := (hbE.block _ (lt_of_block hsbR)).trans hsbR
                      have houtE := (hbE.block _ hzo).trans houtx.out
                      have hNmd := hid (nmdF_len ee (smlM M Sf B ns.length) (fun i => (posF (metF (allM M Sf B ns.length)) (Sf i)).toNat) ns)
                      have hNs := hid (fun j => (rfl : nmdF ee (smlM M Sf B ns.length) (fun i => (posF (metF (allM M Sf B ns.length)) (Sf i)).toNat) ns (j + 1) = _))
                      have hst2 := hid (fun j (NM : List (ByteArray × Int)) (hNM : nmdF ee (smlM M Sf B ns.length) (fun i => (posF (metF (allM M Sf B ns.length)) (Sf i)).toNat) ns j = NM) => (show nmdF ee (smlM M Sf B ns.length) (fun i => (posF (metF (allM M Sf B ns.length)) (Sf i)).toNat) ns (j + 1) = prtN MT NM (ns.getD j ⟨#[]⟩) (clsI ee TN.length (((posF (metF (allM M Sf B ns.length)) (Sf j)).toNat : Nat) : Int)) MT.length by
                        rw [nmdF, hNM]
                        unfold prtN
                        rw [List.take_length, HMT.out, ← HTN.out]))
                      generalize hNF : nmdF ee (smlM M Sf B ns.length) (fun i => (posF (metF (allM M Sf B ns.length)) (Sf i)).toNat) ns = NF at hI0 hNmd hst2
                      have HNF := hid hNF
                      clear hNF hNs hJm7 houtx
                      go_loopw [29, 30] (fun x i wr2 => ∃ (j : Nat) (ao7 : Option Addr) (c7 : Nat), j ≤ ns.length ∧ i = .int .i64 (j : Int) ∧ x = .slice ao7 (NF j).length c7 ∧ Hid (wr2.ownsRow wE.heap.size 56 2 (.slice ao7 (NF j).length c7) (NF j).length (mcells (NF j))) ∧ Hid (Below wE.heap.size wE wr2)) (fun _ i _ => ns.length - (intOf i).toNat)
                      case atStart => exact ⟨0, none, 0, Nat.zero_le _, rfl, by rw [← HNF.out, nmdF]; rfl, hI0.out, Below.refl _ _⟩
                      case round =>
                        clear hI0
                        obtain ⟨j, ao7, c7, hj, rfl, rfl, hO, hBr⟩ := hrel
                        have hbw7 := Below.next hbEw hBr.out
                        obtain ⟨q0, q1, q2⟩ := hTb.out _ hbw7
                        by_cases hjl : j < ns.length
                        · have hZ := hZr.out j hjl
                          have hs2 := hid (hst2.out j _ rfl)
                          have hnl := hNmd.out j
                          have hgz : TR.getD (B.length + j) 0 = posF (metF (allM M Sf B ns.length)) (Sf j) := by
                            rw [HTR2.out]
                            simp only [List.getD]
                            rw [List.getElem?_append_right (by have := HRTl2.out; omega), HRTl2.out, Nat.add_sub_cancel_left]
                            simp [hjl]
                          generalize posF (metF (allM M Sf B ns.length)) (Sf j) = z at hZ hs2 hgz
                          obtain ⟨zn, rfl⟩ : ∃ zn : Nat, z = (zn : Int) := ⟨z.toNat, by omega⟩
                          rw [Int.toNat_natCast] at hs2
                          have hzN : zn < TN.length := by omega
                          have hcI : Hid ((ints (csF ee TN.length)).getD zn 0 = clsI ee TN.length (zn : Int)) := by show _ = _; unfold clsI; rw [Int.toNat_natCast]
                          have hIn0 : Hid (wr.ownsRow wE.heap.size 56 2 (.slice ao7 (NF j).length c7) (NF j).length (mcells (prtN MT (NF j) (ns.getD j ⟨#[]⟩) ((ints (csF ee TN.length)).getD zn 0) 0))) := by rw [prtN_zero]; exact hO.out
                          rw [← hcI.out] at hs2
                          obtain ⟨_, _, e1, hrcs⟩ := hRRE.out
                          injection e1 with e1 _ e2
                          subst e1 e2
                          obtain ⟨ub, uo, hua, hu⟩ := hrcs (B.length + j) (by omega)
                          subst hua
                          rw [hgz] at hu
                          obtain ⟨ca, cc, hce, hccs⟩ := hClE.out
                          obtain ⟨vb, vo, hva, hv⟩ := hccs zn (by rw [ints_len, hcl]; exact hzN)
                          have hce' : ca = some ⟨cb, 0, none⟩ := by injection hce with h1; exact h1.symm
                          rw [hce'] at hva
                          have hva' : cb = vb ∧ 0 = vo := by simpa using hva
                          obtain ⟨rfl, rfl⟩ := hva'
                          rw [Nat.zero_add] at hv
                          obtain ⟨_, _, e3, hncs⟩ := HL.out
                          injection e3 with e3 _ e4
                          subst e3 e4
                          obtain ⟨tb2, to2, hta, hnc⟩ := hncs j hjl
                          subst hta
                          have zu := lt_of_cell hu
                          have zv := lt_of_cell hv
                          have zn2 := lt_of_cell hnc
                          generalize (ints (csF ee TN.length)).getD zn 0 = y at hv hs2 hIn0
                          generalize hNJ : NF j = NJ at hO hIn0 hs2 hnl
                          generalize ns.getD j ⟨#[]⟩ = nm at hnc hs2 hIn0
                          have HNJ := hid hNJ
                          clear hNJ hcI hgz hce hccs hva hrcs hncs hO
                          have HBr := hBr
                          clear hBr
                          go_wp2
                          clear q0 q1 q2
                          go_loopw [29, 31] (fun x q wr3 => ∃ (t : Nat) (no8 : Option Addr) (c8 : Nat), t ≤ MT.length ∧ q = .int .i64 (t : Int) ∧ x = .slice no8 (prtN MT NJ nm y t).length c8 ∧ Hid (wr3.ownsRow wE.heap.size 56 2 (.slice no8 (prtN MT NJ nm y t).length c8) (prtN MT NJ nm y t).length (mcells (prtN MT NJ nm y t))) ∧ Hid (Below wE.heap.size wE wr3)) (fun _ q _ => MT.length - (intOf q).toNat)
                          case atStart => exact ⟨0, ao7, c7, Nat.zero_le _, rfl, by rw [prtN_zero], by rw [prtN_zero] at hIn0 ⊢; exact hIn0.out, HBr.out⟩
                          case round =>
                            clear hIn0 HBr
                            obtain ⟨t, no8, c8, ht, rfl, rfl, hO, hBr⟩ := hrel
                            have hbw7 := Below.next hbEw hBr.out
                            obtain ⟨q0, q1, q2⟩ := hTb.out _ hbw7
                            have hsbR := (hBr.out.block _ (lt_of_block hsbE)).trans hsbE
                            obtain ⟨⟨s0, s1⟩, s2, s3⟩ := blk2 hsbR
                            by_cases htl : t < MT.length
                            · obtain ⟨_, _, e5, hmcs⟩ := hMR.out.below hBr.out
                              injection e5 with e5 _ e6
                              subst e5 e6
                              obtain ⟨wb, wo2, hwa, hmc⟩ := hmcs t htl
                              subst hwa
                              have hu2 := (hBr.out.cell (p := ⟨ub, uo + (B.length + j), none⟩) zu).trans hu
                              have hv2 := (hBr.out.cell (p := ⟨cb, zn, none⟩) zv).trans hv
                              have hn2 := (hbw7.cell (p := ⟨tb2, to2 + j, none⟩) zn2).trans hnc
                              have hms := hid (fun h => prtN_miss (NM := NJ) (nm := nm) (c := y) htl h)
                              have hht := hid (fun h => prtN_hit (NM := NJ) (nm := nm) (c := y) hMnd.out htl h)
                              generalize MT.getD t 0 = yt at hmc hms hht
                              clear hmcs
                              by_cases hy : yt = y
                              · obtain ⟨hh1, hh2⟩ := hht.out hy
                                subst hy
                                have hO2 := hO.out
                                rw [hh1] at hO2
                                have hOD := hid (fun (n : Nat) => (World.ownsRow.alloc (row_keep (w' := wr.drewN n) hO2 (fun _ _ => rfl)) (.cells #[.string nm, .int .i64 (t : Int)] 56)))
                                have HH2 := hid hh2
                                have hsl2 := hBr.out.size
                                have hrw := hid (fun k e => (hO2.lt k e).1)
                                rw [hh1]
                                clear hms hht hO hO2 hh1 hh2
                                go_wp2
                                go_quiet (fail)
                                go_wp2_with (at_builtin; refine wpList_append_lies _ rfl _ _ 30 rfl wE.heap.size 56 i3 (.agg #[.string ⟨#[]⟩, .int .i64 0]) 2 24 Try.underlying30 hi3 hx0 hx1 hx2 rfl (by decide) (.slice no8 NJ.length c8) NJ.length (mcells NJ) rfl (hOD.out _) ⟨wr.heap.size, 0, none⟩ 1 1 [.string nm, .int .i64 (t : Int)] rfl rfl (World.news_of_block (cs := #[.string nm, .int .i64 (t : Int)]) (t := 56) (fr := (0, 0)) (heap_alloc_new (wr.drewN _) _)) (by simp [Value.oneCell']) (by decide) (by unfold maxLen; omega) (by omega) (by simp; omega) _ rfl ?_; intro g7 cap7 w11 hown11 hg11 hat11 hlt11)
                                go_roundw
                                case rel =>
                                  refine ⟨t + 1, some ⟨g7, 0, none⟩, cap7, by omega, by go_num, by rw [HH2.out, List.length_append]; rfl, ?_, ?_⟩
                                  · rw [HH2.out, mcells_snoc, List.length_append]
                                    exact hown11
                                  · exact ((below_drewN hBr.out _).alloc hsl2 _).grown hg11 (by simp; omega) (fun k e => hrw.out k e)
                                case measure => simp [intOf]; omega
                              · have HMS := hid (hms.out hy)
                                clear hms hht
                                go_wp2
                                go_quiet (fail)
                                go_wp2
                                go_roundw
                                case rel => exact ⟨t + 1, no8, c8, by omega, by go_num, by rw [HMS.out], (by rw [HMS.out]; exact row_keep hO.out (fun _ _ => rfl)), below_drewN hBr.out _⟩
                                case measure => simp [intOf]; omega
                            · obtain rfl : t = MT.length := by omega
                              clear s0 s1 s2 s3
                              go_wp2
                              go_roundw
                              case rel => exact ⟨j + 1, no8, c8, by omega, by go_num, by rw [hs2.out], by rw [hs2.out]; exact hO.out, hBr.out⟩
                              case measure => simp [intOf]; omega
                        · obtain rfl : j = ns.length := by omega
                          have hoR := (hBr.out.block _ (lt_of_block houtE)).trans houtE
                          obtain ⟨⟨o0, o1⟩, _⟩ := blk2 hoR
                          have hGf := HGq.out.below (Below.next hbE hBr.out)
                          have htr := rtrim_any Hqg.out hGf
                          have hxa := hid (fun (w' : World) (h : Below wA.heap.size wA w') => And.intro ((h.block _ (by omega)).trans hX1.out) ((h.block _ (by omega)).trans hX2.out))
                          have hAr := Below.next (Below.next hbrA hbE) hBr.out
                          clear hGf hoR
                          go_wp2_with (first
                            | (go_at_call 63; refine htr.mono ?_; clear htr; rintro e w8 ⟨⟨nv8, rv8, av8, rfl, hO8⟩, hb8⟩; obtain ⟨n8, m8, rfl⟩ := hO8.nsl; obtain ⟨r8, p8, rfl, _⟩ := hO8.r)
                            | (go_at_call 62; refine (numNo_any _).mono ?_; rintro e w9 ⟨rfl, hb9⟩; obtain ⟨j1, j2⟩ := hxa.out w9 (Below.next (Below.next hAr hb8) hb9); obtain ⟨⟨y0, y1⟩, y2, y3⟩ := blk2 j1; obtain ⟨⟨z0, z1, z2, z3⟩, z4, z5, z6, z7⟩ := blk4 j2))
                          have hO9 := hO.out
                          have hb9w := Below.next (Below.next hbw7 hb8) hb9
                          have hsz9 := Below.next hb8 hb9
                          have hz8 := hbw7.size
                          have hez := hbEw.size
                          have hAz := hAr.size
                          have hAE := (Below.next hbrA hbE).size
                          refine bodyPost_ret (ret_gsF (u0 := .slice n8 (trimF (quoF ee (smlM M Sf B ns.length))).nodes.length m8) (u1 := .slice r8 (trimF (quoF ee (smlM M Sf B ns.length))).roots.length p8) (c := 0) (a := 0) (n := ⟨#[]⟩) Try.results36 (by rfl) (by rfl) (by rfl) ?_ ?_) rfl ?_
                          · rw [Below.heap_setCell _ _ _ _ (by show w.heap.size ≠ w.heap.size + 1; omega), Below.heap_setCell _ _ _ _ (by show w.heap.size ≠ w.heap.size + 1; omega), Below.heap_setCell _ _ _ _ (by show w.heap.size ≠ w.heap.size + 1; omega), Below.heap_setCell _ _ _ _ (by show w.heap.size ≠ w.heap.size + 1; omega)]
                            exact blk2_set j1
                          · refine set4 (u0 := .int .i64 0) (u1 := .int .i64 0) (u2 := .string ⟨#[]⟩) (u3 := .slice none 0 0) ?_
                            rw [Below.heap_setCell _ _ _ _ (by show w.heap.size + 1 ≠ w.heap.size; omega), Below.heap_setCell _ _ _ _ (by show w.heap.size + 1 ≠ w.heap.size; omega)]
                            exact j2
                          · rw [HNF.out]
                            refine ⟨⟨_, _, _, _, rfl, ?_, ?_⟩, ?_⟩
                            · have hG9 := og_keep hO8 (w' := w9) (fun k _ hk => hb9.block k hk)
                              exact ⟨_, og_base (og_far (og_far (og_far (og_far (og_far (og_far hG9 (by omega)) (by omega)) (by omega)) (by omega)) (by omega)) (by omega)) (by omega)⟩
                            · refine own_base (row_keep hO9 (fun k ek => ?_)) (by omega)
                              have hk := hO9.lt k ek
                              rw [Below.heap_setCell _ _ _ _ (by show k ≠ w.heap.size + 1; omega), Below.heap_setCell _ _ _ _ (by show k ≠ w.heap.size + 1; omega), Below.heap_setCell _ _ _ _ (by show k ≠ w.heap.size + 1; omega), Below.heap_setCell _ _ _ _ (by show k ≠ w.heap.size + 1; omega), Below.heap_setCell _ _ _ _ (by show k ≠ w.heap.size; omega), Below.heap_setCell _ _ _ _ (by show k ≠ w.heap.size; omega)]
                              exact hsz9.block k hk.2
                            · exact (((((hb9w.setCell (p := ⟨w.heap.size, 0, none⟩) (Nat.le_refl _) _).setCell (p := ⟨w.heap.size, 1, none⟩) (Nat.le_refl _) _).setCell (p := ⟨w.heap.size + 1, 0, none⟩) (by show w.heap.size ≤ w.heap.size + 1; omega) _).setCell (p := ⟨w.heap.size + 1, 1, none⟩) (by show w.heap.size ≤ w.heap.size + 1; omega) _).setCell (p := ⟨w.heap.size + 1, 2, none⟩) (by show w.heap.size ≤ w.heap.size + 1; omega) _).setCell (p := ⟨w.heap.size + 1, 3, none⟩) (by show w.heap.size ≤ w.heap.size + 1; omega) _
end
end Go.Proofs.Ytjkcffcedbcjmaa
