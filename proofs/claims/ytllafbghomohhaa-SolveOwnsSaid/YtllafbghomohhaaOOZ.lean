/- Quotient of the reference, at every good graph. -/
import Derived.Test.YtllafbghomohhaaOCZ
import Derived.Test.YtllafbghomohhaaONZ
import Derived.Test.YtllafbghomohhaaOHZ
import Derived.Test.YtllafbghomohhaaOLZ
import Derived.Deep.RegionHeld3
import Derived.Test.YtllafbghomohhaaOFZ
namespace Go.Proofs.Ytllafbghomohhaa
open Go.RowKit

/-- A node's copy and the list of its arguments' classes so far. -/
structure Aq (wo w : World) (k : Int) (s : ByteArray) (u : Int) (v av : Value) (m : Nat) (l : List Int) : Prop where
  b : Below wo.heap.size wo w
  box : w.heap[wo.heap.size]? = some (.cells #[.int .i64 k, .string s, .int .i64 u, v] 56 (0, 0))
  row : w.ownsRow (wo.heap.size + 1) 3 1 av m (l.map (Value.int .i64))
theorem Aq.more {wo w w2 : World} {k : Int} {s : ByteArray} {u x : Int} {v av av' : Value} {m : Nat} {l : List Int} {o : Obj} (h : Aq wo w k s u v av m l) (hg : (w.alloc o).grownBy w2 av.ownBlock) (hown : w2.ownsRow (wo.heap.size + 1) 3 1 av' (m + 1) (l.map (Value.int .i64) ++ [.int .i64 x])) : Aq wo w2 k s u v av' (m + 1) (l ++ [x]) := by
  have hz := lt_of_block h.box
  have hs := h.b.size
  refine ⟨(h.b.alloc hs o).grown hg (by simp; omega) (fun q e => by have := (h.row.lt q e).1; omega), ?_, ?_⟩
  · rw [hg.block _ (by simp; omega) (fun e => by have := (h.row.lt _ e.symm).1; omega), Below.heap_alloc _ _ _ hz]
    exact h.box
  · rw [List.map_append]
    exact hown
theorem og_nil (w : World) (B : Nat) : Og w B (.slice none 0 0) (.slice none 0 0) [] gf0 := ⟨On.nil _ _, ⟨none, 0, rfl⟩, ⟨none, 0, rfl, World.ownsRow_nil _ _ _ _⟩, fun k e => by cases e⟩
set_option maxRecDepth 100000 in
set_option maxHeartbeats 16000000 in
theorem rquot_any {W : World} {nv rv : Value} {g : Gf} (hG : Gr W nv rv g) (hg : Good g) (ee : Nat → Nat → Bool) (he : ∀ x y : Nat, (ee x y = true ↔ Al g (x : Int) (y : Int))) :
    Calls Try.prog 29 #[.agg #[nv, rv]] W fun r w' => (∃ nv' rv' avs, r = .returned (.agg #[nv', rv']) ∧ Og w' W.heap.size nv' rv' avs (trimF (quoF ee g))) ∧ Below W.heap.size W w' := by
  obtain ⟨i0, hi, hz0, hz1, hz2⟩ := info_parts infoI
  obtain ⟨i1, hi1, hy0, hy1, hy2⟩ := info_parts infoN
  have hev := al_eqv hg he
  have hq := quo_good hg hev
  have hgn := hg.nodes
  have hgr := hg.roots
  have hll := lsF_le ee g.nodes.length
  have hllt := lsF_lt ee g.nodes.length
  have hcl := csF_len ee g.nodes.length
  have hb2 : Below W.heap.size W ((W.alloc (.cells #[nv, rv] 25)).alloc (.cells #[.slice none 0 0, .slice none 0 0] 25)) := (below_alloc W _).alloc (by simp) _
  have hRn := hG.1
  obtain ⟨na, nc, rfl, hNc⟩ := hG.1
  obtain ⟨ra, rc, rfl, hRc⟩ := hG.2
  have hal := rclasses_any (rv := .slice ra g.roots.length rc) (hRn.below hb2) hg ee he
  have hC : ∀ w1 : World, Below ((W.alloc (.cells #[.slice na g.nodes.length nc, .slice ra g.roots.length rc] 25)).alloc (.cells #[.slice none 0 0, .slice none 0 0] 25)).heap.size ((W.alloc (.cells #[.slice na g.nodes.length nc, .slice ra g.roots.length rc] 25)).alloc (.cells #[.slice none 0 0, .slice none 0 0] 25)) w1 →
      w1.heap[W.heap.size + 1]? = some (.cells #[.slice none 0 0, .slice none 0 0] 25) ∧ w1.heap[W.heap.size]? = some (.cells #[.slice na g.nodes.length nc, .slice ra g.roots.length rc] 25) ∧ W.heap.size + 1 < w1.heap.size := fun w1 hb => by
    refine ⟨?_, ?_, ?_⟩
    · rw [hb.block _ (by simp)]
      simpa using heap_alloc_new (W.alloc (.cells #[.slice na g.nodes.length nc, .slice ra g.roots.length rc] 25)) (.cells #[.slice none 0 0, .slice none 0 0] 25)
    · rw [hb.block _ (by simp <;> omega), Below.heap_alloc _ _ _ (by simp)]
      exact heap_alloc_new W _
    · have := hb.size
      simp at this
      omega
  have hHN := hid hNc
  have hHR := hid hRc
  clear hG hRn hNc hRc
  have hlL := ints_len (lsF ee g.nodes.length)
  obtain ⟨L, hLd⟩ : ∃ L, L = (lsF ee g.nodes.length).length := ⟨_, rfl⟩
  rw [← hLd] at hlL hll hal
  have HLd := hid hLd
  clear hLd
  go_enter Try.func29, Try.ntmps29
  go_wp2_with (first
    | (go_at_call 51; refine hal.mono ?_; rintro e w1 ⟨cb, lv, rfl, hcb, hlv, hb1⟩; obtain ⟨k1, k0, k2⟩ := hC w1 hb1; have hbw := Below.next hb2 hb1; obtain ⟨la, lc, rfl⟩ := own_sl hlv; clear hal hC))
  have hHR2 := hid (cls_ri hcl hcb)
  have hHR3 := hid (Ri.ofOwn (l := ints (lsF ee g.nodes.length)) (by rw [hlL]; exact hlv))
  have hT0 : Hid (J w1 (w1.alloc (.cells #[.slice none 0 0, .slice none 0 0] 25)) gf0 none 0 none 0 []) := ⟨below_alloc _ _, heap_alloc_new w1 _, og_nil _ _⟩
  clear hcb hlv hb1 hb2
  go_loopw [6] (fun i wr => ∃ (k : Nat) (ao : Option Addr) (c : Nat) (avs : List Value), k ≤ L ∧ i = .int .i64 k ∧ Hid (J w1 wr ⟨((lsF ee g.nodes.length).take k).map (fun n => renum (clsI ee g.nodes.length) (g.nodes.getD n nd0)), []⟩ ao c none 0 avs)) (fun i _ => L - (intOf i).toNat)
  case atStart => exact ⟨0, none, 0, [], Nat.zero_le _, rfl, by simpa [Hid] using hT0⟩
  case round =>
    clear hT0
    obtain ⟨j, ao, c, avs, hj, rfl, hT⟩ := hrel
    by_cases hjl : j < L
    · have hjl' : j < (lsF ee g.nodes.length).length := by rw [← HLd.out]; exact hjl
      have hts := ntake_snoc hjl'
      have hnN := hllt _ (nget_mem hjl')
      obtain ⟨la', lc', hle, hlcs⟩ := hHR3.out.below hT.out.b
      obtain ⟨lb, lo, hla, hlc⟩ := hlcs j (by rw [hlL]; exact hjl)
      have hle' : la = la' := by injection hle
      subst hle'
      subst hla
      rw [ints_get hjl'] at hlc
      generalize (lsF ee g.nodes.length).getD j 0 = n at hts hnN hlc
      have hbe := Below.next hbw hT.out.b
      obtain ⟨nb, no, av, rfl, hnd⟩ := hHN.out n hnN
      obtain ⟨n0, n1, n2, n3, hA⟩ := hnd.below hbe
      have hga := good_args (hg.node (g.nodes.getD n nd0) (by simp [List.getD, hnN]))
      have hNS : Hid (((lsF ee g.nodes.length).take (j + 1)).map (fun n => renum (clsI ee g.nodes.length) (g.nodes.getD n nd0)) = ((lsF ee g.nodes.length).take j).map (fun n => renum (clsI ee g.nodes.length) (g.nodes.getD n nd0)) ++ [renum (clsI ee g.nodes.length) (g.nodes.getD n nd0)]) := by
        show _ = _
        rw [hts]
        simp
      have hL : (((lsF ee g.nodes.length).take j).map (fun n => renum (clsI ee g.nodes.length) (g.nodes.getD n nd0))).length = j := by simp; omega
      generalize ((lsF ee g.nodes.length).take j).map (fun n => renum (clsI ee g.nodes.length) (g.nodes.getD n nd0)) = NS at hT hNS hL
      have e0 : wr.heap[W.heap.size]? = some (.cells #[.slice (some ⟨nb, no, none⟩) g.nodes.length nc, .slice ra g.roots.length rc] 25) := by rw [hT.out.b.block _ (by omega)]; exact k0
      obtain ⟨⟨c0, _⟩, _⟩ := blk2 e0
      have hHA := hid hA
      have hstep := hid (fun (w4 w5 : World) (aa : Option Addr) (ac gg cap : Nat) => J.push (w4 := w4) (w5 := w5) (aa := aa) (ac := ac) (g := gg) (cap := cap) (F := clsI ee g.nodes.length) (n := g.nodes.getD n nd0) hT.out hL)
      have hal := hga.2
      have hgr1 := hid hga.1
      generalize g.nodes.getD n nd0 = x at n0 n1 n2 n3 hNS hstep hA hHA hal hgr1
      obtain ⟨kind, name, num, args⟩ := x
      dsimp only at n0 n1 n2 n3 hstep hA hHA hal hgr1
      obtain ⟨aa0, ac0, rfl, _⟩ := hA
      have HT := hid hT
      have p0 := cell1 c0
      have p1 := cell1 hlc
      have q0 := cell1 n0
      have q1 := cell1 n1
      have q2 := cell1 n2
      have q3 := cell1 n3
      have zb := lt_of_cell n0
      have zl := lt_of_cell hlc
      have zc := lt_of_cell c0
      clear hnd hga hT hts e0
      obtain ⟨wo, hwo⟩ : ∃ wo, wo = wr := ⟨wr, rfl⟩
      subst hwo
      go_wp2
      go_big_region
      have hbd : Below wo.heap.size wo (wo.alloc (.cells #[.int .i64 kind, .string name, .int .i64 num, .slice aa0 args.length ac0] 56)).drew := (below_alloc wo _).drew
      have hnw : (wo.alloc (.cells #[.int .i64 kind, .string name, .int .i64 num, .slice aa0 args.length ac0] 56)).drew.heap[wo.heap.size]? = some (.cells #[.int .i64 kind, .string name, .int .i64 num, .slice aa0 args.length ac0] 56) := heap_alloc_new wo _
      generalize (wo.alloc (.cells #[.int .i64 kind, .string name, .int .i64 num, .slice aa0 args.length ac0] 56)).drew = wd at hbd hnw ⊢
      have hA0 : Hid (Aq wo wd kind name num (.slice aa0 args.length ac0) (.slice none 0 0) 0 []) := ⟨hbd, hnw, World.ownsRow_nil _ _ _ _⟩
      clear p0 p1 q0 q1 q2 q3 c0 hlc n0 n1 n2 n3 zb zl zc
      go_wp2
      go_loopw [8, 9] (fun x i wr => ∃ (m : Nat) (aa : Option Addr) (ac : Nat), m ≤ args.length ∧ i = .int .i64 m ∧ x = .slice aa m ac ∧ Hid (Aq wo wr kind name num (.slice aa0 args.length ac0) (.slice aa m ac) m ((args.take m).map (clsI ee g.nodes.length)))) (fun _ i _ => args.length - (intOf i).toNat)
      case atStart => exact ⟨0, none, 0, Nat.zero_le _, rfl, rfl, by simpa [Hid] using hA0⟩
      case round =>
        clear hA0 hbd hnw
        obtain ⟨m, aa, ac, hm, rfl, rfl, hQ⟩ := hrel
        obtain ⟨⟨x0, x1, x2, x3⟩, y0, y1, y2, y3⟩ := blk4 hQ.out.box
        by_cases hml : m < args.length
        · have hbo := Below.next HT.out.out.b hQ.out.b
          obtain ⟨ua, uc, hue, huc⟩ := hHA.out.below hQ.out.b
          obtain ⟨ub, uo, hua, hu⟩ := huc m hml
          have hue' : aa0 = ua := by injection hue
          subst hue'
          subst hua
          have hxr := hgr1.out _ (getD_mem hml)
          have hsn := hid (take_snoc hml)
          obtain ⟨ca, cc, hce, hccs⟩ := hHR2.out.below hbo
          generalize args.getD m 0 = z at hu hxr hsn
          obtain ⟨zn, rfl⟩ : ∃ zn : Nat, z = (zn : Int) := ⟨z.toNat, by omega⟩
          have hzN : zn < g.nodes.length := by omega
          obtain ⟨vb, vo, hva, hv⟩ := hccs zn (by rw [ints_len, hcl]; exact hzN)
          have hce' : ca = some ⟨cb, 0, none⟩ := by injection hce with h1; exact h1.symm
          rw [hce'] at hva
          have hva' : cb = vb ∧ 0 = vo := by simpa using hva
          obtain ⟨rfl, rfl⟩ := hva'
          rw [Nat.zero_add] at hv
          have hcI : Hid ((ints (csF ee g.nodes.length)).getD zn 0 = clsI ee g.nodes.length (zn : Int)) := by show _ = _; unfold clsI; rw [Int.toNat_natCast]
          generalize (ints (csF ee g.nodes.length)).getD zn 0 = y at hv hcI
          have ho1 := World.ownsRow.alloc hQ.out.row (.cells #[.int .i64 y] 3)
          have hzs := lt_of_block hQ.out.box
          have hlen : ((args.take m).map (clsI ee g.nodes.length)).length = m := by simp; omega
          clear hue huc hce hccs hva
          go_wp2_with (at_builtin; refine wpList_append_lies _ rfl _ _ _ rfl (wo.heap.size + 1) 3 i0 (.int .i64 0) 1 8 Try.underlying23 hi hz0 hz1 hz2 rfl (by decide) _ m (((args.take m).map (clsI ee g.nodes.length)).map (Value.int .i64)) rfl ho1 ⟨wr.heap.size, 0, none⟩ 1 1 [.int .i64 y] rfl rfl (World.news_of_block (cs := #[.int .i64 y]) (t := 3) (fr := (0, 0)) (heap_alloc_new wr _)) (by simp [Value.oneCell']) (by omega) (by unfold maxLen; omega) (by omega) (by simp; omega) (wr.heap.size + 1) (by simp) ?_; intro gg cap w5 hown5 hgr5 hat5 hlt5)
          go_roundw
          case rel =>
            refine ⟨m + 1, some ⟨gg, 0, none⟩, cap, by omega, by go_num, rfl, ?_⟩
            show Aq _ _ _ _ _ _ _ _ _
            rw [hsn.out, List.map_append]
            have := hQ.out.more hgr5 hown5
            rw [hcI.out] at this
            exact this
          case measure => simp [intOf]; omega
        · obtain rfl : m = args.length := by omega
          have hQ' := hid hQ.out
          have hQr := hQ.out.row
          rw [List.take_of_length_le (Nat.le_refl _)] at hQr
          have hQb := hQ.out.b
          have hQx := hQ.out.box
          have hb4s : Below wo.heap.size wo (wr.setCell ⟨wo.heap.size, 3, none⟩ (.slice aa args.length ac)) := hQb.setCell (Nat.le_refl _) _
          have haos : (wr.setCell ⟨wo.heap.size, 3, none⟩ (.slice aa args.length ac)).ownsRow wo.heap.size 3 1 (.slice aa args.length ac) args.length ((args.map (clsI ee g.nodes.length)).map (Value.int .i64)) := own_base (own_block hQr (fun k e => Below.heap_setCell _ _ _ _ (by have := (hQr.lt k e).1; show k ≠ wo.heap.size; omega))) (by omega)
          have hon := HT.out.out.og.on
          have hout := HT.out.out.out
          dsimp only at hon hout
          rw [hL] at hon hout
          have honn := hon.n
          rw [hL] at honn
          have hzo := lt_of_block hout
          have hnv : ∀ k, Value.ownBlock (.slice ao j c) = some k → w1.heap.size + 1 ≤ k := fun k e => (hon.n.lt k e).1
          have hon4 := World.ownsRow.alloc (own_below honn hb4s) (.cells #[.int .i64 kind, .string name, .int .i64 num, .slice aa args.length ac] 56)
          have d4 : (wr.setCell ⟨wo.heap.size, 3, none⟩ (.slice aa args.length ac)).heap[w1.heap.size]? = some (.cells #[.slice ao j c, .slice none 0 0] 25) := by rw [hb4s.block _ hzo]; exact hout
          obtain ⟨⟨g0, _⟩, g1, _⟩ := blk2 d4
          obtain ⟨⟨gg0, _⟩, gg1, _⟩ := blk2 ((hQb.block _ hzo).trans hout)
          have hsz4 : (wr.setCell ⟨wo.heap.size, 3, none⟩ (.slice aa args.length ac)).heap.size = wr.heap.size := by simp
          have hz5 := hb4s.size
          rw [hsz4] at hz5
          have hnews := heap_alloc_new (wr.setCell ⟨wo.heap.size, 3, none⟩ (.slice aa args.length ac)) (.cells #[.int .i64 kind, .string name, .int .i64 num, .slice aa args.length ac] 56)
          rw [hsz4] at hnews
          have hw1s := HT.out.out.b.size
          clear hQ hQr hQb hQx hon
          go_wp2_with (at_builtin; refine wpList_append_lies _ rfl _ _ _ rfl (w1.heap.size + 1) 56 i1 (.agg #[.int .i64 0, .string ⟨#[]⟩, .int .i64 0, .slice none 0 0]) 4 56 Try.underlying22 hi1 hy0 hy1 hy2 rfl (by omega) _ j (ncells NS avs) rfl hon4 ⟨wr.heap.size, 0, none⟩ 1 1 [.int .i64 kind, .string name, .int .i64 num, .slice aa args.length ac] rfl rfl (World.news_of_block (cs := #[.int .i64 kind, .string name, .int .i64 num, .slice aa args.length ac]) (t := 56) (fr := (0, 0)) hnews) (by simp [Value.oneCell']) (by omega) (by unfold maxLen; omega) (by omega) (by simp; omega) (wr.heap.size + 1) (by simp) ?_; intro gg cap w5 hown5 hgr5 hat hlt5; have d5 : w5.heap[w1.heap.size]? = some (.cells #[.slice ao j c, .slice none 0 0] 25) := (by rw [hgr5.block _ (by simp; omega) (fun e => by have := hnv _ e.symm; omega), Below.heap_alloc _ _ _ (by simp; omega)]; exact d4); obtain ⟨⟨d0', _⟩, d1', _⟩ := blk2 d5)
          go_roundw
          case rel =>
            refine ⟨j + 1, some ⟨gg, 0, none⟩, cap, avs ++ [.slice aa args.length ac], by omega, by go_num, ?_⟩
            show J _ _ _ _ _ _ _ _
            rw [hNS.out]
            exact (hstep.out _ w5 aa ac gg cap hb4s haos _ hgr5 hown5 (by rw [hsz4]; exact hat)).1
          case measure => simp [intOf]; omega
    · have hTe : Hid (J w1 wr ⟨(lsF ee g.nodes.length).map (fun n => renum (clsI ee g.nodes.length) (g.nodes.getD n nd0)), []⟩ ao c none 0 avs) := by
        have := hT.out
        rw [List.take_of_length_le (by rw [← HLd.out]; omega)] at this
        exact this
      have hQn : Hid ((quoF ee g).nodes = (lsF ee g.nodes.length).map (fun n => renum (clsI ee g.nodes.length) (g.nodes.getD n nd0))) := rfl
      have hlm : ((lsF ee g.nodes.length).map (fun n => renum (clsI ee g.nodes.length) (g.nodes.getD n nd0))).length = L := by rw [List.length_map]; exact HLd.out.symm
      generalize (lsF ee g.nodes.length).map (fun n => renum (clsI ee g.nodes.length) (g.nodes.getD n nd0)) = NS at hTe hQn hlm
      clear hT
      have hQr : Hid ((quoF ee g).roots = g.roots.map (clsI ee g.nodes.length)) := rfl
      go_wp2
      go_loopw [10] (fun i wr => ∃ (m : Nat) (ro : Option Addr) (rcc : Nat), m ≤ g.roots.length ∧ i = .int .i64 m ∧ Hid (J w1 wr ⟨NS, (g.roots.take m).map (clsI ee g.nodes.length)⟩ ao c ro rcc avs)) (fun i _ => g.roots.length - (intOf i).toNat)
      case atStart => exact ⟨0, none, 0, Nat.zero_le _, rfl, by simpa [Hid] using hTe⟩
      case round =>
        clear hTe
        obtain ⟨m, ro, rcc, hm, rfl, hJm⟩ := hrel
        have hLm : ((g.roots.take m).map (clsI ee g.nodes.length)).length = m := by simp; omega
        have hbw2 := Below.next hbw hJm.out.b
        have e0 : wr.heap[W.heap.size]? = some (.cells #[.slice na g.nodes.length nc, .slice ra g.roots.length rc] 25) := by rw [hJm.out.b.block _ (by omega)]; exact k0
        obtain ⟨⟨c0, c1⟩, _⟩ := blk2 e0
        have zc := lt_of_block e0
        have hout := hJm.out.out
        dsimp only at hout
        rw [hLm, hlm] at hout
        have hzo := lt_of_block hout
        by_cases hml : m < g.roots.length
        · obtain ⟨ub, uo, hua, hu0⟩ := hHR.out m hml
          subst hua
          have hu := (hbw2.cell (p := ⟨ub, uo + m, none⟩) (lt_of_cell hu0)).trans hu0
          have zu := lt_of_cell hu
          have hxr := hg.root _ (getD_mem hml)
          have hsn := hid (take_snoc hml)
          clear hu0
          generalize g.roots.getD m 0 = z at hu hxr hsn
          obtain ⟨zn, rfl⟩ : ∃ zn : Nat, z = (zn : Int) := ⟨z.toNat, by omega⟩
          have hzN : zn < g.nodes.length := by omega
          obtain ⟨ca, cc, hce, hccs⟩ := hHR2.out.below hJm.out.b
          obtain ⟨vb, vo, hva, hv⟩ := hccs zn (by rw [ints_len, hcl]; exact hzN)
          have hce' : ca = some ⟨cb, 0, none⟩ := by injection hce with h1; exact h1.symm
          rw [hce'] at hva
          have hva' : cb = vb ∧ 0 = vo := by simpa using hva
          obtain ⟨rfl, rfl⟩ := hva'
          rw [Nat.zero_add] at hv
          have zv := lt_of_cell hv
          have hcI : Hid ((ints (csF ee g.nodes.length)).getD zn 0 = clsI ee g.nodes.length (zn : Int)) := by show _ = _; unfold clsI; rw [Int.toNat_natCast]
          have hNS2 : Hid ((⟨NS, (g.roots.take (m + 1)).map (clsI ee g.nodes.length)⟩ : Gf) = ⟨NS, (g.roots.take m).map (clsI ee g.nodes.length) ++ [(ints (csF ee g.nodes.length)).getD zn 0]⟩) := by
            show _ = _
            rw [hsn.out, hcI.out]
            simp
          generalize (ints (csF ee g.nodes.length)).getD zn 0 = y at hv hNS2
          obtain ⟨ror, rcr, hreq, hror⟩ := hJm.out.og.r
          have hre1 : ror = ro ∧ rcr = rcc := by
            injection hreq with h1 _ h3
            exact ⟨h1.symm, h3.symm⟩
          obtain ⟨rfl, rfl⟩ := hre1
          have hmore := hid (fun (w4 w5 : World) (gg cap : Nat) => J.more (w4 := w4) (w5 := w5) (g := gg) (cap := cap) (l := [y]) hJm.out hLm)
          dsimp only at hror hreq
          rw [hLm] at hror
          generalize ((g.roots.take m).map (clsI ee g.nodes.length)).map (Value.int .i64) = RS at hror hmore
          have hrv : ∀ k, Value.ownBlock (.slice ror m rcr) = some k → w1.heap.size + 1 ≤ k := fun k e => (hror.lt k e).1
          have ho1 := World.ownsRow.alloc hror (.cells #[.int .i64 y] 3)
          obtain ⟨⟨_, o1⟩, _, o3⟩ := blk2 hout
          have hJms := hJm.out.b.size
          clear hreq hJm hLm hce hccs hva hcI hsn
          go_wp2
          go_region_law
            (first
              | (refine step_append_lies _ (by rfl) _ _ _ (by rfl) (w1.heap.size + 1) 3 i0 (.int .i64 0) 1 8 Try.underlying23 hi hz0 hz1 hz2 rfl (by omega) _ m RS (by rfl) (ho1.drew) ⟨wr.heap.size, 0, none⟩ 1 1 [.int .i64 y] (by rfl) (by rfl) (World.news_of_block (cs := #[.int .i64 y]) (t := 3) (fr := (0, 0)) (heap_alloc_new wr _)) (by simp [Value.oneCell']) (by omega) (by unfold maxLen; omega) (by omega) (by simp; omega) (wr.heap.size + 1) (by simp) ?_; intro gg cap w5 hown5 hgr5 hat hlt5; have d5 : w5.heap[w1.heap.size]? = some (.cells #[.slice ao L c, .slice ror m rcr] 25) := (hgr5.block _ (by simp; omega) (fun e => by have := hrv _ e.symm; omega)).trans (keepJ hout (below_alloc wr (.cells #[.int .i64 y] 3)).drew); obtain ⟨⟨_, s0⟩, _, s1⟩ := blk2 d5))
          all_goals go_wp2
          all_goals
            go_roundw
            case rel =>
              refine ⟨m + 1, some ⟨gg, 0, none⟩, cap, by omega, congrArg (Value.int .i64) (by omega), ?_⟩
              show J _ _ _ _ _ _ _ _
              rw [hNS2.out]
              exact hmore.out _ w5 gg cap (below_alloc wr (.cells #[.int .i64 y] 3)).drew hgr5 hown5 (by simpa using hat)
            case measure => simp [intOf]; omega
        · have hJe : Hid (J w1 wr (quoF ee g) ao c ro rcc avs) := by
            have := hJm.out
            rw [List.take_of_length_le (by omega)] at this
            rw [show quoF ee g = ⟨NS, g.roots.map (clsI ee g.nodes.length)⟩ by rw [← hQn.out]; rfl]
            exact this
          obtain rfl : m = g.roots.length := by omega
          obtain ⟨⟨o0, o1⟩, _⟩ := blk2 hout
          have hGq : Gr wr (.slice ao L c) (.slice ro g.roots.length rcc) (quoF ee g) := by
            have h := hJe.out.og.gr
            rw [hQn.out, hQr.out, List.length_map, hlm] at h
            exact h
          have htr := rtrim_any hq hGq
          have e1 : wr.heap[W.heap.size + 1]? = some (.cells #[.slice none 0 0, .slice none 0 0] 25) := by rw [hJe.out.b.block _ (by omega)]; exact k1
          have hze := lt_of_block e1
          have hF : Hid (∀ w5 : World, Below wr.heap.size wr w5 → w5.heap[W.heap.size + 1]? = some (.cells #[.slice none 0 0, .slice none 0 0] 25)) := fun w5 hb => by rw [hb.block _ hze]; exact e1
          clear hGq e1 hJe hJm e0
          go_wp2_with (go_at_call 30; refine htr.mono ?_; rintro e w5 ⟨⟨nv5, rv5, avs5, rfl, hO5⟩, hb5⟩; obtain ⟨n5a, n5c, rfl⟩ := hO5.nsl; obtain ⟨r5a, r5c, rfl, _⟩ := hO5.r; have j1 := hF.out w5 hb5; obtain ⟨⟨r0, r1⟩, s0, s1⟩ := blk2 j1)
          refine bodyPost_ret (ret_g1 Try.results29 (by rfl) (blk2_set j1)) rfl ⟨⟨_, _, avs5, rfl, ?_⟩, ?_⟩
          · exact og_base (og_far (og_far hO5 (by omega)) (by omega)) (by omega)
          · exact ((Below.next hbw2 hb5).setCell (by simp) _).setCell (by simp) _
end Go.Proofs.Ytllafbghomohhaa

/- Solve of the reference, walked. -/
namespace Go.Proofs.Ytllafbghomohhaa
open Go.RowKit

/-- A box of the reference's faults. -/
abbrev fbo (c a : Int) : Obj := .cells #[.int .i64 c, .int .i64 a, .string ⟨#[]⟩, .slice none 0 0] 35
theorem chkP_nil {g : Gf} {ps : List (Int × Int)} (h : chkS g ps = []) : chkP g ps = (0, 0) := by
  have h1 := chkP_zero h
  unfold chkP at h1 ⊢
  split at h1
  · rename_i h2
    rw [if_pos h2]
    split at h1
    · cases h1
    · rename_i h3
      rw [if_neg h3]
  · rename_i h2
    exact absurd h1 h2
theorem rclosed_no {W : World} {nv rv pv : Value} {g : Gf} {ps : List (Int × Int)} (hG : Gr W nv rv g) (hP : Rp W pv ps) (hA : GoodA g.nodes) (hp : PsG g ps) (hN : g.nodes.length ≤ 10000) (hl : ps.length ≤ 5000) (hn : NoSol g.nodes (ps.map natP)) :
    Calls Try.prog 28 #[.agg #[nv, rv], pv] W fun e w' => e = .returned (.tuple #[.slice none 0 0, .bool false]) ∧ Below W.heap.size W w' :=
  (closed_any hG hP hA hp hN hl).mono (fun e w' ⟨h, hb⟩ => by
    rcases h with ⟨L, _, _, hd⟩ | ⟨h, _⟩
    · exact absurd hn (clo_cg hA (fun q hq => by
        obtain ⟨r, hr, rfl⟩ := List.mem_map.1 hq
        obtain ⟨h1, h2⟩ := hp r hr
        exact ⟨by simp only [natP]; omega, by simp only [natP]; omega, hd.prs _ hq⟩) hd.stb)
    · exact ⟨h, hb⟩)
theorem rclosed_yes {W : World} {nv rv pv : Value} {g : Gf} {ps : List (Int × Int)} (hG : Gr W nv rv g) (hP : Rp W pv ps) (hA : GoodA g.nodes) (hp : PsG g ps) (hN : g.nodes.length ≤ 10000) (hl : ps.length ≤ 5000) (hn : ¬ NoSol g.nodes (ps.map natP)) :
    Calls Try.prog 28 #[.agg #[nv, rv], pv] W fun e w' => (∃ L ca cc, e = .returned (.tuple #[.slice ca g.nodes.length cc, .bool true]) ∧ Ri w' (.slice ca g.nodes.length cc) (ints L) ∧ CloD g.nodes (ps.map natP) L) ∧ Below W.heap.size W w' :=
  (closed_any hG hP hA hp hN hl).mono (fun e w' ⟨h, hb⟩ => by
    rcases h with ⟨L, h1, h2, h3⟩ | ⟨_, h⟩
    · refine ⟨⟨L, _, _, h1, ⟨some ⟨W.heap.size + 1, 0, none⟩, g.nodes.length, by simp [ints, h3.clo.len], fun j hj => ⟨W.heap.size + 1, 0, rfl, ?_⟩⟩, h3⟩, hb⟩
      have hj' : j < L.length := by simpa [ints] using hj
      rw [Nat.zero_add, h2.cellAt j (by rw [← h3.clo.len]; omega), ints_at hj', ints_get hj']
    · exact absurd h hn)
theorem psg_nat {g : Gf} {ps : List (Int × Int)} (hp : PsG g ps) : ∀ p ∈ ps.map natP, p.1 < g.nodes.length ∧ p.2 < g.nodes.length := fun q hq => by
  obtain ⟨r, hr, rfl⟩ := List.mem_map.1 hq
  obtain ⟨h1, h2⟩ := hp r hr
  exact ⟨by simp only [natP]; omega, by simp only [natP]; omega⟩
/-- The boxes of the reference's Solve and Verdict: the graph, the answer, its fault. -/
structure Rbx (W : World) (nv rv u0 u1 : Value) (T : TypeId) (w : World) : Prop where
  g : w.heap[W.heap.size]? = some (.cells #[nv, rv] 25)
  r : w.heap[W.heap.size + 1]? = some (.cells #[u0, u1] T)
  f : w.heap[W.heap.size + 1 + 1]? = some (fbo 0 0)
  b : Below W.heap.size W w
theorem Rbx.new (W : World) (nv rv u0 u1 : Value) (T : TypeId) : Rbx W nv rv u0 u1 T (((W.alloc (.cells #[nv, rv] 25)).alloc (.cells #[u0, u1] T)).alloc (fbo 0 0)) := by
  have h1 := heap_alloc_new (W.alloc (.cells #[nv, rv] 25)) (.cells #[u0, u1] T)
  rw [show (W.alloc (.cells #[nv, rv] 25)).heap.size = W.heap.size + 1 by simp] at h1
  have h2 := heap_alloc_new ((W.alloc (.cells #[nv, rv] 25)).alloc (.cells #[u0, u1] T)) (fbo 0 0)
  rw [show ((W.alloc (.cells #[nv, rv] 25)).alloc (.cells #[u0, u1] T)).heap.size = W.heap.size + 1 + 1 by simp] at h2
  exact ⟨(Below.heap_alloc _ _ _ (by simp; omega)).trans ((Below.heap_alloc _ _ _ (by simp)).trans (heap_alloc_new W _)), (Below.heap_alloc _ _ _ (by simp)).trans h1, h2, ((below_alloc W _).alloc (by simp) _).alloc (by simp; omega) _⟩
section
variable {W w w' : World} {nv rv u0 u1 : Value} {T : TypeId}
theorem Rbx.next (h : Rbx W nv rv u0 u1 T w) (hb : Below w.heap.size w w') : Rbx W nv rv u0 u1 T w' :=
  ⟨(hb.block _ (lt_of_block h.g)).trans h.g, (hb.block _ (lt_of_block h.r)).trans h.r, (hb.block _ (lt_of_block h.f)).trans h.f, Below.next h.b hb⟩
/-- What lies in the boxes. -/
theorem Rbx.cells (h : Rbx W nv rv u0 u1 T w) : ((w.cell? ⟨W.heap.size, 0, none⟩ = some nv ∧ w.cell? ⟨W.heap.size, 1, none⟩ = some rv) ∧ W.heap.size < w.heap.size) ∧ ((w.cell? ⟨W.heap.size + 1, 0, none⟩ = some u0 ∧ w.cell? ⟨W.heap.size + 1, 1, none⟩ = some u1) ∧ (w.frozen? ⟨W.heap.size + 1, 0, none⟩ = false ∧ w.frozen? ⟨W.heap.size + 1, 1, none⟩ = false) ∧ W.heap.size + 1 < w.heap.size) ∧ (w.cell? ⟨W.heap.size + 1 + 1, 0, none⟩ = some (.int .i64 0) ∧ w.cell? ⟨W.heap.size + 1 + 1, 1, none⟩ = some (.int .i64 0) ∧ w.cell? ⟨W.heap.size + 1 + 1, 2, none⟩ = some (.string ⟨#[]⟩) ∧ w.cell? ⟨W.heap.size + 1 + 1, 3, none⟩ = some (.slice none 0 0)) ∧ (w.frozen? ⟨W.heap.size + 1 + 1, 0, none⟩ = false ∧ w.frozen? ⟨W.heap.size + 1 + 1, 1, none⟩ = false ∧ w.frozen? ⟨W.heap.size + 1 + 1, 2, none⟩ = false ∧ w.frozen? ⟨W.heap.size + 1 + 1, 3, none⟩ = false) ∧ W.heap.size + 1 + 1 < w.heap.size := by
  have hg := h.g
  have hr := h.r
  have hf := h.f
  refine ⟨⟨⟨?_, ?_⟩, lt_of_block hg⟩, ⟨⟨?_, ?_⟩, ⟨?_, ?_⟩, lt_of_block hr⟩, ⟨?_, ?_, ?_, ?_⟩, ⟨?_, ?_, ?_, ?_⟩, lt_of_block hf⟩ <;> simp [World.cell?, World.frozen?, hg, hr, hf, fbo]
abbrev setF (w : World) (q : Nat) (c a : Int) : World := (((w.setCell ⟨q, 0, none⟩ (.int .i64 c)).setCell ⟨q, 1, none⟩ (.int .i64 a)).setCell ⟨q, 2, none⟩ (.string ⟨#[]⟩)).setCell ⟨q, 3, none⟩ (.slice none 0 0)
abbrev setG (w : World) (q : Nat) (v0 v1 : Value) : World := (w.setCell ⟨q, 0, none⟩ v0).setCell ⟨q, 1, none⟩ v1
theorem setF_far (w : World) {q k : Nat} (c a : Int) (h : k ≠ q) : (setF w q c a).heap[k]? = w.heap[k]? := by
  rw [Below.heap_setCell _ _ _ _ h, Below.heap_setCell _ _ _ _ h, Below.heap_setCell _ _ _ _ h, Below.heap_setCell _ _ _ _ h]
theorem setG_far (w : World) {q k : Nat} (v0 v1 : Value) (h : k ≠ q) : (setG w q v0 v1).heap[k]? = w.heap[k]? := by
  rw [Below.heap_setCell _ _ _ _ h, Below.heap_setCell _ _ _ _ h]
theorem setG_below {n q : Nat} (hb : Below n W w) (hq : n ≤ q) (v0 v1 : Value) : Below n W (setG w q v0 v1) := (hb.setCell (p := ⟨q, 0, none⟩) hq _).setCell (p := ⟨q, 1, none⟩) hq _
theorem setF_below {n q : Nat} (hb : Below n W w) (hq : n ≤ q) (c a : Int) : Below n W (setF w q c a) := (((hb.setCell (p := ⟨q, 0, none⟩) hq _).setCell (p := ⟨q, 1, none⟩) hq _).setCell (p := ⟨q, 2, none⟩) hq _).setCell (p := ⟨q, 3, none⟩) hq _
/-- The answer is laid down, in either order. -/
structure Rfin (W w w' : World) (v0 v1 : Value) (T : TypeId) (c a : Int) : Prop where
  r : w'.heap[W.heap.size + 1]? = some (.cells #[v0, v1] T)
  f : w'.heap[W.heap.size + 1 + 1]? = some (fbo c a)
  k : ∀ k, k ≠ W.heap.size + 1 → k ≠ W.heap.size + 1 + 1 → w'.heap[k]? = w.heap[k]?
  b : Below W.heap.size W w'
theorem Rbx.finA (h : Rbx W nv rv u0 u1 T w) (v0 v1 : Value) (c a : Int) : Rfin W w (setF (setG w (W.heap.size + 1) v0 v1) (W.heap.size + 1 + 1) c a) v0 v1 T c a := by
  refine ⟨?_, ?_, fun k h1 h2 => ?_, ?_⟩
  · rw [setF_far _ _ _ (by omega)]
    exact blk2_set h.r
  · refine box_set0 (u0 := .int .i64 0) (u1 := .int .i64 0) (u2 := .string ⟨#[]⟩) (u3 := .slice none 0 0) ?_
    rw [setG_far _ _ _ (by omega)]
    exact h.f
  · rw [setF_far _ _ _ h2, setG_far _ _ _ h1]
  · exact setF_below (setG_below h.b (by omega) _ _) (by omega) _ _
theorem Rbx.finB (h : Rbx W nv rv u0 u1 T w) (v0 v1 : Value) (c a : Int) : Rfin W w (setG (setF w (W.heap.size + 1 + 1) c a) (W.heap.size + 1) v0 v1) v0 v1 T c a := by
  refine ⟨?_, ?_, fun k h1 h2 => ?_, ?_⟩
  · refine blk2_set (u0 := u0) (u1 := u1) ?_
    rw [setF_far _ _ _ (by omega)]
    exact h.r
  · rw [setG_far _ _ _ (by omega)]
    exact box_set0 h.f
  · rw [setG_far _ _ _ h1, setF_far _ _ _ h2]
  · exact setG_below (setF_below h.b (by omega) _ _) (by omega) _ _
end
theorem Rfin.drew {W w w' : World} {v0 v1 : Value} {T : TypeId} {c a : Int} (h : Rfin W w w' v0 v1 T c a) : Rfin W w w'.drew v0 v1 T c a := ⟨h.r, h.f, h.k, h.b.drew⟩
theorem ret_gbf {w : World} {fn : Func} {t s r : Tmp} (hfn : fn.results = #[.cell t 25, .tmp s, .cell r 35]) {tmps : Array Value} {q p : Nat} {u0 u1 v1 : Value} {c a : Int} (h4 : tmps[t]?.getD undef = .pointer (some ⟨q, 0, none⟩)) (h5 : tmps[s]?.getD undef = v1) (h6 : tmps[r]?.getD undef = .pointer (some ⟨p, 0, none⟩)) (hq : w.heap[q]? = some (.cells #[u0, u1] 25)) (hp : w.heap[p]? = some (fbo c a)) : (results fn tmps).run Try.prog w = .ok (.tuple #[.agg #[u0, u1], v1, flt (c, a)]) w := by
  obtain ⟨⟨z0, z1⟩, _⟩ := blk2y hq
  obtain ⟨f0, f1, f2, f3⟩ := flt_four hp
  simp [results, hfn, go_sem, h4, h5, h6, z0, z1, f0, f1, f2, f3, flt]
set_option maxRecDepth 100000 in
set_option maxHeartbeats 8000000 in
theorem rsol_bad {W : World} {nv rv pv : Value} {g : Gf} {ps : List (Int × Int)} (hG : Gr W nv rv g) (hS : Sized g) (hP : Rp W pv ps) (hl : ps.length ≤ 5000) (hc : chkS g ps ≠ []) :
    Calls Try.prog 8 #[.agg #[nv, rv], pv] W fun e w' => e = .returned (.tuple #[.agg #[.slice none 0 0, .slice none 0 0], .bool false, flt (chkP g ps)]) ∧ Below W.heap.size W w' := by
  have hB := Rbx.new W nv rv (.slice none 0 0) (.slice none 0 0) 25
  have hck := rchk10_any (hG.below hB.b) hS (hP.below hB.b) hl
  have hbad := chkP_bad hc
  have HB := hid hB
  clear hG hP hS hc hB
  generalize chkP g ps = x at *
  obtain ⟨c, a⟩ := x
  dsimp only at hbad
  go_enter Try.func8, Try.ntmps8
  go_wp2_with (first
    | (go_at_call 26; go_must (refine hck.mono ?_; clear hck; rintro e w1 ⟨rfl, hb1⟩; have HB1 := hid (HB.out.next hb1); clear hb1 HB))
    | (go_at_call 27; go_must (refine (fbad_yes hbad a _).mono ?_; rintro e w2 ⟨rfl, hb2⟩; have hfb := (hb2.block _ (by simp)).trans (heap_alloc_new w1 (fbo c a)); have zq := lt_of_block hfb; obtain ⟨q0, q1, q2, q3⟩ := flt_four hfb; have HB2 := hid (HB1.out.next (Below.next (below_alloc w1 _) hb2)); have hne := lt_of_block HB1.out.f; obtain ⟨_, ⟨⟨r0, r1⟩, ⟨r2, r3⟩, r4⟩, ⟨f0, f1, f2, f3⟩, ⟨f4, f5, f6, f7⟩, f8⟩ := HB2.out.cells; clear hb2 HB1 hfb)))
  go_region
  all_goals go_wp2
  have hfin := (HB2.out.finA (.slice none 0 0) (.slice none 0 0) c a).drew
  exact bodyPost_ret (ret_gbf Try.results8 (by rfl) (by rfl) (by rfl) hfin.r hfin.f) rfl ⟨rfl, hfin.b⟩
set_option maxRecDepth 100000 in
set_option maxHeartbeats 8000000 in
theorem rsol_no {W : World} {nv rv pv : Value} {g : Gf} {ps : List (Int × Int)} (hG : Gr W nv rv g) (hS : Sized g) (hP : Rp W pv ps) (hl : ps.length ≤ 5000) (hc : chkS g ps = []) (hn : NoSol g.nodes (ps.map natP)) :
    Calls Try.prog 8 #[.agg #[nv, rv], pv] W fun e w' => e = .returned (.tuple #[.agg #[.slice none 0 0, .slice none 0 0], .bool false, flt (0, 0)]) ∧ Below W.heap.size W w' := by
  have hB := Rbx.new W nv rv (.slice none 0 0) (.slice none 0 0) 25
  have hck := rchk10_any (hG.below hB.b) hS (hP.below hB.b) hl
  rw [chkP_nil hc] at hck
  obtain ⟨hg, hpg⟩ := chkS_good hc
  have hN : g.nodes.length ≤ 10000 := by have := hg.nodes; omega
  have hcl := hid (fun w (hb : Below W.heap.size W w) => rclosed_no (hG.below hb) (hP.below hb) (goodA_of hg) hpg hN hl hn)
  have HB := hid hB
  clear hG hP hS hc hB hg hpg hn
  go_enter Try.func8, Try.ntmps8
  go_wp2_with (first
    | (go_at_call 26; go_must (refine hck.mono ?_; clear hck; rintro e w1 ⟨rfl, hb1⟩; have HB1 := hid (HB.out.next hb1); clear hb1 HB))
    | (go_at_call 27; go_must (refine (fbad_no 0 _).mono ?_; rintro e w2 ⟨rfl, hb2⟩; have hfb := hid ((hb2.block _ (by simp)).trans (heap_alloc_new w1 (fbo 0 0))); have HB2 := hid (HB1.out.next (Below.next (below_alloc w1 _) hb2)); have hne := lt_of_block HB1.out.f; obtain ⟨⟨⟨g0, g1⟩, g2⟩, _⟩ := HB2.out.cells; clear hb2 HB1))
    | (go_at_call 28; go_must (refine (hcl.out _ HB2.out.b).mono ?_; clear hcl; rintro e w3 ⟨rfl, hb3⟩; have hfb3 := (hb3.block _ (lt_of_block hfb.out)).trans hfb.out; have zq := lt_of_block hfb3; obtain ⟨q0, q1, q2, q3⟩ := flt_four hfb3; have HB3 := hid (HB2.out.next hb3); obtain ⟨_, ⟨⟨r0, r1⟩, ⟨r2, r3⟩, r4⟩, ⟨f0, f1, f2, f3⟩, ⟨f4, f5, f6, f7⟩, f8⟩ := HB3.out.cells; clear hb3 HB2 hfb hfb3)))
  go_region
  all_goals go_wp2
  have hfin := (HB3.out.finA (.slice none 0 0) (.slice none 0 0) 0 0).drew
  exact bodyPost_ret (ret_gbf Try.results8 (by rfl) (by rfl) (by rfl) hfin.r hfin.f) rfl ⟨rfl, hfin.b⟩
set_option maxRecDepth 100000 in
set_option maxHeartbeats 8000000 in
theorem rsol_yes {W : World} {nv rv pv : Value} {g : Gf} {ps : List (Int × Int)} (hG : Gr W nv rv g) (hS : Sized g) (hP : Rp W pv ps) (hl : ps.length ≤ 5000) (hc : chkS g ps = []) (hn : ¬ NoSol g.nodes (ps.map natP)) :
    Calls Try.prog 8 #[.agg #[nv, rv], pv] W fun e w' => (∃ na nc ra rc t, e = .returned (.tuple #[.agg #[.slice na t.nodes.length nc, .slice ra t.roots.length rc], .bool true, flt (0, 0)]) ∧ Gr w' (.slice na t.nodes.length nc) (.slice ra t.roots.length rc) t ∧ LeastS g ps t) ∧ Below W.heap.size W w' := by
  have hB := Rbx.new W nv rv (.slice none 0 0) (.slice none 0 0) 25
  have hck := rchk10_any (hG.below hB.b) hS (hP.below hB.b) hl
  rw [chkP_nil hc] at hck
  obtain ⟨hg, hpg⟩ := chkS_good hc
  have hN : g.nodes.length ≤ 10000 := by have := hg.nodes; omega
  have hcl := hid (fun w (hb : Below W.heap.size W w) => rclosed_yes (hG.below hb) (hP.below hb) (goodA_of hg) hpg hN hl hn)
  have hwh := hid (fun w L cv (hb : Below W.heap.size W w) (hv : Ri w cv (ints L)) (hd : CloD g.nodes (ps.map natP) L) => whole_any (hG.below hb) hv hg hd.clo.len hd.clo.rng)
  have HB := hid hB
  have hUn := hid (fun L (hd : CloD g.nodes (ps.map natP) L) => ldE_un (goodA_of hg) (psg_nat hpg) hd)
  have Hg := hid hg
  clear hG hP hS hc hB hg hpg hn
  go_enter Try.func8, Try.ntmps8
  go_wp2_with (first
    | (go_at_call 26; go_must (refine hck.mono ?_; clear hck; rintro e w1 ⟨rfl, hb1⟩; have HB1 := hid (HB.out.next hb1); clear hb1 HB))
    | (go_at_call 27; go_must (refine (fbad_no 0 _).mono ?_; rintro e w2 ⟨rfl, hb2⟩; have hfb := hid ((hb2.block _ (by simp)).trans (heap_alloc_new w1 (fbo 0 0))); have HB2 := hid (HB1.out.next (Below.next (below_alloc w1 _) hb2)); have hne := lt_of_block HB1.out.f; obtain ⟨⟨⟨g0, g1⟩, g2⟩, _⟩ := HB2.out.cells; clear hb2 HB1))
    | (go_at_call 28; go_must (refine (hcl.out _ HB2.out.b).mono ?_; clear hcl; rintro e w3 ⟨⟨L, ca, cc, rfl, hri, hd⟩, hb3⟩; have hfb3 := (hb3.block _ (lt_of_block hfb.out)).trans hfb.out; have Hfb := hid hfb3; have zq := lt_of_block hfb3; obtain ⟨q0, q1, q2, q3⟩ := flt_four hfb3; have HB3 := hid (HB2.out.next hb3); have Hri := hid hri; have Hd := hid hd; obtain ⟨⟨⟨g0, g1⟩, g2⟩, _⟩ := HB3.out.cells; clear hb3 HB2 hfb hfb3 hri hd)))
  have hU := hUn.out L Hd.out
  have hwg := whole_good Hg.out hU.rng
  obtain ⟨ee, he⟩ := al_dec (trimF (wholeF g (ldE g.nodes L)))
  have hle := hid (whole_least Hg.out hU he)
  have hTr := hid (fun w a b (h : Gr w a b (wholeF g (ldE g.nodes L))) => rtrim_any hwg h)
  have hQu := hid (fun w a b (h : Gr w a b (trimF (wholeF g (ldE g.nodes L)))) => rquot_any h (trim_good0 hwg) ee he)
  have hcW := hid (hwh.out w3.drew L _ HB3.out.b.drew (Hri.out.below (Below.refl _ _).drew) Hd.out)
  clear hwh hU hwg he hUn Hg Hd Hri
  generalize trimF (quoF ee (trimF (wholeF g (ldE g.nodes L)))) = t at *
  generalize trimF (wholeF g (ldE g.nodes L)) = tm at *
  generalize wholeF g (ldE g.nodes L) = wh at *
  go_region_with (first
    | (go_at_call 31; go_must (refine hcW.out.mono ?_; clear hcW; rintro e w4 ⟨⟨na4, nc4, ra4, rc4, rfl, hg4⟩, hb4⟩; have hb4' := Below.next ((Below.refl w3.heap.size w3).drew) hb4; have HB4 := hid (HB3.out.next hb4'); have hf4 := (hb4'.block _ (lt_of_block Hfb.out)).trans Hfb.out; have Hf4 := hid hf4; have Hg4 := hid hg4; clear q0 q1 q2 q3 zq; have zq := lt_of_block hf4; obtain ⟨q0, q1, q2, q3⟩ := flt_four hf4; clear hf4 hg4 hb4 hb4'))
    | (go_at_call 30; go_must (refine (hTr.out _ _ _ Hg4.out).mono ?_; clear hTr; rintro e w5 ⟨⟨nv5, rv5, avs5, rfl, hg5⟩, hb5⟩; have HB5 := hid (HB4.out.next hb5); have hf5 := (hb5.block _ (lt_of_block Hf4.out)).trans Hf4.out; have Hf5 := hid hf5; have Hg5 := hid hg5.gr; clear q0 q1 q2 q3 zq; have zq := lt_of_block hf5; obtain ⟨q0, q1, q2, q3⟩ := flt_four hf5; clear hf5 hg5 hb5))
    | (go_at_call 29; go_must (refine (hQu.out _ _ _ Hg5.out).mono ?_; clear hQu; rintro e w6 ⟨⟨nv6, rv6, avs6, rfl, hg6⟩, hb6⟩; obtain ⟨na6, nc6, e6⟩ := hg6.nsl; subst e6; obtain ⟨ra6, rc6, e7, _⟩ := hg6.r; subst e7; have HB6 := hid (HB5.out.next hb6); have hf6 := (hb6.block _ (lt_of_block Hf5.out)).trans Hf5.out; have Hg6 := hid hg6; clear q0 q1 q2 q3 zq; have zq := lt_of_block hf6; obtain ⟨q0, q1, q2, q3⟩ := flt_four hf6; obtain ⟨_, ⟨⟨r0, r1⟩, ⟨r2, r3⟩, r4⟩, ⟨f0, f1, f2, f3⟩, ⟨f4, f5, f6, f7⟩, f8⟩ := HB6.out.cells; clear hf6 hg6 hb6)))
  all_goals go_wp2
  all_goals
    have hfin := HB6.out.finA (.slice na6 t.nodes.length nc6) (.slice ra6 t.roots.length rc6) 0 0
    have hz5 := lt_of_block HB5.out.f
    have hgr := (og_keep Hg6.out (fun k h1 _ => hfin.k k (by omega) (by omega))).gr
    exact bodyPost_ret (ret_gbf Try.results8 (by rfl) (by rfl) (by rfl) hfin.r hfin.f) rfl ⟨⟨_, _, _, _, t, rfl, hgr, hle.out⟩, hfin.b⟩
end Go.Proofs.Ytllafbghomohhaa

/- Verdict of the reference, walked. -/
namespace Go.Proofs.Ytllafbghomohhaa
open Go.RowKit

theorem ret_vf {w : World} {fn : Func} {t r : Tmp} (hfn : fn.results = #[.cell t 41, .cell r 35]) {tmps : Array Value} {q p : Nat} {u0 u1 : Value} {c a : Int} (h4 : tmps[t]?.getD undef = .pointer (some ⟨q, 0, none⟩)) (h6 : tmps[r]?.getD undef = .pointer (some ⟨p, 0, none⟩)) (hq : w.heap[q]? = some (.cells #[u0, u1] 41)) (hp : w.heap[p]? = some (fbo c a)) : (results fn tmps).run Try.prog w = .ok (.tuple #[.agg #[u0, u1], flt (c, a)]) w := by
  obtain ⟨⟨z0, z1⟩, _⟩ := blk2y hq
  obtain ⟨f0, f1, f2, f3⟩ := flt_four hp
  simp [results, hfn, go_sem, h4, h6, z0, z1, f0, f1, f2, f3, flt]
set_option maxRecDepth 100000 in
set_option maxHeartbeats 8000000 in
theorem rver_bad {W : World} {nv rv pv : Value} {g : Gf} {ps : List (Int × Int)} (hG : Gr W nv rv g) (hS : Sized g) (hP : Rp W pv ps) (hl : ps.length ≤ 5000) (hc : chkS g ps ≠ []) :
    Calls Try.prog 12 #[.agg #[nv, rv], pv] W fun e w' => e = .returned (.tuple #[.agg #[.int .i64 0, .slice none 0 0], flt (chkP g ps)]) ∧ Below W.heap.size W w' := by
  have hB := Rbx.new W nv rv (.int .i64 0) (.slice none 0 0) 41
  have hck := rchk10_any (hG.below hB.b) hS (hP.below hB.b) hl
  have hbad := chkP_bad hc
  have HB := hid hB
  clear hG hP hS hc hB
  generalize chkP g ps = x at *
  obtain ⟨c, a⟩ := x
  dsimp only at hbad
  go_enter Try.func12, Try.ntmps12
  go_wp2_with (first
    | (go_at_call 26; go_must (refine hck.mono ?_; clear hck; rintro e w1 ⟨rfl, hb1⟩; have HB1 := hid (HB.out.next hb1); clear hb1 HB))
    | (go_at_call 27; go_must (refine (fbad_yes hbad a _).mono ?_; rintro e w2 ⟨rfl, hb2⟩; have hfb := (hb2.block _ (by simp)).trans (heap_alloc_new w1 (fbo c a)); have zq := lt_of_block hfb; obtain ⟨q0, q1, q2, q3⟩ := flt_four hfb; have HB2 := hid (HB1.out.next (Below.next (below_alloc w1 _) hb2)); have hne := lt_of_block HB1.out.f; obtain ⟨_, ⟨⟨r0, r1⟩, ⟨r2, r3⟩, r4⟩, ⟨f0, f1, f2, f3⟩, ⟨f4, f5, f6, f7⟩, f8⟩ := HB2.out.cells; clear hb2 HB1 hfb)))
  go_region
  all_goals go_wp2
  have hfin := (HB2.out.finA (.int .i64 0) (.slice none 0 0) c a).drew
  exact bodyPost_ret (ret_vf Try.results12 (by rfl) (by rfl) hfin.r hfin.f) rfl ⟨rfl, hfin.b⟩
set_option maxRecDepth 100000 in
set_option maxHeartbeats 8000000 in
theorem rver_no {W : World} {nv rv pv : Value} {g : Gf} {ps : List (Int × Int)} (hG : Gr W nv rv g) (hS : Sized g) (hP : Rp W pv ps) (hl : ps.length ≤ 5000) (hc : chkS g ps = []) (hn : NoSol g.nodes (ps.map natP)) :
    Calls Try.prog 12 #[.agg #[nv, rv], pv] W fun e w' => e = .returned (.tuple #[.agg #[.int .i64 1, .slice none 0 0], flt (0, 0)]) ∧ Below W.heap.size W w' := by
  have hB := Rbx.new W nv rv (.int .i64 0) (.slice none 0 0) 41
  have hck := rchk10_any (hG.below hB.b) hS (hP.below hB.b) hl
  rw [chkP_nil hc] at hck
  obtain ⟨hg, hpg⟩ := chkS_good hc
  have hN : g.nodes.length ≤ 10000 := by have := hg.nodes; omega
  have hcl := hid (fun w (hb : Below W.heap.size W w) => rclosed_no (hG.below hb) (hP.below hb) (goodA_of hg) hpg hN hl hn)
  have HB := hid hB
  clear hG hP hS hc hB hg hpg hn
  go_enter Try.func12, Try.ntmps12
  go_wp2_with (first
    | (go_at_call 26; go_must (refine hck.mono ?_; clear hck; rintro e w1 ⟨rfl, hb1⟩; have HB1 := hid (HB.out.next hb1); clear hb1 HB))
    | (go_at_call 27; go_must (refine (fbad_no 0 _).mono ?_; rintro e w2 ⟨rfl, hb2⟩; have hfb := hid ((hb2.block _ (by simp)).trans (heap_alloc_new w1 (fbo 0 0))); have HB2 := hid (HB1.out.next (Below.next (below_alloc w1 _) hb2)); have hne := lt_of_block HB1.out.f; obtain ⟨⟨⟨g0, g1⟩, g2⟩, _⟩ := HB2.out.cells; clear hb2 HB1))
    | (go_at_call 28; go_must (refine (hcl.out _ HB2.out.b).mono ?_; clear hcl; rintro e w3 ⟨rfl, hb3⟩; have hfb3 := (hb3.block _ (lt_of_block hfb.out)).trans hfb.out; have zq := lt_of_block hfb3; obtain ⟨q0, q1, q2, q3⟩ := flt_four hfb3; have HB3 := hid (HB2.out.next hb3); obtain ⟨_, ⟨⟨r0, r1⟩, ⟨r2, r3⟩, r4⟩, ⟨f0, f1, f2, f3⟩, ⟨f4, f5, f6, f7⟩, f8⟩ := HB3.out.cells; clear hb3 HB2 hfb hfb3)))
  go_region
  all_goals go_wp2
  have hfin := (HB3.out.finA (.int .i64 1) (.slice none 0 0) 0 0).drew
  exact bodyPost_ret (ret_vf Try.results12 (by rfl) (by rfl) hfin.r hfin.f) rfl ⟨rfl, hfin.b⟩
/-- The verdict that is built: what hangs so far. -/
structure Vh (w3 : World) (ao : Option Addr) (c : Nat) (H : List Nat) (w : World) : Prop where
  b : Below w3.heap.size w3 w
  x : w.heap[w3.heap.size]? = some (.cells #[.int .i64 (if H.length = 0 then 2 else 3), .slice ao H.length c] 41)
  o : w.ownsRow (w3.heap.size + 1) 3 1 (.slice ao H.length c) H.length ((ints H).map (Value.int .i64))
theorem Vh.next {w3 w w' : World} {ao : Option Addr} {c : Nat} {H : List Nat} (h : Vh w3 ao c H w) (hb : Below w.heap.size w w') : Vh w3 ao c H w' :=
  ⟨h.b.trans (hb.mono h.b.size), (hb.block _ (lt_of_block h.x)).trans h.x, row_keep h.o (fun k hk => hb.block k (h.o.lt k hk).2)⟩
theorem Vh.start (w3 : World) : Vh w3 none 0 [] (w3.alloc (.cells #[.int .i64 2, .slice none 0 0] 41)) :=
  ⟨below_alloc w3 _, heap_alloc_new w3 _, World.ownsRow_nil _ _ _ _⟩
theorem Vh.push {w3 w w6 : World} {ao : Option Addr} {c g6 cap j : Nat} {H : List Nat} {o : Obj} (h : Vh w3 ao c H w) (hown : w6.ownsRow (w3.heap.size + 1) 3 1 (.slice (some ⟨g6, 0, none⟩) (H.length + 1) cap) (H.length + 1) ((ints H).map (Value.int .i64) ++ [.int .i64 (j : Int)])) (hg : ((w.setCell ⟨w3.heap.size, 0, none⟩ (.int .i64 3)).alloc o).grownBy w6 (Value.slice ao H.length c).ownBlock) :
    w6.heap[w3.heap.size]? = some (.cells #[.int .i64 3, .slice ao H.length c] 41) ∧ Vh w3 (some ⟨g6, 0, none⟩) cap (H ++ [j]) (w6.setCell ⟨w3.heap.size, 1, none⟩ (.slice (some ⟨g6, 0, none⟩) (H.length + 1) cap)) := by
  have hz := lt_of_block h.x
  have hs := h.b.size
  have hlo := fun q hq => (h.o.lt q hq).1
  have hx0 : (w.setCell ⟨w3.heap.size, 0, none⟩ (.int .i64 3)).heap[w3.heap.size]? = some (.cells #[.int .i64 3, .slice ao H.length c] 41) := blk2_set0 h.x
  have b0 : Below w3.heap.size w3 (w.setCell ⟨w3.heap.size, 0, none⟩ (.int .i64 3)) := h.b.setCell (p := ⟨w3.heap.size, 0, none⟩) (Nat.le_refl _) _
  have hs0 : (w.setCell ⟨w3.heap.size, 0, none⟩ (.int .i64 3)).heap.size = w.heap.size := by simp
  have b6 : w6.heap[w3.heap.size]? = some (.cells #[.int .i64 3, .slice ao H.length c] 41) := by
    rw [hg.block _ (by simp; omega) (fun e => by have := hlo _ e.symm; omega)]
    exact (Below.heap_alloc _ _ _ (by rw [hs0]; omega)).trans hx0
  refine ⟨b6, ⟨?_, ?_, ?_⟩⟩
  · exact ((b0.alloc (by rw [hs0]; omega) o).grown hg (by simp; omega) (fun q hq => by have := hlo q hq; omega)).setCell (p := ⟨w3.heap.size, 1, none⟩) (Nat.le_refl _) _
  · have := blk2_set1 (v1 := .slice (some ⟨g6, 0, none⟩) (H.length + 1) cap) b6
    rw [List.length_append, List.length_singleton, if_neg (by omega)]
    exact this
  · rw [List.length_append, List.length_singleton, show (ints (H ++ [j])).map (Value.int .i64) = (ints H).map (Value.int .i64) ++ [.int .i64 (j : Int)] by simp [ints]]
    refine row_keep hown (fun q hq => Below.heap_setCell _ _ _ _ ?_)
    have := (hown.lt q hq).1
    show q ≠ w3.heap.size
    omega
/-- Has another one of the first nodes this node's class? -/
def othB (L : List Nat) (i : Nat) : Nat → Bool
  | 0 => false
  | j + 1 => othB L i j || (decide (j ≠ i) && decide (L.getD j 0 = L.getD i 0))
theorem othB_iff {L : List Nat} {i : Nat} : ∀ {j : Nat}, othB L i j = true ↔ ∃ k, k < j ∧ k ≠ i ∧ L.getD k 0 = L.getD i 0
  | 0 => ⟨fun h => (by cases h), fun ⟨_, h, _⟩ => absurd h (Nat.not_lt_zero _)⟩
  | j + 1 => by
    unfold othB
    rw [Bool.or_eq_true, othB_iff, Bool.and_eq_true, decide_eq_true_eq, decide_eq_true_eq]
    constructor
    · rintro (⟨k, h1, h2⟩ | ⟨h1, h2⟩)
      · exact ⟨k, by omega, h2⟩
      · exact ⟨j, by omega, h1, h2⟩
    · rintro ⟨k, h1, h2, h3⟩
      rcases Nat.lt_or_eq_of_le (Nat.le_of_lt_succ h1) with h | h
      · exact Or.inl ⟨k, h, h2, h3⟩
      · subst h; exact Or.inr ⟨h2, h3⟩
theorem hang_step {ns : List Nd} {L : List Nat} (hL : L.length = ns.length) {j : Nat} (hj : j < ns.length) : hangF ns (ldE ns L) (j + 1) = hangF ns (ldE ns L) j ++ (if (ndN ns j).kind = 1 ∧ othB L j ns.length = true then [j] else []) := by
  have h : 1 < cntN (ldE ns L) (ldE ns L j) ns.length ↔ othB L j ns.length = true := by
    rw [cntN_two hj, othB_iff]
    constructor
    · rintro ⟨k, h1, h2, h3⟩
      exact ⟨k, h1, h2, (ldE_ker (by omega) (by omega)).1 h3⟩
    · rintro ⟨k, h1, h2, h3⟩
      exact ⟨k, h1, h2, (ldE_ker (by omega) (by omega)).2 h3⟩
  show hangF ns (ldE ns L) j ++ (if (ndN ns j).kind = 1 ∧ 1 < cntN (ldE ns L) (ldE ns L j) ns.length then [j] else []) = _
  simp only [h]
set_option maxRecDepth 100000 in
set_option maxHeartbeats 8000000 in
theorem rver_yes {W : World} {nv rv pv : Value} {g : Gf} {ps : List (Int × Int)} (hG : Gr W nv rv g) (hS : Sized g) (hP : Rp W pv ps) (hl : ps.length ≤ 5000) (hc : chkS g ps = []) (hn : ¬ NoSol g.nodes (ps.map natP)) :
    Calls Try.prog 12 #[.agg #[nv, rv], pv] W fun e w' => (∃ E ao c, Un g.nodes (ps.map natP) E [] ∧ e = .returned (.tuple #[.agg #[.int .i64 (if (hangF g.nodes E g.nodes.length).length = 0 then 2 else 3), .slice ao (hangF g.nodes E g.nodes.length).length c], flt (0, 0)]) ∧ w'.ownsRow W.heap.size 3 1 (.slice ao (hangF g.nodes E g.nodes.length).length c) (hangF g.nodes E g.nodes.length).length ((ints (hangF g.nodes E g.nodes.length)).map (Value.int .i64))) ∧ Below W.heap.size W w' := by
  obtain ⟨i0, hi, hz0, hz1, hz2⟩ := info_parts infoI
  have hB := Rbx.new W nv rv (.int .i64 0) (.slice none 0 0) 41
  have hck := rchk10_any (hG.below hB.b) hS (hP.below hB.b) hl
  rw [chkP_nil hc] at hck
  obtain ⟨hg, hpg⟩ := chkS_good hc
  have hN : g.nodes.length ≤ 10000 := by have := hg.nodes; omega
  have hcl := hid (fun w (hb : Below W.heap.size W w) => rclosed_yes (hG.below hb) (hP.below hb) (goodA_of hg) hpg hN hl hn)
  have HB := hid hB
  have hUn := hid (fun L (hd : CloD g.nodes (ps.map natP) L) => ldE_un (goodA_of hg) (psg_nat hpg) hd)
  have HG := hid hG
  obtain ⟨na, nc, rfl, _⟩ := hG.1
  obtain ⟨ra, rc, rfl, _⟩ := hG.2
  clear hG hP hS hc hB hg hpg hn
  go_enter Try.func12, Try.ntmps12
  go_wp2_with (first
    | (go_at_call 26; go_must (refine hck.mono ?_; clear hck; rintro e w1 ⟨rfl, hb1⟩; have HB1 := hid (HB.out.next hb1); clear hb1 HB))
    | (go_at_call 27; go_must (refine (fbad_no 0 _).mono ?_; rintro e w2 ⟨rfl, hb2⟩; have hfb := hid ((hb2.block _ (by simp)).trans (heap_alloc_new w1 (fbo 0 0))); have HB2 := hid (HB1.out.next (Below.next (below_alloc w1 _) hb2)); have hne := lt_of_block HB1.out.f; obtain ⟨⟨⟨g0, g1⟩, g2⟩, _⟩ := HB2.out.cells; clear hb2 HB1))
    | (go_at_call 28; go_must (refine (hcl.out _ HB2.out.b).mono ?_; clear hcl; rintro e w3 ⟨⟨L, ca, cc, rfl, hri, hd⟩, hb3⟩; have Hfb := hid ((hb3.block _ (lt_of_block hfb.out)).trans hfb.out); have HB3 := hid (HB2.out.next hb3); have Hri := hid hri; have Hd := hid hd; clear hb3 HB2 hfb hri hd g0 g1 g2)))
  have HL : Hid (L.length = g.nodes.length) := Hd.out.clo.len
  have HU := hid (hUn.out L Hd.out)
  have hcl : Hid (∀ (w : World) (i : Nat), i < g.nodes.length → Below w3.heap.size w3 w → ∃ b o, ca = some ⟨b, o, none⟩ ∧ w.cell? ⟨b, o + i, none⟩ = some (.int .i64 ((L.getD i 0 : Nat) : Int))) := fun w i hi hb => by
    have hL := HL.out
    obtain ⟨ao, c, e, h⟩ := Hri.out.below hb
    injection e with e1 _ _
    subst e1
    obtain ⟨b, o, e, h⟩ := h i (by simp [ints, hL]; exact hi)
    rw [ints_get (by omega)] at h
    exact ⟨b, o, e, h⟩
  have hV0 := hid (Vh.start w3)
  clear hUn Hd Hri
  go_loopw [10] (fun i wr => ∃ (j : Nat) (ao : Option Addr) (c : Nat), j ≤ g.nodes.length ∧ i = .int .i64 (j : Int) ∧ Hid (Vh w3 ao c (hangF g.nodes (ldE g.nodes L) j) wr)) (fun i _ => g.nodes.length - (intOf i).toNat)
  case atStart => exact ⟨0, none, 0, Nat.zero_le _, rfl, hV0⟩
  case round =>
    clear hV0
    obtain ⟨j, ao, c, hj, rfl, hV⟩ := hrel
    have HBr := hid (HB3.out.next hV.out.b)
    obtain ⟨⟨⟨g0, g1⟩, g2⟩, _⟩ := HBr.out.cells
    by_cases hlt : j < g.nodes.length
    · have hji : (j : Int) < (g.nodes.length : Int) := by omega
      obtain ⟨nb, no, e, k0⟩ := gr_kind HG.out HBr.out.b hlt
      subst e
      have zk := lt_of_cell k0
      have hst := hid (hang_step HL.out hlt)
      by_cases hk : (ndN g.nodes j).kind = 1
      · rw [hk] at k0
        go_wp2
        clear k0 zk g0 g1 g2
        obtain ⟨wo, rfl⟩ : ∃ wo : World, wo = wr := ⟨_, rfl⟩
        go_loopw [11, 12] (fun s i wr => ∃ (k : Nat), k ≤ g.nodes.length ∧ i = .int .i64 (k : Int) ∧ s = .bool (othB L j k) ∧ Hid (Vh w3 ao c (hangF g.nodes (ldE g.nodes L) j) wr)) (fun _ i _ => g.nodes.length - (intOf i).toNat)
        case atStart => exact ⟨0, Nat.zero_le _, rfl, rfl, hV⟩
        case round =>
          clear hV HBr
          obtain ⟨k, hk2, rfl, rfl, hV⟩ := hrel
          have HBr := hid (HB3.out.next hV.out.b)
          obtain ⟨⟨⟨g0, g1⟩, g2⟩, _⟩ := HBr.out.cells
          by_cases hkl : k < g.nodes.length
          · have hki : (k : Int) < (g.nodes.length : Int) := by omega
            obtain ⟨cb, co, e, c0⟩ := hcl.out wr k hkl hV.out.b
            subst e
            obtain ⟨cb2, co2, e, c1⟩ := hcl.out wr j hlt hV.out.b
            injection e with e
            injection e with e1 e2 _
            subst e1
            subst e2
            have zc := lt_of_cell c0
            have zc1 := lt_of_cell c1
            have hos : Hid (othB L j (k + 1) = (othB L j k || (decide (k ≠ j) && decide (L.getD k 0 = L.getD j 0)))) := rfl
            generalize othB L j k = B at *
            generalize L.getD k 0 = x at *
            generalize L.getD j 0 = y at *
            cases B with
            | true =>
              have hR : Hid (othB L j (k + 1) = true) := by have := hos.out; rw [Bool.true_or] at this; exact this
              clear hos
              go_wp2
              go_quiet (fail)
              go_wp2
              go_roundw
              case rel => exact ⟨k + 1, by omega, by go_num, congrArg Value.bool hR.out.symm, hid (hV.out.next (below_drewN (Below.refl _ _) _))⟩
              case measure => simp [intOf]; omega
            | false =>
              by_cases hkj : k = j
              · subst hkj
                have hR : Hid (othB L k (k + 1) = false) := by have := hos.out; simp at this; exact this
                have d0 : ((k : Int) != (k : Int)) = false := by simp
                clear hos
                go_wp2
                go_quiet (fail)
                go_wp2
                go_roundw
                case rel => exact ⟨k + 1, by omega, by go_num, congrArg Value.bool hR.out.symm, hid (hV.out.next (below_drewN (Below.refl _ _) _))⟩
                case measure => simp [intOf]; omega
              · have d0 : ((k : Int) != (j : Int)) = true := by simp; omega
                have hR : Hid (othB L j (k + 1) = decide (x = y)) := by
                  have := hos.out
                  rw [Bool.false_or, decide_eq_true hkj, Bool.true_and] at this
                  exact this
                clear hos
                by_cases hxy : x = y
                · have d1 : ((x : Int) == (y : Int)) = true := by simp; omega
                  have hR2 : Hid (othB L j (k + 1) = true) := by rw [hR.out]; exact decide_eq_true hxy
                  clear hR hkj hxy
                  go_wp2
                  go_quiet (fail)
                  go_wp2
                  go_roundw
                  case rel => exact ⟨k + 1, by omega, by go_num, congrArg Value.bool hR2.out.symm, hid (hV.out.next (below_drewN (Below.refl _ _) _))⟩
                  case measure => simp [intOf]; omega
                · have d1 : ((x : Int) == (y : Int)) = false := by simp; omega
                  have hR2 : Hid (othB L j (k + 1) = false) := by rw [hR.out]; exact decide_eq_false hxy
                  clear hR hkj hxy
                  go_wp2
                  go_quiet (fail)
                  go_wp2
                  go_roundw
                  case rel => exact ⟨k + 1, by omega, by go_num, congrArg Value.bool hR2.out.symm, hid (hV.out.next (below_drewN (Below.refl _ _) _))⟩
                  case measure => simp [intOf]; omega
          · obtain rfl : k = g.nodes.length := by omega
            have hst2 : Hid (hangF g.nodes (ldE g.nodes L) (j + 1) = hangF g.nodes (ldE g.nodes L) j ++ (if othB L j g.nodes.length = true then [j] else [])) := by
              have := hst.out
              simp only [hk, true_and] at this
              exact this
            have hHl : (hangF g.nodes (ldE g.nodes L) j).length ≤ j := hangF_le _ _ _
            generalize othB L j g.nodes.length = B at *
            clear hst
            cases B with
            | true =>
              have hst3 : Hid (hangF g.nodes (ldE g.nodes L) (j + 1) = hangF g.nodes (ldE g.nodes L) j ++ [j]) := by have := hst2.out; rw [if_pos rfl] at this; exact this
              clear hst2
              generalize hangF g.nodes (ldE g.nodes L) j = H at *
              have hx := hV.out.x
              have zx := lt_of_block hx
              obtain ⟨⟨x0, x1⟩, x2, x3⟩ := blk2y hx
              have hO1 := World.ownsRow.alloc (row_keep (w' := wr.setCell ⟨w3.heap.size, 0, none⟩ (.int .i64 3)) hV.out.o (fun q hq => Below.heap_setCell _ _ _ _ (by have := (hV.out.o.lt q hq).1; show q ≠ w3.heap.size; omega))) (.cells #[.int .i64 (j : Int)] 3)
              have hpush := hid (fun (w6 : World) (g6 cap : Nat) => Vh.push (w6 := w6) (g6 := g6) (cap := cap) (j := j) (o := .cells #[.int .i64 (j : Int)] 3) hV.out)
              have hzr : w3.heap.size ≤ wr.heap.size := hV.out.b.size
              clear hx
              go_wp2_with (at_builtin; go_must (refine wpList_append_lies _ rfl _ _ 23 rfl (w3.heap.size + 1) 3 i0 (.int .i64 0) 1 8 Try.underlying23 hi hz0 hz1 hz2 rfl (by decide) _ H.length _ rfl hO1 ⟨wr.heap.size, 0, none⟩ 1 1 [.int .i64 (j : Int)] rfl rfl (World.news_of_block (cs := #[.int .i64 (j : Int)]) (t := 3) (fr := (0, 0)) (by have h9 := heap_alloc_new (wr.setCell ⟨w3.heap.size, 0, none⟩ (.int .i64 3)) (.cells #[.int .i64 (j : Int)] 3); simpa using h9)) (by simp [Value.oneCell']) (by decide) (by unfold maxLen; omega) (by omega) (by simp; omega) _ rfl ?_; intro g6 cap w6 hown6 hg6 hat6 hlt6; obtain ⟨hx6, HV6⟩ := hpush.out w6 g6 cap hown6 hg6; have HV7 := hid HV6; have zx6 := lt_of_block hx6; obtain ⟨⟨y0, y1⟩, y2, y3⟩ := blk2y hx6; clear hx6 HV6 hown6 hg6 hpush))
              exact ⟨⟨j + 1, some ⟨g6, 0, none⟩, cap, by omega, by go_num, (show Vh _ _ _ _ _ by rw [hst3.out]; exact HV7.out)⟩, by simp [intOf]; omega⟩
            | false =>
              have hst3 : Hid (hangF g.nodes (ldE g.nodes L) (j + 1) = hangF g.nodes (ldE g.nodes L) j) := by have := hst2.out; rw [if_neg (by decide), List.append_nil] at this; exact this
              clear hst2
              go_wp2
              exact ⟨⟨j + 1, ao, c, by omega, by go_num, (show Vh _ _ _ _ _ by rw [hst3.out]; exact hV.out)⟩, by simp [intOf]; omega⟩
      · have hst3 : Hid (hangF g.nodes (ldE g.nodes L) (j + 1) = hangF g.nodes (ldE g.nodes L) j) := by
          have := hst.out
          rw [if_neg (fun h => hk h.1), List.append_nil] at this
          exact this
        have d0 : ((ndN g.nodes j).kind != 1) = true := by simpa using hk
        generalize (ndN g.nodes j).kind = kj at *
        clear hst hk
        go_wp2
        go_roundw
        case rel => exact ⟨j + 1, ao, c, by omega, by go_num, (show Vh _ _ _ _ _ by rw [hst3.out]; exact hV.out)⟩
        case measure => simp [intOf]; omega
    · obtain rfl : j = g.nodes.length := by omega
      generalize hH : hangF g.nodes (ldE g.nodes L) g.nodes.length = H at *
      have hfbr := (hV.out.b.block _ (lt_of_block Hfb.out)).trans Hfb.out
      have zq := lt_of_block hfbr
      obtain ⟨q0, q1, q2, q3⟩ := flt_four hfbr
      have hx := hV.out.x
      have zx := lt_of_block hx
      obtain ⟨⟨x0, x1⟩, _⟩ := blk2y hx
      obtain ⟨_, ⟨⟨r0, r1⟩, ⟨r2, r3⟩, r4⟩, ⟨f0, f1, f2, f3⟩, ⟨f4, f5, f6, f7⟩, f8⟩ := HBr.out.cells
      have hne3 := lt_of_block HB3.out.f
      have hz1' := lt_of_block Hfb.out
      replace hH := hid hH
      generalize hkd : (if H.length = 0 then (2 : Int) else 3) = kd at *
      replace hkd := hid hkd
      clear hx hfbr
      go_wp2
      go_region
      all_goals go_wp2
      have hfin := (HBr.out.finA (.int .i64 kd) (.slice ao H.length c) 0 0).drew
      have hri := own_base (B' := W.heap.size) (row_keep hV.out.o (fun k hk => hfin.k k (by have := (hV.out.o.lt k hk).1; omega) (by have := (hV.out.o.lt k hk).1; omega))) (by omega)
      exact bodyPost_ret (ret_vf Try.results12 (by rfl) (by rfl) hfin.r hfin.f) rfl ⟨⟨ldE g.nodes L, ao, c, HU.out, by rw [hH.out, hkd.out], by rw [hH.out]; exact hri⟩, hfin.b⟩
end Go.Proofs.Ytllafbghomohhaa

/- Verdict of package solve. -/
namespace Go.Proofs.Ytllafbghomohhaa
open Go.RowKit

theorem ret_ve {w : World} {fn : Func} {t r : Tmp} (hfn : fn.results = #[.cell t 41, .tmp r]) {tmps : Array Value} {q : Nat} {u0 u1 v2 : Value} (h4 : tmps[t]?.getD undef = .pointer (some ⟨q, 0, none⟩)) (h6 : tmps[r]?.getD undef = v2) (hq : w.heap[q]? = some (.cells #[u0, u1] 41)) : (results fn tmps).run Try.prog w = .ok (.tuple #[.agg #[u0, u1], v2]) w := by
  obtain ⟨⟨z0, z1⟩, _⟩ := blk2y hq
  simp [results, hfn, go_sem, h4, h6, z0, z1]
abbrev veZ : Obj := .cells #[.int .i64 0, .slice none 0 0] 41
/-- The box of the graph and that of the answer. -/
structure Vb (W : World) (nv rv : Value) (w : World) : Prop where
  g : w.heap[W.heap.size]? = some (.cells #[nv, rv] 25)
  r : w.heap[W.heap.size + 1]? = some veZ
  b : Below W.heap.size W w
theorem Vb.new (W : World) (nv rv : Value) : Vb W nv rv ((W.alloc (.cells #[nv, rv] 25)).alloc veZ) := by
  have h1 := heap_alloc_new (W.alloc (.cells #[nv, rv] 25)) veZ
  rw [show (W.alloc (.cells #[nv, rv] 25)).heap.size = W.heap.size + 1 by simp] at h1
  exact ⟨(Below.heap_alloc _ _ _ (by simp)).trans (heap_alloc_new W _), h1, (below_alloc W _).alloc (by simp) _⟩
theorem Vb.next {W w w' : World} {nv rv : Value} (h : Vb W nv rv w) (hb : Below w.heap.size w w') : Vb W nv rv w' :=
  ⟨(hb.block _ (lt_of_block h.g)).trans h.g, (hb.block _ (lt_of_block h.r)).trans h.r, Below.next h.b hb⟩
theorem Vb.fin {W w : World} {nv rv : Value} (h : Vb W nv rv w) (u0 u1 : Value) : ((w.setCell ⟨W.heap.size + 1, 0, none⟩ u0).setCell ⟨W.heap.size + 1, 1, none⟩ u1).heap[W.heap.size + 1]? = some (.cells #[u0, u1] 41) ∧ Below W.heap.size W ((w.setCell ⟨W.heap.size + 1, 0, none⟩ u0).setCell ⟨W.heap.size + 1, 1, none⟩ u1) :=
  ⟨blk2_set h.r, (h.b.setCell (p := ⟨W.heap.size + 1, 0, none⟩) (Nat.le_succ _) _).setCell (p := ⟨W.heap.size + 1, 1, none⟩) (Nat.le_succ _) _⟩
theorem er_keepV {w : World} {q : Nat} {u0 u1 : Value} (hq : w.heap[q]? = some veZ) : ∀ {fs : Fs} {ev : Value}, Er w ev fs → Er ((w.setCell ⟨q, 0, none⟩ u0).setCell ⟨q, 1, none⟩ u1) ev fs
  | [], _, h => h
  | _ :: _, _, ⟨h0, b, ev, he, hb, hr⟩ => ⟨h0, b, ev, he, by
      have hne : b ≠ q := fun e => by
        subst e
        rw [hq] at hb
        injection hb with hb
        injection hb with _ hb
        exact absurd hb (by decide)
      rw [Below.heap_setCell _ _ _ _ hne, Below.heap_setCell _ _ _ _ hne]
      exact hb, er_keepV hq hr⟩
set_option maxRecDepth 100000 in
set_option maxHeartbeats 4000000 in
theorem verdict_bad {W : World} {nv rv pv : Value} {g : Gf} {ps : List (Int × Int)} (hG : Gr W nv rv g) (hS : Sized g) (hP : Rp W pv ps) (hl : ps.length ≤ 5000) (hc : chkS g ps ≠ []) :
    Calls Try.prog 11 #[.agg #[nv, rv], pv] W fun e w' => (∃ ev, e = .returned (.tuple #[.agg #[.int .i64 0, .slice none 0 0], ev]) ∧ Er w' ev (chkS g ps)) ∧ Below W.heap.size W w' := by
  obtain ⟨na, nc, rfl, _⟩ := hG.1
  obtain ⟨ra, rc, rfl, _⟩ := hG.2
  have hB := Vb.new W (.slice na g.nodes.length nc) (.slice ra g.roots.length rc)
  have hck := checked_any (hG.below hB.b) hS (hP.below hB.b) hl
  have hnil : Hid (∀ (w1 : World) (ev : Value), Er w1 ev (chkS g ps) → ∃ b, ev = .iface 70 (.pointer (some ⟨b, 0, none⟩))) := fun w1 ev h => by
    rcases h.isNil with ⟨h1, _⟩ | ⟨_, h2⟩
    · exact absurd h1 hc
    · exact h2
  have HB := hid hB
  clear hG hP hS hc hB
  go_enter Try.func11, Try.ntmps11
  go_wp2_with (go_at_call 21; go_must (refine hck.mono ?_; clear hck; rintro e w1 ⟨⟨ev, rfl, hev⟩, hb1⟩; obtain ⟨fb, rfl⟩ := hnil.out w1 ev hev; have HB1 := hid (HB.out.next hb1); have hE1 := hid hev; have hr1 := HB1.out.r; have zr1 := lt_of_block hr1; obtain ⟨⟨s0, s1⟩, s2, s3⟩ := blk2y hr1; clear hev hb1 hr1))
  obtain ⟨g1, g2⟩ := HB1.out.fin (.int .i64 0) (.slice none 0 0)
  exact bodyPost_ret (ret_ve Try.results11 (by rfl) (by rfl) g1) rfl ⟨⟨_, rfl, er_keepV HB1.out.r hE1.out⟩, g2⟩
set_option maxRecDepth 100000 in
set_option maxHeartbeats 4000000 in
theorem verdict_no {W : World} {nv rv pv : Value} {g : Gf} {ps : List (Int × Int)} (hG : Gr W nv rv g) (hS : Sized g) (hP : Rp W pv ps) (hl : ps.length ≤ 5000) (hc : chkS g ps = []) (hn : NoSol g.nodes (ps.map natP)) :
    Calls Try.prog 11 #[.agg #[nv, rv], pv] W fun e w' => e = .returned (.tuple #[.agg #[.int .i64 1, .slice none 0 0], .nilIface]) ∧ Below W.heap.size W w' := by
  obtain ⟨hg, hpg⟩ := chkS_good hc
  have hA := goodA_of hg
  obtain ⟨na, nc, rfl, _⟩ := hG.1
  obtain ⟨ra, rc, rfl, _⟩ := hG.2
  have hB := Vb.new W (.slice na g.nodes.length nc) (.slice ra g.roots.length rc)
  have hck := checked_any (hG.below hB.b) hS (hP.below hB.b) hl
  rw [hc] at hck
  have hN : g.nodes.length ≤ 10000 := by have := hg.nodes; omega
  have hap := hid (fun w1 (hb : Below W.heap.size W w1) => apart_any (w := w1) (hG.below hb).1 hN)
  have hal : Hid (∀ (w1 w2 : World) (mb : Nat) (lv : Value) (L : List Nat), Below W.heap.size W w1 → Mg w1 w2 mb (.slice na g.nodes.length nc) lv g.nodes L → Ld L id → Calls Try.prog 23 #[.pointer (some ⟨mb, 0, none⟩), pv] w2 fun e w' => e = .returned (.bool false) ∧ Below w1.heap.size w1 w') := fun w1 w2 mb lv L hb hm hl' => by
    refine (all_any hm hl' hA hN (Un.init _) (hP.below hb) hpg hl).mono ?_
    rintro e w' (⟨rfl, E, hU, _⟩ | ⟨rfl, _, hb', _⟩)
    · obtain ⟨h1, h2, _⟩ := hU.done
      exact absurd (hn _ h1 h2) (fun h => h)
    · exact ⟨rfl, hb'⟩
  have HB := hid hB
  clear hG hP hS hc hB hg hpg hA hn
  go_enter Try.func11, Try.ntmps11
  go_wp2_with (first
    | (go_at_call 21; go_must (refine hck.mono ?_; clear hck; rintro e w1 ⟨⟨ev, rfl, hev⟩, hb1⟩; have hev1 : ev = .nilIface := hev; subst hev1; have HB1 := hid (HB.out.next hb1); have hg1 := HB1.out.g; have zg1 := lt_of_block hg1; obtain ⟨⟨s0, s1⟩, _⟩ := blk2y hg1; clear hev hb1 hg1))
    | (go_at_call 22; go_must (refine (hap.out _ HB1.out.b).mono ?_; rintro e w2 ⟨mb, lv, L, rfl, hm, hld⟩; have hcall := hid (hal.out w1 w2 mb lv L HB1.out.b hm hld); clear hm hld))
    | (go_at_call 23; go_must (refine hcall.out.mono ?_; rintro e w3 ⟨rfl, hb3⟩; have HB3 := hid (HB1.out.next hb3); have hr3 := HB3.out.r; have zr3 := lt_of_block hr3; obtain ⟨⟨t0, t1⟩, t2, t3⟩ := blk2y hr3; clear hr3 hb3)))
  obtain ⟨g1, g2⟩ := HB3.out.fin (.int .i64 1) (.slice none 0 0)
  exact bodyPost_ret (ret_ve Try.results11 (by rfl) (by rfl) g1) rfl ⟨rfl, g2⟩
set_option maxRecDepth 100000 in
set_option maxHeartbeats 4000000 in
theorem verdict_yes {W : World} {nv rv pv : Value} {g : Gf} {ps : List (Int × Int)} (hG : Gr W nv rv g) (hS : Sized g) (hP : Rp W pv ps) (hl : ps.length ≤ 5000) (hc : chkS g ps = []) (hn : ¬ NoSol g.nodes (ps.map natP)) :
    Calls Try.prog 11 #[.agg #[nv, rv], pv] W fun e w' => (∃ E ao c, Un g.nodes (ps.map natP) E [] ∧ e = .returned (.tuple #[.agg #[.int .i64 (if (hangF g.nodes E g.nodes.length).length = 0 then 2 else 3), .slice ao (hangF g.nodes E g.nodes.length).length c], .nilIface]) ∧ w'.ownsRow W.heap.size 3 1 (.slice ao (hangF g.nodes E g.nodes.length).length c) (hangF g.nodes E g.nodes.length).length ((ints (hangF g.nodes E g.nodes.length)).map (Value.int .i64))) ∧ Below W.heap.size W w' := by
  obtain ⟨hg, hpg⟩ := chkS_good hc
  have hA := goodA_of hg
  obtain ⟨na, nc, rfl, _⟩ := hG.1
  obtain ⟨ra, rc, rfl, _⟩ := hG.2
  have hB := Vb.new W (.slice na g.nodes.length nc) (.slice ra g.roots.length rc)
  have hck := checked_any (hG.below hB.b) hS (hP.below hB.b) hl
  rw [hc] at hck
  have hN : g.nodes.length ≤ 10000 := by have := hg.nodes; omega
  have hap := hid (fun w1 (hb : Below W.heap.size W w1) => apart_any (w := w1) (hG.below hb).1 hN)
  have hal : Hid (∀ (w1 w2 : World) (mb : Nat) (lv : Value) (L : List Nat), Below W.heap.size W w1 → Mg w1 w2 mb (.slice na g.nodes.length nc) lv g.nodes L → Ld L id → Calls Try.prog 23 #[.pointer (some ⟨mb, 0, none⟩), pv] w2 fun e w' => e = .returned (.bool true) ∧ Below w1.heap.size w1 w' ∧ ∃ E, Un g.nodes (ps.map natP) E [] ∧ ∃ L, Mg w1 w' mb (.slice na g.nodes.length nc) lv g.nodes L ∧ Ld L E) := fun w1 w2 mb lv L hb hm hl' => by
    refine (all_any hm hl' hA hN (Un.init _) (hP.below hb) hpg hl).mono ?_
    rintro e w' (⟨rfl, E, hU, hL⟩ | ⟨rfl, h1, _, _⟩)
    · obtain ⟨L2, h3, h4⟩ := hL.mg
      exact ⟨rfl, h3.bel, E, hU, L2, h3, h4⟩
    · exact absurd h1 hn
  have hhg : Hid (∀ (w1 w2 : World) (mb : Nat) (lv : Value) (L : List Nat) (E : Nat → Nat), Mg w1 w2 mb (.slice na g.nodes.length nc) lv g.nodes L → Ld L E → Calls Try.prog 33 #[.pointer (some ⟨mb, 0, none⟩)] w2 fun e w' => (∃ ao c, e = .returned (.slice ao (hangF g.nodes E g.nodes.length).length c) ∧ w'.ownsRow w2.heap.size 3 1 (.slice ao (hangF g.nodes E g.nodes.length).length c) (hangF g.nodes E g.nodes.length).length ((ints (hangF g.nodes E g.nodes.length)).map (Value.int .i64))) ∧ Below w1.heap.size w1 w') := fun w1 w2 mb lv L E hm hl' => (shang_any hm hl' hN).mono (fun e w' ⟨h1, h2⟩ => ⟨h1, h2.bel⟩)
  have HB := hid hB
  clear hG hP hS hc hB hg hpg hA hn
  go_enter Try.func11, Try.ntmps11
  have hsplit : Hid (∀ (w3 : World) (E : Nat → Nat) (H : List Nat), H = hangF g.nodes E g.nodes.length → (H = [] ∨ ¬ ((H.length : Int) = 0))) := fun _ _ H _ => by
    cases H with
    | nil => exact Or.inl rfl
    | cons a r => exact Or.inr (by simp; omega)
  go_wp2_with (first
    | (go_at_call 21; go_must (refine hck.mono ?_; clear hck; rintro e w1 ⟨⟨ev, rfl, hev⟩, hb1⟩; have hev1 : ev = .nilIface := hev; subst hev1; have HB1 := hid (HB.out.next hb1); have hg1 := HB1.out.g; have zg1 := lt_of_block hg1; obtain ⟨⟨s0, s1⟩, _⟩ := blk2y hg1; clear hev hb1 hg1))
    | (go_at_call 22; go_must (refine (hap.out _ HB1.out.b).mono ?_; rintro e w2 ⟨mb, lv, L, rfl, hm, hld⟩; have hcall := hid (hal.out w1 w2 mb lv L HB1.out.b hm hld); clear hm hld))
    | (go_at_call 23; go_must (refine hcall.out.mono ?_; rintro e w3 ⟨rfl, hb3, E, hU, L3, hm3, hl3⟩; have HB3 := hid (HB1.out.next hb3); have hU3 := hid hU; have hch := hid (hhg.out w1 w3 mb lv L3 E hm3 hl3); have hs3 := hid (lt_of_block HB3.out.r); clear hb3 hU hm3 hl3))
    | (go_at_call 33; go_must (refine hch.out.mono ?_; rintro e w4 ⟨⟨ao, c, rfl, hrow⟩, hb4⟩; have HB4 := hid (HB1.out.next hb4); have hrow' := hid hrow; have hr4 := HB4.out.r; have zr4 := lt_of_block hr4; obtain ⟨⟨t0, t1⟩, t2, t3⟩ := blk2y hr4; clear hrow hb4 hr4; have hU3' := hid hU3.out; clear hU3; generalize hH : hangF g.nodes E g.nodes.length = H at *; have hHs := hsplit.out w4 E H hH.symm; clear hsplit)))
  · rename_i hz
    have hH0 : H = [] := by
      rcases hHs with h | h
      · exact h
      · exact absurd (by simpa using hz) h
    obtain ⟨g1, g2⟩ := HB4.out.fin (.int .i64 2) (.slice none 0 0)
    exact bodyPost_ret (ret_ve Try.results11 (by rfl) (by rfl) g1) rfl ⟨⟨E, none, 0, hU3'.out, by rw [hH, hH0]; rfl, by rw [hH, hH0]; exact World.ownsRow_nil _ _ _ _⟩, g2⟩
  · rename_i hz
    have hH0 : ¬ H.length = 0 := fun h => by rw [h] at hz; exact absurd hz (by decide)
    obtain ⟨g1, g2⟩ := HB4.out.fin (.int .i64 3) (.slice ao H.length c)
    have hrow4 : ((w4.setCell ⟨W.heap.size + 1, 0, none⟩ (.int .i64 3)).setCell ⟨W.heap.size + 1, 1, none⟩ (.slice ao H.length c)).ownsRow W.heap.size 3 1 (.slice ao H.length c) H.length ((ints H).map (Value.int .i64)) := by
      have h3 := hs3.out
      refine own_base (B := w3.heap.size) (row_keep (w := w4) hrow'.out (fun k hk => ?_)) (by omega)
      have h4 := (hrow'.out.lt k hk).1
      rw [Below.heap_setCell _ _ _ _ (by show k ≠ W.heap.size + 1; omega), Below.heap_setCell _ _ _ _ (by show k ≠ W.heap.size + 1; omega)]
    exact bodyPost_ret (ret_ve Try.results11 (by rfl) (by rfl) g1) rfl ⟨⟨E, ao, c, hU3'.out, by rw [hH, if_neg hH0]; rfl, by rw [hH]; exact hrow4⟩, g2⟩
end Go.Proofs.Ytllafbghomohhaa

/- The fixed fact of layer 10. -/
namespace Go.Proofs.Ytllafbghomohhaa
open Go.RowKit

abbrev fS : ByteArray := ⟨#[102]⟩
abbrev aS : ByteArray := ⟨#[97]⟩
/-- The graph that is asked, and what it becomes. -/
def g0S : Gf := ⟨[⟨1, ⟨#[]⟩, 0, []⟩, ⟨4, fS, 0, [0]⟩, ⟨2, aS, 0, []⟩], [0]⟩
def g1S : Gf := ⟨[⟨1, ⟨#[]⟩, 0, []⟩, ⟨4, fS, 0, [1]⟩, ⟨2, aS, 0, []⟩], [1]⟩
theorem g0_good : Good g0S := by
  have hf : goodS fS = true := by decide
  have ha : goodS aS = true := by decide
  refine ⟨by decide, by decide, fun n hn => ?_, fun x hx => ?_⟩
  · have h : n = ⟨1, ⟨#[]⟩, 0, []⟩ ∨ n = ⟨4, fS, 0, [0]⟩ ∨ n = ⟨2, aS, 0, []⟩ := by simpa [g0S] using hn
    rcases h with rfl | rfl | rfl
    · simp [goodNd, ByteArray.toList_eq]
    · simp [goodNd, hf, strange, g0S]
    · simp [goodNd, ha]
  · have h : x = 0 := by simpa [g0S] using hx
    subst h
    decide
theorem chk0 : chkS g0S [(0, 1)] = [] := by
  unfold chkS
  rw [if_pos (chk_of_good g0_good)]
  simp [ixOf, badP, strange, g0S]
theorem chk1 : chkS g0S [(1, 2)] = [] := by
  unfold chkS
  rw [if_pos (chk_of_good g0_good)]
  simp [ixOf, badP, strange, g0S]
theorem nd_0 : ndN g0S.nodes 0 = ⟨1, ⟨#[]⟩, 0, []⟩ := rfl
theorem nd_1 : ndN g0S.nodes 1 = ⟨4, fS, 0, [0]⟩ := rfl
theorem nd_2 : ndN g0S.nodes 2 = ⟨2, aS, 0, []⟩ := rfl
theorem no1 : NoSol g0S.nodes ([((1 : Int), (2 : Int))].map natP) := fun R hR hp => by
  have h := hp (1, 2) (by simp [natP])
  have := (hR.lab 1 2 (by decide) (by decide) h (by rw [nd_1]; decide) (by rw [nd_2]; decide)).1.1
  rw [nd_1, nd_2] at this
  exact absurd this (by decide)
theorem yes0 : ¬ NoSol g0S.nodes ([((0 : Int), (1 : Int))].map natP) := fun hn => by
  refine hn (fun x y => x = y ∨ (x ≤ 1 ∧ y ≤ 1)) ⟨⟨fun x => Or.inl rfl, fun x y h => ?_, fun x y z h k => ?_⟩, fun x y hx hy h hkx hky => ?_⟩ (fun p hp => ?_)
  · rcases h with e | e
    · exact Or.inl e.symm
    · exact Or.inr ⟨e.2, e.1⟩
  · rcases h with e | e
    · subst e; exact k
    · rcases k with f | f
      · subst f; exact Or.inr e
      · exact Or.inr ⟨e.1, f.2⟩
  · have e : x = y := by
      rcases h with e | ⟨e1, e2⟩
      · exact e
      · have hx1 : x ≠ 0 := fun e => hkx (by rw [e, nd_0])
        have hy1 : y ≠ 0 := fun e => hky (by rw [e, nd_0])
        omega
    subst e
    exact ⟨labS.refl _, fun k _ => Or.inl rfl⟩
  · have e : p = (0, 1) := by simpa [natP] using hp
    subst e
    exact Or.inr ⟨by decide, by decide⟩
theorem g1_no (x y : Nat) (hx : x < 3) (hy : y < 3) (hne : x ≠ y) : ¬ Al g1S (x : Int) (y : Int) := fun h => by
  obtain ⟨_, _, ⟨h1, _, _, _, h5⟩, _⟩ := al_sim g1S _ _ h
  have ex : x = 0 ∨ x = 1 ∨ x = 2 := by omega
  have ey : y = 0 ∨ y = 1 ∨ y = 2 := by omega
  rcases ex with rfl | rfl | rfl <;> rcases ey with rfl | rfl | rfl <;> first | exact absurd rfl hne | exact absurd h1 (by decide) | exact absurd (h5 rfl) (by decide)
theorem g1_trim {e : Nat → Nat → Bool} (he : ∀ x y : Nat, (e x y = true ↔ Al g1S (x : Int) (y : Int))) : trimF (quoF e g1S) = ⟨[⟨4, fS, 0, [0]⟩], [0]⟩ := by
  have hf : ∀ x y : Nat, x < 3 → y < 3 → x ≠ y → e x y = false := fun x y hx hy hne => by
    cases h : e x y
    · rfl
    · exact absurd ((he x y).1 h) (g1_no x y hx hy hne)
  have h1 := hf 1 0 (by omega) (by omega) (by omega)
  have h2 := hf 2 0 (by omega) (by omega) (by omega)
  have h3 := hf 2 1 (by omega) (by omega) (by omega)
  have hc : csF e 3 = [0, 1, 2] ∧ lsF e 3 = [0, 1, 2] := by simp [csF, lsF, numF, fnd, h1, h2, h3]
  have c1 : clsI e 3 1 = 1 := by simp [clsI, hc.1, ints]
  have hq : quoF e g1S = g1S := by simp [quoF, g1S, hc.2, renum, c1]
  rw [hq]
  have hm : metF g1S = [1] := by simp [metF, g1S, meetF, Gf.argsOf]
  unfold trimF
  rw [hm]
  simp [g1S, renum, posF, pos]
theorem least0 {t : Gf} (h : LeastS g0S [(0, 1)] t) : t = ⟨[⟨4, fS, 0, [0]⟩], [0]⟩ := by
  obtain ⟨E, ee, hU, hd, rfl⟩ := h
  obtain ⟨_, hp, _⟩ := hU.done
  have e01 : E 0 = E 1 := hp (0, 1) (by simp [natP])
  obtain ⟨h1, h2, _⟩ := hU.rep 1 (by decide) (by rw [nd_1]; decide)
  have hr := hU.rng 1 (by decide)
  have hr3 : E 1 < 3 := hr
  have e1 : E 1 = 1 := by
    have hc : E 1 = 0 ∨ E 1 = 1 ∨ E 1 = 2 := by omega
    rcases hc with h | h | h
    · rw [h, nd_0] at h1; exact absurd rfl h1
    · exact h
    · have := h2.1
      rw [h, nd_1, nd_2] at this
      exact absurd this (by decide)
  have hg : gE g0S.nodes g0S.roots E = g1S := by
    simp [gE, g0S, g1S, renum, EI, e01, e1]
  rw [hg] at hd ⊢
  exact g1_trim hd
end Go.Proofs.Ytllafbghomohhaa
