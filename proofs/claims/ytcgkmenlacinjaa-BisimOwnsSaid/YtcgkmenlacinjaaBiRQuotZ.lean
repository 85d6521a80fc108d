/- Quotient of the reference, at every good graph. -/
import Derived.Test.YtcgkmenlacinjaaBiCZ
import Derived.Test.YtcgkmenlacinjaaBiBZ
import Derived.Test.YtcgkmenlacinjaaBiEZ
import Derived.Test.YtcgkmenlacinjaaBiDZ
namespace Go.Proofs.Ytcgkmenlacinjaa
open Go.RowKit

/-- A node's copy and the list of its arguments' classes so far. -/
structure Aq (wo w : World) (k : Int) (s : ByteArray) (u : Int) (v av : Value) (m : Nat) (l : List Int) : Prop where
  b : Below wo.heap.size wo w
  box : w.heap[wo.heap.size]? = some (.cells #[.int .i64 k, .string s, .int .i64 u, v] 48 (0, 0))
  row : w.ownsRow (wo.heap.size + 1) 3 1 av m (l.map (Value.int .i64))
theorem Aq.more {wo w w2 : World} {k : Int} {s : ByteArray} {u x : Int} {v av av' : Value} {m : Nat} {l : List Int} {o : Obj} (h : Aq wo w k s u v av m l) (hg : (w.alloc o).grownBy w2 av.ownBlock) (hown : w2.ownsRow (wo.heap.size + 1) 3 1 av' (m + 1) (l.map (Value.int .i64) ++ [.int .i64 x])) : Aq wo w2 k s u v av' (m + 1) (l ++ [x]) := by
  have hz := lt_of_block h.box
  have hs := h.b.size
  refine ⟨(h.b.alloc hs o).grown hg (by simp; omega) (fun q e => by have := (h.row.lt q e).1; omega), ?_, ?_⟩
  · rw [hg.block _ (by simp; omega) (fun e => by have := (h.row.lt _ e.symm).1; omega), Below.heap_alloc _ _ _ hz]
    exact h.box
  · rw [List.map_append]
    exact hown
theorem og_nil (w : World) (B : Nat) : Og w B (.slice none 0 0) (.slice none 0 0) [] gf0 := ⟨On.nil _ _, ⟨none, 0, rfl⟩, ⟨none, 0, rfl, World.ownsRow_nil _ _ _ _⟩, fun k e => by cases e⟩
set_option maxRecDepth 100000 in
set_option maxHeartbeats 16000000 in
theorem rquot_any {W : World} {nv rv : Value} {g : Gf} (hG : Gr W nv rv g) (hg : Good g) (ee : Nat → Nat → Bool) (he : ∀ x y : Nat, (ee x y = true ↔ Al g (x : Int) (y : Int))) :
    Calls Try.prog 15 #[.agg #[nv, rv]] W fun r w' => (∃ nv' rv' avs, r = .returned (.agg #[nv', rv']) ∧ Og w' W.heap.size nv' rv' avs (trimF (quoF ee g))) ∧ Below W.heap.size W w' := by
  obtain ⟨i0, hi, hz0, hz1, hz2⟩ := info_parts infoI
  obtain ⟨i1, hi1, hy0, hy1, hy2⟩ := info_parts infoN
  have hev := al_eqv hg he
  have hq := quo_good hg hev
  have hgn := hg.nodes
  have hgr := hg.roots
  have hll := lsF_le ee g.nodes.length
  have hllt := lsF_lt ee g.nodes.length
  have hcl := csF_len ee g.nodes.length
  have hb2 : Below W.heap.size W ((W.alloc (.cells #[nv, rv] 25)).alloc (.cells #[.slice none 0 0, .slice none 0 0] 25)) := (below_alloc W _).alloc (by simp) _
  have hRn := hG.1
  obtain ⟨na, nc, rfl, hNc⟩ := hG.1
  obtain ⟨ra, rc, rfl, hRc⟩ := hG.2
  have hal := rclasses_any (rv := .slice ra g.roots.length rc) (hRn.below hb2) hg ee he
  have hC : ∀ w1 : World, Below ((W.alloc (.cells #[.slice na g.nodes.length nc, .slice ra g.roots.length rc] 25)).alloc (.cells #[.slice none 0 0, .slice none 0 0] 25)).heap.size ((W.alloc (.cells #[.slice na g.nodes.length nc, .slice ra g.roots.length rc] 25)).alloc (.cells #[.slice none 0 0, .slice none 0 0] 25)) w1 →
      w1.heap[W.heap.size + 1]? = some (.cells #[.slice none 0 0, .slice none 0 0] 25) ∧ w1.heap[W.heap.size]? = some (.cells #[.slice na g.nodes.length nc, .slice ra g.roots.length rc] 25) ∧ W.heap.size + 1 < w1.heap.size := fun w1 hb => by
    refine ⟨?_, ?_, ?_⟩
    · rw [hb.block _ (by simp)]
      simpa using heap_alloc_new (W.alloc (.cells #[.slice na g.nodes.length nc, .slice ra g.roots.length rc] 25)) (.cells #[.slice none 0 0, .slice none 0 0] 25)
    · rw [hb.block _ (by simp <;> omega), Below.heap_alloc _ _ _ (by simp)]
      exact heap_alloc_new W _
    · have := hb.size
      simp at this
      omega
  have hHN := hid hNc
  have hHR := hid hRc
  clear hG hRn hNc hRc
  have hlL := ints_len (lsF ee g.nodes.length)
  obtain ⟨L, hLd⟩ : ∃ L, L = (lsF ee g.nodes.length).length := ⟨_, rfl⟩
  rw [← hLd] at hlL hll hal
  have HLd := hid hLd
  clear hLd
  go_enter Try.func15, Try.ntmps15
  go_wp2_with (first
    | (go_at_call 33; refine hal.mono ?_; rintro e w1 ⟨cb, lv, rfl, hcb, hlv, hb1⟩; obtain ⟨k1, k0, k2⟩ := hC w1 hb1; have hbw := Below.next hb2 hb1; obtain ⟨la, lc, rfl⟩ := own_sl hlv; clear hal hC))
  have hHR2 := hid (cls_ri hcl hcb)
  have hHR3 := hid (Ri.ofOwn (l := ints (lsF ee g.nodes.length)) (by rw [hlL]; exact hlv))
  have hT0 : Hid (J w1 (w1.alloc (.cells #[.slice none 0 0, .slice none 0 0] 25)) gf0 none 0 none 0 []) := ⟨below_alloc _ _, heap_alloc_new w1 _, og_nil _ _⟩
  clear hcb hlv hb1 hb2
  go_loopw [6] (fun i wr => ∃ (k : Nat) (ao : Option Addr) (c : Nat) (avs : List Value), k ≤ L ∧ i = .int .i64 k ∧ Hid (J w1 wr ⟨((lsF ee g.nodes.length).take k).map (fun n => renum (clsI ee g.nodes.length) (g.nodes.getD n nd0)), []⟩ ao c none 0 avs)) (fun i _ => L - (intOf i).toNat)
  case atStart => exact ⟨0, none, 0, [], Nat.zero_le _, rfl, by simpa [Hid] using hT0⟩
  case round =>
    clear hT0
    obtain ⟨j, ao, c, avs, hj, rfl, hT⟩ := hrel
    by_cases hjl : j < L
    · have hjl' : j < (lsF ee g.nodes.length).length := by rw [← HLd.out]; exact hjl
      have hts := ntake_snoc hjl'
      have hnN := hllt _ (nget_mem hjl')
      obtain ⟨la', lc', hle, hlcs⟩ := hHR3.out.below hT.out.b
      obtain ⟨lb, lo, hla, hlc⟩ := hlcs j (by rw [hlL]; exact hjl)
      have hle' : la = la' := by injection hle
      subst hle'
      subst hla
      rw [ints_get hjl'] at hlc
      generalize (lsF ee g.nodes.length).getD j 0 = n at hts hnN hlc
      have hbe := Below.next hbw hT.out.b
      obtain ⟨nb, no, av, rfl, hnd⟩ := hHN.out n hnN
      obtain ⟨n0, n1, n2, n3, hA⟩ := hnd.below hbe
      have hga := good_args (hg.node (g.nodes.getD n nd0) (by simp [List.getD, hnN]))
      have hNS : Hid (((lsF ee g.nodes.length).take (j + 1)).map (fun n => renum (clsI ee g.nodes.length) (g.nodes.getD n nd0)) = ((lsF ee g.nodes.length).take j).map (fun n => renum (clsI ee g.nodes.length) (g.nodes.getD n nd0)) ++ [renum (clsI ee g.nodes.length) (g.nodes.getD n nd0)]) := by
        show _ = _
        rw [hts]
        simp
      have hL : (((lsF ee g.nodes.length).take j).map (fun n => renum (clsI ee g.nodes.length) (g.nodes.getD n nd0))).length = j := by simp; omega
      generalize ((lsF ee g.nodes.length).take j).map (fun n => renum (clsI ee g.nodes.length) (g.nodes.getD n nd0)) = NS at hT hNS hL
      have e0 : wr.heap[W.heap.size]? = some (.cells #[.slice (some ⟨nb, no, none⟩) g.nodes.length nc, .slice ra g.roots.length rc] 25) := by rw [hT.out.b.block _ (by omega)]; exact k0
      obtain ⟨⟨c0, _⟩, _⟩ := blk2 e0
      have hHA := hid hA
      have hstep := hid (fun (w4 w5 : World) (aa : Option Addr) (ac gg cap : Nat) => J.push (w4 := w4) (w5 := w5) (aa := aa) (ac := ac) (g := gg) (cap := cap) (F := clsI ee g.nodes.length) (n := g.nodes.getD n nd0) hT.out hL)
      have hal := hga.2
      have hgr1 := hid hga.1
      generalize g.nodes.getD n nd0 = x at n0 n1 n2 n3 hNS hstep hA hHA hal hgr1
      obtain ⟨kind, name, num, args⟩ := x
      dsimp only at n0 n1 n2 n3 hstep hA hHA hal hgr1
      obtain ⟨aa0, ac0, rfl, _⟩ := hA
      have HT := hid hT
      have p0 := cell1 c0
      have p1 := cell1 hlc
      have q0 := cell1 n0
      have q1 := cell1 n1
      have q2 := cell1 n2
      have q3 := cell1 n3
      have zb := lt_of_cell n0
      have zl := lt_of_cell hlc
      have zc := lt_of_cell c0
      clear hnd hga hT hts e0
      obtain ⟨wo, hwo⟩ : ∃ wo, wo = wr := ⟨wr, rfl⟩
      subst hwo
      go_wp2
      go_big_region
      have hbd : Below wo.heap.size wo (wo.alloc (.cells #[.int .i64 kind, .string name, .int .i64 num, .slice aa0 args.length ac0] 48)).drew := (below_alloc wo _).drew
      have hnw : (wo.alloc (.cells #[.int .i64 kind, .string name, .int .i64 num, .slice aa0 args.length ac0] 48)).drew.heap[wo.heap.size]? = some (.cells #[.int .i64 kind, .string name, .int .i64 num, .slice aa0 args.length ac0] 48) := heap_alloc_new wo _
      generalize (wo.alloc (.cells #[.int .i64 kind, .string name, .int .i64 num, .slice aa0 args.length ac0] 48)).drew = wd at hbd hnw ⊢
      have hA0 : Hid (Aq wo wd kind name num (.slice aa0 args.length ac0) (.slice none 0 0) 0 []) := ⟨hbd, hnw, World.ownsRow_nil _ _ _ _⟩
      clear p0 p1 q0 q1 q2 q3 c0 hlc n0 n1 n2 n3 zb zl zc
      go_wp2
      go_loopw [8, 9] (fun x i wr => ∃ (m : Nat) (aa : Option Addr) (ac : Nat), m ≤ args.length ∧ i = .int .i64 m ∧ x = .slice aa m ac ∧ Hid (Aq wo wr kind name num (.slice aa0 args.length ac0) (.slice aa m ac) m ((args.take m).map (clsI ee g.nodes.length)))) (fun _ i _ => args.length - (intOf i).toNat)
      case atStart => exact ⟨0, none, 0, Nat.zero_le _, rfl, rfl, by simpa [Hid] using hA0⟩
      case round =>
        clear hA0 hbd hnw
        obtain ⟨m, aa, ac, hm, rfl, rfl, hQ⟩ := hrel
        obtain ⟨⟨x0, x1, x2, x3⟩, y0, y1, y2, y3⟩ := blk4 hQ.out.box
        by_cases hml : m < args.length
        · have hbo := Below.next HT.out.out.b hQ.out.b
          obtain ⟨ua, uc, hue, huc⟩ := hHA.out.below hQ.out.b
          obtain ⟨ub, uo, hua, hu⟩ := huc m hml
          have hue' : aa0 = ua := by injection hue
          subst hue'
          subst hua
          have hxr := hgr1.out _ (getD_mem hml)
          have hsn := hid (take_snoc hml)
          obtain ⟨ca, cc, hce, hccs⟩ := hHR2.out.below hbo
          generalize args.getD m 0 = z at hu hxr hsn
          obtain ⟨zn, rfl⟩ : ∃ zn : Nat, z = (zn : Int) := ⟨z.toNat, by omega⟩
          have hzN : zn < g.nodes.length := by omega
          obtain ⟨vb, vo, hva, hv⟩ := hccs zn (by rw [ints_len, hcl]; exact hzN)
          have hce' : ca = some ⟨cb, 0, none⟩ := by injection hce with h1; exact h1.symm
          rw [hce'] at hva
          have hva' : cb = vb ∧ 0 = vo := by simpa using hva
          obtain ⟨rfl, rfl⟩ := hva'
          rw [Nat.zero_add] at hv
          have hcI : Hid ((ints (csF ee g.nodes.length)).getD zn 0 = clsI ee g.nodes.length (zn : Int)) := by show _ = _; unfold clsI; rw [Int.toNat_natCast]
          generalize (ints (csF ee g.nodes.length)).getD zn 0 = y at hv hcI
          have ho1 := World.ownsRow.alloc hQ.out.row (.cells #[.int .i64 y] 3)
          have hzs := lt_of_block hQ.out.box
          have hlen : ((args.take m).map (clsI ee g.nodes.length)).length = m := by simp; omega
          clear hue huc hce hccs hva
          go_wp2_with (at_builtin; refine wpList_append_lies _ rfl _ _ _ rfl (wo.heap.size + 1) 3 i0 (.int .i64 0) 1 8 Try.underlying23 hi hz0 hz1 hz2 rfl (by decide) _ m (((args.take m).map (clsI ee g.nodes.length)).map (Value.int .i64)) rfl ho1 ⟨wr.heap.size, 0, none⟩ 1 1 [.int .i64 y] rfl rfl (World.news_of_block (cs := #[.int .i64 y]) (t := 3) (fr := (0, 0)) (heap_alloc_new wr _)) (by simp [Value.oneCell']) (by omega) (by unfold maxLen; omega) (by omega) (by simp; omega) (wr.heap.size + 1) (by simp) ?_; intro gg cap w5 hown5 hgr5 hat5 hlt5)
          go_roundw
          case rel =>
            refine ⟨m + 1, some ⟨gg, 0, none⟩, cap, by omega, by go_num, rfl, ?_⟩
            show Aq _ _ _ _ _ _ _ _ _
            rw [hsn.out, List.map_append]
            have := hQ.out.more hgr5 hown5
            rw [hcI.out] at this
            exact this
          case measure => simp [intOf]; omega
        · obtain rfl : m = args.length := by omega
          have hQ' := hid hQ.out
          have hQr := hQ.out.row
          rw [List.take_of_length_le (Nat.le_refl _)] at hQr
          have hQb := hQ.out.b
          have hQx := hQ.out.box
          have hb4s : Below wo.heap.size wo (wr.setCell ⟨wo.heap.size, 3, none⟩ (.slice aa args.length ac)) := hQb.setCell (Nat.le_refl _) _
          have haos : (wr.setCell ⟨wo.heap.size, 3, none⟩ (.slice aa args.length ac)).ownsRow wo.heap.size 3 1 (.slice aa args.length ac) args.length ((args.map (clsI ee g.nodes.length)).map (Value.int .i64)) := own_base (own_block hQr (fun k e => Below.heap_setCell _ _ _ _ (by have := (hQr.lt k e).1; show k ≠ wo.heap.size; omega))) (by omega)
          have hon := HT.out.out.og.on
          have hout := HT.out.out.out
          dsimp only at hon hout
          rw [hL] at hon hout
          have honn := hon.n
          rw [hL] at honn
          have hzo := lt_of_block hout
          have hnv : ∀ k, Value.ownBlock (.slice ao j c) = some k → w1.heap.size + 1 ≤ k := fun k e => (hon.n.lt k e).1
          have hon4 := World.ownsRow.alloc (own_below honn hb4s) (.cells #[.int .i64 kind, .string name, .int .i64 num, .slice aa args.length ac] 48)
          have d4 : (wr.setCell ⟨wo.heap.size, 3, none⟩ (.slice aa args.length ac)).heap[w1.heap.size]? = some (.cells #[.slice ao j c, .slice none 0 0] 25) := by rw [hb4s.block _ hzo]; exact hout
          obtain ⟨⟨g0, _⟩, g1, _⟩ := blk2 d4
          obtain ⟨⟨gg0, _⟩, gg1, _⟩ := blk2 ((hQb.block _ hzo).trans hout)
          have hsz4 : (wr.setCell ⟨wo.heap.size, 3, none⟩ (.slice aa args.length ac)).heap.size = wr.heap.size := by simp
          have hz5 := hb4s.size
          rw [hsz4] at hz5
          have hnews := heap_alloc_new (wr.setCell ⟨wo.heap.size, 3, none⟩ (.slice aa args.length ac)) (.cells #[.int .i64 kind, .string name, .int .i64 num, .slice aa args.length ac] 48)
          rw [hsz4] at hnews
          have hw1s := HT.out.out.b.size
          clear hQ hQr hQb hQx hon
          go_wp2_with (at_builtin; refine wpList_append_lies _ rfl _ _ _ rfl (w1.heap.size + 1) 48 i1 (.agg #[.int .i64 0, .string ⟨#[]⟩, .int .i64 0, .slice none 0 0]) 4 56 Try.underlying22 hi1 hy0 hy1 hy2 rfl (by omega) _ j (ncells NS avs) rfl hon4 ⟨wr.heap.size, 0, none⟩ 1 1 [.int .i64 kind, .string name, .int .i64 num, .slice aa args.length ac] rfl rfl (World.news_of_block (cs := #[.int .i64 kind, .string name, .int .i64 num, .slice aa args.length ac]) (t := 48) (fr := (0, 0)) hnews) (by simp [Value.oneCell']) (by omega) (by unfold maxLen; omega) (by omega) (by simp; omega) (wr.heap.size + 1) (by simp) ?_; intro gg cap w5 hown5 hgr5 hat hlt5; have d5 : w5.heap[w1.heap.size]? = some (.cells #[.slice ao j c, .slice none 0 0] 25) := (by rw [hgr5.block _ (by simp; omega) (fun e => by have := hnv _ e.symm; omega), Below.heap_alloc _ _ _ (by simp; omega)]; exact d4); obtain ⟨⟨d0', _⟩, d1', _⟩ := blk2 d5)
          go_roundw
          case rel =>
            refine ⟨j + 1, some ⟨gg, 0, none⟩, cap, avs ++ [.slice aa args.length ac], by omega, by go_num, ?_⟩
            show J _ _ _ _ _ _ _ _
            rw [hNS.out]
            exact (hstep.out _ w5 aa ac gg cap hb4s haos _ hgr5 hown5 (by rw [hsz4]; exact hat)).1
          case measure => simp [intOf]; omega
    · have hTe : Hid (J w1 wr ⟨(lsF ee g.nodes.length).map (fun n => renum (clsI ee g.nodes.length) (g.nodes.getD n nd0)), []⟩ ao c none 0 avs) := by
        have := hT.out
        rw [List.take_of_length_le (by rw [← HLd.out]; omega)] at this
        exact this
      have hQn : Hid ((quoF ee g).nodes = (lsF ee g.nodes.length).map (fun n => renum (clsI ee g.nodes.length) (g.nodes.getD n nd0))) := rfl
      have hlm : ((lsF ee g.nodes.length).map (fun n => renum (clsI ee g.nodes.length) (g.nodes.getD n nd0))).length = L := by rw [List.length_map]; exact HLd.out.symm
      generalize (lsF ee g.nodes.length).map (fun n => renum (clsI ee g.nodes.length) (g.nodes.getD n nd0)) = NS at hTe hQn hlm
      clear hT
      have hQr : Hid ((quoF ee g).roots = g.roots.map (clsI ee g.nodes.length)) := rfl
      go_wp2
      go_loopw [10] (fun i wr => ∃ (m : Nat) (ro : Option Addr) (rcc : Nat), m ≤ g.roots.length ∧ i = .int .i64 m ∧ Hid (J w1 wr ⟨NS, (g.roots.take m).map (clsI ee g.nodes.length)⟩ ao c ro rcc avs)) (fun i _ => g.roots.length - (intOf i).toNat)
      case atStart => exact ⟨0, none, 0, Nat.zero_le _, rfl, by simpa [Hid] using hTe⟩
      case round =>
        clear hTe
        obtain ⟨m, ro, rcc, hm, rfl, hJm⟩ := hrel
        have hLm : ((g.roots.take m).map (clsI ee g.nodes.length)).length = m := by simp; omega
        have hbw2 := Below.next hbw hJm.out.b
        have e0 : wr.heap[W.heap.size]? = some (.cells #[.slice na g.nodes.length nc, .slice ra g.roots.length rc] 25) := by rw [hJm.out.b.block _ (by omega)]; exact k0
        obtain ⟨⟨c0, c1⟩, _⟩ := blk2 e0
        have zc := lt_of_block e0
        have hout := hJm.out.out
        dsimp only at hout
        rw [hLm, hlm] at hout
        have hzo := lt_of_block hout
        by_cases hml : m < g.roots.length
        · obtain ⟨ub, uo, hua, hu0⟩ := hHR.out m hml
          subst hua
          have hu := (hbw2.cell (p := ⟨ub, uo + m, none⟩) (lt_of_cell hu0)).trans hu0
          have zu := lt_of_cell hu
          have hxr := hg.root _ (getD_mem hml)
          have hsn := hid (take_snoc hml)
          clear hu0
          generalize g.roots.getD m 0 = z at hu hxr hsn
          obtain ⟨zn, rfl⟩ : ∃ zn : Nat, z = (zn : Int) := ⟨z.toNat, by omega⟩
          have hzN : zn < g.nodes.length := by omega
          obtain ⟨ca, cc, hce, hccs⟩ := hHR2.out.below hJm.out.b
          obtain ⟨vb, vo, hva, hv⟩ := hccs zn (by rw [ints_len, hcl]; exact hzN)
          have hce' : ca = some ⟨cb, 0, none⟩ := by injection hce with h1; exact h1.symm
          rw [hce'] at hva
          have hva' : cb = vb ∧ 0 = vo := by simpa using hva
          obtain ⟨rfl, rfl⟩ := hva'
          rw [Nat.zero_add] at hv
          have zv := lt_of_cell hv
          have hcI : Hid ((ints (csF ee g.nodes.length)).getD zn 0 = clsI ee g.nodes.length (zn : Int)) := by show _ = _; unfold clsI; rw [Int.toNat_natCast]
          have hNS2 : Hid ((⟨NS, (g.roots.take (m + 1)).map (clsI ee g.nodes.length)⟩ : Gf) = ⟨NS, (g.roots.take m).map (clsI ee g.nodes.length) ++ [(ints (csF ee g.nodes.length)).getD zn 0]⟩) := by
            show _ = _
            rw [hsn.out, hcI.out]
            simp
          generalize (ints (csF ee g.nodes.length)).getD zn 0 = y at hv hNS2
          obtain ⟨ror, rcr, hreq, hror⟩ := hJm.out.og.r
          have hre1 : ror = ro ∧ rcr = rcc := by
            injection hreq with h1 _ h3
            exact ⟨h1.symm, h3.symm⟩
          obtain ⟨rfl, rfl⟩ := hre1
          have hmore := hid (fun (w4 w5 : World) (gg cap : Nat) => J.more (w4 := w4) (w5 := w5) (g := gg) (cap := cap) (l := [y]) hJm.out hLm)
          dsimp only at hror hreq
          rw [hLm] at hror
          generalize ((g.roots.take m).map (clsI ee g.nodes.length)).map (Value.int .i64) = RS at hror hmore
          have hrv : ∀ k, Value.ownBlock (.slice ror m rcr) = some k → w1.heap.size + 1 ≤ k := fun k e => (hror.lt k e).1
          have ho1 := World.ownsRow.alloc hror (.cells #[.int .i64 y] 3)
          obtain ⟨⟨_, o1⟩, _, o3⟩ := blk2 hout
          have hJms := hJm.out.b.size
          clear hreq hJm hLm hce hccs hva hcI hsn
          go_wp2
          go_region_law
            (first
              | (refine step_append_lies _ (by rfl) _ _ _ (by rfl) (w1.heap.size + 1) 3 i0 (.int .i64 0) 1 8 Try.underlying23 hi hz0 hz1 hz2 rfl (by omega) _ m RS (by rfl) (ho1.drew) ⟨wr.heap.size, 0, none⟩ 1 1 [.int .i64 y] (by rfl) (by rfl) (World.news_of_block (cs := #[.int .i64 y]) (t := 3) (fr := (0, 0)) (heap_alloc_new wr _)) (by simp [Value.oneCell']) (by omega) (by unfold maxLen; omega) (by omega) (by simp; omega) (wr.heap.size + 1) (by simp) ?_; intro gg cap w5 hown5 hgr5 hat hlt5; have d5 : w5.heap[w1.heap.size]? = some (.cells #[.slice ao L c, .slice ror m rcr] 25) := (hgr5.block _ (by simp; omega) (fun e => by have := hrv _ e.symm; omega)).trans (keepJ hout (below_alloc wr (.cells #[.int .i64 y] 3)).drew); obtain ⟨⟨_, s0⟩, _, s1⟩ := blk2 d5))
          all_goals go_wp2
          all_goals
            go_roundw
            case rel =>
              refine ⟨m + 1, some ⟨gg, 0, none⟩, cap, by omega, congrArg (Value.int .i64) (by omega), ?_⟩
              show J _ _ _ _ _ _ _ _
              rw [hNS2.out]
              exact hmore.out _ w5 gg cap (below_alloc wr (.cells #[.int .i64 y] 3)).drew hgr5 hown5 (by simpa using hat)
            case measure => simp [intOf]; omega
        · have hJe : Hid (J w1 wr (quoF ee g) ao c ro rcc avs) := by
            have := hJm.out
            rw [List.take_of_length_le (by omega)] at this
            rw [show quoF ee g = ⟨NS, g.roots.map (clsI ee g.nodes.length)⟩ by rw [← hQn.out]; rfl]
            exact this
          obtain rfl : m = g.roots.length := by omega
          obtain ⟨⟨o0, o1⟩, _⟩ := blk2 hout
          have hGq : Gr wr (.slice ao L c) (.slice ro g.roots.length rcc) (quoF ee g) := by
            have h := hJe.out.og.gr
            rw [hQn.out, hQr.out, List.length_map, hlm] at h
            exact h
          have htr := rtrim_any hq hGq
          have e1 : wr.heap[W.heap.size + 1]? = some (.cells #[.slice none 0 0, .slice none 0 0] 25) := by rw [hJe.out.b.block _ (by omega)]; exact k1
          have hze := lt_of_block e1
          have hF : Hid (∀ w5 : World, Below wr.heap.size wr w5 → w5.heap[W.heap.size + 1]? = some (.cells #[.slice none 0 0, .slice none 0 0] 25)) := fun w5 hb => by rw [hb.block _ hze]; exact e1
          clear hGq e1 hJe hJm e0
          go_wp2_with (go_at_call 41; refine htr.mono ?_; rintro e w5 ⟨⟨nv5, rv5, avs5, rfl, hO5⟩, hb5⟩; obtain ⟨n5a, n5c, rfl⟩ := hO5.nsl; obtain ⟨r5a, r5c, rfl, _⟩ := hO5.r; have j1 := hF.out w5 hb5; obtain ⟨⟨r0, r1⟩, s0, s1⟩ := blk2 j1)
          refine bodyPost_ret (ret_g1 Try.results15 (by rfl) (blk2_set j1)) rfl ⟨⟨_, _, avs5, rfl, ?_⟩, ?_⟩
          · exact og_base (og_far (og_far hO5 (by omega)) (by omega)) (by omega)
          · exact ((Below.next hbw2 hb5).setCell (by simp) _).setCell (by simp) _
end Go.Proofs.Ytcgkmenlacinjaa
