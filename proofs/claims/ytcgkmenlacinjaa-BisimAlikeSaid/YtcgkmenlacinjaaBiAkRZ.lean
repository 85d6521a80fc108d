/- Alike of the reference, at any two good graphs of few nodes. -/
import Derived.Test.YtcgkmenlacinjaaBiAkWZ
import Derived.Test.YtcgkmenlacinjaaBiBZ
import Derived.Deep.LoopGhost
import Derived.Deep.AppendLies
namespace Go.Proofs.Ytcgkmenlacinjaa
open Go.RowKit Go.Maps

/-- The roots' pairs so far. -/
structure Lt (W : World) (nv rv mv sv : Value) (T : List Pn) (m : Nat) (tv : Value) (w : World) : Prop where
  bt : Bt W nv rv mv sv w
  row : w.ownsRow (W.heap.size + 2) 71 2 tv m (pcells T)
theorem Lt.push {W w w1 w' : World} {nv rv mv sv tv tv' : Value} {T : List Pn} {m : Nat} {p : Pn} (h : Lt W nv rv mv sv T m tv w) (hb : Below w.heap.size w w1) (hg : w1.grownBy w' tv.ownBlock) (hown : w'.ownsRow (W.heap.size + 2) 71 2 tv' (m + 1) (pcells T ++ [.int .i64 (p.1 : Int), .int .i64 (p.2 : Int)])) : Lt W nv rv mv sv (T ++ [p]) (m + 1) tv' w' :=
  ⟨bt_grown (h.bt.next hb) hg (fun k e => (h.row.lt k e).1), by rw [pcells_snoc]; exact hown⟩
theorem rootsP_succ (a b : Gf) (m : Nat) : rootsP a b (m + 1) = rootsP a b m ++ [rootP a b m] := by simp [rootsP, List.range_succ]
theorem rootsP_len (a b : Gf) (m : Nat) : (rootsP a b m).length = m := by simp [rootsP]
theorem Ak.start {W w : World} {nv rv mv sv tv : Value} {a b : Gf} {m : Nat} (h : Lt W nv rv mv sv (rootsP a b m) m tv w) : Ak W nv rv mv sv a w.heap.size (w.heap.size + 1) (w.heap.size + 2) [] (rootsP a b m) tv (((w.alloc (.map #[] 0)).alloc (.map #[] 0)).alloc (.map #[] 0)) := by
  have z1 := lt_of_block h.bt.b1
  have hb : Below w.heap.size w (((w.alloc (.map #[] 0)).alloc (.map #[] 0)).alloc (.map #[] 0)) := ((below_alloc w _).alloc (by simp) _).alloc (by simp; omega) _
  have m1 : Mw (w.alloc (.map #[] 0)) 71 w.heap.size 0 (fun _ => none) := ⟨_, World.ownsMap_made w _ _ _, Mf.start _⟩
  have m2 : Mw ((w.alloc (.map #[] 0)).alloc (.map #[] 0)) 3 (w.heap.size + 1) 0 (fun _ => none) := by
    have h1 := World.ownsMap_made (H := Unit) (w.alloc (.map #[] 0)) Try.prog 3 (plainElem Try.prog 3)
    rw [show (w.alloc (.map #[] 0)).heap.size = w.heap.size + 1 by simp] at h1
    exact ⟨_, h1, Mf.start _⟩
  have m3 : Mw (((w.alloc (.map #[] 0)).alloc (.map #[] 0)).alloc (.map #[] 0)) 3 (w.heap.size + 2) 0 (fun _ => none) := by
    have h1 := World.ownsMap_made (H := Unit) ((w.alloc (.map #[] 0)).alloc (.map #[] 0)) Try.prog 3 (plainElem Try.prog 3)
    rw [show ((w.alloc (.map #[] 0)).alloc (.map #[] 0)).heap.size = w.heap.size + 2 by simp] at h1
    exact ⟨_, h1, Mf.start _⟩
  refine ⟨h.bt.next hb, by rw [rootsP_len]; exact own_below h.row hb, ⟨_, _, _, ?_, ?_, m3, Mt.start a⟩, ⟨by omega, by omega, by omega⟩, ⟨by omega, by omega, by omega⟩⟩
  · refine m1.at ?_
    rw [Below.heap_alloc _ _ _ (by simp; omega), Below.heap_alloc _ _ _ (by simp)]
  · refine m2.at ?_
    rw [Below.heap_alloc _ _ _ (by simp)]
set_option maxRecDepth 100000 in
set_option maxHeartbeats 16000000 in
theorem ralike_any {W : World} {nv rv mv sv : Value} {a b : Gf} (hG : Gr W nv rv a) (hH : Gr W mv sv b) (ha : Good a) (hb : Good b) (hna : a.nodes.length ≤ 60) (hnb : b.nodes.length ≤ 60) (hra : a.roots.length ≤ 60) {B : Bool} (hB : B = true ↔ ∃ R, Pr a b R) :
    Calls Try.prog 19 #[.agg #[nv, rv], .agg #[mv, sv]] W fun e w' => e = .returned (.bool B) ∧ Below W.heap.size W w' := by
  obtain ⟨i2, hi2, hp0, hp1, hp2⟩ := info_parts infoP
  have hBt := Bt.start W nv rv mv sv
  obtain ⟨na, nc, rfl, hNa⟩ := hG.1
  obtain ⟨ra, rc, rfl, hRa⟩ := hG.2
  obtain ⟨ma, mc, rfl, hNb⟩ := hH.1
  obtain ⟨sa, sc, rfl, hRb⟩ := hH.2
  have hrb5 := hb.roots
  by_cases hlen : a.roots.length = b.roots.length
  · have HB := hid hB
    have hmm := @run_makeMap Try.prog
    have HNa := hid hNa
    have HNb := hid hNb
    have HRa := hid hRa
    have HRb := hid hRb
    have HL := hid hlen
    have hLt0 : Hid (Lt W (.slice na a.nodes.length nc) (.slice ra a.roots.length rc) (.slice ma b.nodes.length mc) (.slice sa b.roots.length sc) (rootsP a b 0) 0 (.slice none 0 0) ((W.alloc (.cells #[.slice na a.nodes.length nc, .slice ra a.roots.length rc] 25)).alloc (.cells #[.slice ma b.nodes.length mc, .slice sa b.roots.length sc] 25))) := ⟨hBt, World.ownsRow_nil _ _ _ _⟩
    rw [← hlen] at hLt0 hBt ⊢
    obtain ⟨R, hR⟩ : ∃ R, R = a.roots.length := ⟨_, rfl⟩
    obtain ⟨NA, hNA⟩ : ∃ NA, NA = a.nodes.length := ⟨_, rfl⟩
    obtain ⟨NB, hNB⟩ : ∃ NB, NB = b.nodes.length := ⟨_, rfl⟩
    rw [← hNA, ← hNB, ← hR] at hLt0 hBt ⊢
    rw [← hNA] at hna HNa
    rw [← hNB] at hnb HNb
    rw [← hR] at hra HRa
    have HR := hid hR
    have HNA := hid hNA
    have HNB := hid hNB
    obtain ⟨⟨⟨x0, x1⟩, x2, x3⟩, x4, x5⟩ := hBt.cells
    clear hlen hB hG hH hNa hNb hRa hRb hR hNA hNB hrb5
    go_enter Try.func19, Try.ntmps19
    go_wp2
    clear x0 x1 x2 x3 x4 x5 hBt
    go_loopw [5, 6] (fun t i wr => ∃ (m : Nat) (ao : Option Addr) (c : Nat), m ≤ R ∧ i = .int .i64 m ∧ t = .slice ao m c ∧ Hid (Lt W (.slice na NA nc) (.slice ra R rc) (.slice ma NB mc) (.slice sa R sc) (rootsP a b m) m (.slice ao m c) wr)) (fun _ i _ => R - (intOf i).toNat)
    case atStart => exact ⟨0, none, 0, Nat.zero_le _, rfl, rfl, hLt0⟩
    case round =>
      clear hLt0
      obtain ⟨m, ao, c, hm, rfl, rfl, hL⟩ := hrel
      obtain ⟨⟨⟨x0, x1⟩, x2, x3⟩, x4, x5⟩ := hL.out.bt.cells
      by_cases hlt : m < R
      · obtain ⟨ub, uo, hua, hu0⟩ := HRa.out m hlt
        obtain ⟨vb, vo, hva, hv0⟩ := HRb.out m (by rw [← HL.out, ← HR.out]; exact hlt)
        subst hua hva
        have hu := (hL.out.bt.b.cell (p := ⟨ub, uo + m, none⟩) (lt_of_cell hu0)).trans hu0
        have hv := (hL.out.bt.b.cell (p := ⟨vb, vo + m, none⟩) (lt_of_cell hv0)).trans hv0
        have g1 := ha.root _ (getD_mem (show m < a.roots.length by rw [← HR.out]; exact hlt))
        have g2 := hb.root _ (getD_mem (show m < b.roots.length by rw [← HL.out, ← HR.out]; exact hlt))
        have hsu := hid (rootsP_succ a b m)
        have hrp : Hid (rootP a b m = ((a.roots.getD m 0).toNat, (b.roots.getD m 0).toNat)) := rfl
        have zu := lt_of_cell hu
        have zv := lt_of_cell hv
        clear hu0 hv0
        generalize a.roots.getD m 0 = xx at hu g1 hrp
        generalize b.roots.getD m 0 = yy at hv g2 hrp
        obtain ⟨xn, rfl⟩ : ∃ xn : Nat, xx = (xn : Int) := ⟨xx.toNat, by omega⟩
        obtain ⟨yn, rfl⟩ : ∃ yn : Nat, yy = (yn : Int) := ⟨yy.toNat, by omega⟩
        have ho1 := World.ownsRow.alloc hL.out.row (.cells #[.int .i64 (xn : Int), .int .i64 (yn : Int)] 71)
        have hbd : Below wr.heap.size wr (wr.alloc (.cells #[.int .i64 (xn : Int), .int .i64 (yn : Int)] 71)).drew := (below_alloc wr _).drew
        have hLp := hid (fun w' tv' => Lt.push (p := (xn, yn)) (w' := w') (tv' := tv') hL.out hbd)
        have hws := hL.out.bt.b.size
        generalize pcells (rootsP a b m) = PC at ho1 hLp
        clear hL g1 g2
        go_wp2
        go_region_law
          (first
            | (refine step_append_lies _ (by rfl) _ _ _ (by rfl) (W.heap.size + 2) 71 i2 (.agg #[.int .i64 0, .int .i64 0]) 2 16 Try.underlying69 hi2 hp0 hp1 hp2 rfl (by omega) _ m PC (by rfl) (ho1.drew) ⟨wr.heap.size, 0, none⟩ 1 1 [.int .i64 (xn : Int), .int .i64 (yn : Int)] (by rfl) (by rfl) (World.news_of_block (cs := #[.int .i64 (xn : Int), .int .i64 (yn : Int)]) (t := 71) (fr := (0, 0)) (heap_alloc_new wr _)) (by simp [Value.oneCell']) (by omega) (by unfold maxLen; omega) (by omega) (by simp; omega) (wr.heap.size + 1) (by simp) ?_; intro gg cap w5 hown5 hgr5 hat hlt5))
        all_goals go_wp2
        all_goals
          go_roundw
          case rel =>
            refine ⟨m + 1, some ⟨gg, 0, none⟩, cap, by omega, by go_num, rfl, ?_⟩
            show Lt _ _ _ _ _ _ _ _ _
            rw [hsu.out, hrp.out]
            exact hLp.out w5 _ hgr5 hown5
          case measure => simp [intOf]; omega
      · obtain rfl : m = R := by omega
        have hAw0 : Hid (Aw a b [] (rootsP a b m) (0, 0) 9) := by
          have := Aw.start ha hb HL.out
          rw [← HR.out] at this
          exact this
        have hAk0 := hid (Ak.start hL.out)
        have hrl := rootsP_len a b m
        generalize rootsP a b m = T0 at hAw0 hAk0 hrl
        clear hL
        obtain ⟨wm, hwm⟩ : ∃ wm, wm = wr := ⟨wr, rfl⟩
        subst hwm
        go_wp2
        --LOOP2
        have hn0 : T0.length ≤ 60 := by omega
        have hX : Hid ((NA * NB - ([] : List Pn).length) * 9 + T0.length ≤ NA * NB * 9 + T0.length) := by
          show _ ≤ _
          simp
        obtain ⟨tn, htn⟩ : ∃ tn, tn = T0.length := ⟨_, rfl⟩
        go_loopg [5] (NA * NB * 9 + T0.length) (fun gk t wr => ∃ (S T : List Pn) (n : Nat) (ao : Option Addr) (c : Nat), t = .slice ao n c ∧ Hid (T.length = n) ∧ n ≤ 60 + 8 * S.length ∧ Hid ((NA * NB - S.length) * 9 + n ≤ gk) ∧ Hid (Aw a b S T (0, 0) 9) ∧ Hid (Ak W (.slice na NA nc) (.slice ra m rc) (.slice ma NB mc) (.slice sa m sc) a wm.heap.size (wm.heap.size + 1) (wm.heap.size + 2) S T (.slice ao n c) wr))
        case atStart => exact ⟨[], T0, m, ao, c, rfl, hrl, by simp; omega, by rw [hrl] at hX ⊢; exact hX, hAw0, hAk0⟩
        case round =>
          clear hAw0 hAk0 hX htn tn hn0 hrl
          obtain ⟨S, T, n, ao, c, rfl, hTn, hnS, hgk, hAw, hAk⟩ := hrel
          have hSz := Aw.size hAw.out
          rw [← HNA.out, ← HNB.out] at hSz
          have hS36 : S.length ≤ 3600 := Nat.le_trans hSz (Nat.le_trans (Nat.mul_le_mul hna hnb) (by omega))
          rcases List.eq_nil_or_concat T with rfl | ⟨T', p, hTp⟩
          · have hn0 : n = 0 := by have := hTn.out; simpa using this.symm
            subst hn0
            have hBt : B = true := HB.out.2 ⟨_, Aw.last ha hb hAw.out HL.out⟩
            have hbe := hAk.out.bt.b
            clear hAk hAw hTn
            go_wp2
            go_ret
            exact ⟨congrArg (fun x => Ending.returned (.bool x)) hBt.symm, hbe⟩
          · rw [List.concat_eq_append] at hTp
            subst hTp
            obtain ⟨L, hTl0⟩ : ∃ L, L = T'.length := ⟨_, rfl⟩
            have hnL : n = L + 1 := by have := hTn.out; simp at this; omega
            subst hnL
            have hTl : Hid (T'.length = L) := hTl0.symm
            clear hTl0 hTn
            obtain ⟨px, py⟩ := p
            have hrng := hAw.out.rng (px, py) (Or.inr (mem_snoc.2 (Or.inr rfl)))
            dsimp only at hrng
            rw [← HNA.out, ← HNB.out] at hrng
            have hrow := hAk.out.row
            rw [List.length_append, List.length_singleton, hTl.out] at hrow
            obtain ⟨_, q, hq, t0, t1, tz, tc⟩ := own_pop hTl.out hrow
            subst hq
            dsimp only at t0 t1
            have hA1 := hid ((hAk.out.pop hTl.out).next (below_alloc wr (.cells #[.int .i64 (px : Int), .int .i64 (py : Int)] 71)))
            obtain ⟨kl, hkl0⟩ := pair_key (p := (px, py)) (by show px ≤ 5000; omega) (by show py ≤ 5000; omega)
            have hkl : keyOf Try.prog 71 (.agg #[.int .i64 (px : Int), .int .i64 (py : Int)]) = some kl := hkl0
            obtain ⟨f1, f2, f3, ⟨D1, hm1, hf1⟩, hmw2, hmw3, hMt⟩ := hA1.out.maps
            have hmw1 : Mw (wr.alloc (.cells #[.int .i64 (px : Int), .int .i64 (py : Int)] 71)) 71 wm.heap.size S.length f1 := ⟨D1, hm1, hf1⟩
            have hi1 : (L : Int) < ((L + 1 : Nat) : Int) := by omega
            by_cases hin : (px, py) ∈ S
            · have hc1 : Hid (∀ cc : Int, D1.atKey kl (.lit (.int .i64 0)) = .lit (.int .i64 cc) → cc = 1) := fun cc h => by
                rw [(hf1.2 _ kl hkl0).2, hMt.s1 _ hin] at h
                simpa using h.symm
              have hsk := hid (Aw.skip hAw.out hin)
              clear hAk hrow hAw hkl0 hmw1 hmw2 hmw3 hMt hf1 hin
              go_wp2_with (first
                | (at_lookup; refine wpList_lookup_own_int _ rfl _ _ 72 rfl 71 3 .i64 pairLaw Try.underlying72 Try.underlying3 (zeroInt _) wm.heap.size S.length D1 rfl hm1 _ kl rfl hkl ?_; intro cc hat hwc; obtain rfl := hc1.out cc hat))
              go_roundg ((NA * NB - S.length) * 9 + L)
              case measure => have := hgk.out; omega
              case rel => exact ⟨S, T', L, some ⟨q, 0, none⟩, c, rfl, hTl, by omega, Nat.le_refl _, hsk, hA1⟩
            · have hc1 : Hid (∀ cc : Int, D1.atKey kl (.lit (.int .i64 0)) = .lit (.int .i64 cc) → cc = 0) := fun cc h => by
                rw [(hf1.2 _ kl hkl0).2, hMt.s0 _ hin] at h
                simpa using h.symm
              obtain ⟨nb, no, av, hna1, hndA⟩ := HNa.out px hrng.1
              obtain ⟨mb, mo, bv, hnb1, hndB⟩ := HNb.out py hrng.2
              subst hna1 hnb1
              have hgA := good_args (ha.node (a.nodes.getD px nd0) (by simp [List.getD, show px < a.nodes.length by rw [← HNA.out]; exact hrng.1]))
              have hgB := good_args (hb.node (b.nodes.getD py nd0) (by simp [List.getD, show py < b.nodes.length by rw [← HNB.out]; exact hrng.2]))
              have hlabI : Hid (labP a b (px, py) ↔ ((a.nodes.getD px nd0).kind = (b.nodes.getD py nd0).kind ∧ (a.nodes.getD px nd0).name = (b.nodes.getD py nd0).name ∧ (a.nodes.getD px nd0).num = (b.nodes.getD py nd0).num ∧ (a.nodes.getD px nd0).args.length = (b.nodes.getD py nd0).args.length)) := Iff.rfl
              have harP : Hid (arP a (px, py) = (a.nodes.getD px nd0).args.length) := rfl
              have hargP : Hid (∀ k, argP a b (px, py) k = (((a.nodes.getD px nd0).args.getD k 0).toNat, ((b.nodes.getD py nd0).args.getD k 0).toNat)) := fun _ => rfl
              have hkA : Hid (kdA a (px, py) = (a.nodes.getD px nd0).kind) := rfl
              have hkB : Hid (kdB b (px, py) = (b.nodes.getD py nd0).kind) := rfl
              have hHbox : Hid (∀ w2 : World, (wr.alloc (.cells #[.int .i64 (px : Int), .int .i64 (py : Int)] 71)).grownBy w2 (some wm.heap.size) → Bt W (.slice (some ⟨nb, no, none⟩) NA nc) (.slice ra m rc) (.slice (some ⟨mb, mo, none⟩) NB mc) (.slice sa m sc) w2) := fun w2 hg => bt_grown hA1.out.bt hg (fun k e => by have e2 : wm.heap.size = k := (by injection e); have := hA1.out.lo.1; omega)
              have hpx := heap_alloc_new wr (.cells #[.int .i64 (px : Int), .int .i64 (py : Int)] 71)
              have hHpx : Hid (∀ w2 : World, (wr.alloc (.cells #[.int .i64 (px : Int), .int .i64 (py : Int)] 71)).grownBy w2 (some wm.heap.size) → w2.heap[wr.heap.size]? = some (.cells #[.int .i64 (px : Int), .int .i64 (py : Int)] 71)) := fun w2 hg => blk_upd hmw1 hg hpx
              have hHA0 := hid hndA
              have hHB0 := hid hndB
              generalize a.nodes.getD px nd0 = A0 at hndA hHA0 hgA hlabI harP hargP hkA
              generalize b.nodes.getD py nd0 = B0 at hndB hHB0 hgB hlabI hargP hkB
              obtain ⟨kA, sA, uA, lA⟩ := A0
              obtain ⟨kB, sB, uB, lB⟩ := B0
              dsimp only at hndA hHA0 hgA hlabI harP hargP hkA hndB hHB0 hgB hkB
              obtain ⟨_, _, _, _, aa, ac, rfl, hacs⟩ := hndA
              obtain ⟨_, _, _, _, ba, bc, rfl, hbcs⟩ := hndB
              have hHA := hid hacs
              have hHB := hid hbcs
              have hrA := hid hgA.1
              have hrB := hid hgB.1
              have hlA8 := hgA.2
              have hlB8 := hgB.2
              dsimp only at hHA hHB hrA hrB hlA8 hlB8
              have hC2 : Hid (∀ w2 : World, (wr.alloc (.cells #[.int .i64 (px : Int), .int .i64 (py : Int)] 71)).grownBy w2 (some wm.heap.size) → ((((w2.cell? ⟨W.heap.size, 0, none⟩ = some (.slice (some ⟨nb, no, none⟩) NA nc) ∧ w2.cell? ⟨W.heap.size, 1, none⟩ = some (.slice ra m rc)) ∧ w2.cell? ⟨W.heap.size + 1, 0, none⟩ = some (.slice (some ⟨mb, mo, none⟩) NB mc) ∧ w2.cell? ⟨W.heap.size + 1, 1, none⟩ = some (.slice sa m sc)) ∧ W.heap.size < w2.heap.size ∧ W.heap.size + 1 < w2.heap.size) ∧ (w2.cell? ⟨wr.heap.size, 0, none⟩ = some (.int .i64 (px : Int)) ∧ w2.cell? ⟨wr.heap.size, 1, none⟩ = some (.int .i64 (py : Int))) ∧ w2.cell? ⟨nb, no + px * 4, none⟩ = some (.int .i64 kA) ∧ w2.cell? ⟨nb, no + px * 4 + 1, none⟩ = some (.string sA) ∧ w2.cell? ⟨nb, no + px * 4 + 2, none⟩ = some (.int .i64 uA) ∧ w2.cell? ⟨nb, no + px * 4 + 3, none⟩ = some (.slice aa lA.length ac) ∧ w2.cell? ⟨mb, mo + py * 4, none⟩ = some (.int .i64 kB) ∧ w2.cell? ⟨mb, mo + py * 4 + 1, none⟩ = some (.string sB) ∧ w2.cell? ⟨mb, mo + py * 4 + 2, none⟩ = some (.int .i64 uB) ∧ w2.cell? ⟨mb, mo + py * 4 + 3, none⟩ = some (.slice ba lB.length bc) ∧ wr.heap.size < w2.heap.size ∧ nb < w2.heap.size ∧ mb < w2.heap.size)) := fun w2 hg => by
                have hbt := hHbox.out w2 hg
                obtain ⟨c1, c2, c3, c4, _⟩ := hHA0.out.below hbt.b
                obtain ⟨d1, d2, d3, d4, _⟩ := hHB0.out.below hbt.b
                exact ⟨hbt.cells, (blk2 (hHpx.out w2 hg)).1, c1, c2, c3, c4, d1, d2, d3, d4, lt_of_block (hHpx.out w2 hg), lt_of_cell c1, lt_of_cell d1⟩
              have hSeen := hid (fun w2 hmp hg => Ak.seen (p := (px, py)) (w' := w2) hA1.out hmw1 hmw2 hmw3 hf1 hkl0 hmp hg hpx #[.int .i64 kA, .string sA, .int .i64 uA, .slice aa lA.length ac] #[.int .i64 kB, .string sB, .int .i64 uB, .slice ba lB.length bc])
              have hAwv := hid hAw.out
              have hMtv := hid hMt
              clear hAk hrow hAw hkl0 hmw1 hmw2 hmw3 hMt hf1 hacs hbcs hHA0 hHB0 hpx hHpx hHbox hgA hgB hA1
              by_cases hlab : kA = kB ∧ sA = sB ∧ uA = uB ∧ lA.length = lB.length
              · obtain ⟨rfl, rfl, rfl, hll⟩ := hlab
                have hlabT : Hid (labP a b (px, py)) := hlabI.out.2 ⟨rfl, rfl, rfl, hll⟩
                have HLL := hid hll
                rw [← hll] at hC2 hSeen
                --LABGOOD
                clear hll
                by_cases hk1 : kA = 1
                · subst hk1
                  have hk2 := int_key (x := px) (by omega)
                  have hk3 := int_key (x := py) (by omega)
                  unfold iv at hk2 hk3
                  have hkx : (a.nodes.getD px nd0).kind = 1 := hkA.out
                  by_cases h2 : ∃ y, (px, y) ∈ S
                  · obtain ⟨y, hy⟩ := h2
                    have hyne : y ≠ py := fun e => hin (by rw [← e]; exact hy)
                    have hBf : B = false := by
                      cases hBB : B
                      · rfl
                      · exact absurd (HB.out.1 hBB) (Aw.bad_v1 hAwv.out hkx hy hyne)
                    have e2 := hMtv.out.t1 px y hy hkx
                    have g2 : ((y : Int) != (py : Int)) = true := by simp; omega
                    have hcc : Hid (∀ D : DataW Unit, Mf 3 D f2 → Maps.has D (.int .i64 (px : Int)) = true ∧ ∀ c2 : Int, D.atKey (.int .i64 (px : Int)) (.lit (.int .i64 0)) = .lit (.int .i64 c2) → c2 = (y : Int)) := fun D hD => by
                      have h1 := hD.2 _ _ hk2
                      have e2' : f2 (.int .i64 (px : Int)) = some (y : Int) := e2
                      rw [e2'] at h1
                      exact ⟨h1.1, fun c2 h => by rw [h1.2] at h; simpa using h.symm⟩
                    clear hHA hHB hargP harP hkA hkB e2 hy hyne
                    go_wp2_with (first
                      | (at_lookup; refine wpList_lookup_own_int _ rfl _ _ 72 rfl 71 3 .i64 pairLaw Try.underlying72 Try.underlying3 (zeroInt _) wm.heap.size S.length D1 rfl hm1 _ kl rfl hkl ?_; intro cc hat hwc; obtain rfl := hc1.out cc hat)
                      | (at_mapUpdate; refine wpList_mapUpdate_own _ rfl _ _ _ 72 rfl 71 3 pairLaw Try.underlying72 _ wm.heap.size S.length D1 rfl hm1 (by unfold maxLen; omega) _ _ kl rfl rfl hkl _ [] (plainElem_int Try.underlying3 (WalkArith.wf_i64 (by omega))) ?_; intro w2 hmp2 hgr2; have hV := hSeen.out w2 hmp2 hgr2; obtain ⟨⟨⟨⟨y0, y1⟩, y2, y3⟩, y4, y5⟩, ⟨z0, z1⟩, n0, n1, n2, n3, p0, p1, p2, p3, pz⟩ := hC2.out w2 hgr2; obtain ⟨D2, hm2, hf2⟩ := hV.m2; obtain ⟨D3, hm3, hf3⟩ := hV.m3)
                      | (at_lookup; refine wpList_lookup_own_ok_int _ rfl _ _ 73 rfl 3 3 .i64 intLaw Try.underlying73 Try.underlying3 (zeroInt _) (wm.heap.size + 1) S.length D2 rfl hm2 _ _ rfl hk2 ?_; intro c2 hat2 hwc2; obtain rfl := (hcc.out D2 hf2).2 c2 hat2; rw [(hcc.out D2 hf2).1])
                      | (at_lookup; refine wpList_lookup_own_ok_int _ rfl _ _ 73 rfl 3 3 .i64 intLaw Try.underlying73 Try.underlying3 (zeroInt _) (wm.heap.size + 2) S.length D3 rfl hm3 _ _ rfl hk3 ?_; intro c3 hat3 hwc3; generalize Maps.has D3 (.int .i64 (py : Int)) = hv3))
                    go_ret
                    first
                      | exact ⟨congrArg (fun x => Ending.returned (.bool x)) hBf.symm, hV.bt.b⟩
                      | exact ⟨rfl, hV.bt.b⟩
                  · have e2 : f2 (iv px) = none := hMtv.out.t0 px (fun y hy _ => h2 ⟨y, hy⟩)
                    have hcc : Hid (∀ D : DataW Unit, Mf 3 D f2 → Maps.has D (.int .i64 (px : Int)) = false ∧ ∀ c2 : Int, D.atKey (.int .i64 (px : Int)) (.lit (.int .i64 0)) = .lit (.int .i64 c2) → c2 = 0) := fun D hD => by
                      have h1 := hD.2 _ _ hk2
                      have e2' : f2 (.int .i64 (px : Int)) = none := e2
                      rw [e2'] at h1
                      exact ⟨h1.1, fun c2 h => by rw [h1.2] at h; simpa using h.symm⟩
                    by_cases h3 : ∃ x, (x, py) ∈ S ∧ (a.nodes.getD x nd0).kind = 1
                    · obtain ⟨x, hx, hxk⟩ := h3
                      have hxne : x ≠ px := fun e => hin (by rw [← e]; exact hx)
                      have hBf : B = false := by
                        cases hBB : B
                        · rfl
                        · exact absurd (HB.out.1 hBB) (Aw.bad_v2 hAwv.out hkB.out hx hxne)
                      have e3 := hMtv.out.b1 x py hx hxk
                      have g3 : ((x : Int) != (px : Int)) = true := by simp; omega
                      have hcd : Hid (∀ D : DataW Unit, Mf 3 D f3 → Maps.has D (.int .i64 (py : Int)) = true ∧ ∀ c2 : Int, D.atKey (.int .i64 (py : Int)) (.lit (.int .i64 0)) = .lit (.int .i64 c2) → c2 = (x : Int)) := fun D hD => by
                        have h1 := hD.2 _ _ hk3
                        have e3' : f3 (.int .i64 (py : Int)) = some (x : Int) := e3
                        rw [e3'] at h1
                        exact ⟨h1.1, fun c2 h => by rw [h1.2] at h; simpa using h.symm⟩
                      clear hHA hHB hargP harP hkA hkB e2 e3 hx hxne hxk h2
                      go_wp2_with (first
                        | (at_lookup; refine wpList_lookup_own_int _ rfl _ _ 72 rfl 71 3 .i64 pairLaw Try.underlying72 Try.underlying3 (zeroInt _) wm.heap.size S.length D1 rfl hm1 _ kl rfl hkl ?_; intro cc hat hwc; obtain rfl := hc1.out cc hat)
                        | (at_mapUpdate; refine wpList_mapUpdate_own _ rfl _ _ _ 72 rfl 71 3 pairLaw Try.underlying72 _ wm.heap.size S.length D1 rfl hm1 (by unfold maxLen; omega) _ _ kl rfl rfl hkl _ [] (plainElem_int Try.underlying3 (WalkArith.wf_i64 (by omega))) ?_; intro w2 hmp2 hgr2; have hV := hSeen.out w2 hmp2 hgr2; obtain ⟨⟨⟨⟨y0, y1⟩, y2, y3⟩, y4, y5⟩, ⟨z0, z1⟩, n0, n1, n2, n3, p0, p1, p2, p3, pz⟩ := hC2.out w2 hgr2; obtain ⟨D2, hm2, hf2⟩ := hV.m2; obtain ⟨D3, hm3, hf3⟩ := hV.m3)
                        | (at_lookup; refine wpList_lookup_own_ok_int _ rfl _ _ 73 rfl 3 3 .i64 intLaw Try.underlying73 Try.underlying3 (zeroInt _) (wm.heap.size + 1) S.length D2 rfl hm2 _ _ rfl hk2 ?_; intro c2 hat2 hwc2; obtain rfl := (hcc.out D2 hf2).2 c2 hat2; rw [(hcc.out D2 hf2).1])
                        | (at_lookup; refine wpList_lookup_own_ok_int _ rfl _ _ 73 rfl 3 3 .i64 intLaw Try.underlying73 Try.underlying3 (zeroInt _) (wm.heap.size + 2) S.length D3 rfl hm3 _ _ rfl hk3 ?_; intro c3 hat3 hwc3; obtain rfl := (hcd.out D3 hf3).2 c3 hat3; rw [(hcd.out D3 hf3).1]))
                      go_ret
                      first
                        | exact ⟨congrArg (fun x => Ending.returned (.bool x)) hBf.symm, hV.bt.b⟩
                        | exact ⟨rfl, hV.bt.b⟩
                    · have e3 : f3 (iv py) = none := hMtv.out.b0 py (fun x hx hk => h3 ⟨x, hx, hk⟩)
                      have hcd : Hid (∀ D : DataW Unit, Mf 3 D f3 → Maps.has D (.int .i64 (py : Int)) = false ∧ ∀ c2 : Int, D.atKey (.int .i64 (py : Int)) (.lit (.int .i64 0)) = .lit (.int .i64 c2) → c2 = 0) := fun D hD => by
                        have h1 := hD.2 _ _ hk3
                        have e3' : f3 (.int .i64 (py : Int)) = none := e3
                        rw [e3'] at h1
                        exact ⟨h1.1, fun c2 h => by rw [h1.2] at h; simpa using h.symm⟩
                      have hAw6 := hid (Aw.take ha hAwv.out hin hlabT.out (fun _ => ⟨fun y hy => absurd ⟨y, hy⟩ h2, fun x hx => absurd ⟨x, hx, by
                        have h7 := (hAwv.out.lab _ hx).1
                        have h8 := hlabT.out.1
                        rw [h7, ← h8]
                        exact hkx⟩ h3⟩))
                      have HE2 := hid e2
                      have HE3 := hid e3
                      have HKX := hid hkx
                      clear hAwv hin h2 h3 e2 e3 hkx hlabT hlabI
                      go_wp2_with (first
                        | (at_lookup; refine wpList_lookup_own_int _ rfl _ _ 72 rfl 71 3 .i64 pairLaw Try.underlying72 Try.underlying3 (zeroInt _) wm.heap.size S.length D1 rfl hm1 _ kl rfl hkl ?_; intro cc hat hwc; obtain rfl := hc1.out cc hat)
                        | (at_mapUpdate; refine wpList_mapUpdate_own _ rfl _ _ _ 72 rfl 71 3 pairLaw Try.underlying72 _ wm.heap.size S.length D1 rfl hm1 (by unfold maxLen; omega) _ _ kl rfl rfl hkl _ [] (plainElem_int Try.underlying3 (WalkArith.wf_i64 (by omega))) ?_; intro w2 hmp2 hgr2; have hV := hSeen.out w2 hmp2 hgr2; obtain ⟨⟨⟨⟨y0, y1⟩, y2, y3⟩, y4, y5⟩, ⟨z0, z1⟩, n0, n1, n2, n3, p0, p1, p2, p3, pz⟩ := hC2.out w2 hgr2; obtain ⟨D2, hm2, hf2⟩ := hV.m2; obtain ⟨D3, hm3, hf3⟩ := hV.m3)
                        | (at_lookup; refine wpList_lookup_own_ok_int _ rfl _ _ 73 rfl 3 3 .i64 intLaw Try.underlying73 Try.underlying3 (zeroInt _) (wm.heap.size + 1) S.length D2 rfl hm2 _ _ rfl hk2 ?_; intro c2 hat2 hwc2; obtain rfl := (hcc.out D2 hf2).2 c2 hat2; rw [(hcc.out D2 hf2).1])
                        | (at_lookup; refine wpList_lookup_own_ok_int _ rfl _ _ 73 rfl 3 3 .i64 intLaw Try.underlying73 Try.underlying3 (zeroInt _) (wm.heap.size + 2) S.length D3 rfl hm3 _ _ rfl hk3 ?_; intro c3 hat3 hwc3; obtain rfl := (hcd.out D3 hf3).2 c3 hat3; rw [(hcd.out D3 hf3).1])
                        | (at_mapUpdate; refine wpList_mapUpdate_own _ rfl _ _ _ 73 rfl 3 3 intLaw Try.underlying73 _ (wm.heap.size + 1) S.length D2 rfl hm2 (by unfold maxLen; omega) _ _ _ rfl rfl hk2 _ [] (plainElem_int Try.underlying3 (WalkArith.wf_i64 (by omega))) ?_; intro w4 hmp4 hgr4; have hU := hV.upd2 hgr4; obtain ⟨D4, hm4, hf4⟩ := hU.2.2.2.1; obtain ⟨⟨z0, z1⟩, _⟩ := blk2 hU.2.2.2.2.1)
                        | (at_mapUpdate; refine wpList_mapUpdate_own _ rfl _ _ _ 73 rfl 3 3 intLaw Try.underlying73 _ (wm.heap.size + 2) S.length D4 rfl hm4 (by unfold maxLen; omega) _ _ _ rfl rfl hk3 _ [] (plainElem_int Try.underlying3 (WalkArith.wf_i64 (by omega))) ?_; intro w5 hmp5 hgr5; have hAx6 := hid (hV.var hMtv.out HKX.out HE2.out HE3.out hgr4 ⟨_, hmp4, hf2.put intLaw hk2 (py : Int)⟩ hgr5 ⟨_, hmp5, hf4.put intLaw hk3 (px : Int)⟩)))
                      go_loopw [5, 17] (fun t i wr => ∃ (j n : Nat) (ao : Option Addr) (c : Nat) (T2 : List Pn), j ≤ lA.length ∧ Hid (n = L + j) ∧ i = .int .i64 j ∧ t = .slice ao n c ∧ Hid (T2.length = n) ∧ Hid (Aw a b (S ++ [(px, py)]) T2 (px, py) j) ∧ Hid (Ax W (.slice (some ⟨nb, no, none⟩) NA nc) (.slice ra m rc) (.slice (some ⟨mb, mo, none⟩) NB mc) (.slice sa m sc) a wm.heap.size (wm.heap.size + 1) (wm.heap.size + 2) (S ++ [(px, py)]) T2 (.slice ao n c) w2.heap.size (w2.heap.size + 1) #[.int .i64 1, .string sA, .int .i64 uA, .slice aa lA.length ac] #[.int .i64 1, .string sA, .int .i64 uA, .slice ba lA.length bc] wr)) (fun _ i _ => lA.length - (intOf i).toNat)
                      case atStart => exact ⟨0, L, some ⟨q, 0, none⟩, c, T', Nat.zero_le _, rfl, rfl, rfl, hTl, hAw6, hAx6⟩
                      case round =>
                        clear hAw6 hAx6
                        obtain ⟨j, n, ao, c, T2, hj, hnj, rfl, rfl, hTn, hAw7, hAx7⟩ := hrel
                        obtain ⟨⟨v0, v1, v2, v3⟩, _⟩ := blk4 hAx7.out.x1
                        obtain ⟨⟨u0, u1, u2, u3⟩, _⟩ := blk4 hAx7.out.x2
                        have zv := lt_of_block hAx7.out.x1
                        have zu := lt_of_block hAx7.out.x2
                        by_cases hjl : j < lA.length
                        · obtain ⟨eb, eo, hea, he0⟩ := hHA.out j hjl
                          obtain ⟨gb, go, hga, hg0⟩ := hHB.out j (by have := HLL.out; omega)
                          subst hea hga
                          have he1 := (hAx7.out.ak.bt.b.cell (p := ⟨eb, eo + j, none⟩) (lt_of_cell he0)).trans he0
                          have hg1 := (hAx7.out.ak.bt.b.cell (p := ⟨gb, go + j, none⟩) (lt_of_cell hg0)).trans hg0
                          have r1 := hrA.out _ (getD_mem hjl)
                          have r2 := hrB.out _ (getD_mem (show j < lB.length by have := HLL.out; omega))
                          have hpu := hid (Aw.push ha hb hAw7.out (mem_snoc.2 (Or.inr rfl)) (by rw [harP.out]; exact hjl))
                          have hag := hid (hargP.out j)
                          have ze := lt_of_cell he1
                          have zg := lt_of_cell hg1
                          clear he0 hg0
                          generalize lA.getD j 0 = ex at he1 r1 hag
                          generalize lB.getD j 0 = gy at hg1 r2 hag
                          obtain ⟨en, rfl⟩ : ∃ en : Nat, ex = (en : Int) := ⟨ex.toNat, by omega⟩
                          obtain ⟨gn, rfl⟩ : ∃ gn : Nat, gy = (gn : Int) := ⟨gy.toNat, by omega⟩
                          have hrow := hAx7.out.ak.row
                          rw [hTn.out] at hrow
                          have ho1 := World.ownsRow.alloc hrow (.cells #[.int .i64 (en : Int), .int .i64 (gn : Int)] 71)
                          have hbd : Below wr.heap.size wr (wr.alloc (.cells #[.int .i64 (en : Int), .int .i64 (gn : Int)] 71)).drew := (below_alloc wr _).drew
                          have hxp := hid (fun w' tv' => Ax.push (p := (en, gn)) (w' := w') (tv' := tv') (hAx7.out.next hbd) hTn.out)
                          have hws := hAx7.out.ak.bt.b.size
                          generalize pcells T2 = PC at ho1 hxp
                          have hnb9 : n ≤ 30000 := by have := hnj.out; omega
                          clear hrow r1 r2 hAx7
                          go_wp2
                          go_region_law
                            (first
                              | (refine step_append_lies _ (by rfl) _ _ _ (by rfl) (W.heap.size + 2) 71 i2 (.agg #[.int .i64 0, .int .i64 0]) 2 16 Try.underlying69 hi2 hp0 hp1 hp2 rfl (by omega) _ n PC (by rfl) (ho1.drew) ⟨wr.heap.size, 0, none⟩ 1 1 [.int .i64 (en : Int), .int .i64 (gn : Int)] (by rfl) (by rfl) (World.news_of_block (cs := #[.int .i64 (en : Int), .int .i64 (gn : Int)]) (t := 71) (fr := (0, 0)) (heap_alloc_new wr _)) (by simp [Value.oneCell']) (by omega) (by unfold maxLen; omega) (by omega) (by simp; omega) (wr.heap.size + 1) (by simp) ?_; intro gg cap w8 hown8 hgr8 hat8 hlt8))
                          all_goals go_wp2
                          all_goals
                            go_roundw
                            case rel =>
                              refine ⟨j + 1, n + 1, some ⟨gg, 0, none⟩, cap, T2 ++ [(en, gn)], by omega, (show n + 1 = L + (j + 1) by have := hnj.out; omega), by go_num, rfl, ?_, ?_, hxp.out w8 _ hgr8 hown8⟩
                              · show (T2 ++ [(en, gn)]).length = n + 1
                                rw [List.length_append, hTn.out]
                                rfl
                              · have h9 := hpu.out
                                rw [hag.out] at h9
                                exact h9
                            case measure => simp [intOf]; omega
                        · obtain rfl : j = lA.length := by omega
                          have hdn := hid (Aw.done hAw7.out (by rw [harP.out]; exact Nat.le_refl _) (0, 0))
                          have hak := hid hAx7.out.ak
                          have hsz := Aw.size hAw7.out
                          have hsl : (S ++ [((px, py) : Pn)]).length = S.length + 1 := by simp
                          rw [hsl, ← HNA.out, ← HNB.out] at hsz
                          clear hAw7 hAx7
                          go_wp2
                          go_roundg ((NA * NB - (S.length + 1)) * 9 + n)
                          case measure =>
                            have h1 := hgk.out
                            have h2 := hnj.out
                            generalize NA * NB = X at *
                            omega
                          case rel =>
                            refine ⟨S ++ [(px, py)], T2, n, ao, c, rfl, hTn, by rw [hsl]; have := hnj.out; omega, ?_, hdn, hak⟩
                            show _ ≤ _
                            rw [hsl]
                            exact Nat.le_refl _
                · have hkf : (kA == 1) = false := beq_eq_false_iff_ne.2 hk1
                  have hkx : (a.nodes.getD ((px, py) : Pn).1 nd0).kind ≠ 1 := fun e => hk1 (hkA.out.symm.trans e)
                  have hAw6 := hid (Aw.take ha hAwv.out hin hlabT.out (fun e => absurd e hkx))
                  have HKX := hid hkx
                  clear hAwv hin hk1 hkx hlabT hlabI
                  go_wp2_with (first
                    | (at_lookup; refine wpList_lookup_own_int _ rfl _ _ 72 rfl 71 3 .i64 pairLaw Try.underlying72 Try.underlying3 (zeroInt _) wm.heap.size S.length D1 rfl hm1 _ kl rfl hkl ?_; intro cc hat hwc; obtain rfl := hc1.out cc hat)
                    | (at_mapUpdate; refine wpList_mapUpdate_own _ rfl _ _ _ 72 rfl 71 3 pairLaw Try.underlying72 _ wm.heap.size S.length D1 rfl hm1 (by unfold maxLen; omega) _ _ kl rfl rfl hkl _ [] (plainElem_int Try.underlying3 (WalkArith.wf_i64 (by omega))) ?_; intro w2 hmp2 hgr2; have hV := hSeen.out w2 hmp2 hgr2; obtain ⟨⟨⟨⟨y0, y1⟩, y2, y3⟩, y4, y5⟩, ⟨z0, z1⟩, n0, n1, n2, n3, p0, p1, p2, p3, pz⟩ := hC2.out w2 hgr2))
                  have hAx6 := hid (hV.plain hMtv.out HKX.out)
                  clear hV
                  go_loopw [5, 17] (fun t i wr => ∃ (j n : Nat) (ao : Option Addr) (c : Nat) (T2 : List Pn), j ≤ lA.length ∧ Hid (n = L + j) ∧ i = .int .i64 j ∧ t = .slice ao n c ∧ Hid (T2.length = n) ∧ Hid (Aw a b (S ++ [(px, py)]) T2 (px, py) j) ∧ Hid (Ax W (.slice (some ⟨nb, no, none⟩) NA nc) (.slice ra m rc) (.slice (some ⟨mb, mo, none⟩) NB mc) (.slice sa m sc) a wm.heap.size (wm.heap.size + 1) (wm.heap.size + 2) (S ++ [(px, py)]) T2 (.slice ao n c) w2.heap.size (w2.heap.size + 1) #[.int .i64 kA, .string sA, .int .i64 uA, .slice aa lA.length ac] #[.int .i64 kA, .string sA, .int .i64 uA, .slice ba lA.length bc] wr)) (fun _ i _ => lA.length - (intOf i).toNat)
                  case atStart => exact ⟨0, L, some ⟨q, 0, none⟩, c, T', Nat.zero_le _, rfl, rfl, rfl, hTl, hAw6, hAx6⟩
                  case round =>
                    clear hAw6 hAx6
                    obtain ⟨j, n, ao, c, T2, hj, hnj, rfl, rfl, hTn, hAw7, hAx7⟩ := hrel
                    obtain ⟨⟨v0, v1, v2, v3⟩, _⟩ := blk4 hAx7.out.x1
                    obtain ⟨⟨u0, u1, u2, u3⟩, _⟩ := blk4 hAx7.out.x2
                    have zv := lt_of_block hAx7.out.x1
                    have zu := lt_of_block hAx7.out.x2
                    by_cases hjl : j < lA.length
                    · obtain ⟨eb, eo, hea, he0⟩ := hHA.out j hjl
                      obtain ⟨gb, go, hga, hg0⟩ := hHB.out j (by have := HLL.out; omega)
                      subst hea hga
                      have he1 := (hAx7.out.ak.bt.b.cell (p := ⟨eb, eo + j, none⟩) (lt_of_cell he0)).trans he0
                      have hg1 := (hAx7.out.ak.bt.b.cell (p := ⟨gb, go + j, none⟩) (lt_of_cell hg0)).trans hg0
                      have r1 := hrA.out _ (getD_mem hjl)
                      have r2 := hrB.out _ (getD_mem (show j < lB.length by have := HLL.out; omega))
                      have hpu := hid (Aw.push ha hb hAw7.out (mem_snoc.2 (Or.inr rfl)) (by rw [harP.out]; exact hjl))
                      have hag := hid (hargP.out j)
                      have ze := lt_of_cell he1
                      have zg := lt_of_cell hg1
                      clear he0 hg0
                      generalize lA.getD j 0 = ex at he1 r1 hag
                      generalize lB.getD j 0 = gy at hg1 r2 hag
                      obtain ⟨en, rfl⟩ : ∃ en : Nat, ex = (en : Int) := ⟨ex.toNat, by omega⟩
                      obtain ⟨gn, rfl⟩ : ∃ gn : Nat, gy = (gn : Int) := ⟨gy.toNat, by omega⟩
                      have hrow := hAx7.out.ak.row
                      rw [hTn.out] at hrow
                      have ho1 := World.ownsRow.alloc hrow (.cells #[.int .i64 (en : Int), .int .i64 (gn : Int)] 71)
                      have hbd : Below wr.heap.size wr (wr.alloc (.cells #[.int .i64 (en : Int), .int .i64 (gn : Int)] 71)).drew := (below_alloc wr _).drew
                      have hxp := hid (fun w' tv' => Ax.push (p := (en, gn)) (w' := w') (tv' := tv') (hAx7.out.next hbd) hTn.out)
                      have hws := hAx7.out.ak.bt.b.size
                      generalize pcells T2 = PC at ho1 hxp
                      have hnb9 : n ≤ 30000 := by have := hnj.out; omega
                      clear hrow r1 r2 hAx7
                      go_wp2
                      go_region_law
                        (first
                          | (refine step_append_lies _ (by rfl) _ _ _ (by rfl) (W.heap.size + 2) 71 i2 (.agg #[.int .i64 0, .int .i64 0]) 2 16 Try.underlying69 hi2 hp0 hp1 hp2 rfl (by omega) _ n PC (by rfl) (ho1.drew) ⟨wr.heap.size, 0, none⟩ 1 1 [.int .i64 (en : Int), .int .i64 (gn : Int)] (by rfl) (by rfl) (World.news_of_block (cs := #[.int .i64 (en : Int), .int .i64 (gn : Int)]) (t := 71) (fr := (0, 0)) (heap_alloc_new wr _)) (by simp [Value.oneCell']) (by omega) (by unfold maxLen; omega) (by omega) (by simp; omega) (wr.heap.size + 1) (by simp) ?_; intro gg cap w8 hown8 hgr8 hat8 hlt8))
                      all_goals go_wp2
                      all_goals
                        go_roundw
                        case rel =>
                          refine ⟨j + 1, n + 1, some ⟨gg, 0, none⟩, cap, T2 ++ [(en, gn)], by omega, (show n + 1 = L + (j + 1) by have := hnj.out; omega), by go_num, rfl, ?_, ?_, hxp.out w8 _ hgr8 hown8⟩
                          · show (T2 ++ [(en, gn)]).length = n + 1
                            rw [List.length_append, hTn.out]
                            rfl
                          · have h9 := hpu.out
                            rw [hag.out] at h9
                            exact h9
                        case measure => simp [intOf]; omega
                    · obtain rfl : j = lA.length := by omega
                      have hdn := hid (Aw.done hAw7.out (by rw [harP.out]; exact Nat.le_refl _) (0, 0))
                      have hak := hid hAx7.out.ak
                      have hsz := Aw.size hAw7.out
                      have hsl : (S ++ [((px, py) : Pn)]).length = S.length + 1 := by simp
                      rw [hsl, ← HNA.out, ← HNB.out] at hsz
                      clear hAw7 hAx7
                      go_wp2
                      go_roundg ((NA * NB - (S.length + 1)) * 9 + n)
                      case measure =>
                        have h1 := hgk.out
                        have h2 := hnj.out
                        generalize NA * NB = X at *
                        omega
                      case rel =>
                        refine ⟨S ++ [(px, py)], T2, n, ao, c, rfl, hTn, by rw [hsl]; have := hnj.out; omega, ?_, hdn, hak⟩
                        show _ ≤ _
                        rw [hsl]
                        exact Nat.le_refl _
              · have hBf : B = false := by
                  cases hBB : B
                  · rfl
                  · exact absurd (HB.out.1 hBB) (Aw.bad_lab hAwv.out (fun h => hlab (hlabI.out.1 h)))
                have hcase : kA ≠ kB ∨ (kA = kB ∧ sA.toList ≠ sB.toList) ∨ (kA = kB ∧ sA = sB ∧ uA ≠ uB) ∨ (kA = kB ∧ sA = sB ∧ uA = uB ∧ lA.length ≠ lB.length) := by
                  by_cases e1 : kA = kB
                  · by_cases e2 : sA = sB
                    · by_cases e3 : uA = uB
                      · exact Or.inr (Or.inr (Or.inr ⟨e1, e2, e3, fun e4 => hlab ⟨e1, e2, e3, e4⟩⟩))
                      · exact Or.inr (Or.inr (Or.inl ⟨e1, e2, e3⟩))
                    · exact Or.inr (Or.inl ⟨e1, fun e => e2 (by
                        have h1 := e
                        rw [ByteArray.toList_eq, ByteArray.toList_eq] at h1
                        cases sA
                        cases sB
                        congr 1
                        exact Array.ext' h1)⟩)
                  · exact Or.inl e1
                clear hlab hlabI hHA hHB hargP harP hkA hkB
                rcases hcase with e1 | ⟨e1, e2⟩ | ⟨e1, e2, e3⟩ | ⟨e1, e2, e3, e4⟩
                · have f1 : (kA != kB) = true := by simpa using e1
                  go_wp2_with (first
                    | (at_lookup; refine wpList_lookup_own_int _ rfl _ _ 72 rfl 71 3 .i64 pairLaw Try.underlying72 Try.underlying3 (zeroInt _) wm.heap.size S.length D1 rfl hm1 _ kl rfl hkl ?_; intro cc hat hwc; obtain rfl := hc1.out cc hat)
                    | (at_mapUpdate; refine wpList_mapUpdate_own _ rfl _ _ _ 72 rfl 71 3 pairLaw Try.underlying72 _ wm.heap.size S.length D1 rfl hm1 (by unfold maxLen; omega) _ _ kl rfl rfl hkl _ [] (plainElem_int Try.underlying3 (WalkArith.wf_i64 (by omega))) ?_; intro w2 hmp2 hgr2; have hV := hSeen.out w2 hmp2 hgr2; obtain ⟨⟨⟨⟨y0, y1⟩, y2, y3⟩, y4, y5⟩, ⟨z0, z1⟩, n0, n1, n2, n3, p0, p1, p2, p3, pz⟩ := hC2.out w2 hgr2))
                  go_ret
                  first
                    | exact ⟨congrArg (fun x => Ending.returned (.bool x)) hBf.symm, hV.bt.b⟩
                    | exact ⟨rfl, hV.bt.b⟩
                · subst e1
                  have f2 : (sA.toList == sB.toList) = false := by simpa using e2
                  go_wp2_with (first
                    | (at_lookup; refine wpList_lookup_own_int _ rfl _ _ 72 rfl 71 3 .i64 pairLaw Try.underlying72 Try.underlying3 (zeroInt _) wm.heap.size S.length D1 rfl hm1 _ kl rfl hkl ?_; intro cc hat hwc; obtain rfl := hc1.out cc hat)
                    | (at_mapUpdate; refine wpList_mapUpdate_own _ rfl _ _ _ 72 rfl 71 3 pairLaw Try.underlying72 _ wm.heap.size S.length D1 rfl hm1 (by unfold maxLen; omega) _ _ kl rfl rfl hkl _ [] (plainElem_int Try.underlying3 (WalkArith.wf_i64 (by omega))) ?_; intro w2 hmp2 hgr2; have hV := hSeen.out w2 hmp2 hgr2; obtain ⟨⟨⟨⟨y0, y1⟩, y2, y3⟩, y4, y5⟩, ⟨z0, z1⟩, n0, n1, n2, n3, p0, p1, p2, p3, pz⟩ := hC2.out w2 hgr2))
                  go_ret
                  first
                    | exact ⟨congrArg (fun x => Ending.returned (.bool x)) hBf.symm, hV.bt.b⟩
                    | exact ⟨rfl, hV.bt.b⟩
                · subst e1 e2
                  have f3 : (uA != uB) = true := by simpa using e3
                  go_wp2_with (first
                    | (at_lookup; refine wpList_lookup_own_int _ rfl _ _ 72 rfl 71 3 .i64 pairLaw Try.underlying72 Try.underlying3 (zeroInt _) wm.heap.size S.length D1 rfl hm1 _ kl rfl hkl ?_; intro cc hat hwc; obtain rfl := hc1.out cc hat)
                    | (at_mapUpdate; refine wpList_mapUpdate_own _ rfl _ _ _ 72 rfl 71 3 pairLaw Try.underlying72 _ wm.heap.size S.length D1 rfl hm1 (by unfold maxLen; omega) _ _ kl rfl rfl hkl _ [] (plainElem_int Try.underlying3 (WalkArith.wf_i64 (by omega))) ?_; intro w2 hmp2 hgr2; have hV := hSeen.out w2 hmp2 hgr2; obtain ⟨⟨⟨⟨y0, y1⟩, y2, y3⟩, y4, y5⟩, ⟨z0, z1⟩, n0, n1, n2, n3, p0, p1, p2, p3, pz⟩ := hC2.out w2 hgr2))
                  go_ret
                  first
                    | exact ⟨congrArg (fun x => Ending.returned (.bool x)) hBf.symm, hV.bt.b⟩
                    | exact ⟨rfl, hV.bt.b⟩
                · subst e1 e2 e3
                  have f4 : (((lA.length : Nat) : Int) != ((lB.length : Nat) : Int)) = true := by simp; omega
                  go_wp2_with (first
                    | (at_lookup; refine wpList_lookup_own_int _ rfl _ _ 72 rfl 71 3 .i64 pairLaw Try.underlying72 Try.underlying3 (zeroInt _) wm.heap.size S.length D1 rfl hm1 _ kl rfl hkl ?_; intro cc hat hwc; obtain rfl := hc1.out cc hat)
                    | (at_mapUpdate; refine wpList_mapUpdate_own _ rfl _ _ _ 72 rfl 71 3 pairLaw Try.underlying72 _ wm.heap.size S.length D1 rfl hm1 (by unfold maxLen; omega) _ _ kl rfl rfl hkl _ [] (plainElem_int Try.underlying3 (WalkArith.wf_i64 (by omega))) ?_; intro w2 hmp2 hgr2; have hV := hSeen.out w2 hmp2 hgr2; obtain ⟨⟨⟨⟨y0, y1⟩, y2, y3⟩, y4, y5⟩, ⟨z0, z1⟩, n0, n1, n2, n3, p0, p1, p2, p3, pz⟩ := hC2.out w2 hgr2))
                  go_ret
                  first
                    | exact ⟨congrArg (fun x => Ending.returned (.bool x)) hBf.symm, hV.bt.b⟩
                    | exact ⟨rfl, hV.bt.b⟩
  · have hBf : B = false := by
      cases B
      · rfl
      · obtain ⟨R, hR⟩ := hB.1 rfl
        exact absurd hR.len hlen
    subst hBf
    obtain ⟨⟨⟨x0, x1⟩, x2, x3⟩, x4, x5⟩ := hBt.cells
    have hd : (((a.roots.length : Nat) : Int) != ((b.roots.length : Nat) : Int)) = true := by simp; omega
    clear hNa hNb hRa hRb hG hH hB
    go_enter Try.func19, Try.ntmps19
    go_wp2
    go_ret
    exact ⟨rfl, hBt.b⟩
end Go.Proofs.Ytcgkmenlacinjaa
