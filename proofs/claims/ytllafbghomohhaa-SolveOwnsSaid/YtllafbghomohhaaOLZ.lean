/- Whole of the reference, walked. -/
import Derived.Test.YtllafbghomohhaaOIZ
import Derived.Test.YtllafbghomohhaaOKZ
import Derived.BigQuiet
import Derived.Test.YtllafbghomohhaaGrRef3
import Derived.Test.YtllafbghomohhaaOEZ
import Derived.Test.YtllafbghomohhaaOFZ
import Derived.StillTailTactics
import Derived.Deep.LoopGhost
import Derived.Test.YtllafbghomohhaaBiM
namespace Go.Proofs.Ytllafbghomohhaa
open Go.RowKit

theorem toV_pos {ns : List Nd} {L : List Nat} (c : Nat) : 0 ≤ toV ns L L.length c := by
  by_cases hc : c ∈ L
  · rcases toV_inv (ns := ns) hc L.length with ⟨_, h⟩ | ⟨h, _⟩
    · obtain ⟨i, hi, rfl⟩ := List.getElem_of_mem hc
      exact absurd (by simp [List.getD, hi]) (h i hi)
    · exact h
  · have : ∀ j, j ≤ L.length → toV ns L j c = 0 := fun j => by
      induction j with
      | zero => intro _; unfold toV; rw [if_neg hc]
      | succ j ih =>
        intro hj
        unfold toV
        rw [if_neg (fun x => hc (by rw [← x.1]; exact getD_memN (by omega)))]
        exact ih (by omega)
    rw [this _ (Nat.le_refl _)]
    exact Int.le_refl _
theorem toL_nat {ns : List Nd} {L : List Nat} : ints ((toL ns L L.length).map Int.toNat) = toL ns L L.length := by
  unfold ints toL
  rw [List.map_map, List.map_map]
  refine List.map_congr_left (fun z _ => ?_)
  have := toV_pos (ns := ns) (L := L) z
  simp only [Function.comp]
  omega
/-- The leads lie behind the boxes. -/
theorem gv1_lead {W w1 : World} {nv rv : Value} {N : Nat} {ns : List Nd} {L : List Nat} (hL : L.length = N) (hb : Below ((W.alloc (.cells #[nv, rv] 25)).alloc grZ).heap.size ((W.alloc (.cells #[nv, rv] 25)).alloc grZ) w1) (ho : w1.ownsRow (((W.alloc (.cells #[nv, rv] 25)).alloc grZ).heap.size + 1) 3 1 (.slice (some ⟨((W.alloc (.cells #[nv, rv] 25)).alloc grZ).heap.size + 1, 0, none⟩) N N) N ((toL ns L L.length).map (Value.int .i64))) : Gv1 W nv rv (W.heap.size + 1 + 1 + 1) N ((toL ns L L.length).map Int.toNat) w1 := by
  have hsz : ((W.alloc (.cells #[nv, rv] 25)).alloc grZ).heap.size = W.heap.size + 1 + 1 := by simp
  refine ⟨(Sb.new W nv rv).next hb, ?_, by simp [toL_len, hL]⟩
  rw [hsz] at ho
  rw [toL_nat]
  exact own_base ho (by omega)
set_option maxRecDepth 100000 in
set_option maxHeartbeats 16000000 in
theorem whole_any {W : World} {nv rv cv : Value} {g : Gf} {L : List Nat} (hG : Gr W nv rv g) (hC : Ri W cv (ints L)) (hg : Good g) (hL : L.length = g.nodes.length) (hr : ∀ i, i < L.length → L.getD i 0 < L.length) :
    Calls Try.prog 31 #[.agg #[nv, rv], cv] W fun e w' => (∃ na nc ra rc, e = .returned (.agg #[.slice na g.nodes.length nc, .slice ra g.roots.length rc]) ∧ Gr w' (.slice na g.nodes.length nc) (.slice ra g.roots.length rc) (wholeF g (ldE g.nodes L))) ∧ Below W.heap.size W w' := by
  obtain ⟨i0, hi, hz0, hz1, hz2⟩ := info_parts infoI
  obtain ⟨i1, hi1, hy0, hy1, hy2⟩ := info_parts infoN
  have HG := hid hG
  have HC := hid hC
  have HA := hid (goodA_of hg)
  have Hg := hid hg
  have hN : g.nodes.length ≤ 4096 := hg.nodes
  have hR : g.roots.length ≤ 4096 := hg.roots
  have hld := lead_any (hG.below (Sb.new W nv rv).b) (hC.below (Sb.new W nv rv).b) hL hr (by omega)
  obtain ⟨na, nc, rfl, _⟩ := hG.1
  obtain ⟨ra, rc, rfl, _⟩ := hG.2
  obtain ⟨ca, cc, rfl, _⟩ := hC
  have hlc : (ints L).length = g.nodes.length := by simp [ints, hL]
  rw [hlc] at HC hld ⊢
  have hto : Hid (∀ (w : World) (i : Nat), Gv1 W (.slice na g.nodes.length nc) (.slice ra g.roots.length rc) (W.heap.size + 1 + 1 + 1) g.nodes.length ((toL g.nodes L L.length).map Int.toNat) w → i < g.nodes.length → ∃ c b o, ca = some ⟨b, o, none⟩ ∧ ((c : Nat) : Int) < (g.nodes.length : Int) ∧ w.cell? ⟨b, o + i, none⟩ = some (.int .i64 (c : Int)) ∧ w.cell? ⟨W.heap.size + 1 + 1 + 1, c, none⟩ = some (.int .i64 ((ldE g.nodes L i : Nat) : Int))) := fun w i hv hi => by
    obtain ⟨ao, c, e, h⟩ := HC.out.below hv.s.b
    injection e with e1 _ _
    subst e1
    obtain ⟨b, o, e, h⟩ := h i (by rw [hlc]; exact hi)
    rw [ints_get (by omega)] at h
    have hrc := hr i (by omega)
    refine ⟨L.getD i 0, b, o, e, by omega, h, ?_⟩
    have h2 := (hv.cell (i := L.getD i 0) (by omega)).1
    rw [h2]
    have h3 := (ldE_said (ns := g.nodes) (L := L) (x := i) (by omega)).1
    have h4 : ((toL g.nodes L L.length).map Int.toNat).getD (L.getD i 0) 0 = ldE g.nodes L i := by
      have h5 := toL_get (ns := g.nodes) (L := L) (j := L.length) hrc
      rw [List.getD, List.getElem?_map]
      rw [List.getD] at h5
      have h6 : (toL g.nodes L L.length)[L.getD i 0]? = some (toV g.nodes L L.length (L.getD i 0)) := by
        generalize L.getD i 0 = c at *
        simp [toL, hrc]
      rw [h6, h3]
      rfl
    rw [h4]
  have Hrg : Hid (∀ x, x < g.nodes.length → ldE g.nodes L x < g.nodes.length) := fun x hx => by
    have := (ldE_said (ns := g.nodes) (L := L) (x := x) (by omega)).2.1
    omega
  have Hlead := hid (fun (w1 : World) hb ho => gv1_lead (W := W) (w1 := w1) (nv := .slice na g.nodes.length nc) (rv := .slice ra g.roots.length rc) (ns := g.nodes) hL hb ho)
  clear hG hg hL hr HC hlc
  generalize ldE g.nodes L = E at *
  go_enter Try.func31, Try.ntmps31
  go_wp2_with (go_at_call 54; go_must (refine hld.mono ?_; clear hld; rintro e w2 ⟨rfl, ho2, hb2⟩; have hC := hid (Hlead.out w2 hb2 ho2); clear ho2 hb2 Hlead))
  have hGp0 : Hid (Gp w2.heap.size (w2.alloc grZ) w2.heap.size (.slice none 0 0) (.slice none 0 0) [] ((wholeF g E).nodes.take 0) []) :=
    ⟨Nat.le_refl _, heap_alloc_new w2 _, World.ownsRow_nil _ _ _ _, rfl, fun _ h => absurd h (Nat.not_lt_zero _), World.ownsRow_nil _ _ _ _⟩
  have hbe0 := hid (below_alloc w2 grZ)
  go_wp2
  go_loopw [7] (fun i wr => ∃ (j : Nat) (ao : Option Addr) (c : Nat) (avs : List Value), j ≤ g.nodes.length ∧ i = .int .i64 (j : Int) ∧ Hid (Gp w2.heap.size wr w2.heap.size (.slice ao j c) (.slice none 0 0) avs ((wholeF g E).nodes.take j) []) ∧ Hid (Below w2.heap.size w2 wr)) (fun i _ => g.nodes.length - (intOf i).toNat)
  case atStart => exact ⟨0, none, 0, [], by omega, rfl, hGp0, hbe0⟩
  case round =>
    clear hGp0 hbe0
    obtain ⟨j, ao, c, avs, hj, rfl, hGp, hbe⟩ := hrel
    have hnds : ((wholeF g E).nodes.take j).length = j := by rw [List.length_take, whole_len]; omega
    by_cases hlt : j < g.nodes.length
    · have hji : (j : Int) < (g.nodes.length : Int) := by omega
      have hCr := hid (hC.out.next hbe.out)
      obtain ⟨⟨b0, b1⟩, b2⟩ := hCr.out.box
      obtain ⟨cl, cb, co, e, hci, c0, d0⟩ := hto.out wr j hCr.out hlt
      subst e
      have zd := lt_of_cell d0
      have zc := lt_of_cell c0
      have hpr := Hrg.out j hlt
      obtain ⟨nb, no, aa, ac, hna, ⟨n0, n1, n2, n3⟩, hra⟩ := hCr.out.nd HG.out hpr
      subst hna
      have zn := lt_of_cell n0
      have Hra := hid hra
      have hav := hid (fun k hk => HA.out.arg _ hpr k hk)
      have ha8 := HA.out.few (E j)
      have htj : Hid ((wholeF g E).nodes.take (j + 1) = (wholeF g E).nodes.take j ++ [renum (EI E) (ndN g.nodes (E j))]) := show _ = _ by
        rw [List.take_add_one]
        congr 1
        simp [wholeF, hlt]
      generalize E j = P at *
      have hPi : (P : Int) < (g.nodes.length : Int) := by omega
      unfold argN at hav
      generalize ndN g.nodes P = nd at *
      obtain ⟨kd, nm, nu, args⟩ := nd
      dsimp only at n0 n1 n2 n3 ha8
      clear hra hpr
      go_wp2
      go_cut [8] from 22 to 32 (fun p wx => p = .pointer (some ⟨wr.heap.size, 0, none⟩) ∧ Hid (Below wr.heap.size wr wx ∧ wx.heap[wr.heap.size]? = some (.cells #[.int .i64 kd, .string nm, .int .i64 nu, .slice aa args.length ac] 56) ∧ wx.heap.size = wr.heap.size + 1))
      case first =>
        go_region_law (fail)
        all_goals go_wp2_with fail
        all_goals go_meet
        all_goals exact ⟨rfl, hid (cut_new wr _)⟩
      case rest =>
        obtain ⟨rfl, hwc⟩ := hcut
        obtain ⟨w4, rfl⟩ : ∃ w4 : World, w4 = wr := ⟨_, rfl⟩
        obtain ⟨w5, rfl⟩ : ∃ w5 : World, w5 = wc := ⟨_, rfl⟩
        obtain ⟨hb5, hx5, hs5⟩ := hwc.out
        have hC5 := hid (hCr.out.next hb5)
        have Hb5 := hid hb5
        have Hx5 := hid hx5
        have Hs5 := hid hs5
        obtain ⟨⟨x0, x1, x2, x3⟩, f0, f3⟩ := nblk hx5
        have zx := lt_of_block hx5
        have hlit := hid (World.ownsRow_nil w5 w5.heap.size 3 1)
        have hbl := hid (Below.refl w5.heap.size w5)
        clear hwc hb5 hs5 hx5 b0 b1 b2 d0 zd n0 n1 n2 n3 zn c0 zc
        go_wp2
        clear x0 x1 x2 x3 f0 f3 zx
        go_loopw [9, 10] (fun s i wr => ∃ (k : Nat) (ao4 : Option Addr) (c4 : Nat), k ≤ args.length ∧ i = .int .i64 (k : Int) ∧ s = .slice ao4 k c4 ∧ Hid (Below w5.heap.size w5 wr) ∧ Hid (wr.ownsRow w5.heap.size 3 1 (.slice ao4 k c4) k (((args.map (EI E)).take k).map (Value.int .i64)))) (fun _ i _ => args.length - (intOf i).toNat)
        case atStart => exact ⟨0, none, 0, Nat.zero_le _, rfl, rfl, hbl, hlit⟩
        case round =>
          clear hbl hlit
          obtain ⟨k, ao4, c4, hk, rfl, rfl, hbk, hok⟩ := hrel
          by_cases hkl : k < args.length
          · have hki : (k : Int) < (args.length : Int) := by omega
            have hCk := hid (hC5.out.next hbk.out)
            have hxk := (hbk.out.block _ (lt_of_block Hx5.out)).trans Hx5.out
            obtain ⟨⟨_, _, _, x3⟩, _⟩ := nblk hxk
            have zx := lt_of_block hxk
            obtain ⟨ab, af, haa, a0⟩ := (Hra.out.below hCk.out.s.b).at hkl
            subst haa
            have za := lt_of_cell a0
            have hy := hav.out k hkl
            have htk := hid (take_map1 (f := EI E) hkl)
            generalize args.getD k 0 = y at *
            obtain ⟨yn, rfl⟩ : ∃ yn : Nat, y = (yn : Int) := ⟨y.toNat, by omega⟩
            have hyn : yn < g.nodes.length := by omega
            have hyi : (yn : Int) < (g.nodes.length : Int) := by omega
            obtain ⟨cl, cb, co, e, hci, c0, d0⟩ := hto.out wr yn hCk.out hyn
            injection e with e
            injection e with e1 e2 _
            subst e1
            subst e2
            have zd := lt_of_cell d0
            have zc := lt_of_cell c0
            have hei : Hid (EI E (yn : Int) = ((E yn : Nat) : Int)) := rfl
            rw [hei.out] at htk
            generalize E yn = Q at *
            have hzk := hbk.out.size
            have hO1 := World.ownsRow.alloc hok.out (.cells #[.int .i64 (Q : Int)] 3)
            have hlo : Hid (∀ q, (Value.slice ao4 k c4).ownBlock = some q → w5.heap.size ≤ q) := fun q hq => (hok.out.lt q hq).1
            clear hy hyn hei hok hxk
            go_wp2_with (at_builtin; go_must (refine wpList_append_lies _ rfl _ _ 23 rfl w5.heap.size 3 i0 (.int .i64 0) 1 8 Try.underlying23 hi hz0 hz1 hz2 rfl (by decide) _ k _ rfl hO1 ⟨wr.heap.size, 0, none⟩ 1 1 [.int .i64 (Q : Int)] rfl rfl (World.news_of_block (cs := #[.int .i64 (Q : Int)]) (t := 3) (fr := (0, 0)) (heap_alloc_new wr _)) (by simp [Value.oneCell']) (by decide) (by unfold maxLen; omega) (by omega) (by simp; omega) _ rfl ?_; intro g6 cap w6 hown6 hg6 hat6 hlt6))
            have hb6 : Hid (Below w5.heap.size w5 w6) := hbk.out.trans (((Below.refl _ _).alloc hzk _).grown hg6 (by simp; omega) (fun q hq => hlo.out q hq))
            go_roundw
            case rel => exact ⟨k + 1, some ⟨g6, 0, none⟩, cap, by omega, by go_num, rfl, hb6, (show World.ownsRow _ _ _ _ _ _ _ by rw [htk.out, List.map_append]; exact hown6)⟩
            case measure => simp [intOf]; omega
          · obtain rfl : k = args.length := by omega
            have hxk := (hbk.out.block _ (lt_of_block Hx5.out)).trans Hx5.out
            obtain ⟨⟨x0, x1, x2, x3⟩, f0, f3⟩ := nblk hxk
            have zx := lt_of_block hxk
            have hs5 := Hs5.out
            have hzk := hbk.out.size
            have hb4k := Hb5.out.trans (hbk.out.mono (by omega))
            have hok' := hok.out
            rw [List.take_of_length_le (by simp), hs5] at hok'
            obtain ⟨hGp8, hrow8, hbe8⟩ := giv_set hGp.out hb4k hok'
            have hbx := (hb4k.block _ (lt_of_block hGp.out.box)).trans hGp.out.box
            obtain ⟨⟨g0, g1⟩, g2, _⟩ := blk2y hbx
            have zg := lt_of_block hbx
            have zg4 := lt_of_block hGp.out.box
            have hon := World.ownsRow.alloc hGp8.n (.cells #[.int .i64 kd, .string nm, .int .i64 nu, .slice ao4 args.length c4] 56)
            rw [hnds] at hon
            have hpush : Hid (∀ (w9 : World) (g7 cap : Nat), w9.ownsRow w2.heap.size 56 4 (.slice (some ⟨g7, 0, none⟩) (j + 1) cap) (j + 1) (ncells ((wholeF g E).nodes.take j) avs ++ [.int .i64 kd, .string nm, .int .i64 nu, .slice ao4 args.length c4]) → ((wr.setCell ⟨w4.heap.size, 3, none⟩ (.slice ao4 args.length c4)).alloc (.cells #[.int .i64 kd, .string nm, .int .i64 nu, .slice ao4 args.length c4] 56)).grownBy w9 (Value.slice ao j c).ownBlock → _) := fun w9 g7 cap hown hgr => giv_push (nd := ⟨kd, nm, nu, args.map (EI E)⟩) hGp8 hnds (by simpa using hrow8) (by simpa using hown) hgr
            have Hbe := hid (hbe.out.trans hbe8)
            have hne : w2.heap.size ≠ w4.heap.size := by omega
            clear hxk hok hok' hGp8 hrow8 hbe8 hbx hb4k
            go_wp2_with (at_builtin; go_must (refine wpList_append_lies _ rfl _ _ 22 rfl w2.heap.size 56 i1 (.agg #[.int .i64 0, .string ⟨#[]⟩, .int .i64 0, .slice none 0 0]) 4 56 Try.underlying22 hi1 hy0 hy1 hy2 rfl (by decide) _ j _ rfl hon ⟨wr.heap.size, 0, none⟩ 1 1 [.int .i64 kd, .string nm, .int .i64 nu, .slice ao4 args.length c4] rfl rfl (World.news_of_block (cs := #[.int .i64 kd, .string nm, .int .i64 nu, .slice ao4 args.length c4]) (t := 56) (fr := (0, 0)) (by have h9 := heap_alloc_new (wr.setCell ⟨w4.heap.size, 3, none⟩ (.slice ao4 args.length c4)) (.cells #[.int .i64 kd, .string nm, .int .i64 nu, .slice ao4 args.length c4] 56); simpa using h9)) (by simp [Value.oneCell']) (by decide) (by unfold maxLen; omega) (by omega) (by simp; omega) _ rfl ?_; intro g7 cap w7 hown7 hg7 hat7 hlt7; obtain ⟨⟨r0, r1, r2⟩, ⟨avs3, hGp9⟩, hbe9⟩ := hpush.out w7 g7 cap hown7 hg7))
            exact ⟨⟨j + 1, some ⟨g7, 0, none⟩, cap, avs3, by omega, by go_num, (show Gp _ _ _ _ _ _ _ _ by rw [htj.out]; exact hGp9), Hbe.out.trans hbe9⟩, by simp [intOf]; omega⟩
    · obtain rfl : j = g.nodes.length := by omega
      obtain ⟨w3, rfl⟩ : ∃ w3 : World, w3 = wr := ⟨_, rfl⟩
      have hC3 := hid (hC.out.next hbe.out)
      obtain ⟨⟨b0, b1⟩, b2⟩ := hC3.out.box
      have hgb := lt_of_block hGp.out.box
      have hpq := hid (hC.out.lo.2)
      have h50 : Hid (Gr5 w3 w2.heap.size (.slice ao g.nodes.length c) (.slice none 0 0) 0 (((g.roots.map (EI E)).take 0).map (Value.int .i64)) w3) := ⟨Mo.refl _ _, hGp.out.box, World.ownsRow_nil _ _ _ _⟩
      go_wp2
      clear b0 b1 b2
      go_loopw [11] (fun i wr => ∃ (k : Nat) (ao5 : Option Addr) (c5 : Nat), k ≤ g.roots.length ∧ i = .int .i64 (k : Int) ∧ Hid (Gr5 w3 w2.heap.size (.slice ao g.nodes.length c) (.slice ao5 k c5) k (((g.roots.map (EI E)).take k).map (Value.int .i64)) wr)) (fun i _ => g.roots.length - (intOf i).toNat)
      case atStart => exact ⟨0, none, 0, Nat.zero_le _, rfl, h50⟩
      case round =>
        clear h50 hlt hj
        obtain ⟨k, ao5, c5, hk, rfl, h5⟩ := hrel
        have hC6 := hid (hC3.out.mo h5.out.m hpq.out)
        obtain ⟨⟨b0, b1⟩, b2⟩ := hC6.out.box
        have hbx := h5.out.b
        obtain ⟨⟨g0, g1⟩, g2, g3⟩ := blk2y hbx
        have zg := lt_of_block hbx
        by_cases hkl : k < g.roots.length
        · have hki : (k : Int) < (g.roots.length : Int) := by omega
          obtain ⟨rb, ro, hra, r0⟩ := (HG.out.2.below hC6.out.s.b).at hkl
          subst hra
          have zr := lt_of_cell r0
          have hrr := Hg.out.root _ (getD_mem hkl)
          have htk := hid (take_map1 (f := EI E) hkl)
          generalize g.roots.getD k 0 = y at *
          obtain ⟨yn, rfl⟩ : ∃ yn : Nat, y = (yn : Int) := ⟨y.toNat, by omega⟩
          have hyn : yn < g.nodes.length := by omega
          have hyi : (yn : Int) < (g.nodes.length : Int) := by omega
          obtain ⟨cl, cb, co, e, hci, c0, d0⟩ := hto.out wr yn hC6.out hyn
          subst e
          have zd := lt_of_cell d0
          have zc := lt_of_cell c0
          have hei : Hid (EI E (yn : Int) = ((E yn : Nat) : Int)) := rfl
          rw [hei.out] at htk
          generalize E yn = Q at *
          have hzk := h5.out.m.size
          have hO1 := World.ownsRow.alloc h5.out.o (.cells #[.int .i64 (Q : Int)] 3)
          have H5 := hid (fun (w5 : World) (gg cap : Nat) => Gr5.push (w5 := w5) (gg := gg) (cap := cap) (y := (Q : Int)) h5.out hgb)
          clear hrr hyn hei hbx h5
          generalize hRS : ((g.roots.map (EI E)).take k).map (Value.int .i64) = RS at *
          replace hRS := hid hRS
          go_wp2
          go_region_law
            (first
              | (refine step_append_lies _ (by rfl) _ _ _ (by rfl) w3.heap.size 3 i0 (.int .i64 0) 1 8 Try.underlying23 hi hz0 hz1 hz2 rfl (by omega) _ k RS (by rfl) (hO1.drew) ⟨wr.heap.size, 0, none⟩ 1 1 [.int .i64 (Q : Int)] (by rfl) (by rfl) (World.news_of_block (cs := #[.int .i64 (Q : Int)]) (t := 3) (fr := (0, 0)) (heap_alloc_new wr _)) (by simp [Value.oneCell']) (by omega) (by unfold maxLen; omega) (by omega) (by simp; omega) (wr.heap.size + 1) (by simp) ?_; intro gg cap w5 hown5 hgr5 hat hlt5; obtain ⟨d5, H6⟩ := H5.out w5 gg cap hown5 hgr5; obtain ⟨⟨_, s0⟩, _, s1⟩ := blk2y d5))
          all_goals go_wp2
          all_goals
            go_roundw
            case rel => exact ⟨k + 1, some ⟨gg, 0, none⟩, cap, by omega, congrArg (Value.int .i64) (by omega), (show Gr5 _ _ _ _ _ _ _ by rw [htk.out, List.map_append, hRS.out]; exact H6)⟩
            case measure => simp [intOf]; omega
        · obtain rfl : k = g.roots.length := by omega
          have hres := hC6.out.s.r
          have hzr := lt_of_block hres
          obtain ⟨⟨s0, s1⟩, s2, s3⟩ := blk2y hres
          have hlo := hC6.out.lo
          have h6 := h5.out
          rw [List.take_of_length_le (by simp)] at h6
          have hGp9 := hGp.out
          rw [List.take_of_length_le (by rw [whole_len]; omega)] at hGp9
          have hro := own_base h6.o (show w2.heap.size ≤ w3.heap.size by omega)
          have hgG : Gp w2.heap.size wr w2.heap.size (.slice ao g.nodes.length c) (.slice ao5 g.roots.length c5) avs (wholeF g E).nodes (wholeF g E).roots := hGp9.rooted h6.m h6.b (show World.ownsRow _ _ _ _ _ (List.length (g.roots.map _)) _ by rw [List.length_map]; exact hro)
          have hfar : Hid (Gr ((wr.setCell ⟨W.heap.size + 1, 0, none⟩ (.slice ao g.nodes.length c)).setCell ⟨W.heap.size + 1, 1, none⟩ (.slice ao5 g.roots.length c5)) (.slice ao g.nodes.length c) (.slice ao5 g.roots.length c5) (wholeF g E)) := (hgG.keep (fun q h1 _ => by
            have hpl := hpq.out
            rw [Below.heap_setCell _ _ _ _ (by show q ≠ W.heap.size + 1; omega), Below.heap_setCell _ _ _ _ (by show q ≠ W.heap.size + 1; omega)])).gr
          have hfin := hid (hC6.out.s.fin (.slice ao g.nodes.length c) (.slice ao5 g.roots.length c5))
          clear hres hbx hgG hGp9 h6 hro
          go_wp2
          exact bodyPost_ret (ret_sgr Try.results31 (by rfl) hfin.out.1) rfl ⟨⟨_, _, _, _, rfl, hfar.out⟩, hfin.out.2⟩
end Go.Proofs.Ytllafbghomohhaa

/- The reference's faults, held in a variable. -/
namespace Go.Proofs.Ytllafbghomohhaa
open Go.RowKit

set_option maxHeartbeats 400000 in
theorem fbad_no (a : Int) (w : World) : Calls Try.prog 27 #[.agg #[.int .i64 0, .int .i64 a, .string ⟨#[]⟩, .slice none 0 0]] w fun e w' => e = .returned (.bool false) ∧ Below w.heap.size w w' := by
  go_enter Try.func27, Try.ntmps27
  go_wp2
  go_ret
  exact ⟨rfl, below_alloc _ _⟩
set_option maxHeartbeats 400000 in
theorem fbad_yes {c : Int} (hc : c ≠ 0) (a : Int) (w : World) : Calls Try.prog 27 #[.agg #[.int .i64 c, .int .i64 a, .string ⟨#[]⟩, .slice none 0 0]] w fun e w' => e = .returned (.bool true) ∧ Below w.heap.size w w' := by
  have h : (c != 0) = true := by simp [hc]
  go_enter Try.func27, Try.ntmps27
  go_wp2
  go_ret
  exact ⟨rfl, below_alloc _ _⟩
theorem one_nil {x : Int × Int} : one x = [] ↔ x.1 = 0 := by
  unfold one
  split <;> simp_all
theorem set4_far {w : World} {q b o : Nat} {v0 v1 v2 v3 v : Value} (hne : b ≠ q) (h : w.cell? ⟨b, o, none⟩ = some v) : ((((w.setCell ⟨q, 0, none⟩ v0).setCell ⟨q, 1, none⟩ v1).setCell ⟨q, 2, none⟩ v2).setCell ⟨q, 3, none⟩ v3).cell? ⟨b, o, none⟩ = some v := by
  have e : ((((w.setCell ⟨q, 0, none⟩ v0).setCell ⟨q, 1, none⟩ v1).setCell ⟨q, 2, none⟩ v2).setCell ⟨q, 3, none⟩ v3).heap[b]? = w.heap[b]? := by
    rw [Below.heap_setCell _ ⟨q, 3, none⟩ _ _ hne, Below.heap_setCell _ ⟨q, 2, none⟩ _ _ hne, Below.heap_setCell _ ⟨q, 1, none⟩ _ _ hne, Below.heap_setCell _ ⟨q, 0, none⟩ _ _ hne]
  unfold World.cell? at h ⊢
  rw [e]
  exact h
theorem flt_four {w : World} {q : Nat} {c a : Int} (h : w.heap[q]? = some (.cells #[.int .i64 c, .int .i64 a, .string ⟨#[]⟩, .slice none 0 0] 35)) : w.cell? ⟨q, 0, none⟩ = some (.int .i64 c) ∧ w.cell? ⟨q, 1, none⟩ = some (.int .i64 a) ∧ w.cell? ⟨q, 2, none⟩ = some (.string ⟨#[]⟩) ∧ w.cell? ⟨q, 3, none⟩ = some (.slice none 0 0) := by
  refine ⟨?_, ?_, ?_, ?_⟩ <;> simp [World.cell?, h]
end Go.Proofs.Ytllafbghomohhaa

/- Check of the reference of layer 10: a graph with pairs. -/
namespace Go.Proofs.Ytllafbghomohhaa
open Go.RowKit

/-- The fault of a graph with pairs, as two numbers. -/
def chkP (g : Gf) (ps : List (Int × Int)) : Int × Int := if (chk g).1 = 0 then (if 0 ≤ ixOf (badP g.nodes.length) ps then (100, ixOf (badP g.nodes.length) ps) else (0, 0)) else chk g
theorem chkP_one (g : Gf) (ps : List (Int × Int)) : one (chkP g ps) = chkS g ps := by
  unfold chkP chkS
  by_cases h : (chk g).1 = 0
  · rw [if_pos h, if_pos (one_nil.2 h)]
    split
    · simp [one]
    · simp [one]
  · rw [if_neg h, if_neg (fun e => h (one_nil.1 e))]
theorem chkP_zero {g : Gf} {ps : List (Int × Int)} (h : chkS g ps = []) : (chkP g ps).1 = 0 := one_nil.1 (by rw [chkP_one]; exact h)
theorem chkP_bad {g : Gf} {ps : List (Int × Int)} (h : chkS g ps ≠ []) : (chkP g ps).1 ≠ 0 := fun e => h (by rw [← chkP_one]; exact one_nil.2 e)
set_option maxRecDepth 100000 in
set_option maxHeartbeats 4000000 in
theorem rchk10_any {W : World} {nv rv pv : Value} {g : Gf} {ps : List (Int × Int)} (hG : Gr W nv rv g) (hS : Sized g) (hP : Rp W pv ps) (hl : ps.length ≤ 5000) :
    Calls Try.prog 26 #[.agg #[nv, rv], pv] W fun e w' => e = .returned (flt (chkP g ps)) ∧ Below W.heap.size W w' := by
  obtain ⟨na, nc, rfl, _⟩ := hG.1
  obtain ⟨ra, rc, rfl, _⟩ := hG.2
  have HP := hid hP
  obtain ⟨pa, pc, rfl, _⟩ := hP
  have hx := Bx.start W (.slice na g.nodes.length nc) (.slice ra g.roots.length rc)
  have hck := rcheck_any (hG.below hx.b) hS
  have hC : Hid (chkP g ps = if (chk g).1 = 0 then (if 0 ≤ ixOf (badP g.nodes.length) ps then (100, ixOf (badP g.nodes.length) ps) else (0, 0)) else chk g) := rfl
  have HX := hid hx
  clear hG hS hx
  generalize chkP g ps = R at *
  replace hC := hid hC.out
  generalize chk g = x at *
  obtain ⟨c, a⟩ := x
  by_cases hc : c = 0
  · subst hc
    have hC' : Hid (R = if 0 ≤ ixOf (badP g.nodes.length) ps then (100, ixOf (badP g.nodes.length) ps) else (0, 0)) := by
      have := hC.out
      rw [if_pos rfl] at this
      exact this
    clear hC
    generalize g.nodes.length = N at *
    go_enter Try.func26, Try.ntmps26
    go_wp2_with (first
      | (go_at_call 47; go_must (refine hck.mono ?_; clear hck; rintro e w1 ⟨rfl, hb1⟩; have HX1 := hid (HX.out.below hb1); clear hb1 HX))
      | (go_at_call 27; go_must (refine (fbad_no a _).mono ?_; rintro e w2 ⟨rfl, hb2⟩; have HX2 := hid (HX1.out.below (Below.next (below_alloc w1 _) hb2)); clear hb2 HX1)))
    go_loopw [6] (fun i wr => ∃ k : Nat, k ≤ ps.length ∧ i = .int .i64 (k : Int) ∧ Hid (Bx W wr (.slice na N nc) (.slice ra g.roots.length rc)) ∧ Hid (∀ j, j < k → badP N (ps.getD j (0, 0)) = false)) (fun i _ => ps.length - (intOf i).toNat)
    case atStart => exact ⟨0, Nat.zero_le _, rfl, HX2, fun j hj => absurd hj (Nat.not_lt_zero _)⟩
    case round =>
      clear HX2
      obtain ⟨k, hk, rfl, hx, hp⟩ := hrel
      have c0 := hx.out.n
      have z0 := lt_of_cell c0
      by_cases hlt : k < ps.length
      · have hki : (k : Int) < (ps.length : Int) := by omega
        obtain ⟨_, _, e0, hat⟩ := HP.out.below hx.out.b
        injection e0 with e1 _ e2
        obtain ⟨b, o, hpa, p0, p1⟩ := hat k hlt
        subst e1
        subst hpa
        have z1 := lt_of_cell p0
        have hbad := hid (fun h : badP N (ps.getD k (0, 0)) = true => ixOf_hit (0, 0) (badP N) ps k hlt hp.out h)
        have hgd : Hid (badP N (ps.getD k (0, 0)) = false → ∀ j, j < k + 1 → badP N (ps.getD j (0, 0)) = false) := fun h j hj => by
          rcases Nat.lt_or_eq_of_le (Nat.le_of_lt_succ hj) with h' | h'
          · exact hp.out j h'
          · subst h'; exact h
        clear hp hat e2
        generalize ps.getD k (0, 0) = q at *
        obtain ⟨x, y⟩ := q
        dsimp only at p0 p1
        by_cases hs : badP N (x, y) = true
        · have hR := hid (show R = (100, (k : Int)) by rw [hC'.out, hbad.out hs, if_pos (by omega)])
          have hs' : x < 0 ∨ (¬ x < 0 ∧ y < 0) ∨ (¬ x < 0 ∧ ¬ y < 0 ∧ (N : Int) ≤ x) ∨ (¬ x < 0 ∧ ¬ y < 0 ∧ ¬ (N : Int) ≤ x ∧ (N : Int) ≤ y) := by
            simp [badP, strange] at hs
            omega
          clear hC' hgd hbad hs
          rcases hs' with y0 | ⟨y0, y1⟩ | ⟨y0, y1, y2⟩ | ⟨y0, y1, y2, y3⟩
          · have d0 : decide (x < 0) = true := decide_eq_true y0
            go_wp2_with (go_at_call 48; refine (rat_any _ _ _).mono ?_; rintro e w5 ⟨rfl, hb5⟩; obtain ⟨⟨f0, f1, f2, f3⟩, z0, z1, z2, z3⟩ := (hx.out.below hb5).cells)
            rw [hR.out]
            exact bodyPost_ret (ret_flt Try.results26 (by rfl) (box_set0 (hx.out.below hb5).f)) rfl ⟨rfl, set4_below (hx.out.below hb5).b (by omega)⟩
          · have d0 : decide (x < 0) = false := decide_eq_false y0
            have d1 : decide (y < 0) = true := decide_eq_true y1
            go_wp2_with (go_at_call 48; refine (rat_any _ _ _).mono ?_; rintro e w5 ⟨rfl, hb5⟩; obtain ⟨⟨f0, f1, f2, f3⟩, z0, z1, z2, z3⟩ := (hx.out.below hb5).cells)
            rw [hR.out]
            exact bodyPost_ret (ret_flt Try.results26 (by rfl) (box_set0 (hx.out.below hb5).f)) rfl ⟨rfl, set4_below (hx.out.below hb5).b (by omega)⟩
          · have d0 : decide (x < 0) = false := decide_eq_false y0
            have d1 : decide (y < 0) = false := decide_eq_false y1
            have d2 : decide ((N : Int) ≤ x) = true := decide_eq_true y2
            go_wp2_with (go_at_call 48; refine (rat_any _ _ _).mono ?_; rintro e w5 ⟨rfl, hb5⟩; obtain ⟨⟨f0, f1, f2, f3⟩, z0, z1, z2, z3⟩ := (hx.out.below hb5).cells)
            rw [hR.out]
            exact bodyPost_ret (ret_flt Try.results26 (by rfl) (box_set0 (hx.out.below hb5).f)) rfl ⟨rfl, set4_below (hx.out.below hb5).b (by omega)⟩
          · have d0 : decide (x < 0) = false := decide_eq_false y0
            have d1 : decide (y < 0) = false := decide_eq_false y1
            have d2 : decide ((N : Int) ≤ x) = false := decide_eq_false y2
            have d3 : decide ((N : Int) ≤ y) = true := decide_eq_true y3
            go_wp2_with (go_at_call 48; refine (rat_any _ _ _).mono ?_; rintro e w5 ⟨rfl, hb5⟩; obtain ⟨⟨f0, f1, f2, f3⟩, z0, z1, z2, z3⟩ := (hx.out.below hb5).cells)
            rw [hR.out]
            exact bodyPost_ret (ret_flt Try.results26 (by rfl) (box_set0 (hx.out.below hb5).f)) rfl ⟨rfl, set4_below (hx.out.below hb5).b (by omega)⟩
        · have hs0 : badP N (x, y) = false := by simpa using hs
          have hgo := hid (hgd.out hs0)
          have hs' : ¬ x < 0 ∧ ¬ y < 0 ∧ ¬ (N : Int) ≤ x ∧ ¬ (N : Int) ≤ y := by
            simp [badP, strange] at hs0
            omega
          obtain ⟨y0, y1, y2, y3⟩ := hs'
          have d0 : decide (x < 0) = false := decide_eq_false y0
          have d1 : decide (y < 0) = false := decide_eq_false y1
          have d2 : decide ((N : Int) ≤ x) = false := decide_eq_false y2
          have d3 : decide ((N : Int) ≤ y) = false := decide_eq_false y3
          clear hgd hbad hs hs0
          go_wp2
          go_roundw
          case rel => exact ⟨k + 1, by omega, by go_num, hx, hgo⟩
          case measure => simp [intOf]; omega
      · have hR := hid (show R = (0, 0) by rw [hC'.out, ixOf_miss (0, 0) (badP N) ps (fun j hj => hp.out j (by omega)), if_neg (by omega)])
        clear hC' hp
        go_wp2_with (go_at_call 49; refine (rno_any _).mono ?_; rintro e w5 ⟨rfl, hb5⟩; obtain ⟨⟨f0, f1, f2, f3⟩, z0, z1, z2, z3⟩ := (hx.out.below hb5).cells)
        rw [hR.out]
        exact bodyPost_ret (ret_flt Try.results26 (x := (0, 0)) (by rfl) (box_set0 (hx.out.below hb5).f)) rfl ⟨rfl, set4_below (hx.out.below hb5).b (by omega)⟩
  · have hR : Hid (R = (c, a)) := by
      have := hC.out
      rw [if_neg hc] at this
      exact this
    clear hC
    go_enter Try.func26, Try.ntmps26
    go_wp2_with (first
      | (go_at_call 47; go_must (refine hck.mono ?_; clear hck; rintro e w1 ⟨rfl, hb1⟩; have HX1 := hid (HX.out.below hb1); clear hb1 HX))
      | (go_at_call 27; go_must (refine (fbad_yes hc a _).mono ?_; rintro e w2 ⟨rfl, hb2⟩; have hfb := (hb2.block _ (by simp)).trans (heap_alloc_new w1 (.cells #[.int .i64 c, .int .i64 a, .string ⟨#[]⟩, .slice none 0 0] 35)); obtain ⟨q0, q1, q2, q3⟩ := flt_four hfb; have HX2 := hid (HX1.out.below (Below.next (below_alloc w1 _) hb2)); obtain ⟨⟨f0, f1, f2, f3⟩, z0, z1, z2, z3⟩ := HX2.out.cells; clear hb2 HX1)))
    rw [hR.out]
    exact bodyPost_ret (ret_flt Try.results26 (by rfl) (box_set0 HX2.out.f)) rfl ⟨rfl, set4_below HX2.out.b (by omega)⟩
end Go.Proofs.Ytllafbghomohhaa

/- Closed of the reference, walked. -/
namespace Go.Proofs.Ytllafbghomohhaa
open Go.RowKit

set_option maxRecDepth 100000 in
set_option maxHeartbeats 16000000 in
theorem closed_any {W : World} {nv rv pv : Value} {g : Gf} {ps : List (Int × Int)} (hG : Gr W nv rv g) (hP : Rp W pv ps) (hA : GoodA g.nodes) (hp : PsG g ps) (hN : g.nodes.length ≤ 10000) (hl : ps.length ≤ 5000) :
    Calls Try.prog 28 #[.agg #[nv, rv], pv] W fun e w' => ((∃ L, e = .returned (.tuple #[.slice (some ⟨W.heap.size + 1, 0, none⟩) g.nodes.length g.nodes.length, .bool true]) ∧ w'.ownsRow (W.heap.size + 1) 3 1 (.slice (some ⟨W.heap.size + 1, 0, none⟩) g.nodes.length g.nodes.length) g.nodes.length ((ints L).map (Value.int .i64)) ∧ CloD g.nodes (ps.map natP) L) ∨ (e = .returned (.tuple #[.slice none 0 0, .bool false]) ∧ NoSol g.nodes (ps.map natP))) ∧ Below W.heap.size W w' := by
  obtain ⟨i0, hi, hz0, hz1, hz2⟩ := info_parts infoI
  have HG := hid hG
  have HP := hid hP
  have HA := hid hA
  have Hp := hid hp
  obtain ⟨na, nc, rfl, _⟩ := hG.1
  obtain ⟨ra, rc, rfl, _⟩ := hG.2
  obtain ⟨pa, pc, rfl, _⟩ := hP
  have HPn : Hid (∀ (j : Nat), ∀ p ∈ (ps.take j).map natP, p.1 < g.nodes.length ∧ p.2 < g.nodes.length) := fun j p hm => by
    obtain ⟨q, hq, rfl⟩ := List.mem_map.1 hm
    obtain ⟨h1, h2⟩ := Hp.out q (List.mem_of_mem_take hq)
    simp only [natP]
    omega
  clear hG hA hp
  go_enter Try.func28, Try.ntmps28
  go_wp2_with (at_make; go_must (refine wpList_make_full _ rfl _ _ 23 rfl (W.heap.size + 1) 3 i0 (.int .i64 0) 1 Try.underlying23 hi hz0 hz1 .i64 .i64 _ _ g.nodes.length rfl rfl rfl rfl (by rw [hz2]; omega) (by unfold maxLen; omega) (by simp) ?_; intro w1 hown1 hgrow1; have hC0 := hid (kc_start hown1 hgrow1); clear hown1 hgrow1))
  go_loopw [8] (fun i wr => ∃ j : Nat, j ≤ g.nodes.length ∧ i = .int .i64 (j : Int) ∧ Hid (Kc W (.slice na g.nodes.length nc) (.slice ra g.roots.length rc) g.nodes.length (ldJ g.nodes.length j) wr)) (fun i _ => g.nodes.length - (intOf i).toNat)
  case atStart => exact ⟨0, Nat.zero_le _, rfl, hC0⟩
  case round =>
    clear hC0
    obtain ⟨j, hj, rfl, hC⟩ := hrel
    by_cases hlt : j < g.nodes.length
    · have hji : (j : Int) < (g.nodes.length : Int) := by omega
      obtain ⟨d0, d1⟩ := hC.out.cell hlt
      have zd := lt_of_cell d0
      have hC2 := hid (hC.out.set j j)
      rw [ldJ_step hlt] at hC2
      clear hC
      go_wp2
      go_roundw
      case rel => exact ⟨j + 1, by omega, by go_num, hC2⟩
      case measure => simp [intOf]; omega
    · obtain rfl : j = g.nodes.length := by omega
      rw [ldJ_full] at hC
      have hcl0 : Hid (Clo g.nodes ((ps.take 0).map natP) (List.range g.nodes.length) ∧ ∀ p ∈ (ps.take 0).map natP, (List.range g.nodes.length).getD p.1 0 = (List.range g.nodes.length).getD p.2 0) := ⟨clo_init g.nodes, fun p hm => (by cases hm)⟩
      go_wp2
      clear hlt hj
      go_loopw [9] (fun i wr => ∃ (j : Nat) (L : List Nat), j ≤ ps.length ∧ i = .int .i64 (j : Int) ∧ Hid (Kc W (.slice na g.nodes.length nc) (.slice ra g.roots.length rc) g.nodes.length L wr) ∧ Hid (Clo g.nodes ((ps.take j).map natP) L ∧ ∀ p ∈ (ps.take j).map natP, L.getD p.1 0 = L.getD p.2 0)) (fun i _ => ps.length - (intOf i).toNat)
      case atStart => exact ⟨0, _, Nat.zero_le _, rfl, hC, hcl0⟩
      case round =>
        clear hC hcl0
        obtain ⟨j, L, hj, rfl, hC, hcl⟩ := hrel
        by_cases hlt : j < ps.length
        · have hji : (j : Int) < (ps.length : Int) := by omega
          obtain ⟨pa', pc', e, hpc⟩ := HP.out.below hC.out.b
          injection e with e1 _ e3
          subst e1 e3
          obtain ⟨b, o, hao, p0, p1⟩ := hpc j hlt
          subst hao
          have zb := lt_of_cell p0
          have hq := Hp.out (ps.getD j (0, 0)) (by simp [List.getD, hlt])
          have htk : Hid ((ps.take (j + 1)).map natP = (ps.take j).map natP ++ [natP (ps.getD j (0, 0))]) := show _ = _ by
            rw [List.take_add_one, List.map_append]
            simp [List.getD, hlt]
          generalize ps.getD j (0, 0) = pr at *
          obtain ⟨x, y⟩ := pr
          dsimp only at p0 p1 hq
          obtain ⟨xn, rfl⟩ : ∃ xn : Nat, x = (xn : Int) := ⟨x.toNat, by omega⟩
          obtain ⟨yn, rfl⟩ : ∃ yn : Nat, y = (yn : Int) := ⟨y.toNat, by omega⟩
          have hL := hC.out.l
          have hcp : Hid (∀ w', Below wr.heap.size wr w' → Calls Try.prog 50 #[.slice (some ⟨W.heap.size + 1, 0, none⟩) g.nodes.length g.nodes.length, .int .i64 (xn : Int), .int .i64 (yn : Int)] w' fun e w'' => ∃ bb, e = .returned (.bool bb) ∧ Hid (Kc W (.slice na g.nodes.length nc) (.slice ra g.roots.length rc) g.nodes.length (putL L xn yn) w'')) := fun w' hb => by
            have hK := hC.out.next hb
            have h := rput_any (L := L) (a := xn) (b := yn) (by rw [hL]; exact hK.p) (by omega) (by omega) (by omega)
            rw [hL] at h
            refine h.mono ?_
            rintro e w'' ⟨rfl, h2, h3⟩
            exact ⟨_, rfl, hK.put (by rw [putL_len]; exact hL) h2 h3⟩
          have hcl2 : Hid (Clo g.nodes ((ps.take (j + 1)).map natP) (putL L xn yn) ∧ ∀ p ∈ (ps.take (j + 1)).map natP, (putL L xn yn).getD p.1 0 = (putL L xn yn).getD p.2 0) := by
            rw [htk.out]
            exact clo_pair hcl.out.1 hcl.out.2 (HPn.out j) (a := xn) (b := yn) (by omega) (by omega)
          clear hpc hq hcl htk hL
          go_wp2
          go_still_tail 11, (by kernel_rfl)
          change wpList _ _ _ _ _ wr.drew
          go_wp2_with (go_at_call 50; go_must (refine (hcp.out _ ((Below.refl _ _).drew)).mono ?_; rintro e w2 ⟨bb, rfl, hC2⟩))
          go_roundw
          case rel => exact ⟨j + 1, _, by omega, by go_num, hC2, hcl2⟩
          case measure => simp [intOf]; omega
        · obtain rfl : j = ps.length := by omega
          rw [List.take_length] at hcl
          have HPa := hid (HPn.out ps.length)
          rw [List.take_length] at HPa
          have hst0 : Hid ((true : Bool) = false → ∀ i j, i < j → j < g.nodes.length → stab g.nodes L i j) := fun e => (by cases e)
          have hgk0 : Hid (clN L g.nodes.length + 1 ≤ clN L g.nodes.length + 1) := Nat.le_refl _
          clear hlt hj HPn
          go_wp2
          go_loopg [10] (clN L g.nodes.length + 1) (fun gk s wr => ∃ (mo : Bool) (M : List Nat), s = .bool mo ∧ Hid (clN M g.nodes.length + (if mo = true then 1 else 0) ≤ gk) ∧ Hid (Kc W (.slice na g.nodes.length nc) (.slice ra g.roots.length rc) g.nodes.length M wr) ∧ Hid (Clo g.nodes (ps.map natP) M ∧ ∀ p ∈ ps.map natP, M.getD p.1 0 = M.getD p.2 0) ∧ Hid (mo = false → ∀ i j, i < j → j < g.nodes.length → stab g.nodes M i j))
          case atStart => exact ⟨true, L, rfl, hgk0, hC, hcl, hst0⟩
          case round =>
            clear hst0 hgk0 hC hcl
            obtain ⟨mo, M, rfl, hgk, hC, hcl, hst⟩ := hrel
            cases mo with
            | false =>
              go_wp2
              go_ret2
              exact ⟨Or.inl ⟨rfl, M, hC.out.p, hcl.out.1, hcl.out.2, hst.out trivial⟩, hC.out.b⟩
            | true =>
              have hPa0 : Hid (Pass g.nodes (ps.map natP) M M false (fun a b => a < 0)) := ⟨hcl.out.1, hcl.out.2, fun e => (by cases e), fun _ => rfl, fun _ _ _ h => absurd h (Nat.not_lt_zero _)⟩
              clear hst hcl
              go_wp2
              obtain ⟨w3, rfl⟩ : ∃ w3 : World, w3 = wr := ⟨_, rfl⟩
              go_loopw [10, 11] (fun s i wr => ∃ (mo : Bool) (n : Nat) (L : List Nat), n ≤ g.nodes.length ∧ i = .int .i64 (n : Int) ∧ s = .bool mo ∧ Hid (Kc W (.slice na g.nodes.length nc) (.slice ra g.roots.length rc) g.nodes.length L wr) ∧ Hid (Pass g.nodes (ps.map natP) M L mo (fun a b => a < n))) (fun _ i _ => g.nodes.length - (intOf i).toNat)
              case atStart => exact ⟨false, 0, M, Nat.zero_le _, rfl, rfl, hC, hPa0⟩
              case round =>
                clear hC hPa0
                obtain ⟨mo, n, L, hn, rfl, rfl, hC, hPa⟩ := hrel
                by_cases hnl : n < g.nodes.length
                · have hni : (n : Int) < (g.nodes.length : Int) := by omega
                  have hPb : Hid (Pass g.nodes (ps.map natP) M L mo (fun a b => a < n ∨ (a = n ∧ b < n + 1))) := hPa.out.more (fun e a b h h1 h2 => by
                    rcases h with h | ⟨h, h3⟩
                    · exact hPa.out.done e a b h h1 h2
                    · omega)
                  clear hPa
                  go_wp2
                  obtain ⟨w4, rfl⟩ : ∃ w4 : World, w4 = wr := ⟨_, rfl⟩
                  go_loopw [10, 12] (fun s i wr => ∃ (mo : Bool) (m : Nat) (L : List Nat), n < m ∧ m ≤ g.nodes.length ∧ i = .int .i64 (m : Int) ∧ s = .bool mo ∧ Hid (Kc W (.slice na g.nodes.length nc) (.slice ra g.roots.length rc) g.nodes.length L wr) ∧ Hid (Pass g.nodes (ps.map natP) M L mo (fun a b => a < n ∨ (a = n ∧ b < m)))) (fun _ i _ => g.nodes.length - (intOf i).toNat)
                  case atStart => exact ⟨mo, n + 1, L, by omega, by omega, by go_num, rfl, hC, hPb⟩
                  case round =>
                    clear hC hPb
                    obtain ⟨mo, m, L, hnm, hm, rfl, rfl, hC, hPa⟩ := hrel
                    by_cases hml : m < g.nodes.length
                    · have hmi : (m : Int) < (g.nodes.length : Int) := by omega
                      obtain ⟨⟨b0, b1⟩, b2⟩ := hC.out.box
                      obtain ⟨nb, no, aa, ac, hna, ⟨x0, x1, x2, x3⟩, hra⟩ := nd_at HG.out hC.out.b hnl
                      obtain ⟨nb', no', ba, bc, hna', ⟨y0, y1, y2, y3⟩, hrb⟩ := nd_at HG.out hC.out.b hml
                      rw [hna] at hna'
                      injection hna' with hna'
                      injection hna' with e1 e2
                      subst e1 e2 hna
                      have zx := lt_of_cell x0
                      obtain ⟨d0, d1⟩ := hC.out.cell hnl
                      obtain ⟨f0, f1⟩ := hC.out.cell hml
                      have zd := lt_of_cell d0
                      have hskip : Hid ((¬ L.getD n 0 = L.getD m 0 ∨ (ndN g.nodes n).kind = 1 ∨ (ndN g.nodes m).kind = 1) → Pass g.nodes (ps.map natP) M L mo (fun a b => a < n ∨ (a = n ∧ b < m + 1))) := fun hs => hPa.out.more (fun e a b h h1 h2 => by
                        rcases h with h | ⟨h, h3⟩
                        · exact hPa.out.done e a b (Or.inl h) h1 h2
                        · by_cases h4 : b < m
                          · exact hPa.out.done e a b (Or.inr ⟨h, h4⟩) h1 h2
                          · obtain rfl : b = m := by omega
                            subst h
                            intro g1 g2 g3
                            rcases hs with hs | hs | hs
                            · exact absurd g1 hs
                            · exact absurd hs g2
                            · exact absurd hs g3)
                      have hbx : Hid (∀ o1 o2 : Obj, Below wr.heap.size wr ((wr.alloc o1).alloc o2)) := fun o1 o2 => (below_alloc wr o1).alloc (by simp) o2
                      by_cases hcl : L.getD n 0 = L.getD m 0
                      · have hcl' : (((L.getD n 0 : Nat) : Int) != ((L.getD m 0 : Nat) : Int)) = false := by rw [hcl]; simp
                        rw [← hcl] at f0
                        by_cases hkn : (ndN g.nodes n).kind = 1
                        · have hPb := hid (hskip.out (Or.inr (Or.inl hkn)))
                          rw [hkn] at x0
                          clear hskip hPa hra hrb hcl hkn hcl'
                          generalize ndN g.nodes n = A at *
                          generalize ndN g.nodes m = B at *
                          generalize L.getD n 0 = ln at *
                          clear d1 f1
                          go_wp2
                          go_quiet (fail)
                          go_wp2
                          go_roundw
                          case rel => exact ⟨mo, m + 1, L, by omega, by omega, by go_num, rfl, hid ((hC.out.next (hbx.out _ _)).next (below_drewN (Below.refl _ _) _)), hPb⟩
                          case measure => simp [intOf]; omega
                        · have hkn' : ((ndN g.nodes n).kind == 1) = false := beq_eq_false_iff_ne.2 hkn
                          by_cases hkm : (ndN g.nodes m).kind = 1
                          · have hPb := hid (hskip.out (Or.inr (Or.inr hkm)))
                            rw [hkm] at y0
                            clear hskip hPa hra hrb hcl hkm hcl' hkn
                            generalize ndN g.nodes n = A at *
                            generalize ndN g.nodes m = B at *
                            generalize L.getD n 0 = ln at *
                            clear d1 f1
                            go_wp2
                            go_quiet (fail)
                            go_wp2
                            go_roundw
                            case rel => exact ⟨mo, m + 1, L, by omega, by omega, by go_num, rfl, hid ((hC.out.next (hbx.out _ _)).next (below_drewN (Below.refl _ _) _)), hPb⟩
                            case measure => simp [intOf]; omega
                          · have hkm' : ((ndN g.nodes m).kind == 1) = false := beq_eq_false_iff_ne.2 hkm
                            by_cases hlb : labS (ndN g.nodes n) (ndN g.nodes m)
                            · have hbd := hid ((below_alloc wr (.cells #[.int .i64 (ndN g.nodes n).kind, .string (ndN g.nodes n).name, .int .i64 (ndN g.nodes n).num, .slice aa (ndN g.nodes n).args.length ac] 56)).alloc (by simp) (.cells #[.int .i64 (ndN g.nodes m).kind, .string (ndN g.nodes m).name, .int .i64 (ndN g.nodes m).num, .slice ba (ndN g.nodes m).args.length bc] 56))
                              have hargs := hid (fun k (hk : k < (ndN g.nodes n).args.length) => HA.out.arg n hnl k hk)
                              have hargs2 := hid (fun k (hk : k < (ndN g.nodes m).args.length) => HA.out.arg m hml k hk)
                              have hfew := HA.out.few n
                              have Hra := hid hra
                              have Hrb := hid hrb
                              obtain ⟨l1, l2, l3, l4⟩ := hlb
                              have hlb2 := hid (And.intro l1 (And.intro l2 (And.intro l3 l4)))
                              have hfin : Hid (∀ (mo' : Bool) (L' : List Nat), Pass g.nodes (ps.map natP) M L' mo' (fun a b => a < n ∨ (a = n ∧ b < m)) → (mo' = false → ∀ k, k < (ndN g.nodes n).args.length → L'.getD (argN g.nodes n k) 0 = L'.getD (argN g.nodes m k) 0) → Pass g.nodes (ps.map natP) M L' mo' (fun a b => a < n ∨ (a = n ∧ b < m + 1))) := fun mo' L' hp hk => hp.more (fun e a b h h1 h2 => by
                                rcases h with h | ⟨h, h3⟩
                                · exact hp.done e a b (Or.inl h) h1 h2
                                · by_cases h4 : b < m
                                  · exact hp.done e a b (Or.inr ⟨h, h4⟩) h1 h2
                                  · obtain rfl : b = m := by omega
                                    subst h
                                    exact fun _ _ _ => ⟨hlb2.out, hk e⟩)
                              have hpt : Hid (∀ (mo' : Bool) (L' : List Nat) (k : Nat), Pass g.nodes (ps.map natP) M L' mo' (fun a b => a < n ∨ (a = n ∧ b < m)) → L'.getD n 0 = L'.getD m 0 → k < (ndN g.nodes n).args.length → (mo' = false → ∀ i, i < k → L'.getD (argN g.nodes n i) 0 = L'.getD (argN g.nodes m i) 0) → Pass g.nodes (ps.map natP) M (putL L' (argN g.nodes n k) (argN g.nodes m k)) (mo' || decide (L'.getD (argN g.nodes n k) 0 ≠ L'.getD (argN g.nodes m k) 0)) (fun a b => a < n ∨ (a = n ∧ b < m)) ∧ (putL L' (argN g.nodes n k) (argN g.nodes m k)).getD n 0 = (putL L' (argN g.nodes n k) (argN g.nodes m k)).getD m 0 ∧ ((mo' || decide (L'.getD (argN g.nodes n k) 0 ≠ L'.getD (argN g.nodes m k) 0)) = false → ∀ i, i < k + 1 → (putL L' (argN g.nodes n k) (argN g.nodes m k)).getD (argN g.nodes n i) 0 = (putL L' (argN g.nodes n k) (argN g.nodes m k)).getD (argN g.nodes m i) 0)) := fun mo' L' k hp he hk hb => by
                                have hl := hp.clo.len
                                refine ⟨hp.put HPa.out (hargs.out k hk).2 (hargs2.out k (by rw [← l4]; exact hk)).2 (hp.clo.arg hnl hml he hkn hkm hk), putL_keep (by omega) (by omega) he, fun e i hi => ?_⟩
                                rw [Bool.or_eq_false_iff, decide_eq_false_iff_not, Decidable.not_not] at e
                                rw [putL_eq e.2]
                                by_cases h : i = k
                                · subst h; exact e.2
                                · exact hb e.1 i (by omega)
                              have hPc := hid hPa.out
                              have hcl5 := hid hcl
                              rw [← l1] at y0 hkm'
                              rw [← l2] at y1
                              rw [← l3] at y2
                              rw [← l4] at y3 Hrb
                              have hargs3 : Hid (∀ k, k < (ndN g.nodes n).args.length → (ndN g.nodes n).args.getD k 0 = ((argN g.nodes n k : Nat) : Int) ∧ (ndN g.nodes m).args.getD k 0 = ((argN g.nodes m k : Nat) : Int) ∧ argN g.nodes n k < g.nodes.length ∧ argN g.nodes m k < g.nodes.length) := fun k hk => by
                                have h1 := hargs.out k hk
                                have h2 := hargs2.out k (by rw [← l4]; exact hk)
                                refine ⟨?_, ?_, h1.2, h2.2⟩
                                · unfold argN; omega
                                · unfold argN; omega
                              have Hl4 := hid l4
                              clear hskip hPa hra hrb hcl hcl' hkn hkm l1 l2 l3 l4 hbd hargs hargs2 hlb2 d1 f1
                              generalize (ndN g.nodes n).kind = ka at *
                              generalize (ndN g.nodes n).name = sa at *
                              generalize (ndN g.nodes n).num = ua at *
                              have hC5 : Hid (∀ nq, Kc W (.slice (some ⟨nb, no, none⟩) g.nodes.length nc) (.slice ra g.roots.length rc) g.nodes.length L (((wr.alloc (.cells #[.int .i64 ka, .string sa, .int .i64 ua, .slice aa (ndN g.nodes n).args.length ac] 56)).alloc (.cells #[.int .i64 ka, .string sa, .int .i64 ua, .slice ba (ndN g.nodes n).args.length bc] 56)).drewN nq) ∧ (((wr.alloc (.cells #[.int .i64 ka, .string sa, .int .i64 ua, .slice aa (ndN g.nodes n).args.length ac] 56)).alloc (.cells #[.int .i64 ka, .string sa, .int .i64 ua, .slice ba (ndN g.nodes n).args.length bc] 56)).drewN nq).heap[wr.heap.size]? = some (.cells #[.int .i64 ka, .string sa, .int .i64 ua, .slice aa (ndN g.nodes n).args.length ac] 56) ∧ (((wr.alloc (.cells #[.int .i64 ka, .string sa, .int .i64 ua, .slice aa (ndN g.nodes n).args.length ac] 56)).alloc (.cells #[.int .i64 ka, .string sa, .int .i64 ua, .slice ba (ndN g.nodes n).args.length bc] 56)).drewN nq).heap[wr.heap.size + 1]? = some (.cells #[.int .i64 ka, .string sa, .int .i64 ua, .slice ba (ndN g.nodes n).args.length bc] 56)) := fun nq => ⟨(hC.out.next (hbx.out (.cells #[.int .i64 ka, .string sa, .int .i64 ua, .slice aa (ndN g.nodes n).args.length ac] 56) (.cells #[.int .i64 ka, .string sa, .int .i64 ua, .slice ba (ndN g.nodes n).args.length bc] 56))).next (below_drewN (Below.refl _ _) _), (Below.heap_alloc _ _ _ (by simp)).trans (heap_alloc_new wr _), by
                                have h9 := heap_alloc_new (wr.alloc (.cells #[.int .i64 ka, .string sa, .int .i64 ua, .slice aa (ndN g.nodes n).args.length ac] 56)) (.cells #[.int .i64 ka, .string sa, .int .i64 ua, .slice ba (ndN g.nodes n).args.length bc] 56)
                                rw [show (wr.alloc (.cells #[.int .i64 ka, .string sa, .int .i64 ua, .slice aa (ndN g.nodes n).args.length ac] 56)).heap.size = wr.heap.size + 1 by simp] at h9
                                exact h9⟩
                              have hlow : Hid (W.heap.size + 1 < wr.heap.size) := show _ < _ from (hC.out.p.lt (W.heap.size + 1) rfl).2
                              generalize L.getD n 0 = ln at d0 f0
                              clear hC
                              go_wp2
                              go_quiet (fail)
                              go_wp2
                              obtain ⟨w5, rfl⟩ : ∃ w5 : World, w5 = wr := ⟨_, rfl⟩
                              clear d0 f0 zd x0 x1 x2 x3 y0 y1 y2 y3 zx b0 b1 b2 hkn' hkm'
                              go_loopw [10, 15] (fun s i wr => ∃ (mo : Bool) (k : Nat) (L : List Nat), k ≤ (ndN g.nodes n).args.length ∧ i = .int .i64 (k : Int) ∧ s = .bool mo ∧ Hid (Kc W (.slice (some ⟨nb, no, none⟩) g.nodes.length nc) (.slice ra g.roots.length rc) g.nodes.length L wr ∧ wr.heap[w5.heap.size]? = some (.cells #[.int .i64 ka, .string sa, .int .i64 ua, .slice aa (ndN g.nodes n).args.length ac] 56) ∧ wr.heap[w5.heap.size + 1]? = some (.cells #[.int .i64 ka, .string sa, .int .i64 ua, .slice ba (ndN g.nodes n).args.length bc] 56)) ∧ Hid (Pass g.nodes (ps.map natP) M L mo (fun a b => a < n ∨ (a = n ∧ b < m))) ∧ Hid (L.getD n 0 = L.getD m 0) ∧ Hid (mo = false → ∀ i, i < k → L.getD (argN g.nodes n i) 0 = L.getD (argN g.nodes m i) 0)) (fun _ i _ => (ndN g.nodes n).args.length - (intOf i).toNat)
                              case atStart => exact ⟨mo, 0, L, Nat.zero_le _, rfl, rfl, hid (hC5.out _), hPc, hcl5, hid (fun _ i hi => absurd hi (Nat.not_lt_zero _))⟩
                              case round =>
                                clear hC5 hPc hcl5
                                obtain ⟨mo, k, L, hk, rfl, rfl, hC, hPc, hcl5, hki⟩ := hrel
                                obtain ⟨⟨x0, x1, x2, x3⟩, _⟩ := nblk hC.out.2.1
                                obtain ⟨⟨y0, y1, y2, y3⟩, _⟩ := nblk hC.out.2.2
                                have zx := lt_of_block hC.out.2.1
                                have zy := lt_of_block hC.out.2.2
                                by_cases hkl : k < (ndN g.nodes n).args.length
                                · have hkI : (k : Int) < ((ndN g.nodes n).args.length : Int) := by omega
                                  obtain ⟨ab, af, haa, a0⟩ := (Hra.out.below hC.out.1.b).at hkl
                                  obtain ⟨bb, bf, hba, b0⟩ := (Hrb.out.below hC.out.1.b).at (j := k) (by rw [← Hl4.out]; exact hkl)
                                  subst haa hba
                                  obtain ⟨e1, e2, r1, r2⟩ := hargs3.out k hkl
                                  rw [e1] at a0
                                  rw [e2] at b0
                                  have za := lt_of_cell a0
                                  have zb := lt_of_cell b0
                                  obtain ⟨q1, q2, q3⟩ := hpt.out mo L k hPc.out hcl5.out hkl hki.out
                                  have hL := hC.out.1.l
                                  have hcp : Hid (∀ w', Below wr.heap.size wr w' → Calls Try.prog 50 #[.slice (some ⟨W.heap.size + 1, 0, none⟩) g.nodes.length g.nodes.length, .int .i64 ((argN g.nodes n k : Nat) : Int), .int .i64 ((argN g.nodes m k : Nat) : Int)] w' fun e w'' => e = .returned (.bool (decide (L.getD (argN g.nodes n k) 0 ≠ L.getD (argN g.nodes m k) 0))) ∧ Hid (Kc W (.slice (some ⟨nb, no, none⟩) g.nodes.length nc) (.slice ra g.roots.length rc) g.nodes.length (putL L (argN g.nodes n k) (argN g.nodes m k)) w'' ∧ w''.heap[w5.heap.size]? = some (.cells #[.int .i64 ka, .string sa, .int .i64 ua, .slice (some ⟨ab, af, none⟩) (ndN g.nodes n).args.length ac] 56) ∧ w''.heap[w5.heap.size + 1]? = some (.cells #[.int .i64 ka, .string sa, .int .i64 ua, .slice (some ⟨bb, bf, none⟩) (ndN g.nodes n).args.length bc] 56))) := fun w' hb => by
                                    have hK := hC.out.1.next hb
                                    have h := rput_any (L := L) (a := argN g.nodes n k) (b := argN g.nodes m k) (by rw [hL]; exact hK.p) (by omega) (by omega) (by omega)
                                    rw [hL] at h
                                    refine h.mono ?_
                                    rintro e w'' ⟨rfl, h2, h3⟩
                                    have hlw := hlow.out
                                    exact ⟨rfl, hK.put (by rw [putL_len]; exact hL) h2 h3, (h3.block _ (Nat.lt_of_lt_of_le zx hb.size) (by omega)).trans ((hb.block _ zx).trans hC.out.2.1), (h3.block _ (Nat.lt_of_lt_of_le zy hb.size) (by omega)).trans ((hb.block _ zy).trans hC.out.2.2)⟩
                                  have hq3 := hid q3
                                  have hq1 := hid q1
                                  have hq2 := hid q2
                                  clear q1 q2 q3 e1 e2 r1 r2 hL hPc hcl5 hki
                                  generalize decide (L.getD (argN g.nodes n k) 0 ≠ L.getD (argN g.nodes m k) 0) = dd at *
                                  generalize argN g.nodes n k = xn at a0 hcp hq1 hq2 hq3
                                  generalize argN g.nodes m k = yn at b0 hcp hq1 hq2 hq3
                                  cases dd with
                                  | true =>
                                    rw [Bool.or_true] at hq1 hq3
                                    go_wp2
                                    go_still_tail 11, (by kernel_rfl)
                                    change wpList _ _ _ _ _ wr.drew
                                    go_wp2_with (go_at_call 50; go_must (refine (hcp.out _ ((Below.refl _ _).drew)).mono ?_; rintro e w7 ⟨rfl, hC7⟩))
                                    go_roundw
                                    case rel => exact ⟨true, k + 1, _, by omega, by go_num, rfl, hC7, hq1, hq2, hq3⟩
                                    case measure => simp [intOf]; omega
                                  | false =>
                                    rw [Bool.or_false] at hq1 hq3
                                    go_wp2
                                    go_still_tail 11, (by kernel_rfl)
                                    change wpList _ _ _ _ _ wr.drew
                                    go_wp2_with (go_at_call 50; go_must (refine (hcp.out _ ((Below.refl _ _).drew)).mono ?_; rintro e w7 ⟨rfl, hC7⟩))
                                    go_roundw
                                    case rel => exact ⟨mo, k + 1, _, by omega, by go_num, rfl, hC7, hq1, hq2, hq3⟩
                                    case measure => simp [intOf]; omega
                                · obtain rfl : k = (ndN g.nodes n).args.length := by omega
                                  have hPd := hid (hfin.out mo L hPc.out hki.out)
                                  go_wp2
                                  exact ⟨⟨mo, m + 1, L, by omega, by omega, by go_num, rfl, hC.out.1, hPd⟩, by simp [intOf]; omega⟩
                            · have hno := hid (hPa.out.clo.fail hnl hml hcl hkn hkm hlb)
                              have hlb' : (ndN g.nodes n).kind ≠ (ndN g.nodes m).kind ∨ ((ndN g.nodes n).kind = (ndN g.nodes m).kind ∧ (ndN g.nodes n).name ≠ (ndN g.nodes m).name) ∨ ((ndN g.nodes n).kind = (ndN g.nodes m).kind ∧ (ndN g.nodes n).name = (ndN g.nodes m).name ∧ (ndN g.nodes n).num ≠ (ndN g.nodes m).num) ∨ ((ndN g.nodes n).kind = (ndN g.nodes m).kind ∧ (ndN g.nodes n).name = (ndN g.nodes m).name ∧ (ndN g.nodes n).num = (ndN g.nodes m).num ∧ (ndN g.nodes n).args.length ≠ (ndN g.nodes m).args.length) := by
                                unfold labS at hlb
                                by_cases h1 : (ndN g.nodes n).kind = (ndN g.nodes m).kind
                                · by_cases h2 : (ndN g.nodes n).name = (ndN g.nodes m).name
                                  · by_cases h3 : (ndN g.nodes n).num = (ndN g.nodes m).num
                                    · exact Or.inr (Or.inr (Or.inr ⟨h1, h2, h3, fun h4 => hlb ⟨h1, h2, h3, h4⟩⟩))
                                    · exact Or.inr (Or.inr (Or.inl ⟨h1, h2, h3⟩))
                                  · exact Or.inr (Or.inl ⟨h1, h2⟩)
                                · exact Or.inl h1
                              clear hskip hPa hra hrb hcl hcl' hlb
                              generalize ndN g.nodes n = A at *
                              generalize ndN g.nodes m = B at *
                              generalize L.getD n 0 = ln at *
                              clear d1 f1 hkn hkm
                              obtain ⟨ka, sa, ua, la⟩ := A
                              obtain ⟨kb, sb, ub, lb⟩ := B
                              dsimp only at x0 x1 x2 x3 y0 y1 y2 y3 hkn' hkm' hlb'
                              rcases hlb' with h1 | ⟨h1, h2⟩ | ⟨h1, h2, h3⟩ | ⟨h1, h2, h3, h4⟩
                              · have h1' : (ka != kb) = true := bne_iff_ne.2 h1
                                go_wp2
                                go_quiet (fail)
                                go_wp2
                                go_ret2
                                exact ⟨Or.inr ⟨rfl, hno.out⟩, ((hC.out.next (hbx.out _ _)).next (below_drewN (Below.refl _ _) _)).b⟩
                              · subst h1
                                have h2' : ¬ sa.toList = sb.toList := fun h => h2 (str_eq h)
                                go_wp2
                                go_quiet (fail)
                                go_wp2
                                go_ret2
                                exact ⟨Or.inr ⟨rfl, hno.out⟩, ((hC.out.next (hbx.out _ _)).next (below_drewN (Below.refl _ _) _)).b⟩
                              · subst h1 h2
                                have h3' : (ua != ub) = true := bne_iff_ne.2 h3
                                go_wp2
                                go_quiet (fail)
                                go_wp2
                                go_ret2
                                exact ⟨Or.inr ⟨rfl, hno.out⟩, ((hC.out.next (hbx.out _ _)).next (below_drewN (Below.refl _ _) _)).b⟩
                              · subst h1 h2 h3
                                have h4' : ((la.length : Int) != (lb.length : Int)) = true := bne_iff_ne.2 (by omega)
                                go_wp2
                                go_quiet (fail)
                                go_wp2
                                go_ret2
                                exact ⟨Or.inr ⟨rfl, hno.out⟩, ((hC.out.next (hbx.out _ _)).next (below_drewN (Below.refl _ _) _)).b⟩
                      · have hcl' : (((L.getD n 0 : Nat) : Int) != ((L.getD m 0 : Nat) : Int)) = true := bne_iff_ne.2 (by omega)
                        have hPb := hid (hskip.out (Or.inl hcl))
                        clear hskip hPa hra hrb
                        generalize ndN g.nodes n = A at *
                        generalize ndN g.nodes m = B at *
                        generalize L.getD n 0 = ln at *
                        generalize L.getD m 0 = lm at *
                        clear d1 f1
                        go_wp2
                        go_quiet (fail)
                        go_wp2
                        go_roundw
                        case rel => exact ⟨mo, m + 1, L, by omega, by omega, by go_num, rfl, hid ((hC.out.next (hbx.out _ _)).next (below_drewN (Below.refl _ _) _)), hPb⟩
                        case measure => simp [intOf]; omega
                    · obtain rfl : m = g.nodes.length := by omega
                      have hPd : Hid (Pass g.nodes (ps.map natP) M L mo (fun a b => a < n + 1)) := hPa.out.more (fun e a b h h1 h2 => hPa.out.done e a b (by omega) h1 h2)
                      go_wp2
                      exact ⟨⟨mo, n + 1, L, by omega, by go_num, rfl, hC, hPd⟩, by simp [intOf]; omega⟩
                · obtain rfl : n = g.nodes.length := by omega
                  go_wp2
                  go_roundg (clN L g.nodes.length + if mo = true then 1 else 0)
                  case measure =>
                    have h1 := hgk.out
                    have h2 := hPa.out.le
                    cases mo with
                    | true => have h3 := hPa.out.chg rfl; simp at h1 ⊢; omega
                    | false => simp at h1 ⊢; omega
                  case rel => exact ⟨mo, L, rfl, Nat.le_refl _, hC, ⟨hPa.out.clo, hPa.out.prs⟩, fun e i j h1 h2 => hPa.out.done e i j (by omega) h1 h2⟩
end Go.Proofs.Ytllafbghomohhaa

/- Pairs of nodes struck out, again and again: what is left is the greatest bisimulation. No program stands in it. -/
namespace Go.Proofs.Ytllafbghomohhaa
open Go.RowKit

/-- A square of answers. -/
abbrev Sqr := Nat → Nat → Bool
/-- How many of a row are true. -/
def cntR (p : Nat → Bool) : Nat → Nat
  | 0 => 0
  | n + 1 => cntR p n + (if p n = true then 1 else 0)
/-- How many of a square are true. -/
def cntS (s : Sqr) (N : Nat) : Nat → Nat
  | 0 => 0
  | n + 1 => cntS s N n + cntR (s n) N
def strike (s : Sqr) (i j : Nat) : Sqr := fun a b => if a = i ∧ b = j then false else s a b
theorem cntR_congr {p q : Nat → Bool} : ∀ {n : Nat}, (∀ x, x < n → p x = q x) → cntR p n = cntR q n
  | 0, _ => rfl
  | n + 1, h => by rw [cntR, cntR, cntR_congr (fun x hx => h x (by omega)), h n (by omega)]
theorem cntR_set {p q : Nat → Bool} {j : Nat} (hj : q j = false) (h : ∀ x, x ≠ j → q x = p x) : ∀ {n : Nat}, cntR q n + (if j < n ∧ p j = true then 1 else 0) = cntR p n
  | 0 => by simp [cntR]
  | n + 1 => by
    have ih := cntR_set hj h (n := n)
    rw [cntR, cntR]
    by_cases e : n = j
    · subst e
      rw [hj, ← cntR_congr (p := q) (q := p) (fun x hx => h x (by omega))]
      simp
    · rw [h n e]
      have e2 : (j < n + 1 ∧ p j = true) ↔ (j < n ∧ p j = true) := by constructor <;> (rintro ⟨a, b⟩; exact ⟨by omega, b⟩)
      simp only [e2]
      omega
theorem cntS_strike {s : Sqr} {N i j : Nat} (hj : j < N) : ∀ {n : Nat}, cntS (strike s i j) N n + (if i < n ∧ s i j = true then 1 else 0) = cntS s N n
  | 0 => by simp [cntS]
  | n + 1 => by
    have ih := cntS_strike (s := s) (i := i) hj (n := n)
    rw [cntS, cntS]
    by_cases e : n = i
    · subst e
      have h1 := cntR_set (p := s n) (q := strike s n j n) (j := j) (by simp [strike]) (fun x hx => by simp [strike, hx]) (n := N)
      have h2 : ¬ (n < n ∧ s n j = true) := by omega
      rw [if_neg h2] at ih
      have e3 : (n < n + 1 ∧ s n j = true) ↔ (j < N ∧ s n j = true) := by constructor <;> (rintro ⟨_, b⟩; exact ⟨by omega, b⟩)
      simp only [e3]
      omega
    · have h1 : cntR (strike s i j n) N = cntR (s n) N := cntR_congr (fun x _ => by simp [strike, e])
      have e2 : (i < n + 1 ∧ s i j = true) ↔ (i < n ∧ s i j = true) := by constructor <;> (rintro ⟨a, b⟩; exact ⟨by omega, b⟩)
      rw [h1]
      simp only [e2]
      omega
theorem cntS_le {s : Sqr} {N i j : Nat} (hi : i < N) (hj : j < N) : cntS (strike s i j) N N ≤ cntS s N N ∧ (s i j = true → cntS (strike s i j) N N < cntS s N N) := by
  have h := cntS_strike (s := s) (i := i) hj (n := N)
  refine ⟨by omega, fun e => ?_⟩
  rw [if_pos ⟨hi, e⟩] at h
  omega
/-- The node at a place of another. -/
def argPN (g : Gf) (i k : Nat) : Nat := (g.arg (i : Int) k).toNat
/-- How many arguments. -/
def arN (g : Gf) (i : Nat) : Nat := (g.nd (i : Int)).args.length
theorem argPN_lt {g : Gf} (hg : Good g) {i k : Nat} (hi : i < g.nodes.length) (hk : k < arN g i) : argPN g i k < g.nodes.length ∧ (argPN g i k : Int) = g.arg (i : Int) k := by
  have h := arg_isN hg (x := (i : Int)) ⟨by omega, by omega⟩ hk
  unfold isN at h
  unfold argPN
  omega
/-- What holds all the while. -/
structure Pin (g : Gf) (s : Sqr) : Prop where
  lab : ∀ i j, i < g.nodes.length → j < g.nodes.length → s i j = true → labE g (i : Int) (j : Int)
  al : ∀ i j, i < g.nodes.length → j < g.nodes.length → Al g (i : Int) (j : Int) → s i j = true
theorem Pin.start {g : Gf} {s : Sqr} (h : ∀ i j, i < g.nodes.length → j < g.nodes.length → (s i j = true ↔ labE g (i : Int) (j : Int))) : Pin g s :=
  ⟨fun i j hi hj e => (h i j hi hj).1 e, fun i j hi hj e => (h i j hi hj).2 (al_sim g _ _ e).2.2.1⟩
theorem Pin.strike {g : Gf} (hg : Good g) {s : Sqr} (h : Pin g s) {i j k : Nat} (hi : i < g.nodes.length) (hj : j < g.nodes.length) (hk : k < arN g i) (hkj : k < arN g j) (hs : s (argPN g i k) (argPN g j k) = false) : Pin g (strike s i j) := by
  refine ⟨fun a b ha hb e => ?_, fun a b ha hb e => ?_⟩
  · unfold Go.Proofs.Ytllafbghomohhaa.strike at e
    split at e
    · cases e
    · exact h.lab a b ha hb e
  · unfold Go.Proofs.Ytllafbghomohhaa.strike
    split
    · rename_i h0
      obtain ⟨rfl, rfl⟩ := h0
      obtain ⟨a1, a2⟩ := argPN_lt hg hi hk
      obtain ⟨b1, b2⟩ := argPN_lt hg hj hkj
      have h1 := (al_sim g _ _ e).2.2.2 k hk
      rw [← a2, ← b2] at h1
      rw [h.al _ _ a1 b1 h1] at hs
      cases hs
    · exact h.al a b ha hb e
/-- Nothing is to be struck at a pair. -/
def Dn (g : Gf) (s : Sqr) (i j : Nat) : Prop := s i j = true → ∀ k, k < arN g i → s (argPN g i k) (argPN g j k) = true
theorem Pin.last {g : Gf} (hg : Good g) {s : Sqr} (h : Pin g s) (hd : ∀ i j, i < g.nodes.length → j < g.nodes.length → Dn g s i j) {i j : Nat} (hi : i < g.nodes.length) (hj : j < g.nodes.length) : s i j = true ↔ Al g (i : Int) (j : Int) := by
  refine ⟨fun e => ⟨fun x y => isN g x ∧ isN g y ∧ s x.toNat y.toNat = true, fun x y hxy => ?_, ⟨by unfold isN; omega, by unfold isN; omega, by simpa using e⟩⟩, h.al i j hi hj⟩
  obtain ⟨hx, hy, hs⟩ := hxy
  have hx' := hx
  have hy' := hy
  unfold isN at hx' hy'
  obtain ⟨a, rfl⟩ : ∃ a : Nat, x = (a : Int) := ⟨x.toNat, by omega⟩
  obtain ⟨b, rfl⟩ : ∃ b : Nat, y = (b : Int) := ⟨y.toNat, by omega⟩
  have hl := h.lab a b (by omega) (by omega) (by simpa using hs)
  refine ⟨hx, hy, hl, fun k hk => ⟨arg_isN hg hx hk, arg_isN hg hy (by have := hl.2.2.2.1; omega), ?_⟩⟩
  exact hd a b (by omega) (by omega) (by simpa using hs) k hk
/-- One round: where it stands, from which square it came. -/
structure Rod (g : Gf) (s0 s : Sqr) (more : Bool) (i j : Nat) : Prop where
  pin : Pin g s
  le : cntS s g.nodes.length g.nodes.length ≤ cntS s0 g.nodes.length g.nodes.length
  lt : more = true → cntS s g.nodes.length g.nodes.length < cntS s0 g.nodes.length g.nodes.length
  done : more = false → ∀ a b, a < g.nodes.length → b < g.nodes.length → (a < i ∨ (a = i ∧ b < j)) → Dn g s a b
/-- Within a pair. -/
structure Rok (g : Gf) (s0 s : Sqr) (more : Bool) (i j k : Nat) : Prop where
  rod : Rod g s0 s more i j
  same : arN g i = arN g j
  true_ : more = false → s i j = true ∧ ∀ k', k' < k → s (argPN g i k') (argPN g j k') = true
theorem Rod.start {g : Gf} {s : Sqr} (h : Pin g s) : Rod g s s false 0 0 := ⟨h, Nat.le_refl _, fun e => (by cases e), fun _ a b _ _ e => by omega⟩
theorem Rod.skip {g : Gf} {s0 s : Sqr} {more : Bool} {i j : Nat} (h : Rod g s0 s more i j) (hs : s i j = false) : Rod g s0 s more i (j + 1) :=
  ⟨h.pin, h.le, h.lt, fun hm a b ha hb e => by
    by_cases e2 : a = i ∧ b = j
    · obtain ⟨rfl, rfl⟩ := e2
      intro h3
      rw [hs] at h3
      cases h3
    · exact h.done hm a b ha hb (by omega)⟩
theorem Rod.enter {g : Gf} {s0 s : Sqr} {more : Bool} {i j : Nat} (h : Rod g s0 s more i j) (hi : i < g.nodes.length) (hj : j < g.nodes.length) (hs : s i j = true) : Rok g s0 s more i j 0 :=
  ⟨h, (h.pin.lab i j hi hj hs).2.2.2.1, fun _ => ⟨hs, fun k' hk' => by omega⟩⟩
theorem Rok.ok {g : Gf} {s0 s : Sqr} {more : Bool} {i j k : Nat} (h : Rok g s0 s more i j k) (hs : s (argPN g i k) (argPN g j k) = true) : Rok g s0 s more i j (k + 1) :=
  ⟨h.rod, h.same, fun hm => ⟨(h.true_ hm).1, fun k' hk' => by
    by_cases e : k' = k
    · subst e
      exact hs
    · exact (h.true_ hm).2 k' (by omega)⟩⟩
theorem Rok.strike {g : Gf} (hg : Good g) {s0 s : Sqr} {more : Bool} {i j k : Nat} (h : Rok g s0 s more i j k) (hi : i < g.nodes.length) (hj : j < g.nodes.length) (hk : k < arN g i) (hs : s (argPN g i k) (argPN g j k) = false) :
    Rok g s0 (Go.Proofs.Ytllafbghomohhaa.strike s i j) true i j (k + 1) := by
  obtain ⟨c1, c2⟩ := cntS_le (s := s) hi hj
  refine ⟨⟨h.rod.pin.strike hg hi hj hk (by rw [← h.same]; exact hk) hs, Nat.le_trans c1 h.rod.le, fun _ => ?_, fun e => by cases e⟩, h.same, fun e => by cases e⟩
  cases hm : more with
  | true => exact Nat.lt_of_le_of_lt c1 (h.rod.lt hm)
  | false => exact Nat.lt_of_lt_of_le (c2 (h.true_ hm).1) h.rod.le
theorem Rok.leave {g : Gf} {s0 s : Sqr} {more : Bool} {i j : Nat} (h : Rok g s0 s more i j (arN g i)) : Rod g s0 s more i (j + 1) :=
  ⟨h.rod.pin, h.rod.le, h.rod.lt, fun hm a b ha hb e => by
    by_cases e2 : a = i ∧ b = j
    · obtain ⟨rfl, rfl⟩ := e2
      exact fun _ => (h.true_ hm).2
    · exact h.rod.done hm a b ha hb (by omega)⟩
theorem Rod.row {g : Gf} {s0 s : Sqr} {more : Bool} {i : Nat} (h : Rod g s0 s more i g.nodes.length) : Rod g s0 s more (i + 1) 0 :=
  ⟨h.pin, h.le, h.lt, fun hm a b ha hb e => h.done hm a b ha hb (by omega)⟩
theorem Rod.last {g : Gf} (hg : Good g) {s0 s : Sqr} (h : Rod g s0 s false g.nodes.length 0) {i j : Nat} (hi : i < g.nodes.length) (hj : j < g.nodes.length) : s i j = true ↔ Al g (i : Int) (j : Int) :=
  h.pin.last hg (fun a b ha hb => h.done rfl a b ha hb (by omega)) hi hj
end Go.Proofs.Ytllafbghomohhaa
