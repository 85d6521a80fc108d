/- NamesApart walked. -/
import Derived.Test.YtobimnfjfinphaaNmApart
namespace Go.Proofs.Ytobimnfjfinphaa
open Go.RowKit Go.Shelf

attribute [local go_sem] Oper.semAt_some

theorem undef_bool (b : Bool) : ¬ some undef = some (Value.bool b) := by
  intro h
  injection h with h
  cases h
set_option maxRecDepth 100000 in
set_option maxHeartbeats 1000000 in
theorem apart_long {W : World} (v1 : Value) (l1 : List ByteArray) (rs1 : Rs W v1 l1) (v2 : Value) (l2 : List ByteArray) (rs2 : Rs W v2 l2) (stop : Int) (hl : 400 < l1.length ∨ 400 < l2.length) :
    Calls Try.prog 6 #[v1, v2, .int .i64 stop] W fun e w' => e = .returned (.bool true) ∧ Below W.heap.size W w' := by
  obtain ⟨a1, c1, rfl⟩ := rs1.shape
  obtain ⟨a2, c2, rfl⟩ := rs2.shape
  by_cases h1 : 400 < l1.length
  · have hd1 : (400 : Int) < (l1.length : Int) := by omega
    go_enter Try.func6, Try.ntmps6
    go_wp2_with (go_at_call 8; refine (lives_any W).mono ?_; rintro e w0 ⟨rfl, hb0⟩)
    go_ret
    exact ⟨rfl, hb0⟩
  · have hd1 : decide ((400 : Int) < (l1.length : Int)) = false := by simp; omega
    have hd2 : (400 : Int) < (l2.length : Int) := by omega
    go_enter Try.func6, Try.ntmps6
    go_wp2_with (go_at_call 8; refine (lives_any W).mono ?_; rintro e w0 ⟨rfl, hb0⟩)
    go_ret
    exact ⟨rfl, hb0⟩
set_option maxRecDepth 100000 in
set_option maxHeartbeats 16000000 in
theorem apart_short {W : World} (v1 : Value) (l1 : List ByteArray) (rs1 : Rs W v1 l1) (zl1 : ∀ s ∈ l1, s.size ≤ 281474976710656) (v2 : Value) (l2 : List ByteArray) (rs2 : Rs W v2 l2) (zl2 : ∀ s ∈ l2, s.size ≤ 281474976710656) (stop : Int) (hst : -9223372036854775808 ≤ stop ∧ stop ≤ 9223372036854775807) (hl1 : l1.length ≤ 400) (hl2 : l2.length ≤ 400) :
    CallsIn Fence.wide 6 Try.prog 6 #[v1, v2, .int .i64 stop] W fun e w' => e = .returned (.bool true) ∧ Below W.heap.size W w' := by
  obtain ⟨a1, c1, rfl⟩ := rs1.shape
  obtain ⟨a2, c2, rfl⟩ := rs2.shape
  have hd1 : decide ((400 : Int) < (l1.length : Int)) = false := by simp; omega
  have hd2 : decide ((400 : Int) < (l2.length : Int)) = false := by simp; omega
  obtain ⟨i0, hi, hz0, hz1, hz2⟩ := info_parts infoS
  have hfn := func_nil
  have f0 : Fence.wide.fn 8 := trivial
  have f1 : Fence.wide.fn 11 := trivial
  have f2 : Fence.wide.fn 12 := trivial
  have f3 : Fence.wide.fn 15 := trivial
  have f4 : Fence.wide.fn 16 := trivial
  have f5 : Fence.wide.fn 19 := trivial
  have f6 : Fence.wide.fn 20 := trivial
  have f7 : Fence.wide.fn 21 := trivial
  have f8 : Fence.wide.fn 22 := trivial
  refine callsIn_of_wp_marks Try.func6 rfl trivial ?_ rfl
  simp only [Try.ntmps6, List.size_toArray, List.length_cons, List.length_nil, Nat.reduceAdd, Nat.reduceSub, Array.replicate_succ, Array.replicate_zero, List.push_toArray, List.append_toArray, List.nil_append, List.cons_append]
  gi_wp2_with (first
    | (gi_at_call 8; refine (callsIn_wide.2 (lives_any W)).mono ?_; rintro e w0 ⟨rfl, hb0⟩; have z0 := hb0.size)
    | (gi_at_call 11; refine (callsIn_wide.2 (new_any w0 W.heap.size z0)).mono ?_; rintro e w1 ⟨rfl, ht1, hb1⟩; have z1 := hb1.size; replace hb1 := hb0.trans (hb1.mono z0)))
  gi_loopw [43] (fun i wr => ∃ (k : Nat) (v : Value) (m : List ByteArray), k ≤ l1.length ∧ i = .int .i64 k ∧ m.length ≤ k ∧ Tb wr W.heap.size (w0.heap.size + 1) v w0.heap.size m ∧ Below W.heap.size W wr) (fun i _ => l1.length - (intOf i).toNat)
  case atStart => exact ⟨0, _, [], by omega, rfl, by simp, ht1, hb1⟩
  case round =>
    obtain ⟨k, v, m, hk, rfl, hmk, hT, hbr⟩ := hrel
    have zr := hbr.size
    by_cases hlt : k < l1.length
    · obtain ⟨rb, ro, rfl, hcell⟩ := rs_cell (rs1.below hbr) hlt
      obtain ⟨s, hs⟩ : ∃ s, s = l1.getD k ⟨#[]⟩ := ⟨_, rfl⟩
      have zs : s.size ≤ 281474976710656 := zl1 s (by rw [hs]; simp [List.getD, hlt])
      rw [← hs] at hcell
      clear hs
      have hpl := putL_len m s
      gi_wp2_with (gi_at_call 12; refine (callsIn_wide.2 (put_some (w := wr) hT zr s zs)).mono ?_; rintro e w5 ⟨⟨ev, rfl⟩, ⟨v5, hu5, _⟩, hb5⟩)
      go_roundw
      case rel => exact ⟨k + 1, _, _, by omega, congrArg (Value.int .i64) (by omega), by omega, hu5.tb, hbr.trans hb5⟩
      case measure => simp [intOf]; omega
    · have hcm := cut_no m
      gi_wp2_with (first
        | (gi_at_call 15; refine (callsIn_wide.2 (len_any (w := wr) hT)).mono ?_; rintro e wr ⟨rfl, rfl⟩)
        | (gi_at_call 19; refine (callsIn_wide.2 (told_any (w := wr) hT (-1))).mono ?_; rintro e w5 ⟨u5, rfl, ho5, hb5⟩; rw [hcm] at ho5; obtain ⟨uo, uc, rfl⟩ := own_shape ho5; have hT5 := hT.below hb5; have z5 := hb5.size)
        | (gi_at_call 21; refine (callsIn_wide.2 (all_any (w := w5) hT5)).mono ?_; rintro e w6 ⟨rfl, hw6⟩; have hb6 : Below w5.heap.size w5 w6 := (by rw [hw6]; exact below_alloc _ _); have hT6 := hT5.below hb6; have hx6 : Boxed w6 w5.heap.size 22 v := (by rw [hw6]; exact Boxed.new w5 _ _); have z6 := hb6.size; clear hw6)
        | (gi_at_call 22; refine (callsIn_wide.2 (copy_any (w := w6) hT6)).mono ?_; rintro e w7 ⟨pc, vc, qc, rfl, hC7, hb7⟩; have hT7 := hT6.below hb7; have z7 := hb7.size))
      obtain ⟨wa, hwa⟩ : ∃ wa, wa = wr := ⟨_, rfl⟩
      subst hwa
      have hS7 : Beside wa.heap.size w7 v m w7 W.heap.size (w0.heap.size + 1) v w0.heap.size m := ⟨hT7, Mod.refl _ _, fun k hk => Or.inl (hT.foot_lt k hk), ⟨[], by simp⟩, hT7.rs, fun k hk => ⟨(hT7.row hk).2.2.1, (hT7.row hk).2.2.2, (hT7.row hk).2.1⟩, ⟨_, hT7.own⟩⟩
      have hbx7 : Boxed w7 w5.heap.size 22 v := (hb7.block _ hx6.lt).trans hx6
      have hu7 : Rs w7 (.slice uo m.length uc) m := ((Rs.ofOwn ho5).below hb6).below hb7
      have hulow : m ≠ [] → ∀ k, Value.inBlock (.slice uo m.length uc) = some k → wa.heap.size ≤ k := fun _ k hk => by
        rcases ho5.2 with ⟨e, _⟩ | ⟨g, cap, cur, e, hg, _⟩
        · rw [e] at hk
          simp [Value.inBlock] at hk
        · rw [e] at hk
          have e1 : g = k := by simpa [Value.inBlock] using hk
          omega
      have hbr7 : Below W.heap.size W w7 := ((hbr.trans (hb5.mono zr)).trans (hb6.mono (by omega))).trans (hb7.mono (by omega))
      have hmlen : m.length ≤ 400 := by omega
      clear hT hT5 hT6 hT7 ho5 hx6 hb5 hb6 hb7 hbr hcm
      gi_loopw [80] (fun i wr => ∃ (k : Nat) (v' : Value) (m' : List ByteArray), k ≤ l2.length ∧ i = .int .i64 k ∧ Beside wa.heap.size w7 v m wr W.heap.size (w0.heap.size + 1) v' w0.heap.size m' ∧ Below W.heap.size W wr) (fun i _ => l2.length - (intOf i).toNat)
      case atStart => exact ⟨0, _, _, by omega, rfl, hS7, hbr7⟩
      case round =>
        obtain ⟨k2, v', m', hk2, rfl, hS, hbr⟩ := hrel
        have zr2 := hbr.size
        by_cases hlt2 : k2 < l2.length
        · obtain ⟨rb, ro, rfl, hcell⟩ := rs_cell (rs2.below hbr) hlt2
          obtain ⟨s, hs⟩ : ∃ s, s = l2.getD k2 ⟨#[]⟩ := ⟨_, rfl⟩
          have zs : s.size ≤ 281474976710656 := zl2 s (by rw [hs]; simp [List.getD, hlt2])
          rw [← hs] at hcell
          clear hs
          gi_wp2_with (gi_at_call 12; refine (callsIn_wide.2 (put_some (w := wr) hS.tb zr2 s zs)).mono ?_; rintro e w8 ⟨⟨ev, rfl⟩, ⟨v5, hu5, hr5⟩, hb8⟩)
          go_roundw
          case rel => exact ⟨k2 + 1, _, _, by omega, congrArg (Value.int .i64) (by omega), hS.put hu5 hr5, hbr.trans hb8⟩
          case measure => simp [intOf]; omega
        · obtain ⟨we, hwe⟩ : ∃ we, we = wr := ⟨_, rfl⟩
          subst hwe
          have hbxe : Boxed we w5.heap.size 22 v := (hS.mod.block _ hbx7.lt (by simp; omega)).trans hbx7
          have hue : Rs we (.slice uo m.length uc) m := rs_low hu7 hulow hS.mod
          have z7e := hS.mod.size
          gi_wp2
          refine wpIn_loop_rounds 3 ?_
          rw [roundsIn_succ]
          gi_wp2
          refine range_texts (k := 20) (bb := w5.heap.size) (v1 := v) (l := m) (n₀ := we.heap.size) (GI we) (by omega) rfl (by omega) ((hbxe.alloc _).alloc _).cell ((hS.old.alloc _).alloc _) (by simp; omega) hS.old.low (gi_own we _ (by simp; omega)) (gi_start we) ?assign ?body ?done
          case assign =>
            intro r x W' K hK
            gi_wp2
            exact hK
          case body =>
            rintro r pre ⟨xi, xs⟩ W' ⟨⟨u, hv, hrow, _⟩, hB⟩ hlt3
            obtain ⟨go, gc, rfl⟩ := own_shape hrow
            have hc := hv.cell
            have hs0 := hB.size
            have hpl : pre.length < 1024 := by omega
            gi_wp2_with (gi_at_builtin; refine wpListIn_append_own _ rfl _ _ 22 rfl we.heap.size 9 i0 (.string ⟨#[]⟩) 1 16 Try.underlying22 hi hz0 hz1 hz2 rfl (by decide) _ _ _ rfl (hrow.alloc _) ⟨W'.heap.size, 0, none⟩ 1 1 [.string xs] rfl rfl (cell_one_new _ _ _) (by simp [Value.oneCell']) (by unfold maxLen; omega) (by omega) (by simp; omega) ?_; intro vn wn hown' hgrow _; obtain ⟨g', cap', rfl⟩ := ownsRow_succ hown'; obtain ⟨hv2, hv3, hr3, hk3, hb3⟩ := hv.appended (by decide) hrow hB.size (by omega) hown' hgrow; have hc1 := hv2.cell; have hf1 := hv2.frozen)
            exact ⟨hk3.from _, hb3, ⟨_, hv3, by simpa using hr3, trivial⟩, hB.trans hb3⟩
          case done =>
            rintro D1 w8 hD1 ⟨⟨u, hv, hrow, _⟩, hb8⟩ hK1
            rw [upto_rows m (Nat.le_refl _), upto_length, List.take_length] at hrow
            obtain ⟨go, gc, rfl⟩ := own_shape hrow
            have hc := hv.cell
            have hun : Rs w8 (.slice uo m.length uc) m := hue.below hb8
            gi_wp2_with (gi_at_call 20; refine (callsIn_wide.2 (same_any (w := w8) (Rs.ofOwn hrow) hun (by omega))).mono ?_; rintro e w9 ⟨rfl, hb9⟩)
            have hK9 : w9.heap[D1]? = some (.deferred (some [])) := (hb9.block D1 (lt_of_block hK1)).trans hK1
            have hbe9 : Below we.heap.size we w9 := hb8.trans (hb9.mono hb8.size)
            have hbx9 : Boxed w9 w5.heap.size 22 v := (hbe9.block _ hbxe.lt).trans hbxe
            have hold9 := hS.old.below hbe9
            have hu9 := hue.below hbe9
            clear hv hrow hc hun
            rw [roundsIn_succ]
            gi_wp2
            refine range_texts (k := 20) (bb := w5.heap.size) (v1 := v) (l := m) (n₀ := w9.heap.size) (GI w9) (by omega) rfl (by omega) ((hbx9.alloc _).alloc _).cell ((hold9.alloc _).alloc _) (by simp; omega) hold9.low (gi_own w9 _ (by simp; omega)) (gi_start w9) ?assign ?body ?done
            case assign =>
              intro r x W' K hK
              gi_wp2
              exact hK
            case body =>
              rintro r pre ⟨xi, xs⟩ W' ⟨⟨u, hv, hrow, _⟩, hB⟩ hlt3
              obtain ⟨go, gc, rfl⟩ := own_shape hrow
              have hc := hv.cell
              have hs0 := hB.size
              have hpl : pre.length < 1024 := by omega
              gi_wp2_with (gi_at_builtin; refine wpListIn_append_own _ rfl _ _ 22 rfl w9.heap.size 9 i0 (.string ⟨#[]⟩) 1 16 Try.underlying22 hi hz0 hz1 hz2 rfl (by decide) _ _ _ rfl (hrow.alloc _) ⟨W'.heap.size, 0, none⟩ 1 1 [.string xs] rfl rfl (cell_one_new _ _ _) (by simp [Value.oneCell']) (by unfold maxLen; omega) (by omega) (by simp; omega) ?_; intro vn wn hown' hgrow _; obtain ⟨g', cap', rfl⟩ := ownsRow_succ hown'; obtain ⟨hv2, hv3, hr3, hk3, hb3⟩ := hv.appended (by decide) hrow hB.size (by omega) hown' hgrow; have hc1 := hv2.cell; have hf1 := hv2.frozen)
              exact ⟨hk3.from _, hb3, ⟨_, hv3, by simpa using hr3, trivial⟩, hB.trans hb3⟩
            case done =>
              rintro D2 w10 hD2 ⟨⟨u, hv, hrow, _⟩, hb10⟩ hK2
              rw [upto_rows m (Nat.le_refl _), upto_length, List.take_length] at hrow
              obtain ⟨go, gc, rfl⟩ := own_shape hrow
              have hc := hv.cell
              have hun : Rs w10 (.slice uo m.length uc) m := hu9.below hb10
              gi_wp2_with (gi_at_call 20; refine (callsIn_wide.2 (same_any (w := w10) (Rs.ofOwn hrow) hun (by omega))).mono ?_; rintro e w11 ⟨rfl, hb11⟩)
              have hK11 : w11.heap[D2]? = some (.deferred (some [])) := (hb11.block D2 (lt_of_block hK2)).trans hK2
              have hb911 : Below w9.heap.size w9 w11 := hb10.trans (hb11.mono hb10.size)
              have hL11 : w11.heap[D1]? = some (.deferred (some [])) := (hb911.block D1 (lt_of_block hK9)).trans hK9
              have hbe11 : Below we.heap.size we w11 := hbe9.trans (hb911.mono hbe9.size)
              have hT11 := hS.tb.below hbe11
              have hC11 : Tb w11 w6.heap.size pc vc qc m := (hC7.keep hS.mod (fun k hk hf => by
                have h1 := hC7.foot_base k hf
                have h2 : k < wa.heap.size := by simpa using hk
                omega)).below hbe11
              have hbW11 : Below W.heap.size W w11 := hbr.trans (hbe11.mono zr2)
              have hz11 := hbe11.size
              have hext := hS.ext
              have hout := hS.out
              have hD1' : we.heap.size + 2 ≤ D1 := by simpa using hD1
              have hD2' : w9.heap.size + 2 ≤ D2 := by simpa using hD2
              have hD12 : D1 < D2 := by
                have := lt_of_block hK9
                omega
              have hwe9 := hbe9.size
              clear hv hrow hc hun hold9 hu9 hbx9 hue hbxe hb8 hb9 hb10 hb11 hK1 hK2 hK9 hbe9 hb911
              have hcut : (stop ≤ 0 ∧ cutL stop m = m) ∨ (0 < stop ∧ ((cutL stop m).length : Int) = min stop (m.length : Int)) := cut_min stop m
              have hx1 := putC_new (l := m) (by omega)
              obtain ⟨N, hN⟩ : ∃ N, putN m ⟨#[97, 45, 110, 101, 119, 45, 111, 110, 101]⟩ = N := ⟨_, rfl⟩
              have HN : Hid (inL m ⟨#[97, 45, 110, 101, 119, 45, 111, 110, 101]⟩ = false → N = m.length) := fun h => by rw [← hN]; exact putN_new (by omega) h
              have zx : (⟨#[97, 45, 110, 101, 119, 45, 111, 110, 101]⟩ : ByteArray).size ≤ 281474976710656 := show 9 ≤ 281474976710656 by omega
              have HI : Hid (inL m ⟨#[97, 45, 110, 101, 119, 45, 111, 110, 101]⟩ = true → inL m' ⟨#[97, 45, 110, 101, 119, 45, 111, 110, 101]⟩ = true) := fun h => by
                obtain ⟨r, hr⟩ := hext
                rw [hr]
                exact inL_ext h
              have hge : decide ((m.length : Int) ≤ (m'.length : Int)) = true := by
                obtain ⟨r, hr⟩ := hext
                have : m'.length = m.length + r.length := by rw [hr]; simp
                simp
                omega
              have hge' : decide (m.length ≤ m'.length) = true := by
                obtain ⟨r, hr⟩ := hext
                have : m'.length = m.length + r.length := by rw [hr]; simp
                simp
                omega
              have hfc := hC7.foot_lt
              have hfb := hC7.foot_base
              have hff : ∀ k ∈ foot pc vc qc, k ∉ foot (w0.heap.size + 1) v' w0.heap.size := fun k hk hk' => by
                have h1 := hfb k hk
                have h2 := hfc k hk
                rcases hout k hk' with h3 | h3
                · omega
                · omega
              have hD1c : D1 ∉ foot pc vc qc := fun hk => by
                have := hfc _ hk
                omega
              have hD2c : D2 ∉ foot pc vc qc := fun hk => by
                have := hfc _ hk
                omega
              obtain ⟨L, hL⟩ : ∃ L, cutL stop m = L := ⟨_, rfl⟩
              rw [hL] at hcut
              rw [roundsIn_succ]
              rcases hcut with ⟨h0, hLm⟩ | ⟨h0, hP⟩
              · rw [hLm] at hL
                clear hLm
                gi_wp2_with (first
                  | (gi_at_call 19; refine (callsIn_wide.2 (told_any (w := w11) hC11 stop)).mono ?_; rintro e w12 ⟨u12, rfl, ho12, hb12⟩; rw [hL] at ho12; obtain ⟨po, pq, rfl⟩ := own_shape ho12; have hC12 := hC11.below hb12; have hT12 := hT11.below hb12; have z12 := hb12.size; have hA12 := (hb12.block D1 (lt_of_block hL11)).trans hL11; have hB12 := (hb12.block D2 (lt_of_block hK11)).trans hK11; have hbW12 := hbW11.trans (hb12.mono (by omega)))
                  | (gi_at_call 15; refine (callsIn_wide.2 (len_any (w := w12) hC12)).mono ?_; rintro e w12 ⟨rfl, rfl⟩)
                  | (gi_at_call 12; refine (callsIn_wide.2 (put_yes (w := w12) hC12 (by omega) _ zx hx1)).mono ?_; rintro e w13 ⟨rfl, ⟨v13, hu13, _⟩, hb13⟩; rw [hN]; have hT13 := hT12.keep hu13.mod hff; have hA13 := (hu13.mod.block D1 (lt_of_block hA12) hD1c).trans hA12; have hB13 := (hu13.mod.block D2 (lt_of_block hB12) hD2c).trans hB12; have hbW13 := hbW12.trans (hb13.mono (by omega)))
                  | (gi_at_call 16; refine (callsIn_wide.2 (find_any (w := w13) hT13 _ zx)).mono ?_; rintro e w13 ⟨rfl, rfl⟩))
                clear hC12 hT12 hu13 hb13 hb12 ho12 hC11 hT11 hL11 hK11 hA12 hB12
                gi_loopw [25, 152] (fun t i wr => ∃ (k : Nat) (b : Bool), k ≤ l2.length ∧ i = .int .i64 k ∧ t = .bool b ∧ w13 = wr ∧ Hid (inL m ⟨#[97, 45, 110, 101, 119, 45, 111, 110, 101]⟩ = true → b = true)) (fun _ i _ => l2.length - (intOf i).toNat)
                case atStart => exact ⟨0, _, by omega, rfl, rfl, rfl, HI⟩
                case round =>
                  obtain ⟨k4, b, hk4, rfl, rfl, hwr, hbb⟩ := hrel
                  subst hwr
                  by_cases h4 : k4 < l2.length
                  · obtain ⟨rb, ro, rfl, hcell⟩ := rs_cell (rs2.below hbW13) h4
                    obtain ⟨s, hs⟩ : ∃ s, s = l2.getD k4 ⟨#[]⟩ := ⟨_, rfl⟩
                    rw [← hs] at hcell
                    clear hs
                    cases b with
                    | true =>
                      gi_wp2
                      go_roundw
                      case rel => exact ⟨k4 + 1, true, by omega, congrArg (Value.int .i64) (by omega), rfl, (by first | rfl | trivial), fun _ => rfl⟩
                      case measure => simp [intOf]; omega
                    | false =>
                      gi_wp2
                      go_roundw
                      case rel => exact ⟨k4 + 1, _, by omega, congrArg (Value.int .i64) (by omega), rfl, (by first | rfl | trivial), fun h => absurd (hbb.out h) (by simp)⟩
                      case measure => simp [intOf]; omega
                  · gi_wp2
                    gi_loopw [25, 164] (fun t i wr => ∃ (k : Nat) (b : Bool), k ≤ l1.length ∧ i = .int .i64 k ∧ t = .bool b ∧ w13 = wr ∧ Hid (inL m ⟨#[97, 45, 110, 101, 119, 45, 111, 110, 101]⟩ = true → b = true)) (fun _ i _ => l1.length - (intOf i).toNat)
                    case atStart => exact ⟨0, _, by omega, rfl, rfl, rfl, hbb⟩
                    case round =>
                      obtain ⟨k5, b5, hk5, rfl, rfl, hwr, hb5⟩ := hrel
                      subst hwr
                      by_cases h5 : k5 < l1.length
                      · obtain ⟨rb, ro, rfl, hcell⟩ := rs_cell (rs1.below hbW13) h5
                        obtain ⟨s, hs⟩ : ∃ s, s = l1.getD k5 ⟨#[]⟩ := ⟨_, rfl⟩
                        rw [← hs] at hcell
                        clear hs
                        cases b5 with
                        | true =>
                          gi_wp2
                          go_roundw
                          case rel => exact ⟨k5 + 1, true, by omega, congrArg (Value.int .i64) (by omega), rfl, (by first | rfl | trivial), fun _ => rfl⟩
                          case measure => simp [intOf]; omega
                        | false =>
                          gi_wp2
                          go_roundw
                          case rel => exact ⟨k5 + 1, _, by omega, congrArg (Value.int .i64) (by omega), rfl, (by first | rfl | trivial), fun h => absurd (hb5.out h) (by simp)⟩
                          case measure => simp [intOf]; omega
                      · have hA14 : (w13.putObj D2 (.deferred none)).heap[D1]? = some (.deferred (some [])) := (World.putObj_heap_other (by omega)).trans hA13
                        have hbEnd : Below W.heap.size W ((w13.putObj D2 (.deferred none)).putObj D1 (.deferred none)) := (hbW13.trans (belowK_b (w := W) (Nat.le_refl _) _ D2 _ _ (by omega) hB13 rfl rfl)).trans (belowK_b (w := W) (Nat.le_refl _) _ D1 _ _ (by omega) hA14 rfl rfl)
                        cases b5 with
                        | true =>
                          gi_wp2
                          all_goals first
                            | exact ⟨by simp, .inl ⟨_, _, rfl, run_takeDeferred hB13, ⟨by simp, .inl ⟨_, _, rfl, run_takeDeferred hA14, ⟨_, results_tmp rfl _ _ _, rfl, hbEnd⟩⟩⟩⟩⟩
                            | (rename_i bq hq _; exact absurd hq (undef_bool bq))
                        | false =>
                          have hNm : N = m.length := HN.out (by
                            cases hi : inL m ⟨#[97, 45, 110, 101, 119, 45, 111, 110, 101]⟩ with
                            | false => rfl
                            | true => exact absurd (hb5.out hi) (by simp))
                          subst hNm
                          gi_wp2_with (gi_at_call 15; refine (callsIn_wide.2 (len_any (w := w13) hT13)).mono ?_; rintro e w13 ⟨rfl, rfl⟩)
                          refine ⟨by simp, .inl ⟨_, _, rfl, run_takeDeferred hB13, ⟨by simp, .inl ⟨_, _, rfl, run_takeDeferred hA14, ?_⟩⟩⟩⟩
                          exact ⟨_, results_tmp rfl _ _ _, rfl, hbEnd⟩
              · have hP' : ((L.length : Int) != min stop (m.length : Int)) = false := by simp [hP]
                gi_wp2_with (first
                  | (gi_at_call 19; refine (callsIn_wide.2 (told_any (w := w11) hC11 stop)).mono ?_; rintro e w12 ⟨u12, rfl, ho12, hb12⟩; rw [hL] at ho12; obtain ⟨po, pq, rfl⟩ := own_shape ho12; have hC12 := hC11.below hb12; have hT12 := hT11.below hb12; have z12 := hb12.size; have hA12 := (hb12.block D1 (lt_of_block hL11)).trans hL11; have hB12 := (hb12.block D2 (lt_of_block hK11)).trans hK11; have hbW12 := hbW11.trans (hb12.mono (by omega)))
                  | (gi_at_call 15; refine (callsIn_wide.2 (len_any (w := w12) hC12)).mono ?_; rintro e w12 ⟨rfl, rfl⟩)
                  | (gi_at_call 12; refine (callsIn_wide.2 (put_yes (w := w12) hC12 (by omega) _ zx hx1)).mono ?_; rintro e w13 ⟨rfl, ⟨v13, hu13, _⟩, hb13⟩; rw [hN]; have hT13 := hT12.keep hu13.mod hff; have hA13 := (hu13.mod.block D1 (lt_of_block hA12) hD1c).trans hA12; have hB13 := (hu13.mod.block D2 (lt_of_block hB12) hD2c).trans hB12; have hbW13 := hbW12.trans (hb13.mono (by omega)))
                  | (gi_at_call 16; refine (callsIn_wide.2 (find_any (w := w13) hT13 _ zx)).mono ?_; rintro e w13 ⟨rfl, rfl⟩))
                clear hC12 hT12 hu13 hb13 hb12 ho12 hC11 hT11 hL11 hK11 hA12 hB12
                gi_loopw [25, 152] (fun t i wr => ∃ (k : Nat) (b : Bool), k ≤ l2.length ∧ i = .int .i64 k ∧ t = .bool b ∧ w13 = wr ∧ Hid (inL m ⟨#[97, 45, 110, 101, 119, 45, 111, 110, 101]⟩ = true → b = true)) (fun _ i _ => l2.length - (intOf i).toNat)
                case atStart => exact ⟨0, _, by omega, rfl, rfl, rfl, HI⟩
                case round =>
                  obtain ⟨k4, b, hk4, rfl, rfl, hwr, hbb⟩ := hrel
                  subst hwr
                  by_cases h4 : k4 < l2.length
                  · obtain ⟨rb, ro, rfl, hcell⟩ := rs_cell (rs2.below hbW13) h4
                    obtain ⟨s, hs⟩ : ∃ s, s = l2.getD k4 ⟨#[]⟩ := ⟨_, rfl⟩
                    rw [← hs] at hcell
                    clear hs
                    cases b with
                    | true =>
                      gi_wp2
                      go_roundw
                      case rel => exact ⟨k4 + 1, true, by omega, congrArg (Value.int .i64) (by omega), rfl, (by first | rfl | trivial), fun _ => rfl⟩
                      case measure => simp [intOf]; omega
                    | false =>
                      gi_wp2
                      go_roundw
                      case rel => exact ⟨k4 + 1, _, by omega, congrArg (Value.int .i64) (by omega), rfl, (by first | rfl | trivial), fun h => absurd (hbb.out h) (by simp)⟩
                      case measure => simp [intOf]; omega
                  · gi_wp2
                    gi_loopw [25, 164] (fun t i wr => ∃ (k : Nat) (b : Bool), k ≤ l1.length ∧ i = .int .i64 k ∧ t = .bool b ∧ w13 = wr ∧ Hid (inL m ⟨#[97, 45, 110, 101, 119, 45, 111, 110, 101]⟩ = true → b = true)) (fun _ i _ => l1.length - (intOf i).toNat)
                    case atStart => exact ⟨0, _, by omega, rfl, rfl, rfl, hbb⟩
                    case round =>
                      obtain ⟨k5, b5, hk5, rfl, rfl, hwr, hb5⟩ := hrel
                      subst hwr
                      by_cases h5 : k5 < l1.length
                      · obtain ⟨rb, ro, rfl, hcell⟩ := rs_cell (rs1.below hbW13) h5
                        obtain ⟨s, hs⟩ : ∃ s, s = l1.getD k5 ⟨#[]⟩ := ⟨_, rfl⟩
                        rw [← hs] at hcell
                        clear hs
                        cases b5 with
                        | true =>
                          gi_wp2
                          go_roundw
                          case rel => exact ⟨k5 + 1, true, by omega, congrArg (Value.int .i64) (by omega), rfl, (by first | rfl | trivial), fun _ => rfl⟩
                          case measure => simp [intOf]; omega
                        | false =>
                          gi_wp2
                          go_roundw
                          case rel => exact ⟨k5 + 1, _, by omega, congrArg (Value.int .i64) (by omega), rfl, (by first | rfl | trivial), fun h => absurd (hb5.out h) (by simp)⟩
                          case measure => simp [intOf]; omega
                      · have hA14 : (w13.putObj D2 (.deferred none)).heap[D1]? = some (.deferred (some [])) := (World.putObj_heap_other (by omega)).trans hA13
                        have hbEnd : Below W.heap.size W ((w13.putObj D2 (.deferred none)).putObj D1 (.deferred none)) := (hbW13.trans (belowK_b (w := W) (Nat.le_refl _) _ D2 _ _ (by omega) hB13 rfl rfl)).trans (belowK_b (w := W) (Nat.le_refl _) _ D1 _ _ (by omega) hA14 rfl rfl)
                        cases b5 with
                        | true =>
                          gi_wp2
                          all_goals first
                            | exact ⟨by simp, .inl ⟨_, _, rfl, run_takeDeferred hB13, ⟨by simp, .inl ⟨_, _, rfl, run_takeDeferred hA14, ⟨_, results_tmp rfl _ _ _, rfl, hbEnd⟩⟩⟩⟩⟩
                            | (rename_i bq hq _; exact absurd hq (undef_bool bq))
                        | false =>
                          have hNm : N = m.length := HN.out (by
                            cases hi : inL m ⟨#[97, 45, 110, 101, 119, 45, 111, 110, 101]⟩ with
                            | false => rfl
                            | true => exact absurd (hb5.out hi) (by simp))
                          subst hNm
                          gi_wp2_with (gi_at_call 15; refine (callsIn_wide.2 (len_any (w := w13) hT13)).mono ?_; rintro e w13 ⟨rfl, rfl⟩)
                          refine ⟨by simp, .inl ⟨_, _, rfl, run_takeDeferred hB13, ⟨by simp, .inl ⟨_, _, rfl, run_takeDeferred hA14, ?_⟩⟩⟩⟩
                          exact ⟨_, results_tmp rfl _ _ _, rfl, hbEnd⟩
theorem namesApart_walk {W : World} (v1 : Value) (l1 : List ByteArray) (rs1 : Rs W v1 l1) (zl1 : ∀ s ∈ l1, s.size ≤ 281474976710656) (v2 : Value) (l2 : List ByteArray) (rs2 : Rs W v2 l2) (zl2 : ∀ s ∈ l2, s.size ≤ 281474976710656) (stop : Int) (hst : -9223372036854775808 ≤ stop ∧ stop ≤ 9223372036854775807) :
    Calls Try.prog 6 #[v1, v2, .int .i64 stop] W fun e w' => e = .returned (.bool true) ∧ Below W.heap.size W w' := by
  by_cases hl : l1.length ≤ 400 ∧ l2.length ≤ 400
  · exact callsIn_wide.1 (apart_short v1 l1 rs1 zl1 v2 l2 rs2 zl2 stop hst hl.1 hl.2)
  · exact apart_long v1 l1 rs1 v2 l2 rs2 stop (by omega)
end Go.Proofs.Ytobimnfjfinphaa
