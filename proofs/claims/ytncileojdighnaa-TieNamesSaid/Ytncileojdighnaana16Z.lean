/- Good of package parse, at every term. -/
import Derived.Laws.OwnMore
import Derived.Test.Ytncileojdighnaana13Z
import Derived.Test.Ytncileojdighnaana14Z
namespace Go.Proofs.Ytncileojdighnaa
set_option maxRecDepth 100000
open Go.RowKit
theorem beq_dec0 (n : Nat) : ((n : Int) == 0) = decide (n = 0) := by
  cases n with
  | zero => rfl
  | succ n => simp; omega
set_option maxHeartbeats 4000000 in
theorem goodAt_any (x : Ex) : GoodAtC x := by
  induction x using Ex.ind with
  | h k n m xs ih =>
    intro w v hx hz nest hn
    obtain ⟨av, rfl, hr⟩ := hx.parts
    have hb0 := below_alloc w (.cells #[.int .i64 k, .string n, .int .i64 m, av] 48)
    have hr1 := hr.next hb0
    have hzn : n.size ≤ 9223372036854775807 := Nat.le_trans hz.1 (by decide)
    obtain ⟨ao, c, rfl, _⟩ := hr
    generalize hN : xs.length = N at *
    have HN : Hid (xs.length = N) := hN
    by_cases h4 : (4096 : Int) < (nest : Int)
    · have hE : Hid (goodX nest (.mk k n m xs) = false) := show _ = _ by rw [goodX, if_pos (by omega)]
      clear ih hr1 hz hx hN
      go_enter Try.func72, Try.ntmps72
      go_wp2
      go_ret
      exact ⟨ret_bool hE.out.symm, hb0⟩
    · have h4' : ¬ 4096 < nest := by omega
      by_cases k1 : k = 1
      · subst k1
        have hv := fun w1 => isVar_big n w1 hzn
        cases hW : isW n 4 with
        | false =>
          have hE : Hid (goodX nest (.mk 1 n m xs) = false) := show _ = _ by rw [goodX, if_neg h4', if_pos rfl, hW]; rfl
          rw [hW] at hv
          clear ih hr1 hz hx hN hW h4'
          go_enter Try.func72, Try.ntmps72
          go_wp2_with (go_at_call 46; refine (hv _).mono ?_; rintro e w1 ⟨rfl, rfl⟩)
          go_ret
          exact ⟨ret_bool hE.out.symm, hb0⟩
        | true =>
          rw [hW] at hv
          by_cases hm : m = 0
          · subst hm
            have hE : Hid (goodX nest (.mk 1 n 0 xs) = ((N : Int) == 0)) := show _ = _ by rw [goodX, if_neg h4', if_pos rfl, hW, HN.out, beq_dec0]; simp
            clear ih hr1 hz hx hN hW h4'
            go_enter Try.func72, Try.ntmps72
            go_wp2_with (go_at_call 46; refine (hv _).mono ?_; rintro e w1 ⟨rfl, rfl⟩)
            go_ret
            exact ⟨ret_bool hE.out.symm, hb0⟩
          · have hE : Hid (goodX nest (.mk 1 n m xs) = false) := show _ = _ by rw [goodX, if_neg h4', if_pos rfl, decide_eq_false hm]; simp
            have hm' : (m == 0) = false := beq_eq_false_iff_ne.2 hm
            clear ih hr1 hz hx hN hW h4' hm
            go_enter Try.func72, Try.ntmps72
            go_wp2_with (go_at_call 46; refine (hv _).mono ?_; rintro e w1 ⟨rfl, rfl⟩)
            go_ret
            exact ⟨ret_bool hE.out.symm, hb0⟩
      · have k1' : (k == 1) = false := beq_eq_false_iff_ne.2 k1
        by_cases k2 : k = 2
        · subst k2
          have hv := fun w1 => good_any n w1 hzn
          cases hW : goodS n with
          | false =>
            have hE : Hid (goodX nest (.mk 2 n m xs) = false) := show _ = _ by rw [goodX, if_neg h4', if_neg k1, if_pos rfl, hW]; rfl
            rw [hW] at hv
            clear ih hr1 hz hx hN hW h4' k1 k1'
            go_enter Try.func72, Try.ntmps72
            go_wp2_with (go_at_call 93; refine (hv _).mono ?_; rintro e w1 ⟨rfl, rfl⟩)
            go_ret
            exact ⟨ret_bool hE.out.symm, hb0⟩
          | true =>
            rw [hW] at hv
            by_cases hm : m = 0
            · subst hm
              have hE : Hid (goodX nest (.mk 2 n 0 xs) = ((N : Int) == 0)) := show _ = _ by rw [goodX, if_neg h4', if_neg k1, if_pos rfl, hW, HN.out, beq_dec0]; simp
              clear ih hr1 hz hx hN hW h4' k1 k1'
              go_enter Try.func72, Try.ntmps72
              go_wp2_with (go_at_call 93; refine (hv _).mono ?_; rintro e w1 ⟨rfl, rfl⟩)
              go_ret
              exact ⟨ret_bool hE.out.symm, hb0⟩
            · have hE : Hid (goodX nest (.mk 2 n m xs) = false) := show _ = _ by rw [goodX, if_neg h4', if_neg k1, if_pos rfl, decide_eq_false hm]; simp
              have hm' : (m == 0) = false := beq_eq_false_iff_ne.2 hm
              clear ih hr1 hz hx hN hW h4' hm k1 k1'
              go_enter Try.func72, Try.ntmps72
              go_wp2_with (go_at_call 93; refine (hv _).mono ?_; rintro e w1 ⟨rfl, rfl⟩)
              go_ret
              exact ⟨ret_bool hE.out.symm, hb0⟩
        · have k2' : (k == 2) = false := beq_eq_false_iff_ne.2 k2
          by_cases k3 : k = 3
          · subst k3
            by_cases he : n.toList = []
            · by_cases h5 : (-1125899906842624 : Int) ≤ m
              · by_cases h6 : m ≤ (1125899906842624 : Int)
                · have hE : Hid (goodX nest (.mk 3 n m xs) = ((N : Int) == 0)) := show _ = _ by rw [goodX, if_neg h4', if_neg k1, if_neg k2, if_pos rfl, HN.out, beq_dec0]; simp [he, h5, h6]
                  clear ih hr1 hz hx hN h4' k1 k1' k2 k2'
                  go_enter Try.func72, Try.ntmps72
                  go_wp2
                  go_ret
                  exact ⟨ret_bool hE.out.symm, hb0⟩
                · have hE : Hid (goodX nest (.mk 3 n m xs) = false) := show _ = _ by rw [goodX, if_neg h4', if_neg k1, if_neg k2, if_pos rfl]; simp [h6]
                  clear ih hr1 hz hx hN h4' k1 k1' k2 k2'
                  go_enter Try.func72, Try.ntmps72
                  go_wp2
                  go_ret
                  exact ⟨ret_bool hE.out.symm, hb0⟩
              · have hE : Hid (goodX nest (.mk 3 n m xs) = false) := show _ = _ by rw [goodX, if_neg h4', if_neg k1, if_neg k2, if_pos rfl]; simp [h5]
                clear ih hr1 hz hx hN h4' k1 k1' k2 k2'
                go_enter Try.func72, Try.ntmps72
                go_wp2
                go_ret
                exact ⟨ret_bool hE.out.symm, hb0⟩
            · have hE : Hid (goodX nest (.mk 3 n m xs) = false) := show _ = _ by rw [goodX, if_neg h4', if_neg k1, if_neg k2, if_pos rfl, decide_eq_false he]; simp
              clear ih hr1 hz hx hN h4' k1 k1' k2 k2'
              go_enter Try.func72, Try.ntmps72
              go_wp2
              go_ret
              exact ⟨ret_bool hE.out.symm, hb0⟩
          · have k3' : (k == 3) = false := beq_eq_false_iff_ne.2 k3
            by_cases k4 : k = 4
            · subst k4
              have hv := fun w1 => good_any n w1 hzn
              cases hW : goodS n with
              | false =>
                have hE : Hid (goodX nest (.mk 4 n m xs) = false) := show _ = _ by rw [goodX, if_neg h4', if_neg k1, if_neg k2, if_neg k3, if_pos rfl, hW]; rfl
                rw [hW] at hv
                clear ih hr1 hz hx hN hW h4' k1 k1' k2 k2' k3 k3'
                go_enter Try.func72, Try.ntmps72
                go_wp2_with (go_at_call 93; refine (hv _).mono ?_; rintro e w1 ⟨rfl, rfl⟩)
                go_ret
                exact ⟨ret_bool hE.out.symm, hb0⟩
              | true =>
                rw [hW] at hv
                by_cases hm : m = 0
                · subst hm
                  · have hga := xgoodArgs_any (fun x hx => ih x hx) hz.2 hr1 (nest + 1) (by omega)
                    have hE : Hid (goodX nest (.mk 4 n 0 xs) = (decide (1 ≤ xs.length) && (decide (xs.length ≤ 8) && goodXs (nest + 1) xs))) := show _ = _ by rw [goodX, if_neg h4', if_neg k1, if_neg k2, if_neg k3, if_pos rfl, hW]; simp
                    generalize (decide (1 ≤ xs.length) && (decide (xs.length ≤ 8) && goodXs (nest + 1) xs)) = R at hga hE
                    rw [show ((nest + 1 : Nat) : Int) = (nest : Int) + 1 by omega] at hga
                    clear ih hr1 hz hx hN hW h4' k1 k1' k2 k2' k3 k3'
                    go_enter Try.func72, Try.ntmps72
                    go_wp2_with (first | (go_at_call 93; refine (hv _).mono ?_; rintro e w1 ⟨rfl, rfl⟩) | (go_at_call 94; refine hga.mono ?_; rintro e w2 ⟨rfl, hb2⟩))
                    go_ret
                    exact ⟨ret_bool hE.out.symm, Below.next hb0 hb2⟩
                · have hE : Hid (goodX nest (.mk 4 n m xs) = false) := show _ = _ by rw [goodX, if_neg h4', if_neg k1, if_neg k2, if_neg k3, if_pos rfl, decide_eq_false hm]; simp
                  have hm' : (m == 0) = false := beq_eq_false_iff_ne.2 hm
                  clear ih hr1 hz hx hN hW h4' hm k1 k1' k2 k2' k3 k3'
                  go_enter Try.func72, Try.ntmps72
                  go_wp2_with (go_at_call 93; refine (hv _).mono ?_; rintro e w1 ⟨rfl, rfl⟩)
                  go_ret
                  exact ⟨ret_bool hE.out.symm, hb0⟩
            · have k4' : (k == 4) = false := beq_eq_false_iff_ne.2 k4
              have hE : Hid (goodX nest (.mk k n m xs) = false) := show _ = _ by rw [goodX, if_neg h4', if_neg k1, if_neg k2, if_neg k3, if_neg k4]
              clear ih hr1 hz hx hN h4' k1 k2 k3 k4
              go_enter Try.func72, Try.ntmps72
              go_wp2
              go_ret
              exact ⟨ret_bool hE.out.symm, hb0⟩
set_option maxHeartbeats 1000000 in
theorem goodE_any (x : Ex) {w : World} {v : Value} (hx : Xv w x v) (hz : szX x) :
    Calls Try.prog 45 #[v] w fun e w' => e = .returned (.bool (goodX 0 x)) ∧ Below w.heap.size w w' := by
  obtain ⟨k, n, m, xs⟩ := x
  obtain ⟨av, rfl, hr⟩ := hx.parts
  have hb0 := below_alloc w (.cells #[.int .i64 k, .string n, .int .i64 m, av] 48)
  have h1 := goodAt_any (.mk k n m xs) _ _ ((Xv.of hr).next hb0) hz 0 (by omega)
  rw [show ((0 : Nat) : Int) = 0 from rfl] at h1
  clear hx hr hz
  go_enter Try.func45, Try.ntmps45
  go_wp2_with (go_at_call 72; refine h1.mono ?_; rintro e w1 ⟨rfl, hb1⟩)
  go_ret
  exact ⟨rfl, Below.next hb0 hb1⟩
end Go.Proofs.Ytncileojdighnaa

namespace Go.Proofs.Ytncileojdighnaa
set_option maxRecDepth 100000
open Go.RowKit
def labV (x : Int) (n : Nd) : Value := .agg #[.int .i64 n.kind, .int .i64 n.num, .int .i64 n.args.length, .int .i64 (if n.kind = 1 then x else 0), .string n.name]
theorem ret_lab {w : World} {fn : Func} {t : Tmp} (hfn : fn.results = #[.cell t 157]) {tmps : Array Value} {q : Nat} {u0 u1 u2 u3 u4 : Value} (h4 : tmps[t]?.getD undef = .pointer (some ⟨q, 0, none⟩)) (hq : w.heap[q]? = some (.cells #[u0, u1, u2, u3, u4] 157)) : (results fn tmps).run Try.prog w = .ok (.agg #[u0, u1, u2, u3, u4]) w := by
  have z0 : w.cell? ⟨q, 0, none⟩ = some u0 := by simp [World.cell?, hq]
  have z1 : w.cell? ⟨q, 1, none⟩ = some u1 := by simp [World.cell?, hq]
  have z2 : w.cell? ⟨q, 2, none⟩ = some u2 := by simp [World.cell?, hq]
  have z3 : w.cell? ⟨q, 3, none⟩ = some u3 := by simp [World.cell?, hq]
  have z4 : w.cell? ⟨q, 4, none⟩ = some u4 := by simp [World.cell?, hq]
  simp [results, hfn, go_sem, h4, z0, z1, z2, z3, z4]
set_option maxHeartbeats 1000000 in
theorem label_any (x : Int) (n : Nd) (aa : Option Addr) (ac : Nat) (w : World) (hl : n.args.length ≤ 5000) :
    Calls Try.prog 101 #[.int .i64 x, .agg #[.int .i64 n.kind, .string n.name, .int .i64 n.num, .slice aa n.args.length ac]] w fun e w' => e = .returned (labV x n) ∧ Below w.heap.size w w' := by
  obtain ⟨kind, name, num, args⟩ := n
  dsimp only at hl ⊢
  unfold labV
  dsimp only
  by_cases hk : kind = 1
  · subst hk
    go_enter Try.func101, Try.ntmps101
    go_wp2
    refine bodyPost_ret (ret_lab Try.results101 (by rfl) ?_) rfl ⟨rfl, ((below_alloc w _).alloc (by simp) _).alloc (by simp <;> omega) _⟩
    rw [Below.heap_alloc _ _ _ (by simp)]
    exact (by simpa using heap_alloc_new (w.alloc _) _)
  · go_enter Try.func101, Try.ntmps101
    go_wp2
    refine bodyPost_ret (ret_lab Try.results101 (by rfl) ?_) rfl ⟨rfl, ((below_alloc w _).alloc (by simp) _).alloc (by simp <;> omega) _⟩
    rw [Below.heap_alloc _ _ _ (by simp)]
    exact (by simpa using heap_alloc_new (w.alloc _) _)
set_option maxHeartbeats 2000000 in
theorem classesOf_any {W : World} {lv cv : Value} {l cl : List Int} (hl : Ri W lv l) (hc : Ri W cv cl) (hlr : ∀ x ∈ l, 0 ≤ x ∧ x < (cl.length : Int)) (hlen : l.length ≤ 5000) :
    Calls Try.prog 43 #[lv, cv] W fun e w' => (∃ ao c, e = .returned (.slice ao l.length c) ∧ w'.ownsRow W.heap.size 3 1 (.slice ao l.length c) l.length ((l.map (fun x => cl.getD x.toNat 0)).map (Value.int .i64))) ∧ Below W.heap.size W w' := by
  obtain ⟨i0, hi, hz0, hz1, hz2⟩ := info_parts infoI
  obtain ⟨la, lc, rfl, hlc⟩ := hl
  obtain ⟨ca, cc, rfl, hcc⟩ := hc
  go_enter Try.func43, Try.ntmps43
  go_wp2
  go_loopw [5, 10] (fun x i wr => ∃ (k : Nat) (ao : Option Addr) (c : Nat), k ≤ l.length ∧ i = .int .i64 k ∧ x = .slice ao k c ∧ Hid (Below W.heap.size W wr) ∧ Hid (wr.ownsRow W.heap.size 3 1 (.slice ao k c) k (((l.take k).map (fun x => cl.getD x.toNat 0)).map (Value.int .i64)))) (fun _ i _ => l.length - (intOf i).toNat)
  case atStart => exact ⟨0, none, 0, Nat.zero_le _, rfl, rfl, Below.refl _ _, World.ownsRow_nil _ _ _ _⟩
  case round =>
    obtain ⟨k, ao, c, hk, rfl, rfl, hb, ho⟩ := hrel
    by_cases hlt : k < l.length
    · obtain ⟨lb, lo, rfl, hc⟩ := hlc k hlt
      have hx := hlr _ (getD_mem hlt)
      obtain ⟨n, hn⟩ : ∃ n : Nat, l.getD k 0 = (n : Int) := ⟨(l.getD k 0).toNat, by omega⟩
      have hts := take_snoc hlt
      rw [hn] at hx hc hts
      have hnN : n < cl.length := by omega
      obtain ⟨cb, co, rfl, hcn⟩ := hcc n hnN
      have dl : wr.cell? ⟨lb, lo + k, none⟩ = some (.int .i64 (n : Int)) := by rw [hb.out.cell (p := ⟨lb, lo + k, none⟩) (lt_of_cell hc)]; exact hc
      have dr : wr.cell? ⟨cb, co + n, none⟩ = some (.int .i64 (cl.getD n 0)) := by rw [hb.out.cell (p := ⟨cb, co + n, none⟩) (lt_of_cell hcn)]; exact hcn
      have hst : Hid (((l.take k).map (fun x => cl.getD x.toNat 0)).map (Value.int .i64) ++ [.int .i64 (cl.getD n 0)] = ((l.take (k + 1)).map (fun x => cl.getD x.toNat 0)).map (Value.int .i64)) := by
        show _ = _
        rw [hts]
        simp
      generalize cl.getD n 0 = y at dr hst
      have hbd : Below W.heap.size W wr := hb.out
      have hod := ho.out
      generalize ((l.take k).map (fun x => cl.getD x.toNat 0)).map (Value.int .i64) = XS at hod hst
      have hbs := hbd.size
      have ho1 := World.ownsRow.alloc hod (.cells #[.int .i64 y] 3)
      clear hc hcn hn hts hb ho
      go_wp2_with (at_builtin; refine wpList_append_lies _ rfl _ _ _ rfl W.heap.size 3 i0 (.int .i64 0) 1 8 Try.underlying27 hi hz0 hz1 hz2 rfl (by decide) _ k XS rfl ho1 ⟨wr.heap.size, 0, none⟩ 1 1 [.int .i64 y] rfl rfl (World.news_of_block (cs := #[.int .i64 y]) (t := 3) (fr := (0, 0)) (heap_alloc_new wr _)) (by simp [Value.oneCell']) (by omega) (by unfold maxLen; omega) (by omega) (by simp; omega) (wr.heap.size + 1) (by simp) ?_; intro gg cap w2 hown2 hgr hat hltg)
      go_roundw
      case rel =>
        refine ⟨k + 1, some ⟨gg, 0, none⟩, cap, by omega, congrArg (Value.int .i64) (by omega), rfl, ?_, ?_⟩
        · have h1 : Below W.heap.size W (wr.alloc (.cells #[.int .i64 y] 3)) := hbd.alloc (by omega) _
          exact h1.grown hgr (by simp; omega) (fun j e => (hod.lt j e).1)
        · show World.ownsRow _ _ _ _ _ _ _
          rw [← hst.out]
          exact hown2
      case measure => simp [intOf]; omega
    · have hkl : k = l.length := by omega
      have ho' := ho.out
      rw [hkl, List.take_of_length_le (Nat.le_refl _)] at ho'
      have hb' := hb.out
      clear hb ho
      subst hkl
      go_wp2
      go_ret
      exact ⟨⟨ao, c, rfl, ho'⟩, hb'⟩
end Go.Proofs.Ytncileojdighnaa

namespace Go.Proofs.Ytncileojdighnaa
set_option maxRecDepth 100000
open Go.RowKit
theorem islice_nil_in {P : Program} (w : World) (d : Nat) (t : TypeId) {e : TypeId} (h : P.underlying t = some (.slice e)) (ao : Option Addr) (n c : Nat) : (Op.equalIn (d + 1) t (.slice ao n c) (.slice none 0 0)).run P w = .ok ao.isNone w := by
  cases ao <;> simp [Op.equalIn, run_underlying h]
theorem islice_nil (w : World) (ao : Option Addr) (n c : Nat) : (binOp .eql 27 (.slice ao n c) (.slice none 0 0)).run Try.prog w = .ok (.bool ao.isNone) w := by
  simp only [binOp]
  simp [show Op.equal 27 (.slice ao n c) (.slice none 0 0) = Op.equalIn (9999 + 1) 27 (.slice ao n c) (.slice none 0 0) from rfl, islice_nil_in w 9999 27 Try.underlying27]
theorem ints_one (l : List Int) : ∀ u ∈ l.map (Value.int .i64), u.oneCell' = true := fun u hu => by
  obtain ⟨s, _, rfl⟩ := List.mem_map.1 hu
  simp [Value.oneCell']
set_option maxHeartbeats 1000000 in
theorem iclone_any {w : World} {b o c : Nat} {l : List Int} (h : ∀ j, j < l.length → w.cell? ⟨b, o + j, none⟩ = some (.int .i64 (l.getD j 0))) (hl : l.length ≤ 5000) :
    Calls Try.prog 90 #[.slice (some ⟨b, o, none⟩) l.length c] w fun e w' => ∃ v', e = .returned v' ∧ w'.ownsRow w.heap.size 3 1 v' l.length (l.map (Value.int .i64)) ∧ Below w.heap.size w w' := by
  obtain ⟨i0, hi, hz0, hz1, hz2⟩ := info_parts infoI
  have hnews : ∀ j u, (l.map (Value.int .i64))[j]? = some u → (w.alloc (.cells #[] 3)).cell? ((⟨b, o, none⟩ : Addr).add j) = some u := fun j u hj => by
    have hjl : j < l.length := by
      by_cases e : j < l.length
      · exact e
      · have : (l.map (Value.int .i64))[j]? = none := by simp; omega
        rw [this] at hj
        cases hj
    have h1 := h j hjl
    have h2 : u = .int .i64 (l.getD j 0) := by
      simp [hjl] at hj
      simp [List.getD, hjl, hj]
    rw [h2, Addr.add_lit, (below_alloc w _).cell (p := ⟨b, o + j, none⟩) (lt_of_cell h1)]
    exact h1
  have hown : (w.alloc (.cells #[] 3)).ownsRow w.heap.size 3 1 (.slice (some ⟨w.heap.size, 0, none⟩) 0 0) 0 [] := ⟨rfl, Or.inr ⟨w.heap.size, 0, #[], rfl, Nat.le_refl _, heap_alloc_new w _, Nat.le_refl _, Nat.zero_le _, rfl, rfl⟩⟩
  have hsn := fun w : World => islice_nil w (some ⟨b, o, none⟩) l.length c
  clear h
  go_enter Try.func90, Try.ntmps90
  go_wp2_with (at_builtin; refine wpList_append_own _ rfl _ _ 27 rfl w.heap.size 3 i0 (.int .i64 0) 1 8 Try.underlying27 hi hz0 hz1 hz2 rfl (by decide) (.slice (some ⟨w.heap.size, 0, none⟩) 0 0) 0 [] rfl hown ⟨b, o, none⟩ l.length c (l.map (Value.int .i64)) rfl (by simp) hnews (ints_one l) (by unfold maxLen; omega) (by omega) (by simp) ?_; intro v' w1 hown' hgrow _)
  go_ret
  refine ⟨v', rfl, by simpa using hown', ?_⟩
  exact (below_alloc w _).grown hgrow (by simp) (fun k e => by
    have e' : k = w.heap.size := by simpa [Value.ownBlock] using e.symm
    omega)
end Go.Proofs.Ytncileojdighnaa

namespace Go.Proofs.Ytncileojdighnaa
set_option maxRecDepth 100000
open Go.RowKit
structure Elt (α : Type) where
  T : TypeId
  z : Nat
  C : (Nat → Prop) → World → α → List Value → Prop
  keep : ∀ {P P' : Nat → Prop} {w w' : World} {x : α} {cs : List Value}, (∀ b, P b → b < w.heap.size → P' b ∧ w'.heap[b]? = w.heap[b]?) → C P w x cs → C P' w' x cs
def Rwo {α : Type} (E : Elt α) (B : Nat) (w : World) (v : Value) (xs : List α) : Prop := ∃ f : Nat → List Value, (∀ j, (f j).length = E.z) ∧ (∀ j x, xs[j]? = some x → E.C (Out B v) w x (f j)) ∧ w.ownsRow B E.T E.z v xs.length (flatV f xs.length)
section
variable {α : Type} {E : Elt α}
theorem ro_app {B D g c6 : Nat} {w5 w6 : World} {v : Value} {xs : List α} {x : α} {cs : List Value} {o : Obj} {f : Nat → List Value} (hf : ∀ j, (f j).length = E.z) (hx : ∀ j y, xs[j]? = some y → E.C (Out B v) w5 y (f j)) (hD : ∀ b, v.ownBlock = some b → b < D) (hBD : B ≤ D) (hcs : cs.length = E.z)
    (hv : E.C (D ≤ ·) w5 x cs) (hown : w6.ownsRow B E.T E.z (.slice (some ⟨g, 0, none⟩) (xs.length + 1) c6) (xs.length + 1) (flatV f xs.length ++ cs))
    (hg : (w5.alloc o).grownBy w6 v.ownBlock) (hat : v.ownBlock = some g ∨ g = w5.heap.size + 1) : Rwo E B w6 (.slice (some ⟨g, 0, none⟩) (xs.length + 1) c6) (xs ++ [x]) := by
  have key : ∀ b, b < w5.heap.size → v.ownBlock ≠ some b → (Value.slice (some ⟨g, 0, none⟩) (xs.length + 1) c6).ownBlock ≠ some b ∧ w6.heap[b]? = w5.heap[b]? := fun b hl hne => by
    refine ⟨fun e => ?_, ?_⟩
    · have e1 : g = b := by simpa [Value.ownBlock] using e
      rcases hat with h | h
      · exact hne (by rw [h, e1])
      · omega
    · rw [hg.block b (by simp; omega) (fun e => hne e.symm)]
      exact Below.heap_alloc _ _ _ hl
  have hnew : E.C (Out B (.slice (some ⟨g, 0, none⟩) (xs.length + 1) c6)) w6 x cs := E.keep (fun b hb hl => by
    have hb' : D ≤ b := hb
    obtain ⟨h1, h2⟩ := key b hl (fun e => by have := hD b e; omega)
    exact ⟨⟨by omega, h1⟩, h2⟩) hv
  refine ⟨fun j => if j < xs.length then f j else cs, fun j => ?_, fun j y hj => ?_, ?_⟩
  · show List.length (if _ then _ else _) = E.z
    split
    · exact hf j
    · exact hcs
  · by_cases e : j < xs.length
    · rw [List.getElem?_append_left e] at hj
      show E.C _ w6 _ (if _ then _ else _)
      rw [if_pos e]
      exact E.keep (fun b hb hl => by
        obtain ⟨h1, h2⟩ := key b hl hb.2
        exact ⟨⟨hb.1, h1⟩, h2⟩) (hx j y hj)
    · have hjl : j < (xs ++ [x]).length := (List.getElem?_eq_some_iff.1 hj).1
      have e2 : j = xs.length := by simp at hjl; omega
      subst e2
      have e1 : y = x := by simpa using hj.symm
      subst e1
      show E.C _ w6 _ (if _ then _ else _)
      rw [if_neg e]
      exact hnew
  · rw [List.length_append, List.length_singleton, flatV_succ]
    have e1 : flatV (fun j => if j < xs.length then f j else cs) xs.length = flatV f xs.length := flatV_congr _ (fun i hi => by simp [hi])
    rw [e1]
    simp only [Nat.lt_irrefl, if_false]
    exact hown
end
end Go.Proofs.Ytncileojdighnaa
