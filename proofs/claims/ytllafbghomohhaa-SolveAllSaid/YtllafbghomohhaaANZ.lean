/- fixed of package solve. -/
import Derived.Test.YtllafbghomohhaaAMZ
import Derived.Lib.AppendZerosOnto
import Derived.Test.YtllafbghomohhaaAGZ
namespace Go.Proofs.Ytllafbghomohhaa
open Go.RowKit

theorem fixedF_snoc (f : Nat) : ∀ (n : Nat) (l : List Nd) (y : Nd), fixedF f n (l ++ [y]) = fixedF f n l ++ [fixN1 f (n + l.length) y]
  | n, [], y => by simp [fixedF]
  | n, z :: r, y => by
    rw [List.cons_append, fixedF, fixedF, fixedF_snoc f (n + 1) r y, List.cons_append, List.length_cons, show n + 1 + r.length = n + (r.length + 1) by omega]
theorem ftake_snoc {l : List Nd} {k : Nat} (h : k < l.length) : l.take (k + 1) = l.take k ++ [l.getD k nd0] := by
  rw [List.take_add_one]
  simp [List.getD, h]
/-- A node's box and its new arguments, while they are made. -/
structure Fa (wr wy : World) (bx : Array Value) (v : Value) (k : Nat) (xs : List Value) : Prop where
  bel : Below wr.heap.size wr wy
  box : wy.heap[wr.heap.size]? = some (.cells bx 56)
  row : wy.ownsRow wr.heap.size 3 1 v k xs
theorem Fa.start (wr : World) (bx : Array Value) : Fa wr (wr.alloc (.cells bx 56)) bx (.slice none 0 0) 0 [] := ⟨below_alloc wr _, heap_alloc_new wr _, World.ownsRow_nil _ _ _ _⟩
theorem Fa.ne {wr wy : World} {bx : Array Value} {v : Value} {k : Nat} {xs : List Value} (h : Fa wr wy bx v k xs) {q : Nat} (hq : v.ownBlock = some q) : q ≠ wr.heap.size := by
  obtain ⟨cur, hc⟩ := row_obj h.row hq
  exact obj_ne hc h.box (by decide)
theorem Fa.push {wr wy w2 : World} {bx : Array Value} {v v2 : Value} {k k2 : Nat} {xs xs2 : List Value} {o : Obj} (h : Fa wr wy bx v k xs) (hg : (wy.alloc o).grownBy w2 v.ownBlock) (hown : w2.ownsRow wr.heap.size 3 1 v2 k2 xs2) : Fa wr w2 bx v2 k2 xs2 := by
  have hz := lt_of_block h.box
  refine ⟨(h.bel.alloc (Nat.le_of_lt hz) o).grown hg (by simp; omega) (fun q hq => (h.row.lt q hq).1), ?_, hown⟩
  rw [hg.block wr.heap.size (by simp; omega) (fun e => h.ne e.symm rfl), Below.heap_alloc _ _ _ hz]
  exact h.box
/-- The nodes so far, and one more. -/
theorem Fa.done {W wr wy w2 : World} {k0 s0 n0 a0 : Value} {ao : Option Addr} {c j g cap : Nat} {nv : Value} {avs : List Value} {nds : List Nd} {nd : Nd} {o : Obj} (h : Fa wr wy #[k0, s0, n0, a0] (.slice ao nd.args.length c) nd.args.length (nd.args.map (Value.int .i64))) (hO : On wr W.heap.size nv avs nds) (hW : Below W.heap.size W wr) (hj : nds.length = j)
    (hg : ((wy.setCell ⟨wr.heap.size, 3, none⟩ (.slice ao nd.args.length c)).alloc o).grownBy w2 nv.ownBlock) (hown : w2.ownsRow W.heap.size 56 4 (.slice (some ⟨g, 0, none⟩) (j + 1) cap) (j + 1) (ncells nds avs ++ [.int .i64 nd.kind, .string nd.name, .int .i64 nd.num, .slice ao nd.args.length c])) (hat : nv.ownBlock = some g ∨ ((wy.setCell ⟨wr.heap.size, 3, none⟩ (.slice ao nd.args.length c)).alloc o).heap.size ≤ g) :
    (∃ avs', On w2 W.heap.size (.slice (some ⟨g, 0, none⟩) (j + 1) cap) avs' (nds ++ [nd])) ∧ Below W.heap.size W w2 := by
  subst hj
  have hz := lt_of_block h.box
  have hb1 : Below wr.heap.size wr ((wy.setCell ⟨wr.heap.size, 3, none⟩ (.slice ao nd.args.length c)).alloc o) := (h.bel.setCell (p := ⟨wr.heap.size, 3, none⟩) (Nat.le_refl _) _).alloc (by simp; omega) o
  have hr1 : ((wy.setCell ⟨wr.heap.size, 3, none⟩ (.slice ao nd.args.length c)).alloc o).ownsRow wr.heap.size 3 1 (.slice ao nd.args.length c) nd.args.length (nd.args.map (Value.int .i64)) := by
    refine World.ownsRow.alloc ?_ o
    exact row_keep h.row (fun k hk => Below.heap_setCell _ _ _ _ (h.ne hk))
  refine ⟨⟨_, hO.push hb1 hr1 hW.size hg hown hat⟩, ?_⟩
  refine (hW.trans (hb1.mono hW.size)).grown hg (by have := hW.size; simp; omega) (fun q hq => (hO.n.lt q hq).1)
set_option maxRecDepth 100000 in
set_option maxHeartbeats 8000000 in
theorem fixed_any {W : World} {nv : Value} {ns : List Nd} (hn : Rn W nv ns) (hN : ns.length ≤ 5000) {f : Nat} (hf : f ≤ 5000) (hav : ∀ j, j < ns.length → ∀ x ∈ (ns.getD j nd0).args, 0 ≤ x ∧ x ≤ 5000) (h8 : ∀ j, j < ns.length → (ns.getD j nd0).args.length ≤ 8) :
    Calls Try.prog 37 #[nv, .int .i64 (f : Int)] W fun e w' => ∃ ao c avs, e = .returned (.slice ao ns.length c) ∧ On w' W.heap.size (.slice ao ns.length c) avs (fixedF f 0 ns) ∧ Below W.heap.size W w' := by
  obtain ⟨i0, hi, hz0, hz1, hz2⟩ := info_parts infoI
  obtain ⟨i1, hi1, hy0, hy1, hy2⟩ := info_parts infoN
  have HAV := hid hav
  have H8 := hid h8
  obtain ⟨na, nc, rfl, hn0⟩ := hn
  have HN := hid hn0
  clear hav h8 hn0
  go_enter Try.func37, Try.ntmps37
  go_wp2
  have hO0 : Hid (On W W.heap.size (.slice none 0 0) [] (fixedF f 0 (ns.take 0))) := On.nil W _
  have hB0 := hid (Below.refl W.heap.size W)
  go_loopw [5, 13] (fun x i wr => ∃ (j : Nat) (ao : Option Addr) (c : Nat) (avs : List Value), j ≤ ns.length ∧ i = .int .i64 (j : Int) ∧ x = .slice ao j c ∧ Hid (On wr W.heap.size (.slice ao j c) avs (fixedF f 0 (ns.take j))) ∧ Hid (Below W.heap.size W wr)) (fun _ i _ => ns.length - (intOf i).toNat)
  case atStart => exact ⟨0, none, 0, [], by omega, rfl, rfl, hO0, hB0⟩
  case round =>
    clear hO0 hB0
    obtain ⟨j, ao, c, avs, hj, rfl, rfl, hO, hB⟩ := hrel
    obtain ⟨wo, hwo⟩ : ∃ wo, wo = wr := ⟨_, rfl⟩
    subst hwo
    have hjl : Hid ((fixedF f 0 (ns.take j)).length = j) := show _ = _ by rw [fixedF_len, List.length_take]; omega
    by_cases hlt : j < ns.length
    · obtain ⟨nb, no, av, rfl, hNd⟩ := HN.out j hlt
      obtain ⟨aa, ac, rfl, _⟩ := hNd.2.2.2.2
      obtain ⟨d0, d1, d2, d3, d4⟩ := hNd.below hB.out
      have hzn := lt_of_cell d0
      have hRA : Hid (∀ w', Below wo.heap.size wo w' → Ri w' (.slice aa (ns.getD j nd0).args.length ac) (ns.getD j nd0).args) := fun w' hb => d4.below hb
      have hav := hid (HAV.out j hlt)
      have ha8 := H8.out j hlt
      have htk : Hid (fixedF f 0 (ns.take (j + 1)) = fixedF f 0 (ns.take j) ++ [fixN1 f j (ns.getD j nd0)]) := show _ = _ by
        rw [ftake_snoc hlt, fixedF_snoc, Nat.zero_add, List.length_take, Nat.min_eq_left (by omega)]
      have hjj : (j : Int) < (ns.length : Int) := by omega
      have hon : Hid (wo.ownsRow W.heap.size 56 4 (.slice ao j c) j (ncells (fixedF f 0 (ns.take j)) avs)) := by
        have := hO.out.n
        rw [hjl.out] at this
        exact this
      clear hNd d4
      generalize ns.getD j nd0 = nd at *
      obtain ⟨kd, nm, nu, args⟩ := nd
      dsimp only at d0 d1 d2 d3 hav ha8 hRA
      have hszr := hB.out.size
      by_cases hkd : kd = 1
      · subst hkd
        have hfn : Hid (fixN1 f j ⟨1, nm, nu, args⟩ = ⟨0, ⟨#[]⟩, (j : Int), []⟩) := fixN1_var rfl
        have hFa0 := hid (Fa.start wo #[.int .i64 0, .string ⟨#[]⟩, .int .i64 (j : Int), .slice none 0 0])
        go_wp2
        go_loopw [8, 26] (fun x i wy => ∃ (k : Nat) (bo : Option Addr) (bc : Nat), k ≤ ([] : List Int).length ∧ i = .int .i64 (k : Int) ∧ x = .slice bo k bc ∧ Hid (Fa wo wy #[.int .i64 0, .string ⟨#[]⟩, .int .i64 (j : Int), .slice none 0 0] (.slice bo k bc) k (((([] : List Int).take k).map (fun a => (f : Int) + a)).map (Value.int .i64)))) (fun _ i _ => ([] : List Int).length - (intOf i).toNat)
        case atStart => exact ⟨0, none, 0, Nat.zero_le _, rfl, rfl, hFa0⟩
        case round =>
          clear hFa0
          obtain ⟨k, bo, bc, hk, rfl, rfl, hFa⟩ := hrel
          by_cases hlk : k < ([] : List Int).length
          · exact absurd hlk (Nat.not_lt_zero _)
          · obtain rfl : k = ([] : List Int).length := by omega
            have hF9 := hid hFa.out
            rw [List.take_length] at hF9
            have hF9' : Hid (Fa wo wr #[.int .i64 0, .string ⟨#[]⟩, .int .i64 (j : Int), .slice none 0 0] (.slice bo (([] : List Int).map (fun a => (f : Int) + a)).length bc) (([] : List Int).map (fun a => (f : Int) + a)).length ((([] : List Int).map (fun a => (f : Int) + a)).map (Value.int .i64))) := by
              have := hF9.out
              rw [List.length_map]
              exact this
            obtain ⟨⟨x0, x1, x2, x3⟩, f0, f3⟩ := nblk hF9.out.box
            have hzz := lt_of_block hF9.out.box
            have hon2 : Hid (((wr.setCell ⟨wo.heap.size, 3, none⟩ (.slice bo ([] : List Int).length bc)).alloc (.cells #[.int .i64 0, .string ⟨#[]⟩, .int .i64 (j : Int), .slice bo ([] : List Int).length bc] 56)).ownsRow W.heap.size 56 4 (.slice ao j c) j (ncells (fixedF f 0 (ns.take j)) avs)) := by
              refine World.ownsRow.alloc ?_ _
              refine row_keep hon.out (fun q hq => ?_)
              have hq2 := (hon.out.lt q hq).2
              rw [Below.heap_setCell _ _ _ _ (by show q ≠ wo.heap.size; omega)]
              exact hF9.out.bel.block q hq2
            have hdone := hid (fun (w2 : World) (o : Obj) (g cap : Nat) h1 h2 h3 => Fa.done (w2 := w2) (o := o) (g := g) (cap := cap) (nd := ⟨0, ⟨#[]⟩, (j : Int), ([] : List Int).map (fun a => (f : Int) + a)⟩) hF9'.out hO.out hB.out hjl.out h1 h2 h3)
            rw [List.length_map] at hdone
            clear hFa hF9 hF9'
            go_wp2_with (at_builtin; go_must (refine wpList_append_lies _ rfl _ _ 22 rfl W.heap.size 56 i1 (.agg #[.int .i64 0, .string ⟨#[]⟩, .int .i64 0, .slice none 0 0]) 4 56 Try.underlying22 hi1 hy0 hy1 hy2 rfl (by decide) _ j _ rfl hon2.out ⟨wr.heap.size, 0, none⟩ 1 1 [.int .i64 0, .string ⟨#[]⟩, .int .i64 (j : Int), .slice bo ([] : List Int).length bc] rfl rfl (World.news_of_block (cs := #[.int .i64 0, .string ⟨#[]⟩, .int .i64 (j : Int), .slice bo ([] : List Int).length bc]) (t := 56) (fr := (0, 0)) (by have h9 := heap_alloc_new (wr.setCell ⟨wo.heap.size, 3, none⟩ (.slice bo ([] : List Int).length bc)) (.cells #[.int .i64 0, .string ⟨#[]⟩, .int .i64 (j : Int), .slice bo ([] : List Int).length bc] 56); simpa using h9)) (by simp [Value.oneCell']) (by decide) (by unfold maxLen; omega) (by omega) (by simp; omega) _ rfl ?_; intro g cap w6 hown6 hg6 hat6 hlt6; obtain ⟨⟨avs3, hO6⟩, hB6⟩ := hdone.out w6 _ g cap hg6 hown6 (hat6.imp id (fun e => Nat.le_of_eq e.symm))))
            go_roundw
            case rel => exact ⟨j + 1, some ⟨g, 0, none⟩, cap, avs3, by omega, by go_num, rfl, (show On _ _ _ _ _ by rw [htk.out, hfn.out]; exact hO6), hB6⟩
            case measure => simp [intOf]; omega
      · have hfn : Hid (fixN1 f j ⟨kd, nm, nu, args⟩ = ⟨kd, nm, nu, args.map (fun a => (f : Int) + a)⟩) := fixN1_not hkd
        have hFa0 := hid (Fa.start wo #[.int .i64 kd, .string nm, .int .i64 nu, .slice aa args.length ac])
        go_wp2
        go_loopw [8, 26] (fun x i wy => ∃ (k : Nat) (bo : Option Addr) (bc : Nat), k ≤ args.length ∧ i = .int .i64 (k : Int) ∧ x = .slice bo k bc ∧ Hid (Fa wo wy #[.int .i64 kd, .string nm, .int .i64 nu, .slice aa args.length ac] (.slice bo k bc) k (((args.take k).map (fun a => (f : Int) + a)).map (Value.int .i64)))) (fun _ i _ => args.length - (intOf i).toNat)
        case atStart => exact ⟨0, none, 0, Nat.zero_le _, rfl, rfl, hFa0⟩
        case round =>
          clear hFa0
          obtain ⟨k, bo, bc, hk, rfl, rfl, hFa⟩ := hrel
          by_cases hlk : k < args.length
          · obtain ⟨_, _, hve, hvc⟩ := hRA.out wr hFa.out.bel
            injection hve with u1 _ u3
            subst u1 u3
            obtain ⟨b, o, rfl, hu⟩ := hvc k hlk
            have hx := hav.out _ (getD_mem hlk)
            have hst : Hid (((args.take (k + 1)).map (fun a => (f : Int) + a)).map (Value.int .i64) = ((args.take k).map (fun a => (f : Int) + a)).map (Value.int .i64) ++ [.int .i64 ((f : Int) + args.getD k 0)]) := show _ = _ by
              rw [List.take_add_one, List.map_append, List.map_append]
              simp [List.getD, hlk]
            have hzb := lt_of_cell hu
            clear hvc hRA
            generalize args.getD k 0 = x at *
            obtain ⟨xn, rfl⟩ : ∃ xn : Nat, x = (xn : Int) := ⟨x.toNat, by omega⟩
            have ho2 := hid (World.ownsRow.alloc hFa.out.row (.cells #[.int .i64 ((f : Int) + (xn : Int))] 3))
            have hsz2 := lt_of_block hFa.out.box
            have hnx := hid (fun (w2 : World) (o : Obj) (v2 : Value) (k2 : Nat) (xs2 : List Value) h1 h2 => Fa.push (w2 := w2) (o := o) (v2 := v2) (k2 := k2) (xs2 := xs2) hFa.out h1 h2)
            clear hFa
            go_wp2_with (at_builtin; go_must (refine wpList_append_lies _ rfl _ _ 23 rfl wo.heap.size 3 i0 (.int .i64 0) 1 8 Try.underlying23 hi hz0 hz1 hz2 rfl (by decide) _ k _ rfl ho2.out ⟨wr.heap.size, 0, none⟩ 1 1 [.int .i64 ((f : Int) + (xn : Int))] rfl rfl (cell_one_new wr _ _) (by simp [Value.oneCell']) (by decide) (by unfold maxLen; omega) (by omega) (by simp; omega) _ rfl ?_; intro g cap w2 hown2 hg2 hat2 hlt2))
            go_roundw
            case rel => exact ⟨k + 1, _, cap, by omega, by go_num, rfl, hnx.out w2 _ _ _ _ hg2 (by rw [hst.out]; exact hown2)⟩
            case measure => simp [intOf]; omega
          · obtain rfl : k = args.length := by omega
            have hF9 := hid hFa.out
            rw [List.take_length] at hF9
            have hF9' : Hid (Fa wo wr #[.int .i64 kd, .string nm, .int .i64 nu, .slice aa args.length ac] (.slice bo (args.map (fun a => (f : Int) + a)).length bc) (args.map (fun a => (f : Int) + a)).length ((args.map (fun a => (f : Int) + a)).map (Value.int .i64))) := by
              have := hF9.out
              rw [List.length_map]
              exact this
            obtain ⟨⟨x0, x1, x2, x3⟩, f0, f3⟩ := nblk hF9.out.box
            have hzz := lt_of_block hF9.out.box
            have hon2 : Hid (((wr.setCell ⟨wo.heap.size, 3, none⟩ (.slice bo args.length bc)).alloc (.cells #[.int .i64 kd, .string nm, .int .i64 nu, .slice bo args.length bc] 56)).ownsRow W.heap.size 56 4 (.slice ao j c) j (ncells (fixedF f 0 (ns.take j)) avs)) := by
              refine World.ownsRow.alloc ?_ _
              refine row_keep hon.out (fun q hq => ?_)
              have hq2 := (hon.out.lt q hq).2
              rw [Below.heap_setCell _ _ _ _ (by show q ≠ wo.heap.size; omega)]
              exact hF9.out.bel.block q hq2
            have hdone := hid (fun (w2 : World) (o : Obj) (g cap : Nat) h1 h2 h3 => Fa.done (w2 := w2) (o := o) (g := g) (cap := cap) (nd := ⟨kd, nm, nu, args.map (fun a => (f : Int) + a)⟩) hF9'.out hO.out hB.out hjl.out h1 h2 h3)
            rw [List.length_map] at hdone
            clear hFa hF9 hF9'
            go_wp2_with (at_builtin; go_must (refine wpList_append_lies _ rfl _ _ 22 rfl W.heap.size 56 i1 (.agg #[.int .i64 0, .string ⟨#[]⟩, .int .i64 0, .slice none 0 0]) 4 56 Try.underlying22 hi1 hy0 hy1 hy2 rfl (by decide) _ j _ rfl hon2.out ⟨wr.heap.size, 0, none⟩ 1 1 [.int .i64 kd, .string nm, .int .i64 nu, .slice bo args.length bc] rfl rfl (World.news_of_block (cs := #[.int .i64 kd, .string nm, .int .i64 nu, .slice bo args.length bc]) (t := 56) (fr := (0, 0)) (by have h9 := heap_alloc_new (wr.setCell ⟨wo.heap.size, 3, none⟩ (.slice bo args.length bc)) (.cells #[.int .i64 kd, .string nm, .int .i64 nu, .slice bo args.length bc] 56); simpa using h9)) (by simp [Value.oneCell']) (by decide) (by unfold maxLen; omega) (by omega) (by simp; omega) _ rfl ?_; intro g cap w6 hown6 hg6 hat6 hlt6; obtain ⟨⟨avs3, hO6⟩, hB6⟩ := hdone.out w6 _ g cap hg6 hown6 (hat6.imp id (fun e => Nat.le_of_eq e.symm))))
            go_roundw
            case rel => exact ⟨j + 1, some ⟨g, 0, none⟩, cap, avs3, by omega, by go_num, rfl, (show On _ _ _ _ _ by rw [htk.out, hfn.out]; exact hO6), hB6⟩
            case measure => simp [intOf]; omega
    · obtain rfl : j = ns.length := by omega
      have hO9 := hid hO.out
      rw [List.take_length] at hO9
      have hB9 := hid hB.out
      clear hO hB
      go_wp2
      go_ret
      exact ⟨_, _, _, rfl, hO9.out, hB9.out⟩
end Go.Proofs.Ytllafbghomohhaa

/- slices.Grow and slices.Concat over nodes. -/
namespace Go.Proofs.Ytllafbghomohhaa
open Go.RowKit

/-- A slice of nothing is appended: nothing changes. -/
theorem run_app_empty {P : Program} {w : World} (base : Nat) (t ty e : TypeId) (i : TypeInfo) (size : Nat) (ht : P.underlying t = some (.slice e)) (hi : P.info? e = some i)
    (v : Value) (n : Nat) (xs : List Value) (hown : w.ownsRow base e size v n xs) (ao : Option Addr) (c : Nat) :
    (Builtin.append_ #[t, t] ty #[v, .slice ao 0 c]).run P w = .ok v w := by
  cases ao with
  | none =>
    rcases hown.2 with ⟨rfl, rfl⟩ | ⟨g, cap, cur, rfl, _, _, hnc, _⟩
    · simp [Builtin.append_, run_underlying ht, sizeOf, typeInfo, hi, Builtin.lenOf, Builtin.firstCells]
    · simp [Builtin.append_, run_underlying ht, sizeOf, typeInfo, hi, Builtin.lenOf, Builtin.firstCells, hnc, storeCells]
  | some a =>
    rcases hown.2 with ⟨rfl, rfl⟩ | ⟨g, cap, cur, rfl, _, _, hnc, _⟩
    · simp [Builtin.append_, run_underlying ht, sizeOf, typeInfo, hi, Builtin.lenOf, Builtin.firstCells, loadCells, loadCellsFrom]
    · simp [Builtin.append_, run_underlying ht, sizeOf, typeInfo, hi, Builtin.lenOf, Builtin.firstCells, hnc, storeCells, loadCells, loadCellsFrom]
set_option maxRecDepth 100000 in
set_option maxHeartbeats 4000000 in
theorem ngrow_any (w : World) (n : Nat) (hn : n ≤ 20000) :
    Calls Try.prog 62 #[.slice none 0 0, .int .i64 (n : Int)] w fun e w' => ∃ ao c, e = .returned (.slice ao 0 c) ∧ w'.ownsRow w.heap.size 56 4 (.slice ao 0 c) 0 [] ∧ Below w.heap.size w w' := by
  obtain ⟨i1, hi1, hy0, hy1, hy2⟩ := info_parts infoN
  have h1 : ¬ ((n : Int) < 0) := by omega
  by_cases h0 : n = 0
  · subst h0
    go_enter Try.func62, Try.ntmps62
    go_wp2
    go_ret
    exact ⟨_, _, rfl, World.ownsRow_nil _ _ _ _, Below.refl _ _⟩
  · have hrz : ∀ ty, (Builtin.append_ #[22, 3] ty #[.slice none 0 0, .int .i64 (n : Int)]).run Try.prog w = .ok (.slice (some ⟨w.heap.size, 0, none⟩) n (grownCap w n 0 56)) (w.drew.alloc (.cells (Builtin.zeroCells (Value.agg #[.int .i64 0, .string ⟨#[]⟩, .int .i64 0, .slice none 0 0]).cells n ++ Builtin.zeroCells (Value.agg #[.int .i64 0, .string ⟨#[]⟩, .int .i64 0, .slice none 0 0]).cells (grownCap w n 0 56 - n)) 56)) := fun ty =>
      Lib.run_append_nil_zeros (P := Try.prog) w 22 3 ty 56 i1 _ .i64 .i64 Try.underlying22 Try.underlying3 hi1 hy0 n (by omega) (by rw [hy1]; omega) (by omega) (by rw [hy2]; omega)
    have hgc := grownCap_ge w n 0 56
    have hgm := grownCap_le_maxLen w n 0 56 (by unfold maxLen; omega)
    have hfin : Hid (∀ C, C = grownCap w n 0 56 → (w.drew.alloc (.cells (Builtin.zeroCells (Value.agg #[.int .i64 0, .string ⟨#[]⟩, .int .i64 0, .slice none 0 0]).cells n ++ Builtin.zeroCells (Value.agg #[.int .i64 0, .string ⟨#[]⟩, .int .i64 0, .slice none 0 0]).cells (C - n)) 56)).ownsRow w.heap.size 56 4 (.slice (some ⟨w.heap.size, 0, none⟩) 0 C) 0 []) := fun C hC => by
      refine ⟨rfl, .inr ⟨w.heap.size, C, _, rfl, Nat.le_refl _, heap_alloc_new w.drew _, Nat.zero_le _, by rw [hC]; exact hgm, ?_, rfl⟩⟩
      rw [Array.size_append, size_zeroCells, size_zeroCells, ← Nat.add_mul, show n + (C - n) = C by omega]
      rfl
    generalize hC : grownCap w n 0 56 = C at *
    have hn0 : (n : Int) > 0 := by omega
    go_enter Try.func62, Try.ntmps62
    go_wp2_with (at_builtin; refine Lib.wpList_append_run _ rfl _ _ _ _ rfl _ _ rfl rfl _ _ (hrz _) ?_)
    go_ret
    exact ⟨_, _, rfl, hfin.out C rfl, (Below.refl _ _).drew.alloc (by simp) _⟩
end Go.Proofs.Ytllafbghomohhaa

/- with of package tendrillaw10. -/
namespace Go.Proofs.Ytllafbghomohhaa
open Go.RowKit

/-- The roots, and both of each pair behind them. -/
def withR (rs : List Int) : List (Int × Int) → List Int
  | [] => rs
  | p :: r => withR (rs ++ [p.1, p.2]) r
theorem withR_snoc : ∀ (rs : List Int) (ps : List (Int × Int)) (p : Int × Int), withR rs (ps ++ [p]) = withR rs ps ++ [p.1, p.2]
  | _, [], _ => rfl
  | rs, q :: r, p => withR_snoc (rs ++ [q.1, q.2]) r p
theorem withR_len : ∀ (rs : List Int) (ps : List (Int × Int)), (withR rs ps).length = rs.length + 2 * ps.length
  | rs, [] => by simp [withR]
  | rs, q :: r => by
    unfold withR
    rw [withR_len]
    simp
    omega
set_option maxRecDepth 100000 in
/-- Numbers, or none, are appended. -/
theorem iapp {w : World} {B : Nat} {ao : Option Addr} {n c : Nat} {xs : List Value} (hown : w.ownsRow B 3 1 (.slice ao n c) n xs) (hB : B ≤ w.heap.size) {v : Value} {l : List Int} (h : Ri w v l) (hn : n ≤ 100000) (hl : l.length ≤ 100000) :
    ∃ ao' c' w', (∀ ty, (Builtin.append_ #[23, 23] ty #[.slice ao n c, v]).run Try.prog w = .ok (.slice ao' (n + l.length) c') w') ∧ w'.ownsRow B 3 1 (.slice ao' (n + l.length) c') (n + l.length) (xs ++ l.map (Value.int .i64)) ∧ w.grownBy w' (Value.slice ao n c).ownBlock := by
  obtain ⟨i0, hi, hz0, hz1, hz2⟩ := info_parts infoI
  obtain ⟨ra, rc, rfl, hc⟩ := h
  by_cases h0 : 0 < l.length
  · obtain ⟨b, o, rfl, _⟩ := hc 0 h0
    obtain ⟨g, cap, w', hr, ho, hg, _⟩ := run_append_lies (P := Try.prog) w 23 0 B 3 i0 (.int .i64 0) 1 8 Try.underlying23 hi hz0 hz1 hz2 rfl (by decide) _ n xs hown ⟨b, o, none⟩ l.length rc (l.map (Value.int .i64)) (by simp) (fun j u hu => by
      have hj : j < l.length := by have := (List.getElem?_eq_some_iff.1 hu).1; simpa using this
      obtain ⟨b', o', e, h6⟩ := hc j hj
      injection e with e
      injection e with e1 e2
      subst e1 e2
      rw [Addr.add_lit, h6, ← hu]
      simp [List.getD, hj]) (fun u hu => by
      obtain ⟨x, _, rfl⟩ := List.mem_map.1 hu
      rfl) h0 (by unfold maxLen; omega) (by omega) hB _ rfl
    exact ⟨_, _, w', fun ty => hr, ho, hg⟩
  · have el : l = [] := List.eq_nil_of_length_eq_zero (by omega)
    subst el
    have hr := run_app_empty (P := Try.prog) B 23 0 3 i0 1 Try.underlying23 hi _ n xs hown ra rc
    refine ⟨ao, c, w, fun ty => hr, ?_, ⟨rfl, rfl, rfl, Nat.le_refl _, fun _ _ _ => rfl⟩⟩
    simpa using hown
end Go.Proofs.Ytllafbghomohhaa

/- Solve of package solve: one contract over the answer. -/
namespace Go.Proofs.Ytllafbghomohhaa
open Go.RowKit

/-- What Solve's answer tells. -/
def SolR (g : Gf) (ps : List (Int × Int)) (ok : Bool) (h : Gf) : Prop := (chkS g ps = [] → (ok = true ↔ ¬ NoSol g.nodes (ps.map natP))) ∧ (ok = true → chkS g ps = [] ∧ LeastS g ps h) ∧ (ok = false → h = ⟨[], []⟩)
theorem gr_none (w : World) : Gr w (.slice none 0 0) (.slice none 0 0) ⟨[], []⟩ := ⟨⟨none, 0, rfl, fun _ h => absurd h (Nat.not_lt_zero _)⟩, Ri.nil w⟩
theorem solve_all {W : World} {nv rv pv : Value} {g : Gf} {ps : List (Int × Int)} (hG : Gr W nv rv g) (hS : Sized g) (hP : Rp W pv ps) (hl : ps.length ≤ 5000) :
    Calls Try.prog 7 #[.agg #[nv, rv], pv] W fun e w' => (∃ na nc ra rc ok ev h, e = .returned (.tuple #[.agg #[.slice na h.nodes.length nc, .slice ra h.roots.length rc], .bool ok, ev]) ∧ Gr w' (.slice na h.nodes.length nc) (.slice ra h.roots.length rc) h ∧ Er w' ev (chkS g ps) ∧ SolR g ps ok h) ∧ Below W.heap.size W w' := by
  by_cases hc : chkS g ps = []
  · by_cases hn : NoSol g.nodes (ps.map natP)
    · refine (solve_no hG hS hP hl hc hn).mono (fun e w' ⟨h1, h2⟩ => ⟨⟨none, 0, none, 0, false, .nilIface, ⟨[], []⟩, h1, gr_none w', by rw [hc]; rfl, fun _ => ⟨fun h => absurd h (by decide), fun h => absurd hn h⟩, fun h => absurd h (by decide), fun _ => rfl⟩, h2⟩)
    · refine (solve_yes hG hS hP hl hc hn).mono (fun e w' ⟨⟨t, na, nc, ra, rc, avs, h1, h3, h4⟩, h2⟩ => ⟨⟨na, nc, ra, rc, true, .nilIface, t, h1, h4.gr, by rw [hc]; rfl, fun _ => ⟨fun _ => hn, fun _ => rfl⟩, fun _ => ⟨hc, h3⟩, fun h => absurd h (by decide)⟩, h2⟩)
  · refine (solve_bad hG hS hP hl hc).mono (fun e w' ⟨⟨ev, h1, h3⟩, h2⟩ => ⟨⟨none, 0, none, 0, false, ev, ⟨[], []⟩, h1, gr_none w', h3, fun h => absurd h hc, fun h => absurd h (by decide), fun _ => rfl⟩, h2⟩)
end Go.Proofs.Ytllafbghomohhaa
