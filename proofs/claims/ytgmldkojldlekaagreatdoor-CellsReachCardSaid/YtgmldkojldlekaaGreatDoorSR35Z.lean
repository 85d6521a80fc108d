/- The document's Kept: which places are reachable, by words and by the trail's words. -/
import Derived.Deep.LoopGhost
import Derived.Test.YtgmldkojldlekaaGreatDoorSR30Z
import Derived.Test.YtgmldkojldlekaaGreatDoorSR29Z
import Derived.Test.YtgmldkojldlekaaGreatDoorSR33Z
namespace Go.Proofs.YtgmldkojldlekaaGreatDoor
set_option maxRecDepth 100000
open Go.RowKit
structure Dkp (W : World) (x1 x2 : Value) (l : List Int) (tr : List Te) : Prop where
  w : ∃ a c, x1 = .slice a l.length c ∧ ∀ j, j < l.length → ∃ b o, a = some ⟨b, o, none⟩ ∧ W.cell? ⟨b, o + j, none⟩ = some (.int .u64 (l.getD j 0))
  t : ∃ a c, x2 = .slice a tr.length c ∧ ∀ j, j < tr.length → ∃ b o, a = some ⟨b, o, none⟩ ∧ W.cell? ⟨b, o + j * 2, none⟩ = some (.int .i64 ((tr.getD j (0, 0)).1 : Int)) ∧ W.cell? ⟨b, o + j * 2 + 1, none⟩ = some (.int .u64 (tr.getD j (0, 0)).2)
  lg : ∀ j, j < l.length → goodB (l.getD j 0) = true ∧ 0 ≤ l.getD j 0 ∧ l.getD j 0 ≤ 18446744073709551615
  tg : ∀ j, j < tr.length → goodB (tr.getD j (0, 0)).2 = true ∧ 0 ≤ (tr.getD j (0, 0)).2 ∧ (tr.getD j (0, 0)).2 ≤ 18446744073709551615
structure Km (W w : World) (N kb : Nat) (K : List Int) (ao : Option Addr) (c n : Nat) (T : List Int) : Prop where
  b : Below W.heap.size W w
  row : w.heap[kb]? = some (.cells (seenArr N K) 4 (0, 0))
  ge : W.heap.size ≤ kb
  own : w.ownsRow W.heap.size 3 1 (.slice ao n c) n (T.map (Value.int .i64))
  len : T.length = n
section
variable {W w w' w2 : World} {N kb : Nat} {K T : List Int} {ao : Option Addr} {c n : Nat}
theorem Km.far (h : Km W w N kb K ao c n T) : Value.ownBlock (.slice ao n c) ≠ some kb := fun e => by
  obtain ⟨cur, hc⟩ := row_obj h.own e
  exact obj_ne hc h.row (by decide) rfl
theorem Km.mo {F : Nat → Prop} (h : Km W w N kb K ao c n T) (hm : Mo F w w') (hW : ∀ q, F q → W.heap.size ≤ q) (hk : ¬ F kb) (ht : ∀ q, Value.ownBlock (.slice ao n c) = some q → ¬ F q) : Km W w' N kb K ao c n T :=
  ⟨Below.trans h.b (hm.below hW h.b.size), (hm.block kb (lt_of_block h.row) hk).trans h.row, h.ge, row_keep h.own (fun k e => hm.block k (h.own.lt k e).2 (ht k e)), h.len⟩
theorem Km.at' (h : Km W w N kb K ao c n T) {y : Nat} (hy : y < N) : w.cell? ⟨kb, y, none⟩ = some (.bool (decide ((y : Int) ∈ K))) ∧ w.frozen? ⟨kb, y, none⟩ = false := by
  refine ⟨?_, by simp [World.frozen?, h.row]⟩
  rw [cell_of_row w kb y _ _ _ h.row]
  exact seen_at hy
theorem Km.mark (h : Km W w N kb K ao c n T) (y : Nat) (o : Obj) : ((w.setCell ⟨kb, y, none⟩ (.bool true)).alloc o).ownsRow W.heap.size 3 1 (.slice ao n c) n (T.map (Value.int .i64)) :=
  own_block h.own (fun k e => by
    have hlt := (h.own.lt k e).2
    rw [Below.heap_alloc _ _ _ (by simpa using hlt), Below.heap_setCell _ _ _ _ (fun e' => h.far (by rw [e, e']))])
theorem Km.push {y g cap : Nat} {o : Obj} (h : Km W w N kb K ao c n T) (hg : ((w.setCell ⟨kb, y, none⟩ (.bool true)).alloc o).grownBy w2 (Value.ownBlock (.slice ao n c))) (hown : w2.ownsRow W.heap.size 3 1 (.slice (some ⟨g, 0, none⟩) (n + 1) cap) (n + 1) (T.map (Value.int .i64) ++ [.int .i64 (y : Int)])) : Km W w2 N kb (K ++ [(y : Int)]) (some ⟨g, 0, none⟩) cap (n + 1) (T ++ [(y : Int)]) := by
  have hlt := lt_of_block h.row
  have hb1 : Below W.heap.size W ((w.setCell ⟨kb, y, none⟩ (.bool true)).alloc o) := (h.b.setCell (p := ⟨kb, y, none⟩) h.ge _).alloc (by simpa using h.b.size) _
  refine ⟨hb1.grown hg hb1.size (fun k e => (h.own.lt k e).1), ?_, h.ge, by simpa using hown, by simp [h.len]⟩
  rw [hg.block kb (by simp; omega) (fun e => h.far e.symm), Below.heap_alloc _ _ _ (by simpa using hlt), heap_setCell_same w kb y _ _ _ h.row, seen_set]
theorem km_mo {y : Nat} {o : Obj} (hg : ((w.setCell ⟨kb, y, none⟩ (.bool true)).alloc o).grownBy w2 (Value.ownBlock (.slice ao n c))) : Mo (fun q => q = kb ∨ Value.ownBlock (.slice ao n c) = some q) w w2 :=
  (((Mo.refl _ w).setCell (p := ⟨kb, y, none⟩) (Or.inl (Or.inl rfl)) _).alloc o).grown hg (fun _ e => Or.inl (Or.inr e))
theorem Km.pop {n : Nat} {T : List Int} {p : Int} (h : Km W w N kb K ao c (n + 1) (T ++ [p])) : Km W w N kb K ao c n T := by
  have hl : T.length = n := by have := h.len; simp at this; exact this
  have h9 := own_cut h.own (k := n) (by omega)
  refine ⟨h.b, h.row, h.ge, ?_, hl⟩
  rw [Nat.mul_one, List.map_append, List.take_append_of_le_length (by simp [hl]), List.take_of_length_le (by simp [hl])] at h9
  exact h9
end
def Kl1 (w1 : World) (l cs : List Int) (kb : Nat) (t i : Value) (wr : World) : Prop := ∃ (k n : Nat) (K T : List Int) (ao : Option Addr) (c : Nat), k ≤ cs.length ∧ i = .int .i64 (k : Int) ∧ t = .slice ao n c ∧ n ≤ k ∧ (K, T) = fldK l.length (cs.take k) ([], []) ∧ Km w1 wr l.length kb K ao c n T
def Kl2 (w1 : World) (l : List Int) (tr : List Te) (cs : List Int) (kb gk : Nat) (t : Value) (wr : World) : Prop := ∃ (n : Nat) (K T : List Int) (ao : Option Addr) (c : Nat), t = .slice ao n c ∧ n ≤ l.length * 2 + 5000 ∧ 2 * (l.length - K.length) + n ≤ gk ∧ gk ≤ l.length * 2 + 5000 ∧ KpI l tr cs K T ∧ Km w1 wr l.length kb K ao c n T
def Kl3 (w1 : World) (l : List Int) (tr : List Te) (kb y z : Nat) (K : List Int) (ao : Option Addr) (c q : Nat) (T : List Int) (t i : Value) (wr : World) : Prop := ∃ (j nL cT : Nat) (L : List Int) (aT : Option Addr), j ≤ tr.length ∧ i = .int .i64 (j : Int) ∧ t = .slice aT nL cT ∧ L.length = nL ∧ nL ≤ 16 + 16 * j ∧ L = rchN l (y : Int) ++ trR y (tr.take j) ∧ Km w1 wr l.length kb K ao c q T ∧ wr.ownsRow z 3 1 (.slice aT nL cT) nL (L.map (Value.int .i64)) ∧ z ≤ wr.heap.size
def Kl4 (w1 : World) (l : List Int) (kb z z2 : Nat) (K T L : List Int) (q : Nat) (u : Value) (nL : Nat) (t i : Value) (wr : World) : Prop := ∃ (j n c : Nat) (K4 T4 : List Int) (ao : Option Addr), j ≤ nL ∧ i = .int .i64 (j : Int) ∧ t = .slice ao n c ∧ n ≤ q + j ∧ (K4, T4) = fldK l.length (L.take j) (K, T) ∧ Km w1 wr l.length kb K4 ao c n T4 ∧ (∀ k, Value.ownBlock (.slice ao n c) = some k → k < z ∨ z2 ≤ k) ∧ wr.ownsRow z 3 1 u nL (L.map (Value.int .i64)) ∧ z2 ≤ wr.heap.size
theorem own_eq {g k n c : Nat} (h : Value.ownBlock (.slice (some ⟨g, 0, none⟩) n c) = some k) : k = g := by
  have : g = k := by simpa [Value.ownBlock] using h
  exact this.symm
theorem rchL_short {k : Nat} {x : Int} (hg : goodB x = true) : (rchL k x).length ≤ 16 := by
  unfold rchL
  split
  · simp
  · split
    · rename_i h4
      have := fun_val x hg h4
      simp
      omega
    · simp
set_option maxHeartbeats 16000000 in
theorem kept_any {W : World} {x1 x2 x3 x4 x5 : Value} {l : List Int} {tr : List Te} {ca : Option Addr} {cc : Nat} {cs : List Int} (hD : Dkp W x1 x2 l tr) (hx3 : ∃ a n c, x3 = .slice a n c) (hx4 : ∃ a n c, x4 = .slice a n c) (hx5 : ∃ a n c, x5 = .slice a n c) (hl : l.length ≤ 5000) (htl : tr.length ≤ 5000) (hC : Ri W (.slice ca cs.length cc) cs) (hcl : cs.length ≤ 5000) :
    Calls Tryz.prog 19 #[.agg #[x1, x2, x3, x4, x5], .slice ca cs.length cc] W fun e w' => ∃ kb K, e = .returned (.slice (some ⟨kb, 0, none⟩) l.length l.length) ∧ w'.heap[kb]? = some (.cells (seenArr l.length K) 4 (0, 0)) ∧ W.heap.size ≤ kb ∧ Ok l.length K ∧ (∀ x, x ∈ K ↔ RcA l tr cs x) ∧ Below W.heap.size W w' := by
  obtain ⟨i0, hi, hz0, hz1, hz2⟩ := info_parts infoI
  have hmk := make_bools l.length hl
  obtain ⟨xa3, xn3, xc3, rfl⟩ := hx3
  obtain ⟨xa4, xn4, xc4, rfl⟩ := hx4
  obtain ⟨xa5, xn5, xc5, rfl⟩ := hx5
  obtain ⟨⟨wa, wc, rfl, hW⟩, ⟨ta, tc, rfl, hT⟩, hlg, htg⟩ := hD
  have HW := hid hW
  have HT := hid hT
  have HC := hid hC
  have Hlg := hid hlg
  have Htg := hid htg
  clear hW hT hC hlg htg
  have Hb1 := hid (below_alloc W (dmpO (.slice wa l.length wc) (.slice ta tr.length tc) (.slice xa3 xn3 xc3) (.slice xa4 xn4 xc4) (.slice xa5 xn5 xc5)))
  have HX1 := hid (heap_alloc_new W (dmpO (.slice wa l.length wc) (.slice ta tr.length tc) (.slice xa3 xn3 xc3) (.slice xa4 xn4 xc4) (.slice xa5 xn5 xc5)))
  have hz1w : (W.alloc (dmpO (.slice wa l.length wc) (.slice ta tr.length tc) (.slice xa3 xn3 xc3) (.slice xa4 xn4 xc4) (.slice xa5 xn5 xc5))).heap.size = W.heap.size + 1 := by simp
  have hK0 : Hid (Km (W.alloc (dmpO (.slice wa l.length wc) (.slice ta tr.length tc) (.slice xa3 xn3 xc3) (.slice xa4 xn4 xc4) (.slice xa5 xn5 xc5))) ((W.alloc (dmpO (.slice wa l.length wc) (.slice ta tr.length tc) (.slice xa3 xn3 xc3) (.slice xa4 xn4 xc4) (.slice xa5 xn5 xc5))).alloc (.cells (seenArr l.length []) 4)) l.length (W.heap.size + 1) [] none 0 0 []) := by
    rw [← hz1w]
    exact ⟨below_alloc _ _, heap_alloc_new _ _, Nat.le_refl _, World.ownsRow_nil _ _ _ _, rfl⟩
  go_enter Tryz.func19, Tryz.ntmps19
  go_wp2
  have hkbz : W.heap.size < W.heap.size + 1 := by omega
  generalize W.alloc (dmpO (.slice wa l.length wc) (.slice ta tr.length tc) (.slice xa3 xn3 xc3) (.slice xa4 xn4 xc4) (.slice xa5 xn5 xc5)) = w1 at *
  generalize W.heap.size + 1 = kb at *
  have hKW : W.heap.size ≤ kb := by omega
  go_loopw [6, 7] (fun t i wr => Kl1 w1 l cs kb t i wr) (fun _ i _ => cs.length - (intOf i).toNat)
  case atStart => exact ⟨0, 0, [], [], none, 0, Nat.zero_le _, rfl, rfl, Nat.le_refl _, rfl, hK0.out⟩
  case round =>
    obtain ⟨k, n, K, T, ao, c, hk, rfl, rfl, hnk, hF, hS⟩ := hrel
    replace hF := hid hF
    replace hS := hid hS
    clear hK0
    by_cases hlt : k < cs.length
    · have hki : (k : Int) < (cs.length : Int) := by omega
      obtain ⟨ca', cc', e9, hcc⟩ := HC.out
      injection e9 with e9 _ _
      subst e9
      obtain ⟨lb, lo, rfl, hx⟩ := hcc k hlt
      have hx' : wr.cell? ⟨lb, lo + k, none⟩ = some (.int .i64 (cs.getD k 0)) := ((Below.next Hb1.out hS.out.b).cell (p := ⟨lb, lo + k, none⟩) (lt_of_cell hx)).trans hx
      have hF' : Hid (putK l.length (K, T) (cs.getD k 0) = fldK l.length (cs.take (k + 1)) ([], [])) := by rw [take_snoc hlt, fldK_snoc, ← hF.out]; rfl
      have hne : lb ≠ kb := by have := lt_of_cell hx; have h9 : lb < W.heap.size := this; omega
      generalize cs.getD k 0 = x at *
      clear hx hcc
      by_cases hx0 : 0 ≤ x
      · by_cases hxN : x < (l.length : Int)
        · obtain ⟨y, rfl⟩ : ∃ y : Nat, x = (y : Int) := ⟨x.toNat, by omega⟩
          have hyN : y < l.length := by omega
          obtain ⟨s1, z1⟩ := hS.out.at' hyN
          by_cases hin : (y : Int) ∈ K
          · rw [decide_eq_true hin] at s1
            have hF2 : Hid ((K, T) = fldK l.length (cs.take (k + 1)) ([], [])) := by rw [← hF'.out, putK_no (fun h => h.2 hin)]; rfl
            clear hF hF' hin
            go_wp2
            go_roundw
            case rel => exact ⟨k + 1, n, K, T, ao, c, by omega, by go_num, rfl, by omega, hF2.out, hS.out⟩
            case measure => simp [intOf]; omega
          · rw [decide_eq_false hin] at s1
            have hF2 : Hid ((K ++ [(y : Int)], T ++ [(y : Int)]) = fldK l.length (cs.take (k + 1)) ([], [])) := by rw [← hF'.out, putK_yes ⟨⟨hx0, hxN⟩, hin⟩]; rfl
            have hO1 := hS.out.mark y (.cells #[.int .i64 (y : Int)] 3)
            have hS' := hid (fun w2 g cap hg ho => hS.out.push (w2 := w2) (y := y) (g := g) (cap := cap) (o := .cells #[.int .i64 (y : Int)] 3) hg ho)
            have hzk := hS.out.b.size
            have hx2 : (wr.setCell ⟨kb, y, none⟩ (.bool true)).cell? ⟨lb, lo + k, none⟩ = some (.int .i64 (y : Int)) := (World.cell?_of_block (w := wr) (a := ⟨lb, lo + k, none⟩) (Below.heap_setCell _ _ _ _ hne)).trans hx'
            clear hF hF' hin hS
            go_wp2_with (at_builtin; go_must (refine wpList_append_lies _ rfl _ _ 28 rfl w1.heap.size 3 i0 (.int .i64 0) 1 8 Tryz.underlying28 hi hz0 hz1 hz2 rfl (by decide) _ n (T.map (Value.int .i64)) rfl hO1 ⟨wr.heap.size, 0, none⟩ 1 1 [.int .i64 (y : Int)] rfl rfl (World.news_of_block (cs := #[.int .i64 (y : Int)]) (t := 3) (fr := (0, 0)) (by simpa using heap_alloc_new (wr.setCell ⟨kb, y, none⟩ (.bool true)) (.cells #[.int .i64 (y : Int)] 3))) (by simp [Value.oneCell']) (by decide) (by unfold maxLen; omega) (by omega) (by simp; omega) (wr.heap.size + 1) (by simp) ?_; intro g6 cap w6 hown6 hg6 hat6 hlt6))
            have hS3 := hid (hS'.out w6 g6 cap hg6 hown6)
            clear hown6 hg6 hat6 hlt6 hS' hO1
            try go_wp2
            go_roundw
            case rel => exact ⟨k + 1, n + 1, K ++ [(y : Int)], T ++ [(y : Int)], some ⟨g6, 0, none⟩, cap, by omega, by go_num, rfl, by omega, hF2.out, hS3.out⟩
            case measure => simp [intOf]; omega
        · have hF2 : Hid ((K, T) = fldK l.length (cs.take (k + 1)) ([], [])) := by rw [← hF'.out, putK_no (fun h => hxN h.1.2)]; rfl
          clear hF hF'
          go_wp2
          go_roundw
          case rel => exact ⟨k + 1, n, K, T, ao, c, by omega, by go_num, rfl, by omega, hF2.out, hS.out⟩
          case measure => simp [intOf]; omega
      · have hF2 : Hid ((K, T) = fldK l.length (cs.take (k + 1)) ([], [])) := by rw [← hF'.out, putK_no (fun h => hx0 h.1.1)]; rfl
        clear hF hF'
        go_wp2
        go_roundw
        case rel => exact ⟨k + 1, n, K, T, ao, c, by omega, by go_num, rfl, by omega, hF2.out, hS.out⟩
        case measure => simp [intOf]; omega
    · obtain rfl : k = cs.length := by omega
      have hI0 : Hid (KpI l tr cs K T) := by
        have h9 := KpI.start l tr cs
        have e9 := hF.out
        rw [List.take_length] at e9
        rw [← e9] at h9
        exact h9
      clear hF
      have hL2 : Hid (Kl2 w1 l tr cs kb (l.length * 2 + 5000) (.slice ao n c) wr) := ⟨n, K, T, ao, c, rfl, by omega, by have := hI0.out.ok.le; omega, Nat.le_refl _, hI0.out, hS.out⟩
      clear hI0 hS
      go_wp2
      go_loopg [6] (l.length * 2 + 5000) (fun gk t wr2 => Kl2 w1 l tr cs kb gk t wr2)
      case atStart => exact hL2.out
      case round =>
        obtain ⟨n2, K2, T2, ao2, c2, rfl, hn2, hgk, hgk5, hI, hS⟩ := hrel
        replace hI := hid hI
        replace hS := hid hS
        clear hL2
        cases n2 with
        | zero =>
          have hT0 : T2 = [] := List.eq_nil_of_length_eq_zero hS.out.len
          have hfin : Hid (∀ x, x ∈ K2 ↔ RcA l tr cs x) := by
            have h9 := hI.out
            rw [hT0] at h9
            exact h9.fin
          have hok := hid hI.out.ok
          clear hT0
          go_wp2
          go_ret
          exact ⟨kb, K2, rfl, hS.out.row, hKW, hok.out, hfin.out, Below.next Hb1.out hS.out.b⟩
        | succ q =>
          obtain ⟨T3, p, hTp⟩ : ∃ T3 p, T2 = T3 ++ [p] := by
            rcases List.eq_nil_or_concat T2 with h | ⟨T3, p, h⟩
            · rw [h] at hS
              have := hS.out.len
              simp at this
            · exact ⟨T3, p, by simpa using h⟩
          subst hTp
          have hT3 : T3.length = q := by have := hS.out.len; simp at this; exact this
          have hpr := hI.out.ok.rng p (hI.out.sub p (by simp))
          obtain ⟨y, rfl⟩ : ∃ y : Nat, p = (y : Int) := ⟨p.toNat, by omega⟩
          have hyN : y < l.length := by omega
          obtain ⟨g, rfl⟩ : ∃ g, ao2 = some ⟨g, 0, none⟩ := by
            rcases hS.out.own.2 with ⟨h1, h2⟩ | ⟨g, cap, cur, h1, _⟩
            · omega
            · injection h1 with h1 _ _
              exact ⟨g, h1⟩
          have e1 : wr.cell? ⟨g, q, none⟩ = some (.int .i64 (y : Int)) := by
            have h9 := hS.out.own.cellAt q (by simp)
            rw [h9]
            simp [← hT3]
          obtain ⟨⟨x0, x1', _, _, _⟩, _, xz⟩ := cel_cells ((hS.out.b.block _ (lt_of_block HX1.out)).trans HX1.out)
          obtain ⟨wb, wo, rfl, hwc⟩ := HW.out y hyN
          have hwc' : wr.cell? ⟨wb, wo + y, none⟩ = some (.int .u64 (l.getD y 0)) := ((Below.next Hb1.out hS.out.b).cell (p := ⟨wb, wo + y, none⟩) (lt_of_cell hwc)).trans hwc
          obtain ⟨gd, gd0, gd1⟩ := Hlg.out y hyN
          have hpop := hid hS.out.pop
          have hlen := hid (hI.out.less)
          have hstp := hid (hI.out.step)
          have hrc := hid (rreached_any (w := wr) (B := wr.heap.size) (ao := none) (c := 0) (L := []) (World.ownsRow_nil _ _ _ _) (Nat.le_refl _) (by simp) y (by omega) (l.getD y 0) gd0 gd1 gd)
          have hqc : q ≤ c2 := by
            obtain ⟨_, _, e9, h2, _⟩ := own_slq hS.out.own
            injection e9 with _ _ e9
            omega
          have hqci : (q : Int) ≤ (c2 : Int) := by omega
          have hk1 : kb < wr.heap.size := lt_of_block hS.out.row
          have hg1 : g < wr.heap.size := (hS.out.own.lt g rfl).2
          have hw1z := hS.out.b.size
          have hL0 : Hid (∀ w2 ao' c', Grw wr w2 wr.heap.size (.slice none 0 0) (.slice ao' ([] ++ rchL y (l.getD y 0)).length c') ([] ++ rchL y (l.getD y 0)) → Kl3 w1 l tr kb y wr.heap.size K2 (some ⟨g, 0, none⟩) c2 q T3 (.slice ao' ([] ++ rchL y (l.getD y 0)).length c') (.int .i64 0) w2) := fun w2 ao' c' hG => by
            refine ⟨0, _, c', rchL y (l.getD y 0), ao', Nat.zero_le _, rfl, rfl, rfl, ?_, ?_, hpop.out.mo hG.mo (fun q hq => by simp [Value.ownBlock] at hq) (fun hq => by simp [Value.ownBlock] at hq) (fun q _ hq => by simp [Value.ownBlock] at hq), hG.own, hG.mo.size⟩
            · have := rchL_short (k := y) gd
              simpa using this
            · simp [trR, rchN, wdN]
          generalize hX : l.getD y 0 = X at *
          have hXX := hid hX
          clear hS hI hwc hX gd gd0 gd1 hpr
          have hrc2 : Hid (Calls Tryz.prog 44 #[.slice none 0 0, .int .i64 (y : Int), .int .u64 X] wr fun e w2 => ∃ n3 ao3 c3, e = .returned (.slice ao3 n3 c3) ∧ Kl3 w1 l tr kb y wr.heap.size K2 (some ⟨g, 0, none⟩) c2 q T3 (.slice ao3 n3 c3) (.int .i64 0) w2) := hrc.out.mono fun e w2 ⟨ao3, c3, e1, hG⟩ => ⟨_, ao3, c3, e1, hL0.out w2 ao3 c3 hG⟩
          clear hL0 hrc
          have hql : (0 : Int) < (q : Int) + 1 := by omega
          go_wp2_with (go_at_call 44; refine hrc2.out.mono ?_; rintro e w2 ⟨n30, ao3, c3, rfl, hG⟩; have HL3 := hid hG; clear hG)
          clear hrc2 e1 hwc' x0 x1'
          generalize hzz : wr.heap.size = z at *
          clear hzz
          go_loopw [9, 10] (fun t i w3 => Kl3 w1 l tr kb y z K2 (some ⟨g, 0, none⟩) c2 q T3 t i w3) (fun _ i _ => tr.length - (intOf i).toNat)
          case atStart => exact HL3.out
          case round =>
            obtain ⟨j, nL, cT, L, aT, hj, rfl, rfl, hLn, hnL, hLe, hK3, hto, hz3⟩ := hrel
            replace hLe := hid hLe
            replace hK3 := hid hK3
            replace hto := hid hto
            replace hLn := hid hLn
            clear HL3
            obtain ⟨⟨x0, x1', _, _, _⟩, _, xz⟩ := cel_cells ((hK3.out.b.block _ (lt_of_block HX1.out)).trans HX1.out)
            by_cases hltj : j < tr.length
            · have hji : (j : Int) < (tr.length : Int) := by omega
              obtain ⟨tb, tof, hta, ht0, ht1⟩ := HT.out j hltj
              subst hta
              have ht0' := ((Below.next Hb1.out hK3.out.b).cell (p := ⟨tb, tof + j * 2, none⟩) (lt_of_cell ht0)).trans ht0
              have ht1' := ((Below.next Hb1.out hK3.out.b).cell (p := ⟨tb, tof + j * 2 + 1, none⟩) (lt_of_cell ht1)).trans ht1
              obtain ⟨gd, gd0, gd1⟩ := Htg.out j hltj
              have hsn := hid (trR_snoc (k := y) hltj)
              have hrs := rchL_short (k := y) gd
              generalize tr.getD j (0, 0) = en at *
              obtain ⟨ea, eo⟩ := en
              dsimp only at *
              clear ht0 ht1
              by_cases hea : ea = y
              · subst hea
                have hrc := hid (rreached_any (w := wr) (B := z) (ao := aT) (c := cT) (L := L) (by rw [hLn.out]; exact hto.out) hz3 (by rw [hLn.out]; omega) ea (by omega) eo gd0 gd1 gd)
                rw [hLn.out] at hrc
                have hL0 : Hid (∀ w2 ao' c', Grw wr w2 z (.slice aT nL cT) (.slice ao' (L ++ rchL ea eo).length c') (L ++ rchL ea eo) → Kl3 w1 l tr kb ea z K2 (some ⟨g, 0, none⟩) c2 q T3 (.slice ao' (L ++ rchL ea eo).length c') (.int .i64 ((j : Int) + 1)) w2) := fun w2 ao' c' hG => by
                  have hge : ∀ k, Value.ownBlock (.slice aT nL cT) = some k → z ≤ k := fun k e => (hto.out.lt k e).1
                  refine ⟨j + 1, _, c', L ++ rchL ea eo, ao', by omega, congrArg (Value.int .i64) (by omega), rfl, rfl, ?_, ?_, hK3.out.mo hG.mo (fun k hk => by have := hge k hk; omega) (fun hk => by have := hge _ hk; omega) (fun k hk hk2 => by have := hge _ hk2; have := own_eq hk; omega), hG.own, Nat.le_trans hz3 hG.mo.size⟩
                  · have := hLn.out
                    simp
                    omega
                  · rw [hsn.out, if_pos rfl, hLe.out, List.append_assoc]
                have hrc2 : Hid (Calls Tryz.prog 44 #[.slice aT nL cT, .int .i64 (ea : Int), .int .u64 eo] wr fun e w2 => ∃ n3 ao3 c3, e = .returned (.slice ao3 n3 c3) ∧ Kl3 w1 l tr kb ea z K2 (some ⟨g, 0, none⟩) c2 q T3 (.slice ao3 n3 c3) (.int .i64 ((j : Int) + 1)) w2) := hrc.out.mono fun e w2 ⟨ao3, c3, e1, hG⟩ => ⟨_, ao3, c3, e1, hL0.out w2 ao3 c3 hG⟩
                clear hLe hK3 hto hLn hsn gd gd0 gd1 hrc hL0
                go_wp2_with (go_at_call 44; refine hrc2.out.mono ?_; rintro e w2 ⟨n3, ao3, c3, rfl, hG⟩; have HL3 := hid hG; clear hG)
                go_roundw
                case rel => exact HL3.out
                case measure => simp [intOf]; omega
              · have hR3 : Hid (Kl3 w1 l tr kb y z K2 (some ⟨g, 0, none⟩) c2 q T3 (.slice aT nL cT) (.int .i64 ((j : Int) + 1)) wr) := ⟨j + 1, nL, cT, L, aT, by omega, congrArg (Value.int .i64) (by omega), rfl, hLn.out, by omega, by rw [hsn.out, if_neg hea, List.append_nil]; exact hLe.out, hK3.out, hto.out, hz3⟩
                have hei : ((ea : Int) == (y : Int)) = false := beq_eq_false_iff_ne.2 (by omega)
                clear hLe hK3 hto hLn hsn gd gd0 gd1
                go_wp2
                go_roundw
                case rel => exact hR3.out
                case measure => simp [intOf]; omega
            · obtain rfl : j = tr.length := by omega
              have hLA : Hid (L = rchA l tr (y : Int)) := by
                have h9 := hLe.out
                rw [List.take_length] at h9
                exact h9.trans (by unfold rchA; rw [Int.toNat_natCast])
              rw [← hLA.out] at hlen hstp
              have hrow := hid hto.out
              have hL4 : Hid (Kl4 w1 l kb z wr.heap.size K2 T3 L q (.slice aT nL cT) nL (.slice (some ⟨g, 0, none⟩) q c2) (.int .i64 0) wr) := ⟨0, q, c2, K2, T3, some ⟨g, 0, none⟩, Nat.zero_le _, rfl, rfl, by omega, rfl, hK3.out, fun k hk => Or.inl (by have := own_eq hk; omega), hto.out, Nat.le_refl _⟩
              have hthi : Hid (∀ k, Value.ownBlock (.slice aT nL cT) = some k → z ≤ k ∧ k < wr.heap.size) := fun k hk => hto.out.lt k hk
              generalize hzz2 : wr.heap.size = z2 at hL4 hthi
              have hz23 : z ≤ z2 := by omega
              clear hzz2 hLe hK3 hto hrow
              go_wp2
              go_loopw [6, 11] (fun t i w4 => Kl4 w1 l kb z z2 K2 T3 L q (.slice aT nL cT) nL t i w4) (fun _ i _ => nL - (intOf i).toNat)
              case atStart => exact hL4.out
              case round =>
                obtain ⟨j4, n4, c4, K4, T4, ao4, hj4, rfl, rfl, hn4, hF, hK4, hfar, hto, hz2w⟩ := hrel
                replace hF := hid hF
                replace hK4 := hid hK4
                replace hfar := hid hfar
                replace hto := hid hto
                clear hL4
                by_cases hlt4 : j4 < nL
                · have hji4 : (j4 : Int) < (nL : Int) := by omega
                  obtain ⟨tb, rfl⟩ : ∃ tb, aT = some ⟨tb, 0, none⟩ := by
                    rcases hto.out.2 with ⟨h1, h2⟩ | ⟨g, cap, cur, h1, _⟩
                    · omega
                    · injection h1 with h1 _ _
                      exact ⟨g, h1⟩
                  have hltL : j4 < L.length := by have := hLn.out; omega
                  have hx' : wr.cell? ⟨tb, j4, none⟩ = some (.int .i64 (L.getD j4 0)) := by
                    have h9 := hto.out.cellAt j4 (by simpa using hlt4)
                    rw [h9]
                    simp [hltL, List.getD]
                  obtain ⟨htb1, htb2⟩ := hthi.out tb rfl
                  have hne : tb ≠ kb := by omega
                  have hF' : Hid (putK l.length (K4, T4) (L.getD j4 0) = fldK l.length (L.take (j4 + 1)) (K2, T3)) := by rw [take_snoc hltL, fldK_snoc, ← hF.out]; rfl
                  generalize L.getD j4 0 = x at *
                  by_cases hx0 : 0 ≤ x
                  · by_cases hxN : x < (l.length : Int)
                    · obtain ⟨y4, rfl⟩ : ∃ y4 : Nat, x = (y4 : Int) := ⟨x.toNat, by omega⟩
                      have hyN4 : y4 < l.length := by omega
                      obtain ⟨s1, z1⟩ := hK4.out.at' hyN4
                      by_cases hin : (y4 : Int) ∈ K4
                      · rw [decide_eq_true hin] at s1
                        have hF2 : Hid ((K4, T4) = fldK l.length (L.take (j4 + 1)) (K2, T3)) := by rw [← hF'.out, putK_no (fun h => h.2 hin)]; rfl
                        have hR4 : Hid (Kl4 w1 l kb z z2 K2 T3 L q (.slice (some ⟨tb, 0, none⟩) nL cT) nL (.slice ao4 n4 c4) (.int .i64 ((j4 : Int) + 1)) wr) := ⟨j4 + 1, n4, c4, K4, T4, ao4, by omega, congrArg (Value.int .i64) (by omega), rfl, by omega, hF2.out, hK4.out, hfar.out, hto.out, hz2w⟩
                        clear hF hF' hF2 hK4 hfar hto
                        go_wp2
                        go_roundw
                        case rel => exact hR4.out
                        case measure => simp [intOf]; omega
                      · rw [decide_eq_false hin] at s1
                        have hF2 : Hid ((K4 ++ [(y4 : Int)], T4 ++ [(y4 : Int)]) = fldK l.length (L.take (j4 + 1)) (K2, T3)) := by rw [← hF'.out, putK_yes ⟨⟨hx0, hxN⟩, hin⟩]; rfl
                        have hO1 := hK4.out.mark y4 (.cells #[.int .i64 (y4 : Int)] 3)
                        have hS' : Hid (∀ w2 g6 cap, ((wr.setCell ⟨kb, y4, none⟩ (.bool true)).alloc (.cells #[.int .i64 (y4 : Int)] 3)).grownBy w2 (Value.ownBlock (.slice ao4 n4 c4)) → w2.ownsRow w1.heap.size 3 1 (.slice (some ⟨g6, 0, none⟩) (n4 + 1) cap) (n4 + 1) (T4.map (Value.int .i64) ++ [.int .i64 (y4 : Int)]) → (Value.ownBlock (.slice ao4 n4 c4) = some g6 ∨ g6 = wr.heap.size + 1) → Kl4 w1 l kb z z2 K2 T3 L q (.slice (some ⟨tb, 0, none⟩) nL cT) nL (.slice (some ⟨g6, 0, none⟩) (n4 + 1) cap) (.int .i64 ((j4 : Int) + 1)) w2) := fun w2 g6 cap hg ho hat => by
                          have hmm := km_mo hg
                          refine ⟨j4 + 1, n4 + 1, cap, K4 ++ [(y4 : Int)], T4 ++ [(y4 : Int)], some ⟨g6, 0, none⟩, by omega, congrArg (Value.int .i64) (by omega), rfl, by omega, hF2.out, hK4.out.push hg ho, fun k hk => ?_, row_keep hto.out (fun k hk => hmm.block k (hto.out.lt k hk).2 (fun hq => ?_)), Nat.le_trans hz2w hmm.size⟩
                          · have e9 : g6 = k := by simpa [Value.ownBlock] using hk
                            subst e9
                            rcases hat with h | h
                            · exact hfar.out _ h
                            · exact Or.inr (by omega)
                          · have e9 : tb = k := by simpa [Value.ownBlock] using hk
                            subst e9
                            rcases hq with hq | hq
                            · exact hne hq
                            · rcases hfar.out _ hq with h | h <;> omega
                        have hzk := hK4.out.b.size
                        have hx2 : (wr.setCell ⟨kb, y4, none⟩ (.bool true)).cell? ⟨tb, j4, none⟩ = some (.int .i64 (y4 : Int)) := (World.cell?_of_block (w := wr) (a := ⟨tb, j4, none⟩) (Below.heap_setCell _ _ _ _ hne)).trans hx'
                        clear hF hF' hF2 hin hK4 hfar hto
                        go_wp2_with (at_builtin; go_must (refine wpList_append_lies _ rfl _ _ 28 rfl w1.heap.size 3 i0 (.int .i64 0) 1 8 Tryz.underlying28 hi hz0 hz1 hz2 rfl (by decide) _ n4 (T4.map (Value.int .i64)) rfl hO1 ⟨wr.heap.size, 0, none⟩ 1 1 [.int .i64 (y4 : Int)] rfl rfl (World.news_of_block (cs := #[.int .i64 (y4 : Int)]) (t := 3) (fr := (0, 0)) (by simpa using heap_alloc_new (wr.setCell ⟨kb, y4, none⟩ (.bool true)) (.cells #[.int .i64 (y4 : Int)] 3))) (by simp [Value.oneCell']) (by decide) (by unfold maxLen; omega) (by omega) (by simp; omega) (wr.heap.size + 1) (by simp) ?_; intro g6 cap w6 hown6 hg6 hat6 hlt6))
                        have hS3 := hid (hS'.out w6 g6 cap hg6 hown6 hat6)
                        clear hown6 hg6 hat6 hlt6 hS' hO1
                        try go_wp2
                        go_roundw
                        case rel => exact hS3.out
                        case measure => simp [intOf]; omega
                    · skip
                      have hF2 : Hid ((K4, T4) = fldK l.length (L.take (j4 + 1)) (K2, T3)) := by rw [← hF'.out, putK_no (fun h => hxN h.1.2)]; rfl
                      have hR4 : Hid (Kl4 w1 l kb z z2 K2 T3 L q (.slice (some ⟨tb, 0, none⟩) nL cT) nL (.slice ao4 n4 c4) (.int .i64 ((j4 : Int) + 1)) wr) := ⟨j4 + 1, n4, c4, K4, T4, ao4, by omega, congrArg (Value.int .i64) (by omega), rfl, by omega, hF2.out, hK4.out, hfar.out, hto.out, hz2w⟩
                      clear hF hF' hF2 hK4 hfar hto
                      go_wp2
                      go_roundw
                      case rel => exact hR4.out
                      case measure => simp [intOf]; omega
                  · skip
                    have hF2 : Hid ((K4, T4) = fldK l.length (L.take (j4 + 1)) (K2, T3)) := by rw [← hF'.out, putK_no (fun h => hx0 h.1.1)]; rfl
                    have hR4 : Hid (Kl4 w1 l kb z z2 K2 T3 L q (.slice (some ⟨tb, 0, none⟩) nL cT) nL (.slice ao4 n4 c4) (.int .i64 ((j4 : Int) + 1)) wr) := ⟨j4 + 1, n4, c4, K4, T4, ao4, by omega, congrArg (Value.int .i64) (by omega), rfl, by omega, hF2.out, hK4.out, hfar.out, hto.out, hz2w⟩
                    clear hF hF' hF2 hK4 hfar hto
                    go_wp2
                    go_roundw
                    case rel => exact hR4.out
                    case measure => simp [intOf]; omega
                · obtain rfl : j4 = nL := by omega
                  have e9 := hF.out
                  rw [List.take_of_length_le (by have := hLn.out; omega)] at e9
                  rw [← e9] at hlen hstp
                  have hR2 : Hid (Kl2 w1 l tr cs kb (2 * (l.length - K4.length) + n4) (.slice ao4 n4 c4) wr) := by
                    have h9 := hlen.out
                    have h8 := hK4.out.len
                    simp only [List.length_append, List.length_singleton, hT3] at h9
                    refine ⟨n4, K4, T4, ao4, c4, rfl, by omega, Nat.le_refl _, by omega, hstp.out, hK4.out⟩
                  have hlt9 : 2 * (l.length - K4.length) + n4 < gk := by
                    have h9 := hlen.out
                    have h8 := hK4.out.len
                    simp only [List.length_append, List.length_singleton, hT3] at h9
                    omega
                  clear hF hK4 hfar hto hlen hstp e9
                  go_wp2
                  go_roundg (2 * (l.length - K4.length) + n4)
                  case measure => exact hlt9
                  case rel => exact hR2.out
end Go.Proofs.YtgmldkojldlekaaGreatDoor
