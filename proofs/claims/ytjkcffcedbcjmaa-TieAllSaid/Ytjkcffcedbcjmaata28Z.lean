/- check of package tie. -/
import Derived.Maps.OwnSet
import Derived.Test.Ytjkcffcedbcjmaata26Z
namespace Go.Proofs.Ytjkcffcedbcjmaa
set_option maxRecDepth 100000
open Go.RowKit Go.Maps
def Eo (w : World) (e : Value) (r : Int × Int × ByteArray) : Prop := (r.1 = 0 ∧ e = .nilIface) ∨ (r.1 ≠ 0 ∧ Ef w e r.1 r.2.1 r.2.2)
def Sm (D : DataW Unit) (l : List ByteArray) : Prop := ∀ s : ByteArray, Maps.has D (.string s.data.toList) = inN l s
theorem Sm.nil : Sm (.map []) [] := fun s => by simp [Maps.has, inN]
theorem Sm.put {D : DataW Unit} {l : List ByteArray} (h : Sm D l) (hD : Maps.IsMap D) (s : ByteArray) (d : DataW Unit) : Sm (D.put (.string s.data.toList) d) (l ++ [s]) := fun x => by
  rw [inN_snoc]
  by_cases e : x = s
  · subst e
    rw [Maps.has_put_same hD (skey_is x)]
    simp
  · rw [Maps.has_put_other (skey_ne e), h x, decide_eq_false (fun h : s = x => e h.symm), Bool.or_false]
def ahdQ (qs : List (ByteArray × Ex)) (i : Nat) : List ByteArray := (qs.take i).map (·.1)
theorem ahdQ_succ {qs : List (ByteArray × Ex)} {i : Nat} (h : i < qs.length) : ahdQ qs (i + 1) = ahdQ qs i ++ [(qs.getD i q0).1] := by
  unfold ahdQ
  rw [List.take_add_one, List.map_append]
  simp [h]
theorem dropQ {qs : List (ByteArray × Ex)} {i : Nat} (h : i < qs.length) : qs.drop i = qs.getD i q0 :: qs.drop (i + 1) := by
  rw [List.drop_eq_getElem_cons h]
  simp [List.getD, h]
theorem zeroU (w : World) : (zeroValue 99).run Try.prog w = .ok (.agg #[]) w := by kernel_rfl
end Go.Proofs.Ytjkcffcedbcjmaa

namespace Go.Proofs.Ytjkcffcedbcjmaa
set_option maxRecDepth 100000
open Go.RowKit Go.Maps
theorem Eo.bad {w : World} {e : Value} {c a : Int} {s : ByteArray} (hc : c ≠ 0) (h : Ef w e c a s) : Eo w e (c, a, s) := Or.inr ⟨hc, h⟩
theorem mapU_below {w w' : World} {q n : Nat} {D : DataW Unit} (h : w.ownsMap Try.prog 9 unitElem q n D) (hb : Below w.heap.size w w') : w'.ownsMap Try.prog 9 unitElem q n D := by
  obtain ⟨es, clock, hq, rest⟩ := h
  exact ⟨es, clock, by rw [hb.block q (lt_of_block hq)]; exact hq, rest⟩
theorem tblk5 {w : World} {q : Nat} {u0 u1 u2 u3 u4 : Value} {T : TypeId} (h : w.heap[q]? = some (.cells #[u0, u1, u2, u3, u4] T)) : (w.cell? ⟨q, 0, none⟩ = some u0 ∧ w.cell? ⟨q, 1, none⟩ = some u1 ∧ w.cell? ⟨q, 2, none⟩ = some u2 ∧ w.cell? ⟨q, 3, none⟩ = some u3 ∧ w.cell? ⟨q, 4, none⟩ = some u4) ∧ w.frozen? ⟨q, 0, none⟩ = false := by
  refine ⟨⟨?_, ?_, ?_, ?_, ?_⟩, ?_⟩ <;> simp [World.cell?, World.frozen?, h]
theorem chkQ_step {n : Nat} {qs : List (ByteArray × Ex)} {i : Nat} (h : i < qs.length) : chkQ n (ahdQ qs i) (qs.drop i) i =
    (if isW (qs.getD i q0).1 4 = false ∨ isU (qs.getD i q0).1 = true then (83, (i : Int), (qs.getD i q0).1)
    else if inN (ahdQ qs i) (qs.getD i q0).1 = true then (84, (i : Int), (qs.getD i q0).1)
    else if goodX 0 (qs.getD i q0).2 = false then (81, (n : Int) + i, ⟨#[]⟩)
    else chkQ n (ahdQ qs (i + 1)) (qs.drop (i + 1)) (i + 1)) := by
  rw [dropQ h, chkQ, ahdQ_succ h]
set_option maxHeartbeats 3000000 in
theorem tcheck_any {W : World} {xv qv : Value} {xs : List Ex} {qs : List (ByteArray × Ex)} (hX : Rxs W xv xs) (hQ : Rqs W qv qs) (hzx : szXs xs) (hzq : ∀ q ∈ qs, q.1.size ≤ 281474976710656 ∧ szX q.2) :
    Calls Try.prog 27 #[xv, qv] W fun e w' => (∃ ev, e = .returned ev ∧ Eo w' ev (chkT xs qs)) ∧ Below W.heap.size W w' := by
  obtain ⟨xa, xc, rfl, hXat⟩ := hX
  obtain ⟨qa, qc, rfl, hQat⟩ := hQ
  have hXA := hid hXat
  have hQA := hid hQat
  clear hXat hQat
  by_cases h1 : 4096 < xs.length
  · have hE : Hid (chkT xs qs = (80, (xs.length : Int), ⟨#[]⟩)) := show _ = _ by rw [chkT, if_pos h1]
    have i1 : (4096 : Int) < (xs.length : Int) := by omega
    have hf := tfault_any 80 (xs.length : Int) ⟨#[]⟩ W (by decide)
    clear h1 hzx hzq
    go_enter Try.func27, Try.ntmps27
    go_wp2_with (go_at_call 29; refine hf.mono ?_; rintro e w1 ⟨⟨ev, rfl, hef⟩, hb1⟩)
    go_ret
    exact ⟨⟨_, rfl, by rw [hE.out]; exact Eo.bad (by decide) hef⟩, hb1⟩
  · by_cases h2 : 4096 < qs.length
    · have hE : Hid (chkT xs qs = (82, (qs.length : Int), ⟨#[]⟩)) := show _ = _ by rw [chkT, if_neg h1, if_pos h2]
      have i1 : ¬ (4096 : Int) < (xs.length : Int) := by omega
      have i2 : (4096 : Int) < (qs.length : Int) := by omega
      have hf := tfault_any 82 (qs.length : Int) ⟨#[]⟩ W (by decide)
      clear h1 h2 hzx hzq
      go_enter Try.func27, Try.ntmps27
      go_wp2_with (go_at_call 29; refine hf.mono ?_; rintro e w1 ⟨⟨ev, rfl, hef⟩, hb1⟩)
      go_ret
      exact ⟨⟨_, rfl, by rw [hE.out]; exact Eo.bad (by decide) hef⟩, hb1⟩
    · have i1 : ¬ (4096 : Int) < (xs.length : Int) := by omega
      have i2 : ¬ (4096 : Int) < (qs.length : Int) := by omega
      have hT : Hid (chkT xs qs = if 0 ≤ ixOf (fun x => !goodX 0 x) xs then (81, ixOf (fun x => !goodX 0 x) xs, ⟨#[]⟩) else chkQ xs.length [] qs 0) := show _ = _ by rw [chkT, if_neg h1, if_neg h2]
      have hZX := hid (fun j (hj : j < xs.length) => szXs_mem hzx _ (xs_at hj))
      have hZQ := hid (fun j (hj : j < qs.length) => hzq (qs.getD j q0) (by simp [List.getD, hj]))
      have hall : Hid (∀ j, j < xs.length → (∀ i, i < j → goodX 0 (xs.getD i x0) = true) → goodX 0 (xs.getD j x0) = false → chkT xs qs = (81, (j : Int), ⟨#[]⟩)) := fun j hj ha hb => by
        have := ixOf_hit x0 (fun x => !goodX 0 x) xs j hj (fun i hi => by show (!goodX 0 _) = false; rw [ha i hi]; rfl) (by show (!goodX 0 _) = true; rw [hb]; rfl)
        rw [hT.out, this, if_pos (by omega)]
      have hnon : Hid ((∀ i, i < xs.length → goodX 0 (xs.getD i x0) = true) → chkT xs qs = chkQ xs.length (ahdQ qs 0) (qs.drop 0) 0) := fun ha => by
        have := ixOf_miss x0 (fun x => !goodX 0 x) xs (fun i hi => by show (!goodX 0 _) = false; rw [ha i hi]; rfl)
        rw [hT.out, this, if_neg (by omega)]
        rfl
      have hstep := hid (fun i (h : i < qs.length) => chkQ_step (n := xs.length) h)
      have hahd := hid (fun i (h : i < qs.length) => ahdQ_succ h)
      have hend : Hid (chkQ xs.length (ahdQ qs qs.length) (qs.drop qs.length) qs.length = (0, 0, ⟨#[]⟩)) := show _ = _ by rw [List.drop_length, chkQ]
      have hahl : Hid (∀ i, i ≤ qs.length → (ahdQ qs i).length = i) := fun i hi => by simp [ahdQ]; omega
      generalize hR : chkT xs qs = R at *
      clear hzx hzq h1 h2 hT hR
      go_enter Try.func27, Try.ntmps27
      go_wp2
      go_loopw [26] (fun i wr => ∃ k : Nat, k ≤ xs.length ∧ i = .int .i64 (k : Int) ∧ Hid (Below W.heap.size W wr) ∧ Hid (∀ j, j < k → goodX 0 (xs.getD j x0) = true)) (fun i _ => xs.length - (intOf i).toNat)
      case atStart => exact ⟨0, by omega, rfl, Below.refl _ _, fun j hj => absurd hj (Nat.not_lt_zero _)⟩
      case round =>
        obtain ⟨k, hk, rfl, hB, hG⟩ := hrel
        by_cases hlt : k < xs.length
        · obtain ⟨b, o, k', n', m', aa, al, ac, rfl, d0, d1, d2, d3, hx⟩ := hXA.out k hlt
          have hz := lt_of_cell d0
          have c0 := ((bcell hB.out).1 b _ hz).trans d0
          have c1 := ((bcell hB.out).1 b _ hz).trans d1
          have c2 := ((bcell hB.out).1 b _ hz).trans d2
          have c3 := ((bcell hB.out).1 b _ hz).trans d3
          have hb1 := below_alloc wr (.cells #[.int .i64 k', .string n', .int .i64 m', .slice aa al ac] 48)
          have hcall := goodE_any _ ((hx.next hB.out).next hb1) (hZX.out k hlt)
          have hbb := hall.out k hlt hG.out
          clear d0 d1 d2 d3 hx
          cases hq : goodX 0 (xs.getD k x0) with
          | true =>
            have hq' : Hid (goodX 0 (xs.getD k x0) = true) := hq
            rw [hq] at hcall
            clear hq hbb
            go_wp2_with (go_at_call 45; refine hcall.mono ?_; rintro e w2 ⟨rfl, hb2⟩)
            go_roundw
            case rel =>
              refine ⟨k + 1, by omega, by go_num, Below.next (Below.next hB.out hb1) hb2, (show Hid _ from fun j hj => ?_)⟩
              rcases Nat.lt_or_eq_of_le (Nat.le_of_lt_succ hj) with h | h
              · exact hG.out j h
              · subst h; exact hq'.out
            case measure => simp [intOf]; omega
          | false =>
            have hE := hid (hbb hq)
            have hf := fun w1 => tfault_any 81 (k : Int) ⟨#[]⟩ w1 (by decide)
            rw [hq] at hcall
            clear hq hbb
            go_wp2_with (first | (go_at_call 45; refine hcall.mono ?_; rintro e w2 ⟨rfl, hb2⟩) | (go_at_call 29; refine (hf _).mono ?_; rintro e w3 ⟨⟨ev, rfl, hef⟩, hb3⟩))
            go_ret
            exact ⟨⟨_, rfl, by rw [hE.out]; exact Eo.bad (by decide) hef⟩, Below.next (Below.next (Below.next hB.out hb1) hb2) hb3⟩
        · obtain rfl : k = xs.length := by omega
          have hC0 := hid (hnon.out hG.out)
          have hown0 : Hid (∃ D : DataW Unit, (wr.alloc (.map #[] 0)).ownsMap Try.prog 9 unitElem wr.heap.size 0 D ∧ Maps.IsMap D ∧ Sm D (ahdQ qs 0)) := ⟨_, World.ownsMap_made wr _ _ _, ⟨[], rfl⟩, Sm.nil⟩
          have hB0 := hid (Below.next hB.out (below_alloc wr (.map #[] 0)))
          obtain ⟨w5, hw5⟩ : ∃ w5, w5 = wr := ⟨wr, rfl⟩
          subst hw5
          have hw5s := hB.out.size
          clear hG hB hnon hall
          have hmm := @run_makeMap Try.prog
          go_wp2
          clear hmm
          go_loopw [40] (fun i wr => ∃ k : Nat, k ≤ qs.length ∧ i = .int .i64 (k : Int) ∧ Hid (Below W.heap.size W wr) ∧ Hid (∃ D : DataW Unit, wr.ownsMap Try.prog 9 unitElem w5.heap.size k D ∧ Maps.IsMap D ∧ Sm D (ahdQ qs k)) ∧ Hid (R = chkQ xs.length (ahdQ qs k) (qs.drop k) k)) (fun i _ => qs.length - (intOf i).toNat)
          case atStart => exact ⟨0, by omega, rfl, hB0, hown0, hC0⟩
          case round =>
            obtain ⟨k, hk, rfl, hB, hM, hC⟩ := hrel
            by_cases hlt : k < qs.length
            · obtain ⟨b, o, k', n', m', aa, al, ac, rfl, d0, d1, d2, d3, d4, hx⟩ := hQA.out k hlt
              have hz := lt_of_cell d0
              have c0 := ((bcell hB.out).1 b _ hz).trans d0
              have c1 := ((bcell hB.out).1 b _ hz).trans d1
              have c2 := ((bcell hB.out).1 b _ hz).trans d2
              have c3 := ((bcell hB.out).1 b _ hz).trans d3
              have c4 := ((bcell hB.out).1 b _ hz).trans d4
              have hst := hstep.out k hlt
              have hzk := hZQ.out k hlt
              have hah := hahd.out k hlt
              have hCk := hC.out
              rw [hst] at hCk
              clear d0 d1 d2 d3 d4 hst hC hown0 hC0 hB0
              generalize qs.getD k q0 = q at c0 hx hzk hah hCk
              obtain ⟨nm, r⟩ := q
              dsimp only at c0 hx hzk hah hCk
              obtain ⟨D, hown, hD, hSm⟩ := hM.out
              have hb1 := below_alloc wr (.cells #[.string nm, .int .i64 k', .string n', .int .i64 m', .slice aa al ac] 51)
              have hv := fun w1 => isVar_big nm w1 (Nat.le_trans hzk.1 (by decide))
              have hkey := WideMaps.keyOf_string_mk (P := Try.prog) (k := 9) Try.underlying9 (s := nm) (by unfold maxLen; have := hzk.1; omega)
              have hf3 := fun w1 => tfault_any 83 (k : Int) nm w1 hzk.1
              have hf4 := fun w1 => tfault_any 84 (k : Int) nm w1 hzk.1
              have hf1 := fun w1 => tfault_any 81 ((xs.length : Int) + (k : Int)) ⟨#[]⟩ w1 (by decide)
              clear hM
              cases hW : isW nm 4 with
              | false =>
                have hE : Hid (R = (83, (k : Int), nm)) := hCk.trans (if_pos (Or.inl hW))
                rw [hW] at hv
                clear hCk hW
                go_wp2_with (first | (go_at_call 46; refine (hv _).mono ?_; rintro e w2 ⟨rfl, rfl⟩) | (go_at_call 29; refine (hf3 _).mono ?_; rintro e w3 ⟨⟨ev, rfl, hef⟩, hb3⟩))
                go_ret
                exact ⟨⟨_, rfl, by rw [hE.out]; exact Eo.bad (by decide) hef⟩, Below.next (Below.next hB.out hb1) hb3⟩
              | true =>
                rw [hW] at hv
                by_cases hu : nm.toList = [95]
                · have hE : Hid (R = (83, (k : Int), nm)) := hCk.trans (if_pos (Or.inr (decide_eq_true hu)))
                  clear hCk hW
                  go_wp2_with (first | (go_at_call 46; refine (hv _).mono ?_; rintro e w2 ⟨rfl, rfl⟩) | (go_at_call 29; refine (hf3 _).mono ?_; rintro e w3 ⟨⟨ev, rfl, hef⟩, hb3⟩))
                  go_ret
                  exact ⟨⟨_, rfl, by rw [hE.out]; exact Eo.bad (by decide) hef⟩, Below.next (Below.next hB.out hb1) hb3⟩
                · rw [if_neg (fun h => h.elim (fun h => by rw [hW] at h; cases h) (fun h => hu (of_decide_eq_true h)))] at hCk
                  have hu' : (nm.toList == [95]) = false := beq_eq_false_iff_ne.2 hu
                  have hown1 := hown.alloc (.cells #[.string nm, .int .i64 k', .string n', .int .i64 m', .slice aa al ac] 51)
                  have hhas := hSm nm
                  cases hI : inN (ahdQ qs k) nm with
                  | true =>
                    rw [if_pos hI] at hCk
                    have hE : Hid (R = (84, (k : Int), nm)) := hCk
                    rw [hI] at hhas
                    clear hCk hW hI
                    go_wp2_with (first | (go_at_call 46; refine (hv _).mono ?_; rintro e w2 ⟨rfl, rfl⟩) | (at_lookup; refine wpList_lookup_own_unit _ rfl _ _ 97 rfl 9 99 (string_keyed Try.underlying9) Try.underlying97 (zeroU _) w5.heap.size k D rfl hown1 _ _ rfl hkey ?_) | (go_at_call 29; refine (hf4 _).mono ?_; rintro e w3 ⟨⟨ev, rfl, hef⟩, hb3⟩))
                    go_ret
                    exact ⟨⟨_, rfl, by rw [hE.out]; exact Eo.bad (by decide) hef⟩, Below.next (Below.next (Below.next hB.out hb1) (below_alloc _ _)) hb3⟩
                  | false =>
                    rw [if_neg (by rw [hI]; decide)] at hCk
                    rw [hI] at hhas
                    have hlm := hown.lt
                    have hown2 := hown1.alloc (.cells #[] 99)
                    have hb2 := below_alloc (wr.alloc (.cells #[.string nm, .int .i64 k', .string n', .int .i64 m', .slice aa al ac] 51)) (.cells #[] 99)
                    have hB2 := Below.next (Below.next hB.out hb1) hb2
                    have hx2 := (((hx.next hB.out).next hb1).next hb2)
                    have hq2 : ((wr.alloc (.cells #[.string nm, .int .i64 k', .string n', .int .i64 m', .slice aa al ac] 51)).alloc (.cells #[] 99)).heap[wr.heap.size]? = some (.cells #[.string nm, .int .i64 k', .string n', .int .i64 m', .slice aa al ac] 51) := by
                      rw [Below.heap_alloc _ _ _ (by simp)]
                      exact heap_alloc_new wr _
                    have hxm : ∀ w6, ((wr.alloc (.cells #[.string nm, .int .i64 k', .string n', .int .i64 m', .slice aa al ac] 51)).alloc (.cells #[] 99)).grownBy w6 (some w5.heap.size) → Below W.heap.size W w6 ∧ w6.heap[wr.heap.size]? = some (.cells #[.string nm, .int .i64 k', .string n', .int .i64 m', .slice aa al ac] 51) := fun w6 hg => ⟨hB2.grown hg hB2.size (fun j e => by cases e; exact hw5s), by rw [hg.block _ (lt_of_block hq2) (fun e => by injection e with e; omega)]; exact hq2⟩
                    have hcall := fun w6 (hb : Below W.heap.size W w6) => goodE_any _ (hx.next hb) hzk.2
                    clear hx2
                    cases hq : goodX 0 r with
                    | false =>
                      rw [if_pos hq] at hCk
                      have hE : Hid (R = (81, (xs.length : Int) + (k : Int), ⟨#[]⟩)) := hCk
                      rw [hq] at hcall
                      clear hCk hW hI hq
                      go_wp2_with (first
                        | (go_at_call 46; refine (hv _).mono ?_; rintro e w2 ⟨rfl, rfl⟩)
                        | (at_lookup; refine wpList_lookup_own_unit _ rfl _ _ 97 rfl 9 99 (string_keyed Try.underlying9) Try.underlying97 (zeroU _) w5.heap.size k D rfl hown1 _ _ rfl hkey ?_)
                        | (at_mapUpdate; refine wpList_mapUpdate_own _ rfl _ _ _ 97 rfl 9 99 (string_keyed Try.underlying9) Try.underlying97 (unitElem (H := Unit)) w5.heap.size k _ rfl hown2 (by unfold maxLen; omega) _ _ _ rfl rfl hkey _ [] unitElem_mk ?_; intro w6 hown6 hg6; obtain ⟨hB6, hq6⟩ := hxm w6 hg6; obtain ⟨⟨t0, t1, t2, t3, t4⟩, _⟩ := tblk5 hq6)
                        | (go_at_call 45; refine (hcall _ hB6).mono ?_; rintro e w7 ⟨rfl, hb7⟩)
                        | (go_at_call 29; refine (hf1 _).mono ?_; rintro e w3 ⟨⟨ev, rfl, hef⟩, hb3⟩))
                      go_ret
                      exact ⟨⟨_, rfl, by rw [hE.out]; exact Eo.bad (by decide) hef⟩, Below.next (Below.next hB6 hb7) hb3⟩
                    | true =>
                      rw [if_neg (by rw [hq]; decide)] at hCk
                      have hE := hid hCk
                      rw [hq] at hcall
                      have hah' := hid hah
                      clear hCk hW hI hq hah
                      go_wp2_with (first
                        | (go_at_call 46; refine (hv _).mono ?_; rintro e w2 ⟨rfl, rfl⟩)
                        | (at_lookup; refine wpList_lookup_own_unit _ rfl _ _ 97 rfl 9 99 (string_keyed Try.underlying9) Try.underlying97 (zeroU _) w5.heap.size k D rfl hown1 _ _ rfl hkey ?_)
                        | (at_mapUpdate; refine wpList_mapUpdate_own _ rfl _ _ _ 97 rfl 9 99 (string_keyed Try.underlying9) Try.underlying97 (unitElem (H := Unit)) w5.heap.size k _ rfl hown2 (by unfold maxLen; omega) _ _ _ rfl rfl hkey _ [] unitElem_mk ?_; intro w6 hown6 hg6; obtain ⟨hB6, hq6⟩ := hxm w6 hg6; obtain ⟨⟨t0, t1, t2, t3, t4⟩, _⟩ := tblk5 hq6)
                        | (go_at_call 45; refine (hcall _ hB6).mono ?_; rintro e w7 ⟨rfl, hb7⟩))
                      go_roundw
                      case rel => exact ⟨k + 1, by omega, by go_num, Below.next hB6 hb7, ⟨_, mapU_below hown6 hb7, World.ownsMap.isMap hown6, by rw [hah'.out]; exact hSm.put hD nm _⟩, hE⟩
                      case measure => simp [intOf]; omega
            · obtain rfl : k = qs.length := by omega
              have hE : Hid (R = (0, 0, ⟨#[]⟩)) := hC.out.trans hend.out
              clear hC hM hown0 hC0 hB0
              go_wp2
              go_ret
              exact ⟨⟨_, rfl, by rw [hE.out]; exact Or.inl ⟨rfl, rfl⟩⟩, hB.out⟩
end Go.Proofs.Ytjkcffcedbcjmaa
