/- Check of tendrilref08, at small systems. -/
import Derived.BigQuiet
import Derived.Test.Ytjkcffcedbcjmaata45Z
import Derived.Test.Ytjkcffcedbcjmaata40Z
import Derived.Test.Ytjkcffcedbcjmaata44Z
import Derived.Test.Ytjkcffcedbcjmaata37Z
import Derived.Test.Ytjkcffcedbcjmaata20Z
namespace Go.Proofs.Ytjkcffcedbcjmaa
set_option maxRecDepth 100000
open Go.RowKit Go.Maps
set_option maxHeartbeats 16000000 in
theorem rtcheck_any {W : World} {xv qv : Value} {xs : List Ex} {qs : List (ByteArray × Ex)} (hX : Rxs W xv xs) (hQ : Rqs W qv qs) (hzx : szXs xs) (hzq : ∀ q ∈ qs, q.1.size ≤ 281474976710656 ∧ szX q.2) (hlx : xs.length ≤ 100) (hlq : qs.length ≤ 100) (hp : prtXs xs + prtQ qs ≤ 350) :
    Calls Try.prog 32 #[xv, qv] W fun e w' => (((chkT xs qs).1 = 0 ∧ ∃ a c, e = .returned (.tuple #[.slice a (namA xs qs).length c, fV 0 0 ⟨#[]⟩]) ∧ w'.ownsRow W.heap.size 9 1 (.slice a (namA xs qs).length c) (namA xs qs).length ((namA xs qs).map Value.string)) ∨ ((chkT xs qs).1 ≠ 0 ∧ e = .returned (.tuple #[.slice none 0 0, fV (chkT xs qs).1 (chkT xs qs).2.1 (chkT xs qs).2.2]))) ∧ Below W.heap.size W w' := by
  obtain ⟨i0, hi0, hw0, hw1, hw2⟩ := info_parts infoStr
  obtain ⟨xo, xc, rfl, hXa0⟩ := hX
  obtain ⟨qo, qc, rfl, hQa0⟩ := hQ
  have hXa := hid hXa0
  have hQa := hid hQa0
  have HZX := hid (szXs_mem hzx)
  have HZQ := hid hzq
  have hpcx : Hid (∀ x ∈ xs, prtX x ≤ 350) := fun x hx => by have := prt_mem8 xs x hx; omega
  have hpcq : Hid (∀ q ∈ qs, prtX q.2 ≤ 350) := fun q hq => by have := prt_q_mem qs q hq; omega
  have hnlx : Hid (∀ j, (namXs [] (xs.take j)).length ≤ 350) := fun j => by
    have h1 := namXs_len [] (xs.take j)
    have h2 : prtXs (xs.take j) ≤ prtXs xs := by
      by_cases h : j < xs.length
      · have := prt_take xs j h
        omega
      · rw [List.take_of_length_le (by omega)]
        exact Nat.le_refl _
    simp at h1
    omega
  have hnlq : Hid (∀ j, (namQ (namXs [] xs) (qs.take j)).length ≤ 350) := fun j => by
    have h1 := namXs_len [] xs
    have h2 := namQ_len (namXs [] xs) (qs.take j)
    have h3 := prtQ_take qs j
    simp at h1
    omega
  have hox := othXs_le xs
  have hoxt := hid (othXs_take xs)
  have hoq : Hid (∀ j, othQ (qs.take j) ≤ 350) := fun j => by
    have h1 := othQ_le (qs.take j)
    have h2 := prtQ_take qs j
    omega
  clear hXa0 hQa0 hzx hzq
  go_enter Try.func32, Try.ntmps32
  go_wp2
  go_loopw [6, 7, 8] (fun l n i wr => ∃ (j : Nat) (so : Option Addr) (sc : Nat), j ≤ xs.length ∧ i = .int .i64 (j : Int) ∧ l = .slice so (namXs [] (xs.take j)).length sc ∧ n = .int .i64 ((othXs (xs.take j) : Nat) : Int) ∧ Hid (Ck W wr l (namXs [] (xs.take j))) ∧ Hid (∀ i, i < j → goodX 0 (xs.getD i x0) = true)) (fun _ _ i _ => xs.length - (intOf i).toNat)
  case atStart => exact ⟨0, none, 0, Nat.zero_le _, rfl, by simp [namXs], by simp [othXs], by rw [List.take_zero, namXs]; exact Ck.start W, fun i hi => absurd hi (Nat.not_lt_zero _)⟩
  case round =>
    obtain ⟨j, so, sc, hj, rfl, rfl, rfl, hC, hg⟩ := hrel
    by_cases hlt : j < xs.length
    · obtain ⟨b, o, k', n', m', aa, al, ac, rfl, d0, d1, d2, d3, hx⟩ := hXa.out j hlt
      have hbr := hC.out.b
      have hz := lt_of_cell d0
      have hcw : Hid (∀ w', Below W.heap.size W w' → (w'.cell? ⟨b, o + j * 4, none⟩ = some (.int .i64 k') ∧ w'.cell? ⟨b, o + j * 4 + 1, none⟩ = some (.string n') ∧ w'.cell? ⟨b, o + j * 4 + 2, none⟩ = some (.int .i64 m') ∧ w'.cell? ⟨b, o + j * 4 + 3, none⟩ = some (.slice aa al ac))) := fun w' hb => ⟨((bcell hb).1 b _ hz).trans d0, ((bcell hb).1 b _ hz).trans d1, ((bcell hb).1 b _ hz).trans d2, ((bcell hb).1 b _ hz).trans d3⟩
      obtain ⟨c0, c1, c2, c3⟩ := hcw.out _ hbr
      have hgd := rGood7_any (hx.next hbr) (HZX.out _ (xs_at hlt)) (by have := hpcx.out _ (xs_at hlt); omega)
      have HX := hid hx
      have hnl := hnlx.out j
      have hpx := hpcx.out _ (xs_at hlt)
      clear hx d0 d1 d2 d3 hz hbr
      cases hq : goodX 0 (xs.getD j x0) with
      | false =>
        rw [hq] at hgd
        have hE := hid (chk_x (qs := qs) (by omega) (by omega) hlt hg.out hq)
        clear hq hg hcw
        go_wp2_with (first
          | (go_at_call 57; go_must (refine (numAt_any _ _ _).mono ?_; rintro e w3 ⟨rfl, hb3⟩; have HC3 := hid (HC2.out.next hb3); have hfx := HC3.out.x; have hfb := HC3.out.b; obtain ⟨⟨f0, f1, f2, f3⟩, g0, g1, g2, g3⟩ := blk4 hfx; have hfz := lt_of_block hfx))
          | (go_at_call 58; go_must (refine hgd.mono ?_; clear hgd; rintro e w2 ⟨rfl, hb2⟩; have HC2 := hid (hC.out.next hb2))))
        refine bodyPost_ret (ret_sF (v1 := .slice none 0 0) Try.results32 (by rfl) (by rfl) (set4 hfx)) rfl ⟨Or.inr ⟨by rw [hE.out]; simp, by rw [hE.out]⟩, ?_⟩
        exact (((hfb.setCell (p := ⟨W.heap.size, 0, none⟩) (Nat.le_refl _) _).setCell (p := ⟨W.heap.size, 1, none⟩) (Nat.le_refl _) _).setCell (p := ⟨W.heap.size, 2, none⟩) (Nat.le_refl _) _).setCell (p := ⟨W.heap.size, 3, none⟩) (Nat.le_refl _) _
      | true =>
        rw [hq] at hgd
        have hg' : Hid (∀ i, i < j + 1 → goodX 0 (xs.getD i x0) = true) := fun i hi => by
          by_cases e : i < j
          · exact hg.out i e
          · obtain rfl : i = j := by omega
            exact hq
        have hst := hid (namXs_snoc [] xs j hlt)
        have hos := hid (othXs_snoc xs j hlt)
        have ho1 := hoxt.out j
        have ho2 := hoxt.out (j + 1)
        rw [hos.out] at ho2
        clear hq hg
        generalize xs.getD j x0 = xj at *
        go_wp2_with (first
          | (go_at_call 60; go_must (refine (rparts_any _ _ _ (HX.out.next HC3.out.b) (by omega)).mono ?_; rintro e w4 ⟨rfl, hb4⟩; have HC4 := hid (HC3.out.next hb4)))
          | (go_at_call 59; go_must (refine (rnames_any _ W w2 _ _ _ HX.out HC2.out.b HC2.out.own (by omega)).mono ?_; rintro e w3 ⟨y, rfl, hy⟩; have HC3 := hid (HC2.out.names hy); obtain ⟨zo, zc, rfl⟩ := own_sl hy.own; clear hy; obtain ⟨u0, u1, u2, u3⟩ := hcw.out _ HC3.out.b))
          | (go_at_call 58; go_must (refine hgd.mono ?_; clear hgd; rintro e w2 ⟨rfl, hb2⟩; have HC2 := hid (hC.out.next hb2); clear hb2; obtain ⟨s0, s1, s2, s3⟩ := hcw.out _ HC2.out.b)))
        go_roundw
        case rel => exact ⟨j + 1, zo, zc, by omega, by go_num, by rw [hst.out], by rw [hos.out]; go_num, by rw [hst.out]; exact HC4.out, hg'⟩
        case measure => simp [intOf]; omega
    · obtain rfl : j = xs.length := by omega
      have hC' := hC.out
      have hg0 := hg.out
      rw [List.take_length] at hC' ⊢
      have HC := hid hC'
      have hE0 := hid (chk_q0 (qs := qs) (by omega) (by omega) hg0)
      clear hC hC' hg hg0
      go_wp2
      go_loopw [6, 7, 9] (fun l n i wr => ∃ (t : Nat) (so : Option Addr) (sc : Nat), t ≤ qs.length ∧ i = .int .i64 (t : Int) ∧ l = .slice so (namQ (namXs [] xs) (qs.take t)).length sc ∧ n = .int .i64 ((othXs xs + othQ (qs.take t) : Nat) : Int) ∧ Hid (Ck W wr l (namQ (namXs [] xs) (qs.take t))) ∧ Hid (chkT xs qs = chkQ xs.length ((qs.take t).map (·.1)) (qs.drop t) t)) (fun _ _ i _ => qs.length - (intOf i).toNat)
      case atStart => exact ⟨0, so, sc, Nat.zero_le _, rfl, by simp [namQ], by simp [othQ], by rw [List.take_zero, namQ]; exact HC.out, hE0.out⟩
      case round =>
        clear HC hE0
        obtain ⟨t, so, sc, ht, rfl, rfl, rfl, hC, hE⟩ := hrel
        by_cases hlt : t < qs.length
        · obtain ⟨b, o, k', n', m', aa, al, ac, rfl, d0, d1, d2, d3, d4, hx⟩ := hQa.out t hlt
          have hbr := hC.out.b
          have hz := lt_of_cell d0
          have hqm : qs.getD t q0 ∈ qs := by simp [List.getD, hlt]
          have hnz := (HZQ.out _ hqm).1
          have hcw : Hid (∀ w', Below W.heap.size W w' → (w'.cell? ⟨b, o + t * 5, none⟩ = some (.string (qs.getD t q0).1) ∧ w'.cell? ⟨b, o + t * 5 + 1, none⟩ = some (.int .i64 k') ∧ w'.cell? ⟨b, o + t * 5 + 2, none⟩ = some (.string n') ∧ w'.cell? ⟨b, o + t * 5 + 3, none⟩ = some (.int .i64 m') ∧ w'.cell? ⟨b, o + t * 5 + 4, none⟩ = some (.slice aa al ac))) := fun w' hb => ⟨((bcell hb).1 b _ hz).trans d0, ((bcell hb).1 b _ hz).trans d1, ((bcell hb).1 b _ hz).trans d2, ((bcell hb).1 b _ hz).trans d3, ((bcell hb).1 b _ hz).trans d4⟩
          obtain ⟨c0, c1, c2, c3, c4⟩ := hcw.out _ hbr
          have hgd := rGood7_any (hx.next hbr) (HZQ.out _ hqm).2 (by have := hpcq.out _ hqm; omega)
          have HX := hid hx
          have hnl := hnlq.out t
          have hpx := hpcq.out _ hqm
          have hst := hid (namQ_snoc (namXs [] xs) qs t hlt)
          have hos := hid (othQ_snoc qs t hlt)
          have ho1 := hoq.out t
          have ho2 := hoq.out (t + 1)
          rw [hos.out] at ho2
          have hen := hid (fun h => ck_name (n := xs.length) (ah := (qs.take t).map (·.1)) hlt h)
          have het := hid (fun h h2 => ck_twice (n := xs.length) (ah := (qs.take t).map (·.1)) hlt h h2)
          have heb := hid (fun h h2 h3 => ck_bad (n := xs.length) (ah := (qs.take t).map (·.1)) hlt h h2 h3)
          have hex := hid (fun h h2 h3 => ck_next (n := xs.length) hlt h h2 h3)
          have hia := hid (in_ahead (qs := qs) (i := t) (by omega) (s := (qs.getD t q0).1))
          clear hx d0 d1 d2 d3 d4 hz hbr hqm
          generalize (qs.getD t q0).1 = s at *
          generalize (qs.getD t q0).2 = xj at *
          by_cases hu : s.toList = [95]
          · have hu2 : (s.toList == [95]) = true := by simp [hu]
            have hE2 := hid (hE.out.trans (hen.out (Or.inr (by simp [isU, hu]))))
            have HCN := hC
            have hfx := HCN.out.x
            have hfb := HCN.out.b
            obtain ⟨⟨f0, f1, f2, f3⟩, g0, g1, g2, g3⟩ := blk4 hfx
            have hfz := lt_of_block hfx
            clear hgd hcw
            go_wp2
            refine bodyPost_ret (ret_sF (v1 := .slice none 0 0) Try.results32 (by rfl) (by rfl) (set4 hfx)) rfl ⟨Or.inr ⟨by rw [hE2.out]; simp, by rw [hE2.out]⟩, ?_⟩
            exact (((hfb.setCell (p := ⟨W.heap.size, 0, none⟩) (Nat.le_refl _) _).setCell (p := ⟨W.heap.size, 1, none⟩) (Nat.le_refl _) _).setCell (p := ⟨W.heap.size, 2, none⟩) (Nat.le_refl _) _).setCell (p := ⟨W.heap.size, 3, none⟩) (Nat.le_refl _) _
          have hu2 : (s.toList == [95]) = false := by simp [hu]
          have hiu : isU s = false := by simp [isU, hu]
          cases hw : isW s 4 with
          | false =>
            have hE2 := hid (hE.out.trans (hen.out (Or.inl hw)))
            have hrv := fun w => risVar_big s w (by omega)
            rw [hw] at hrv
            have HCN := hC
            have hfx := HCN.out.x
            have hfb := HCN.out.b
            obtain ⟨⟨f0, f1, f2, f3⟩, g0, g1, g2, g3⟩ := blk4 hfx
            have hfz := lt_of_block hfx
            clear hgd hcw hw
            go_wp2_with (go_at_call 61; refine (hrv _).mono ?_; rintro e w2 ⟨rfl, hw2⟩; rw [hw2]; clear hw2)
            refine bodyPost_ret (ret_sF (v1 := .slice none 0 0) Try.results32 (by rfl) (by rfl) (set4 hfx)) rfl ⟨Or.inr ⟨by rw [hE2.out]; simp, by rw [hE2.out]⟩, ?_⟩
            exact (((hfb.setCell (p := ⟨W.heap.size, 0, none⟩) (Nat.le_refl _) _).setCell (p := ⟨W.heap.size, 1, none⟩) (Nat.le_refl _) _).setCell (p := ⟨W.heap.size, 2, none⟩) (Nat.le_refl _) _).setCell (p := ⟨W.heap.size, 3, none⟩) (Nat.le_refl _) _
          | true =>
            have hno : ¬ (isW s 4 = false ∨ isU s = true) := by rw [hw, hiu]; simp
            have hrv := fun w => risVar_big s w (by omega)
            rw [hw] at hrv
            have Hno := hid hno
            clear hw hno
            go_wp2_with (go_at_call 61; refine (hrv _).mono ?_; rintro e w2 ⟨rfl, hw2⟩; rw [hw2]; clear hw2)
            obtain ⟨wA, hwA⟩ : ∃ wA, wA = wr := ⟨_, rfl⟩
            subst hwA
            go_loopw [11] (fun i wr => ∃ (j : Nat), j ≤ t ∧ i = .int .i64 (j : Int) ∧ Hid (∀ i, i < j → (qs.getD i q0).1 ≠ s) ∧ Hid (wr = wA)) (fun i _ => t - (intOf i).toNat)
            case atStart => exact ⟨0, Nat.zero_le _, rfl, fun i hi => absurd hi (Nat.not_lt_zero _), rfl⟩
            case round =>
              obtain ⟨j, hj, rfl, hn, hwe⟩ := hrel
              have hwe2 := hwe.out
              subst hwe2
              clear hwe
              by_cases hlj : j < t
              · obtain ⟨b5, o5, kk, nn, mm, a5, l5, r5, e5, p0, _⟩ := hQa.out j (by omega)
                injection e5 with e5
                injection e5 with e6 e7 _
                subst e6 e7
                replace p0 := ((bcell hC.out.b).1 b _ (lt_of_cell p0)).trans p0
                by_cases hs : (qs.getD j q0).1 = s
                · have hE2 := hid (hE.out.trans (het.out Hno.out (hia.out.2 ⟨j, hlj, hs⟩)))
                  rw [hs] at p0
                  have HCN := hC
                  have hfx := HCN.out.x
                  have hfb := HCN.out.b
                  obtain ⟨⟨f0, f1, f2, f3⟩, g0, g1, g2, g3⟩ := blk4 hfx
                  have hfz := lt_of_block hfx
                  clear hgd hcw hs hn
                  go_wp2
                  refine bodyPost_ret (ret_sF (v1 := .slice none 0 0) Try.results32 (by rfl) (by rfl) (set4 hfx)) rfl ⟨Or.inr ⟨by rw [hE2.out]; simp, by rw [hE2.out]⟩, ?_⟩
                  exact (((hfb.setCell (p := ⟨W.heap.size, 0, none⟩) (Nat.le_refl _) _).setCell (p := ⟨W.heap.size, 1, none⟩) (Nat.le_refl _) _).setCell (p := ⟨W.heap.size, 2, none⟩) (Nat.le_refl _) _).setCell (p := ⟨W.heap.size, 3, none⟩) (Nat.le_refl _) _
                · have hn' : Hid (∀ i, i < j + 1 → (qs.getD i q0).1 ≠ s) := fun i hi => by
                    by_cases e : i < j
                    · exact hn.out i e
                    · obtain rfl : i = j := by omega
                      exact hs
                  generalize (qs.getD j q0).1 = s2 at p0 hs
                  have hs2 := ne_list hs
                  clear hn
                  go_wp2
                  go_roundw
                  case rel => exact ⟨j + 1, by omega, by go_num, hn', by first | exact trivial | exact rfl⟩
                  case measure => simp [intOf]; omega
              · obtain rfl : j = t := by omega
                have hni : ¬ inN ((qs.take j).map (·.1)) s = true := fun h => by
                  obtain ⟨i, hi, e⟩ := hia.out.1 h
                  exact hn.out i hi e
                cases hq : goodX 0 xj with
                | false =>
                  rw [hq] at hgd
                  have hE2 := hid (hE.out.trans (heb.out Hno.out hni hq))
                  clear hq hn hni
                  go_wp2_with (first
                    | (go_at_call 57; go_must (refine (numAt_any _ _ _).mono ?_; rintro e w3 ⟨rfl, hb3⟩; have HC3 := hid (HC2.out.next hb3); have hfx := HC3.out.x; have hfb := HC3.out.b; obtain ⟨⟨f0, f1, f2, f3⟩, g0, g1, g2, g3⟩ := blk4 hfx; have hfz := lt_of_block hfx))
                    | (go_at_call 58; go_must (refine hgd.mono ?_; clear hgd; rintro e w2 ⟨rfl, hb2⟩; have HC2 := hid (hC.out.next hb2))))
                  refine bodyPost_ret (ret_sF (v1 := .slice none 0 0) Try.results32 (by rfl) (by rfl) (set4 hfx)) rfl ⟨Or.inr ⟨by rw [hE2.out]; simp, by rw [hE2.out]⟩, ?_⟩
                  exact (((hfb.setCell (p := ⟨W.heap.size, 0, none⟩) (Nat.le_refl _) _).setCell (p := ⟨W.heap.size, 1, none⟩) (Nat.le_refl _) _).setCell (p := ⟨W.heap.size, 2, none⟩) (Nat.le_refl _) _).setCell (p := ⟨W.heap.size, 3, none⟩) (Nat.le_refl _) _
                | true =>
                  rw [hq] at hgd
                  have hE' := hid (hE.out.trans (hex.out Hno.out hni hq))
                  clear hq hn hni
                  cases hin : inN (namQ (namXs [] xs) (qs.take j)) s with
                  | true =>
                    have hf : findI (namQ (namXs [] xs) (qs.take j)) s = (ixN (namQ (namXs [] xs) (qs.take j)) s : Int) := by unfold findI; rw [if_pos hin]
                    have hst2 := hid (hst.out.trans (by rw [show putS (namQ (namXs [] xs) (qs.take j)) s = (namQ (namXs [] xs) (qs.take j)) by unfold putS; rw [if_pos hin]]))
                    have hfd := hid (fun (w : World) (v : Value) (h : Rsn w v (namQ (namXs [] xs) (qs.take j))) => rfind_any h (by omega) s)
                    rw [hf] at hfd
                    generalize ixN (namQ (namXs [] xs) (qs.take j)) s = z at hfd
                    clear hin hf
                    go_wp2_with (first
                      | (go_at_call 60; go_must (refine (rparts_any _ _ _ (HX.out.next HC5.out.b) (by omega)).mono ?_; rintro e w6 ⟨rfl, hb6⟩; have HC6 := hid (HC5.out.next hb6)))
                      | (go_at_call 59; go_must (refine (rnames_any _ W w3 _ _ _ HX.out HC3.out.b HC3.out.own (by omega)).mono ?_; rintro e w5 ⟨y, rfl, hy⟩; have HC5 := hid (HC3.out.names hy); obtain ⟨zo, zc, rfl⟩ := own_sl hy.own; clear hy; obtain ⟨v0, v1, v2, v3, v4⟩ := hcw.out _ HC5.out.b))
                      | (go_at_call 35; go_must (refine (hfd.out _ _ (Rsn.own HC2.out.own)).mono ?_; clear hfd; rintro e w3 ⟨rfl, hb3⟩; have HC3 := hid (HC2.out.next hb3); clear hb3; obtain ⟨u0, u1, u2, u3, u4⟩ := hcw.out _ HC3.out.b))
                      | (go_at_call 58; go_must (refine hgd.mono ?_; clear hgd; rintro e w2 ⟨rfl, hb2⟩; have HC2 := hid (hC.out.next hb2); clear hb2)))
                    go_roundw
                    case rel => exact ⟨j + 1, zo, zc, by omega, by go_num, by rw [hst2.out], by rw [hos.out]; go_num, by rw [hst2.out]; exact HC6.out, hE'⟩
                    case measure => simp [intOf]; omega
                  | false =>
                    have hf : findI (namQ (namXs [] xs) (qs.take j)) s = -1 := by unfold findI; rw [if_neg (by rw [hin]; simp)]
                    have hst2 := hid (hst.out.trans (by rw [show putS (namQ (namXs [] xs) (qs.take j)) s = (namQ (namXs [] xs) (qs.take j)) ++ [s] by unfold putS; rw [if_neg (by rw [hin]; simp)]]))
                    have hfd := hid (fun (w : World) (v : Value) (h : Rsn w v (namQ (namXs [] xs) (qs.take j))) => rfind_any h (by omega) s)
                    rw [hf] at hfd
                    have hl1 : ((namQ (namXs [] xs) (qs.take j)) ++ [s]).length = (namQ (namXs [] xs) (qs.take j)).length + 1 := by simp
                    have hWs : Hid (∀ w v l, Ck W w v l → W.heap.size ≤ w.heap.size) := fun w v l h => h.b.size
                    clear hin hf
                    go_wp2_with (first
                      | (go_at_call 60; go_must (refine (rparts_any _ _ _ (HX.out.next HC5.out.b) (by omega)).mono ?_; rintro e w6 ⟨rfl, hb6⟩; have HC6 := hid (HC5.out.next hb6)))
                      | (go_at_call 59; go_must (refine (rnames_any _ W w4 _ _ ((namQ (namXs [] xs) (qs.take j)) ++ [s]) HX.out HC4.out.b HC4.out.own (by omega)).mono ?_; rintro e w5 ⟨y, rfl, hy⟩; have HC5 := hid (HC4.out.names hy); obtain ⟨zo, zc, rfl⟩ := own_sl hy.own; clear hy; obtain ⟨v0, v1, v2, v3, v4⟩ := hcw.out _ HC5.out.b))
                      | (at_builtin; go_must (refine wpList_append_lies _ rfl _ _ 68 rfl W.heap.size 9 i0 (.string ⟨#[]⟩) 1 16 Try.underlying68 hi0 hw0 hw1 hw2 rfl (by decide) (.slice so (namQ (namXs [] xs) (qs.take j)).length sc) (namQ (namXs [] xs) (qs.take j)).length ((namQ (namXs [] xs) (qs.take j)).map Value.string) rfl (World.ownsRow.alloc HC3.out.own (.cells #[.string s] 9)) ⟨w3.heap.size, 0, none⟩ 1 1 [.string s] rfl (by rfl) (World.news_of_block (cs := #[.string s]) (t := 9) (fr := (0, 0)) (heap_alloc_new w3 _)) (by simp [Value.oneCell']) (by omega) (by unfold maxLen; omega) (by omega) (by simp; omega) (w3.heap.size + 1) (by simp) ?_; intro g7 c7 w4 hown7 hg7 hat7 hlt7; have HC4 := hid (HC3.out.push hown7 hg7 hat7); clear hown7 hg7 hat7 hlt7; obtain ⟨u0, u1, u2, u3, u4⟩ := hcw.out _ HC4.out.b))
                      | (go_at_call 35; go_must (refine (hfd.out _ _ (Rsn.own HC2.out.own)).mono ?_; clear hfd; rintro e w3 ⟨rfl, hb3⟩; have HC3 := hid (HC2.out.next hb3); clear hb3; have hz3 := HC3.out.b.size))
                      | (go_at_call 58; go_must (refine hgd.mono ?_; clear hgd; rintro e w2 ⟨rfl, hb2⟩; have HC2 := hid (hC.out.next hb2); clear hb2)))
                    go_roundw
                    case rel => exact ⟨j + 1, zo, zc, by omega, by go_num, by rw [hst2.out], by rw [hos.out]; go_num, by rw [hst2.out]; exact HC6.out, hE'⟩
                    case measure => simp [intOf]; omega
        · obtain rfl : t = qs.length := by omega
          have hC' := hC.out
          have hE1 := hE.out
          have hnl := hnlq.out qs.length
          have ho1 := hoq.out qs.length
          rw [List.take_length] at hC' hnl ho1 ⊢
          rw [List.drop_length, chkQ] at hE1
          have HC := hid hC'
          have HE := hid hE1
          have hna : Hid (namQ (namXs [] xs) qs = namA xs qs) := rfl
          clear hC hC' hE hE1
          go_wp2_with (go_at_call 62; go_must (refine (numNo_any _).mono ?_; rintro e w3 ⟨rfl, hb3⟩; have HC3 := hid (HC.out.next hb3); have hfx := HC3.out.x; have hfb := HC3.out.b; obtain ⟨⟨f0, f1, f2, f3⟩, g0, g1, g2, g3⟩ := blk4 hfx; have hfz := lt_of_block hfx))
          refine bodyPost_ret (ret_sF (v1 := .slice so (namQ (namXs [] xs) qs).length sc) Try.results32 (by rfl) (by rfl) (set4 hfx)) rfl ⟨Or.inl ⟨by rw [HE.out], so, sc, by rw [← hna.out], ?_⟩, ?_⟩
          · rw [← hna.out]
            refine row_keep HC3.out.own (fun k ek => ?_)
            have hk : k ≠ W.heap.size := fun e => HC3.out.nb (by rw [← e]; exact ek)
            rw [Below.heap_setCell _ _ _ _ hk, Below.heap_setCell _ _ _ _ hk, Below.heap_setCell _ _ _ _ hk, Below.heap_setCell _ _ _ _ hk]
          · exact (((hfb.setCell (p := ⟨W.heap.size, 0, none⟩) (Nat.le_refl _) _).setCell (p := ⟨W.heap.size, 1, none⟩) (Nat.le_refl _) _).setCell (p := ⟨W.heap.size, 2, none⟩) (Nat.le_refl _) _).setCell (p := ⟨W.heap.size, 3, none⟩) (Nat.le_refl _) _
end Go.Proofs.Ytjkcffcedbcjmaa

namespace Go.Proofs.Ytjkcffcedbcjmaa
set_option maxRecDepth 100000
open Go.RowKit Go.Maps
theorem ret_gE {w : World} {fn : Func} {t s : Tmp} (hfn : fn.results = #[.cell t 29, .tmp s]) {tmps : Array Value} {q : Nat} {u0 u1 : Value} (h4 : tmps[t]?.getD undef = .pointer (some ⟨q, 0, none⟩)) (hq : w.heap[q]? = some (.cells #[u0, u1] 29)) : (results fn tmps).run Try.prog w = .ok (.tuple #[.agg #[u0, u1], tmps[s]?.getD undef]) w := by
  obtain ⟨⟨z0, z1⟩, _⟩ := blk2 hq
  simp [results, hfn, go_sem, h4, z0, z1]
set_option maxHeartbeats 2000000 in
theorem tread_ok {W : World} {xv qv : Value} {xs : List Ex} {qs : List (ByteArray × Ex)} (hX : Rxs W xv xs) (hQ : Rqs W qv qs) (hzx : szXs xs) (hzq : ∀ q ∈ qs, q.1.size ≤ 281474976710656 ∧ szX q.2) (hp : prtXs xs + prtQ qs ≤ 30000) (hc : (tieC xs qs).1 = 0) (ee : Nat → Nat → Bool) (hd : ∀ x y : Nat, (ee x y = true ↔ Al (tieG xs qs) (x : Int) (y : Int))) :
    Calls Try.prog 14 #[.agg #[xv, qv]] W fun e w' => (∃ nv rv, e = .returned (.tuple #[.agg #[nv, rv], .nilIface]) ∧ Gr w' nv rv (trimF (quoF ee (tieG xs qs)))) ∧ Below W.heap.size W w' := by
  have hb0 : Below W.heap.size W ((W.alloc (.cells #[xv, qv] 46)).alloc (.cells #[.slice none 0 0, .slice none 0 0] 29)) := (below_alloc W _).alloc (by simp) _
  have ht := tie_ok (hX.next hb0) (hQ.next hb0) hzx hzq hp hc ee hd
  have bx0 : ((W.alloc (.cells #[xv, qv] 46)).alloc (.cells #[.slice none 0 0, .slice none 0 0] 29)).heap[W.heap.size]? = some (.cells #[xv, qv] 46) := by
    rw [Below.heap_alloc _ _ _ (by simp)]
    exact heap_alloc_new W _
  have bx1 : ((W.alloc (.cells #[xv, qv] 46)).alloc (.cells #[.slice none 0 0, .slice none 0 0] 29)).heap[W.heap.size + 1]? = some (.cells #[.slice none 0 0, .slice none 0 0] 29) := by
    simpa using heap_alloc_new (W.alloc (.cells #[xv, qv] 46)) (.cells #[.slice none 0 0, .slice none 0 0] 29)
  obtain ⟨⟨c0, c1⟩, _⟩ := blk2 bx0
  obtain ⟨xo, xc, rfl, _⟩ := hX
  obtain ⟨qo, qc, rfl, _⟩ := hQ
  have HB := hid hb0
  have HX := hid bx1
  clear hzx hzq hc hd hb0 bx0 bx1
  generalize trimF (quoF ee (tieG xs qs)) = T at *
  go_enter Try.func14, Try.ntmps14
  go_wp2_with (go_at_call 9; go_must (refine ht.mono ?_; clear ht; rintro r w3 ⟨⟨nv, rv, avs, mv, rfl, hO, hM⟩, hb3⟩; obtain ⟨n0, n9, rfl⟩ := hO.nsl; obtain ⟨r0, r9, rfl, _⟩ := hO.r; obtain ⟨mo, mc, rfl⟩ := own_sl hM; have HO := hid hO; have HB3 := hid hb3; have hx3 := ((Below.next hb3 (below_alloc w3 (.cells #[.slice n0 T.nodes.length n9, .slice r0 T.roots.length r9] 29))).block _ (lt_of_block HX.out)).trans HX.out; have HX3 := hid hx3; obtain ⟨⟨g0, g1⟩, g2, g3⟩ := blk2 hx3; have gz := lt_of_block hx3; obtain ⟨⟨j0, j1⟩, _⟩ := blk2 (heap_alloc_new w3 (.cells #[.slice n0 T.nodes.length n9, .slice r0 T.roots.length r9] 29)); clear hM hO hb3 hx3))
  refine bodyPost_ret (ret_gE Try.results14 (by rfl) (blk2_set HX3.out)) rfl ⟨⟨_, _, rfl, ?_⟩, ?_⟩
  · refine Og.gr (B := ((W.alloc (.cells #[.slice xo xs.length xc, .slice qo qs.length qc] 46)).alloc (.cells #[.slice none 0 0, .slice none 0 0] 29)).heap.size) (avs := avs) ((HO.out.below (below_alloc w3 (.cells #[.slice n0 T.nodes.length n9, .slice r0 T.roots.length r9] 29))).keep (fun k hk _ => ?_))
    have hk' : k ≠ W.heap.size + 1 := by
      simp at hk
      omega
    rw [Below.heap_setCell _ _ _ _ hk', Below.heap_setCell _ _ _ _ hk']
  · have hbw := Below.next (Below.next HB.out HB3.out) (below_alloc w3 (.cells #[.slice n0 T.nodes.length n9, .slice r0 T.roots.length r9] 29))
    exact (hbw.setCell (p := ⟨W.heap.size + 1, 0, none⟩) (Nat.le_succ _) _).setCell (p := ⟨W.heap.size + 1, 1, none⟩) (Nat.le_succ _) _
set_option maxHeartbeats 2000000 in
theorem tread_bad {W : World} {xv qv : Value} {xs : List Ex} {qs : List (ByteArray × Ex)} (hX : Rxs W xv xs) (hQ : Rqs W qv qs) (hzx : szXs xs) (hzq : ∀ q ∈ qs, q.1.size ≤ 281474976710656 ∧ szX q.2) (hp : prtXs xs + prtQ qs ≤ 60000) (hc : (tieC xs qs).1 ≠ 0) :
    Calls Try.prog 14 #[.agg #[xv, qv]] W fun e w' => (∃ ev, e = .returned (.tuple #[.agg #[.slice none 0 0, .slice none 0 0], ev]) ∧ Ef w' ev (tieC xs qs).1 (tieC xs qs).2.1 (tieC xs qs).2.2) ∧ Below W.heap.size W w' := by
  have hb0 : Below W.heap.size W ((W.alloc (.cells #[xv, qv] 46)).alloc (.cells #[.slice none 0 0, .slice none 0 0] 29)) := (below_alloc W _).alloc (by simp) _
  have ht := tie_bad (hX.next hb0) (hQ.next hb0) hzx hzq hp hc
  have bx0 : ((W.alloc (.cells #[xv, qv] 46)).alloc (.cells #[.slice none 0 0, .slice none 0 0] 29)).heap[W.heap.size]? = some (.cells #[xv, qv] 46) := by
    rw [Below.heap_alloc _ _ _ (by simp)]
    exact heap_alloc_new W _
  have bx1 : ((W.alloc (.cells #[xv, qv] 46)).alloc (.cells #[.slice none 0 0, .slice none 0 0] 29)).heap[W.heap.size + 1]? = some (.cells #[.slice none 0 0, .slice none 0 0] 29) := by
    simpa using heap_alloc_new (W.alloc (.cells #[xv, qv] 46)) (.cells #[.slice none 0 0, .slice none 0 0] 29)
  obtain ⟨⟨c0, c1⟩, _⟩ := blk2 bx0
  obtain ⟨xo, xc, rfl, _⟩ := hX
  obtain ⟨qo, qc, rfl, _⟩ := hQ
  have HB := hid hb0
  have HX := hid bx1
  clear hzx hzq hc hb0 bx0 bx1
  generalize (tieC xs qs).1 = C1 at *
  generalize (tieC xs qs).2.1 = C2 at *
  generalize (tieC xs qs).2.2 = C3 at *
  go_enter Try.func14, Try.ntmps14
  go_wp2_with (go_at_call 9; go_must (refine ht.mono ?_; clear ht; rintro r w3 ⟨⟨ev, rfl, hE⟩, hb3⟩; have HE := hid hE; obtain ⟨fb, rfl, _⟩ := hE; have HB3 := hid hb3; have hx3 := ((Below.next hb3 (below_alloc w3 (.cells #[.slice none 0 0, .slice none 0 0] 29))).block _ (lt_of_block HX.out)).trans HX.out; have HX3 := hid hx3; obtain ⟨⟨g0, g1⟩, g2, g3⟩ := blk2 hx3; have gz := lt_of_block hx3; obtain ⟨⟨j0, j1⟩, _⟩ := blk2 (heap_alloc_new w3 (.cells #[.slice none 0 0, .slice none 0 0] 29)); clear hb3 hx3))
  refine bodyPost_ret (ret_gE Try.results14 (by rfl) (blk2_set HX3.out)) rfl ⟨⟨_, rfl, ?_⟩, ?_⟩
  · obtain ⟨b, e, hb⟩ := HE.out.next (below_alloc w3 (.cells #[.slice none 0 0, .slice none 0 0] 29))
    refine ⟨b, e, ?_⟩
    have hne : b ≠ W.heap.size + 1 := fun e2 => by
      rw [e2, HX3.out] at hb
      simp at hb
    rw [Below.heap_setCell _ _ _ _ hne, Below.heap_setCell _ _ _ _ hne]
    exact hb
  · have hbw := Below.next (Below.next HB.out HB3.out) (below_alloc w3 (.cells #[.slice none 0 0, .slice none 0 0] 29))
    exact (hbw.setCell (p := ⟨W.heap.size + 1, 0, none⟩) (Nat.le_succ _) _).setCell (p := ⟨W.heap.size + 1, 1, none⟩) (Nat.le_succ _) _
end Go.Proofs.Ytjkcffcedbcjmaa
