/- TieAll, walked. -/
import Derived.Test.Ytjkcffcedbcjmaata51Z
import Derived.Test.Ytjkcffcedbcjmaata50Z
import Derived.Test.Ytjkcffcedbcjmaata46Z
namespace Go.Proofs.Ytjkcffcedbcjmaa
set_option maxRecDepth 100000
open Go.RowKit Go.Maps
theorem both_any {W : World} {xv qv : Value} {xs : List Ex} {qs : List (ByteArray × Ex)} (hX : Rxs W xv xs) (hQ : Rqs W qv qs) (hzx : szXs xs) (hzq : ∀ q ∈ qs, q.1.size ≤ 281474976710656 ∧ szX q.2) (hlx : xs.length ≤ 100) (hlq : qs.length ≤ 100) (hp : prtXs xs + prtQ qs ≤ 350) : ∃ T ms c a s, Both W xv qv T ms c a s := by
  have hnl := namA_len xs qs
  have hol := othA_le xs qs
  by_cases hc : (chkT xs qs).1 = 0
  · have hT := chkT_good hc
    have hcT : (tieC xs qs).1 = 0 := by
      unfold tieC
      rw [if_neg (fun h => h hc), if_neg (by omega)]
    have hcT2 : tieC xs qs = (0, 0, ⟨#[]⟩) := by
      unfold tieC
      rw [if_neg (fun h => h hc), if_neg (by omega)]
    have hraw : (rawN xs qs).length ≤ 350 := by
      have h1 : (rawN xs qs).length = prtXs (ysF xs qs) := putXs_prt (namA xs qs) 0 (ysF xs qs)
      have h2 := prt_ys xs qs
      omega
    obtain ⟨ee, hd⟩ := al_dec (tieG xs qs)
    obtain ⟨e2, hd2⟩ := al_dec (smlG xs qs)
    obtain ⟨l1, l2⟩ := sys_least hT (by omega) (by omega) (by omega) hd hd2
    have hG := tie_goodG hT (by omega)
    have hTg : Good (trimF (quoF ee (tieG xs qs))) := trim_good0 (quo_good hG (al_eqv hG hd))
    have hml := nmdF_len ee (tieG xs qs) (tieE xs qs) (namA xs qs) (namA xs qs).length
    refine ⟨trimF (quoF ee (tieG xs qs)), nmdF ee (tieG xs qs) (tieE xs qs) (namA xs qs) (namA xs qs).length, 0, 0, ⟨#[]⟩, ⟨fun w hb => ?_, fun w hb => ?_, fun w hb => ?_, good_fits hTg, by omega⟩⟩
    · refine (tie_ok (hX.next hb) (hQ.next hb) hzx hzq (by omega) hcT ee hd).mono ?_
      rintro r w' ⟨⟨nv, rv, avs, mv, rfl, hO, hM⟩, hb'⟩
      obtain ⟨n1, n2, rfl⟩ := hO.nsl
      obtain ⟨r1, r2, rfl, _⟩ := hO.r
      obtain ⟨m1, m2, rfl⟩ := own_sl hM
      exact ⟨⟨n1, n2, r1, r2, m1, m2, _, rfl, hO.gr, nmd_rnm hM, Or.inl ⟨rfl, rfl⟩⟩, hb'⟩
    · refine (rtie_ok (hX.next hb) (hQ.next hb) hzx hzq hlx hlq hp hc e2 hd2).mono ?_
      rintro r w' ⟨⟨nv, rv, mo, mc, rfl, hGr, hO⟩, hb'⟩
      rw [l1] at hGr
      rw [l2] at hO
      rw [l2]
      obtain ⟨n1, n2, rfl, h1⟩ := hGr.1
      obtain ⟨r1, r2, rfl, h2⟩ := hGr.2
      exact ⟨⟨n1, n2, r1, r2, mo, mc, rfl, hGr, nmd_rnm hO⟩, hb'⟩
    · refine (tread_ok (hX.next hb) (hQ.next hb) hzx hzq (by omega) hcT ee hd).mono ?_
      rintro r w' ⟨⟨nv, rv, rfl, hGr⟩, hb'⟩
      obtain ⟨n1, n2, rfl, h1⟩ := hGr.1
      obtain ⟨r1, r2, rfl, h2⟩ := hGr.2
      exact ⟨⟨n1, n2, r1, r2, _, rfl, hGr, Or.inl ⟨rfl, rfl⟩⟩, hb'⟩
  · have hcT : tieC xs qs = chkT xs qs := by
      unfold tieC
      rw [if_pos hc]
    have hcT1 : (tieC xs qs).1 ≠ 0 := by rw [hcT]; exact hc
    refine ⟨gf0, [], (chkT xs qs).1, (chkT xs qs).2.1, (chkT xs qs).2.2, ⟨fun w hb => ?_, fun w hb => ?_, fun w hb => ?_, ⟨by simp, by simp, fun n hn => (by cases hn)⟩, by simp⟩⟩
    · refine (tie_bad (hX.next hb) (hQ.next hb) hzx hzq (by omega) hcT1).mono ?_
      rintro r w' ⟨⟨ev, rfl, hE⟩, hb'⟩
      rw [hcT] at hE
      exact ⟨⟨none, 0, none, 0, none, 0, ev, rfl, gr_nil0 _, rnm_nil _, Or.inr ⟨hc, hE⟩⟩, hb'⟩
    · refine (rtie_bad (hX.next hb) (hQ.next hb) hzx hzq hlx hlq hp hc).mono ?_
      rintro r w' ⟨rfl, hb'⟩
      exact ⟨⟨none, 0, none, 0, none, 0, rfl, gr_nil0 _, rnm_nil _⟩, hb'⟩
    · refine (tread_bad (hX.next hb) (hQ.next hb) hzx hzq (by omega) hcT1).mono ?_
      rintro r w' ⟨⟨ev, rfl, hE⟩, hb'⟩
      rw [hcT] at hE
      exact ⟨⟨none, 0, none, 0, ev, rfl, gr_nil0 _, Or.inr ⟨hc, hE⟩⟩, hb'⟩
theorem tieAll_walk (v0 : Value) (l0 : List Ex) {W : World} (hX0 : Rxs W v0 l0) (hZ0 : szXs l0) (z0 : l0.length ≤ 281474976710656) (v1 : Value) (l1 : List (ByteArray × Ex)) (hX1 : Rqs W v1 l1) (hZ1 : ∀ q ∈ l1, q.1.size ≤ 281474976710656 ∧ szX q.2) (z1 : l1.length ≤ 281474976710656) :
    Calls Try.prog 3 #[v0, v1] W fun e w' => e = .returned (.bool true) ∧ Below W.heap.size W w' :=
  tall_walk v0 l0 hX0 hZ0 z0 v1 l1 hX1 hZ1 z1 (fun h1 h2 h3 => both_any hX0 hX1 hZ0 hZ1 h1 h2 h3)
end Go.Proofs.Ytjkcffcedbcjmaa
