/- What the walk of TieNames wants. -/
import Derived.Deep.RegionHeldLaw
import Derived.Test.Ytncileojdighnaana53Z
import Derived.Test.Ytncileojdighnaana51Z
import Derived.Test.Ytncileojdighnaana52Z
import Derived.Test.Ytncileojdighnaana37Z
namespace Go.Proofs.Ytncileojdighnaa
set_option maxRecDepth 100000
open Go.RowKit Go.Maps
theorem isW_sz {s : ByteArray} {k : Int} (h : isW s k = true) : s.size ≤ 32 := by
  unfold isW at h
  exact (of_decide_eq_true h).2.2
mutual
theorem turn_sz : ∀ (nest : Nat) (x : Ex), goodX nest x = true → szX (turnX qN x)
  | nest, .mk k n m xs, h => by
    rw [turnX]
    have hq : n.size ≤ 32 → (if (decide (k = 1) && !isU n) = true then qN n else n).size ≤ 281474976710656 := fun hn => by
      split
      · unfold qN
        rw [ByteArray.size_append]
        show 2 + n.size ≤ _
        omega
      · omega
    rcases goodX_parts h with ⟨_, h1, _, e⟩ | ⟨_, h1, _, e⟩ | ⟨_, h1, _, _, e⟩ | ⟨_, h1, _, _, _, h2⟩
    · subst e
      exact ⟨hq (isW_sz h1), by rw [turnXs]; trivial⟩
    · subst e
      exact ⟨hq (goodS_size h1).2, by rw [turnXs]; trivial⟩
    · subst e
      have : n.size = 0 := by
        rw [ByteArray.toList_eq] at h1
        have := congrArg List.length h1
        simpa using this
      exact ⟨hq (by omega), by rw [turnXs]; trivial⟩
    · exact ⟨hq (goodS_size h1).2, turns_sz (nest + 1) xs h2⟩
theorem turns_sz : ∀ (nest : Nat) (xs : List Ex), goodXs nest xs = true → szXs (turnXs qN xs)
  | _, [], _ => by rw [turnXs]; trivial
  | nest, x :: r, h => by
    rw [goodXs, Bool.and_eq_true] at h
    rw [turnXs]
    exact ⟨turn_sz nest x h.1, turns_sz nest r h.2⟩
end
mutual
theorem prt_turn (tN : ByteArray → ByteArray) : ∀ x : Ex, prtX (turnX tN x) = prtX x
  | .mk k n m xs => by rw [turnX, prtX, prtX, prts_turn tN xs]
theorem prts_turn (tN : ByteArray → ByteArray) : ∀ xs : List Ex, prtXs (turnXs tN xs) = prtXs xs
  | [] => by rw [turnXs]
  | x :: r => by rw [turnXs, prtXs, prtXs, prt_turn tN x, prts_turn tN r]
end
theorem prtQ_cat : ∀ a b : List (ByteArray × Ex), prtQ (a ++ b) = prtQ a + prtQ b
  | [], b => by simp [prtQ]
  | q :: r, b => by rw [List.cons_append, prtQ, prtQ, prtQ_cat r b]; omega
theorem prtQ_rev (tN : ByteArray → ByteArray) : ∀ qs : List (ByteArray × Ex), prtQ (qs.map (turnQ tN)).reverse = prtQ qs
  | [] => rfl
  | q :: r => by
    rw [List.map_cons, List.reverse_cons, prtQ_cat, prtQ_rev tN r, prtQ, prtQ, prtQ, turnQ, prt_turn]
    omega
def revQ (qs : List (ByteArray × Ex)) (t : Nat) : List (ByteArray × Ex) := ((qs.drop (qs.length - t)).map (turnQ qN)).reverse
theorem revQ_len {qs : List (ByteArray × Ex)} {t : Nat} (h : t ≤ qs.length) : (revQ qs t).length = t := by
  unfold revQ
  simp
  omega
theorem revQ_zero (qs : List (ByteArray × Ex)) : revQ qs 0 = [] := by simp [revQ]
theorem revQ_all (qs : List (ByteArray × Ex)) : revQ qs qs.length = (qs.map (turnQ qN)).reverse := by simp [revQ]
theorem revQ_next {qs : List (ByteArray × Ex)} {t : Nat} (h : t < qs.length) : revQ qs (t + 1) = revQ qs t ++ [(qN (qs.getD (qs.length - 1 - t) q0).1, turnX qN (qs.getD (qs.length - 1 - t) q0).2)] := by
  unfold revQ
  rw [show qs.length - (t + 1) = qs.length - 1 - t by omega, drop_q (by omega), List.map_cons, List.reverse_cons, show qs.length - 1 - t + 1 = qs.length - t by omega]
  rfl
theorem rq_empty (w : World) (B : Nat) (hB : B ≤ w.heap.size) : Rwo eltQ B (w.alloc (.cells #[] 51)) (.slice (some ⟨w.heap.size, 0, none⟩) 0 0) [] :=
  ⟨fun _ => [.nilIface, .nilIface, .nilIface, .nilIface, .nilIface], fun _ => rfl, fun _ _ h => by simp at h, ⟨rfl, Or.inr ⟨w.heap.size, 0, #[], rfl, hB, heap_alloc_new w _, Nat.le_refl _, Nat.zero_le _, rfl, rfl⟩⟩⟩
theorem nam_more {xs : List Ex} {qs : List (ByteArray × Ex)} (hc : (tieC xs qs).1 = 0) {e : Nat → Nat → Bool} (hd : ∀ x y : Nat, (e x y = true ↔ Al (tieG xs qs) (x : Int) (y : Int))) (hc' : (tieC (turnXs qN xs) (qs.map (turnQ qN)).reverse).1 = 0) {e' : Nat → Nat → Bool} (hd' : ∀ x y : Nat, (e' x y = true ↔ Al (tieG (turnXs qN xs) (qs.map (turnQ qN)).reverse) (x : Int) (y : Int))) :
    trimF (quoF e' (tieG (turnXs qN xs) (qs.map (turnQ qN)).reverse)) = trimF (quoF e (tieG xs qs)) ∧ (nmdF e' (tieG (turnXs qN xs) (qs.map (turnQ qN)).reverse) (tieE (turnXs qN xs) (qs.map (turnQ qN)).reverse) (namA (turnXs qN xs) (qs.map (turnQ qN)).reverse) (namA (turnXs qN xs) (qs.map (turnQ qN)).reverse).length).length = (nmdF e (tieG xs qs) (tieE xs qs) (namA xs qs) (namA xs qs).length).length := by
  obtain ⟨hg, hb⟩ := tieC_good hc
  obtain ⟨hg', hb'⟩ := tieC_good hc'
  exact names_same qN_inj qN_U hg hb hg' hb' hd hd'
theorem nam_one {xs : List Ex} {qs : List (ByteArray × Ex)} (hc : (tieC xs qs).1 = 0) {e : Nat → Nat → Bool} (hd : ∀ x y : Nat, (e x y = true ↔ Al (tieG xs qs) (x : Int) (y : Int))) (hc' : (tieC xs (qs ++ [selfQ qaS ⟨#[102]⟩])).1 = 0) {e' : Nat → Nat → Bool} (hd' : ∀ x y : Nat, (e' x y = true ↔ Al (tieG xs (qs ++ [selfQ qaS ⟨#[102]⟩])) (x : Int) (y : Int))) (hno : ∀ q ∈ qs, q.1 ≠ qaS) :
    (eqG (trimF (quoF e (tieG xs qs))) (trimF (quoF e' (tieG xs (qs ++ [selfQ qaS ⟨#[102]⟩])))) || occX xs qs) = true := by
  obtain ⟨hg, hb⟩ := tieC_good hc
  obtain ⟨hg', hb'⟩ := tieC_good hc'
  cases ho : occX xs qs with
  | true => rw [Bool.or_true]
  | false =>
    obtain ⟨h1, h2⟩ := occX_no.1 ho
    have hs : inN (namA xs qs) qaS = false := not_oc (fun x hx => by rw [qaS_list]; exact h1 x hx) (fun q hq => ⟨hno q hq, by rw [qaS_list]; exact h2 q hq⟩)
    rw [more_same hs (by unfold isU; rw [qaS_list]; rfl) hg hb hg' hb' hd hd', eqG_yes]
    rfl
theorem self_own {wE wF wG : World} {S c : Nat} {ao : Option Addr} {l1 : List (ByteArray × Ex)} {F : Nat → List Value} {o1 : Obj} (o2 : Obj) (hown : wE.ownsRow S 51 5 (.slice ao l1.length c) l1.length (flatV F l1.length)) (hbF : Below wE.heap.size wE wF) (hbG : Below (wF.alloc o1).heap.size (wF.alloc o1) wG) : (wG.alloc o2).ownsRow S 51 5 (.slice ao l1.length c) l1.length (flatV F l1.length) := by
  have hb := Below.next (Below.next (Below.next hbF (below_alloc wF o1)) hbG) (below_alloc wG o2)
  exact row_keep hown (fun q hq => hb.block q (hown.lt q hq).2)
theorem self_all {W wD wE wF wG wH : World} {c c8 g8 : Nat} {ao : Option Addr} {l1 : List (ByteArray × Ex)} {F : Nat → List Value} (hWD : Below W.heap.size W wD) (hF : ∀ j, (F j).length = 5) (hFX : ∀ j, j < l1.length → XqC W (l1.getD j q0) (F j)) (hown : wE.ownsRow wD.heap.size 51 5 (.slice ao l1.length c) l1.length (flatV F l1.length)) (hgr : (wD.alloc (.cells #[] 51)).grownBy wE (some wD.heap.size)) (hbF : Below wE.heap.size wE wF) (hbG : Below (wF.alloc (.cells #[.int .i64 1, .string qaS, .int .i64 0, .slice none 0 0] 48)).heap.size (wF.alloc (.cells #[.int .i64 1, .string qaS, .int .i64 0, .slice none 0 0] 48)) wG)
    (hownH : wH.ownsRow wD.heap.size 51 5 (.slice (some ⟨g8, 0, none⟩) (l1.length + 1) c8) (l1.length + 1) (flatV F l1.length ++ [.string qaS, .int .i64 4, .string ⟨#[102]⟩, .int .i64 0, .slice (some ⟨wF.heap.size, 0, none⟩) 1 1])) (hgH : (wG.alloc (.cells #[.string qaS, .int .i64 4, .string ⟨#[102]⟩, .int .i64 0, .slice (some ⟨wF.heap.size, 0, none⟩) 1 1] 51)).grownBy wH (Value.slice ao l1.length c).ownBlock) :
    Rqs wH (.slice (some ⟨g8, 0, none⟩) (l1.length + 1) c8) (l1 ++ [selfQ qaS ⟨#[102]⟩]) ∧ Below wD.heap.size wD wH := by
  have hDE : Below wD.heap.size wD wE := (below_alloc wD _).grown hgr (by simp) (fun q hq => by
    have e : wD.heap.size = q := by simpa using hq
    omega)
  have hEG := Below.next (Below.next hbF (below_alloc wF (.cells #[.int .i64 1, .string qaS, .int .i64 0, .slice none 0 0] 48))) hbG
  have hDG := Below.next hDE hEG
  have hsE := hbF.size
  have hsG := hbG.size
  have hsD := hDE.size
  have hDH : Below wD.heap.size wD wH := (hDG.alloc hDG.size _).grown hgH (by have := hDG.size; simp; omega) (fun q hq => (hown.lt q hq).1)
  have hWH := Below.next hWD hDH
  refine ⟨?_, hDH⟩
  refine more_rqs (S := wD.heap.size) hF rfl rfl hownH (fun j hj => (hFX j hj).next hWH) ⟨4, ⟨#[102]⟩, 0, some ⟨wF.heap.size, 0, none⟩, 1, 1, rfl, Xv.of (rx_one (T := 48) ?_)⟩
  rw [hgH.block _ (by simp at hsG ⊢; omega) (fun e => by have := (hown.lt _ e.symm).2; omega), Below.heap_alloc _ _ _ (by simp at hsG; omega), hbG.block _ (by simp)]
  exact heap_alloc_new wF _
theorem self_size {wD wE wF wG : World} {o0 o1 : Obj} (o2 : Obj) {row : Option Nat} (hgr : (wD.alloc o0).grownBy wE row) (hbF : Below wE.heap.size wE wF) (hbG : Below (wF.alloc o1).heap.size (wF.alloc o1) wG) : wD.heap.size ≤ (wG.alloc o2).heap.size := by
  have h1 := hgr.size
  have h2 := hbF.size
  have h3 := hbG.size
  simp at h1 h3 ⊢
  omega
theorem self_small {l0 : List Ex} {l1 : List (ByteArray × Ex)} (hp : prtXs l0 + prtQ l1 ≤ 350) : prtXs l0 + prtQ (l1 ++ [selfQ qaS ⟨#[102]⟩]) ≤ 30000 := by
  rw [prtQ_cat]
  have : prtQ [selfQ qaS ⟨#[102]⟩] = 3 := by simp [prtQ, prtX, prtXs]
  omega
theorem self_sz {l1 : List (ByteArray × Ex)} (h : ∀ q ∈ l1, q.1.size ≤ 281474976710656 ∧ szX q.2) : ∀ q ∈ l1 ++ [selfQ qaS ⟨#[102]⟩], q.1.size ≤ 281474976710656 ∧ szX q.2 := fun q hq => by
  rcases List.mem_append.1 hq with h1 | h1
  · exact h q h1
  · simp at h1
    subst h1
    exact ⟨by decide, ⟨by decide, ⟨by decide, trivial⟩, trivial⟩⟩
theorem og_gr2 {w : World} {B q : Nat} {nv rv : Value} {avs : List Value} {g : Gf} {u0 u1 : Value} (h : Og w B nv rv avs g) (hq : q < B) : Gr ((w.setCell ⟨q, 0, none⟩ u0).setCell ⟨q, 1, none⟩ u1) nv rv g := (og_far (og_far h hq) hq).gr
end Go.Proofs.Ytncileojdighnaa

namespace Go.Proofs.Ytncileojdighnaa
set_option maxRecDepth 100000
open Go.RowKit Go.Maps
set_option maxHeartbeats 8000000 in
theorem tieNames_walk (v0 : Value) (l0 : List Ex) {W : World} (hX0 : Rxs W v0 l0) (hZ0 : szXs l0) (z0 : l0.length ≤ 281474976710656) (v1 : Value) (l1 : List (ByteArray × Ex)) (hX1 : Rqs W v1 l1) (hZ1 : ∀ q ∈ l1, q.1.size ≤ 281474976710656 ∧ szX q.2) (z1 : l1.length ≤ 281474976710656) :
    Calls Try.prog 4 #[v0, v1] W fun e w' => e = .returned (.bool true) ∧ Below W.heap.size W w' := by
  obtain ⟨i4, hi4, hw0, hw1, hw2⟩ := info_parts infoX
  obtain ⟨i5, hi5, hy0, hy1, hy2⟩ := info_parts infoEq
  have HX := hid hX0
  have HQ := hid hX1
  have HZX := hid hZ0
  have HZQ := hid hZ1
  obtain ⟨xo, xc, rfl, hXa0⟩ := hX0
  obtain ⟨qo, qc, rfl, hQa0⟩ := hX1
  have hXa := hid hXa0
  have hQa := hid hQa0
  have hla := hid (fun (w : World) (hb : Below W.heap.size W w) => tlarge_any (HX.out.next hb) (HQ.out.next hb) hZ0 hZ1 z0 z1)
  clear hZ0 hZ1 hXa0 hQa0
  cases hL : largeT l0 l1 with
  | true =>
    rw [hL] at hla
    clear hL
    go_enter Try.func4, Try.ntmps4
    go_wp2_with (first
      | (go_at_call 8; go_must (refine (hla.out _ hb1).mono ?_; clear hla; rintro e2 w2 ⟨rfl, hb2⟩; have hB := Below.next hb1 hb2; clear hb1 hb2))
      | (go_at_call 7; go_must (refine (tlives_any _).mono ?_; rintro e1 w1 ⟨rfl, hb1⟩)))
    go_ret
    exact ⟨rfl, Below.next hB hb1⟩
  | false =>
    obtain ⟨s1, s2, s3⟩ := large_small hL
    rw [hL] at hla
    clear hL
    have hp : prtXs l0 + prtQ l1 ≤ 30000 := by omega
    by_cases hc : (tieC l0 l1).1 = 0
    · obtain ⟨ee, hd⟩ := al_dec (tieG l0 l1)
      obtain ⟨hgT, hgB⟩ := tieC_good hc
      have hGG := tie_goodG hgT hgB
      have ht := hid (fun (w : World) (hb : Below W.heap.size W w) => tie_ok (HX.out.next hb) (HQ.out.next hb) HZX.out HZQ.out hp hc ee hd)
      have hTg : Good (trimF (quoF ee (tieG l0 l1))) := trim_good0 (quo_good hGG (al_eqv hGG hd))
      have hn2 := hid (fun hc' (e' : Nat → Nat → Bool) hd' => nam_more hc hd hc' (e' := e') hd')
      have hn3 := hid (fun hc' (e' : Nat → Nat → Bool) hd' hno => nam_one hc hd hc' (e' := e') hd' hno)
      have hzx2 := hid (turns_sz 0 l0 (goodXs_all0 hgT.ex))
      have hzq2 : Hid (∀ q ∈ (l1.map (turnQ qN)).reverse, q.1.size ≤ 281474976710656 ∧ szX q.2) := fun q hq => by
        obtain ⟨y, hy, rfl⟩ := List.mem_map.1 (List.mem_reverse.1 hq)
        refine ⟨?_, turn_sz 0 y.2 (hgT.q.ex y hy)⟩
        have := isW_sz (hgT.q.nm y hy).1
        show (qN y.1).size ≤ _
        unfold qN
        rw [ByteArray.size_append]
        show 2 + y.1.size ≤ _
        omega
      have hqn : Hid (∀ q ∈ l1, q.1.size ≤ 32) := fun q hq => isW_sz (hgT.q.nm q hq).1
      have hml := nmdF_len ee (tieG l0 l1) (tieE l0 l1) (namA l0 l1) (namA l0 l1).length
      have hnl := namA_len l0 l1
      have hms : (nmdF ee (tieG l0 l1) (tieE l0 l1) (namA l0 l1) (namA l0 l1).length).length ≤ 350 := by omega
      clear hml hnl hgT hgB hGG hd
      generalize nmdF ee (tieG l0 l1) (tieE l0 l1) (namA l0 l1) (namA l0 l1).length = ms at *
      generalize trimF (quoF ee (tieG l0 l1)) = T at *
      have hsm := hid (fun (w : World) (nv rv mv sv : Value) (T2 : Gf) (h1 : Gr w nv rv T) (h2 : Gr w mv sv T2) => same_any h1 h2 (good_fits hTg))
      clear hTg hc
      have hTL := hid (turnXs_take_len qN l0)
      have hTS := hid (turnXs_snoc qN l0)
      have hpcx : Hid (∀ x ∈ l0, prtX x ≤ 100000) := fun x hx => by have := prt_mem8 l0 x hx; omega
      have hpcq : Hid (∀ q ∈ l1, prtX q.2 ≤ 100000) := fun q hq => by have := prt_q_mem l1 q hq; omega
      go_enter Try.func4, Try.ntmps4
      go_wp2_with (first
        | (go_at_call 8; go_must (refine (hla.out _ hb1).mono ?_; clear hla; rintro e2 w2 ⟨rfl, hb2⟩; have hB := Below.next hb1 hb2; clear hb1 hb2))
        | (go_at_call 7; go_must (refine (tlives_any _).mono ?_; rintro e1 w1 ⟨rfl, hb1⟩))
        | (go_at_call 9; go_must (refine (ht.out w2 hB).mono ?_; clear ht; rintro r w3 ⟨⟨nv, rv, avs, mv, rfl, hO, hM⟩, hb3⟩; have hG3 := hid hO.gr; obtain ⟨n0, n9, rfl⟩ := hO.nsl; obtain ⟨r0, r9, rfl, _⟩ := hO.r; obtain ⟨mo, mc, rfl⟩ := own_sl hM; clear hM hO; generalize T.nodes.length = TN at *; generalize T.roots.length = TR at *; have hbW := hid (Below.next (Below.next hB hb3) (below_alloc w3 (.cells #[.slice n0 TN n9, .slice r0 TR r9] 29))))))
      have hx5 := hid (heap_alloc_new w3 (.cells #[.slice n0 TN n9, .slice r0 TR r9] 29))
      have hS3 : Hid ((w3.alloc (.cells #[.slice n0 TN n9, .slice r0 TR r9] 29)).heap.size = w3.heap.size + 1) := show _ = _ by simp
      have hbA := hid (below_alloc w3 (.cells #[.slice n0 TN n9, .slice r0 TR r9] 29))
      obtain ⟨Wb, hWb⟩ : ∃ Wb, Wb = w3.alloc (.cells #[.slice n0 TN n9, .slice r0 TR r9] 29) := ⟨_, rfl⟩
      have hWs : Hid (w3.heap.size + 1 = Wb.heap.size) := show _ = _ by rw [hWb]; exact hS3.out.symm
      rw [← hWb] at hx5 hbA hbW ⊢
      go_loopw [8, 50] (fun x i wr => ∃ (j : Nat) (ro : Option Addr) (rc : Nat), j ≤ l0.length ∧ i = .int .i64 (j : Int) ∧ x = .slice ro j rc ∧ Hid (Xo Wb.heap.size wr (.slice ro j rc) (turnXs qN (l0.take j))) ∧ Hid (Below Wb.heap.size Wb wr)) (fun _ i _ => l0.length - (intOf i).toNat)
      case atStart =>
        refine ⟨0, _, 0, by omega, rfl, rfl, ?_, below_alloc Wb _⟩
        have e : turnXs qN (l0.take 0) = [] := by rw [List.take_zero, turnXs]
        have h2 := xo_empty Wb Wb.heap.size (Nat.le_refl _)
        show Xo _ _ _ _
        rw [e, hWs.out]
        exact h2
      case round =>
        obtain ⟨j, ro, rc, hj, rfl, rfl, hX, hB⟩ := hrel
        by_cases hlt : j < l0.length
        · obtain ⟨b, o, k', n', m', aa, al, ac, rfl, d0, d1, d2, d3, hx⟩ := hXa.out j hlt
          have hbr := Below.next hbW.out hB.out
          have hz := lt_of_cell d0
          have c0 := ((bcell hbr).1 b _ hz).trans d0
          have c1 := ((bcell hbr).1 b _ hz).trans d1
          have c2 := ((bcell hbr).1 b _ hz).trans d2
          have c3 := ((bcell hbr).1 b _ hz).trans d3
          have hzr : b < wr.heap.size := Nat.lt_of_lt_of_le hz hbr.size
          have hcall := turn_any _ _ _ ((hx.next hbr).next (below_alloc wr (.cells #[.int .i64 k', .string n', .int .i64 m', .slice aa al ac] 48))) (szXs_mem HZX.out _ (xs_at hlt)) (hpcx.out _ (xs_at hlt))
          have hl := hTL.out j hj
          have hts := hTS.out j hlt
          obtain ⟨f, hf, hxc, ho⟩ := hX.out
          rw [hl] at ho
          have hsr := hB.out.size
          have hnx : Hid (∀ (w3 : World) (k2 : Int) (n2 : ByteArray) (m2 : Int) (a2 : Option Addr) (l2 r2 : Nat), Below (wr.alloc (.cells #[.int .i64 k', .string n', .int .i64 m', .slice aa al ac] 48)).heap.size (wr.alloc (.cells #[.int .i64 k', .string n', .int .i64 m', .slice aa al ac] 48)) w3 → Xw ((wr.alloc (.cells #[.int .i64 k', .string n', .int .i64 m', .slice aa al ac] 48)).heap.size ≤ ·) w3 (turnX qN (l0.getD j x0)) (.agg #[.int .i64 k2, .string n2, .int .i64 m2, .slice a2 l2 r2]) →
              ((w3.alloc (.cells #[.int .i64 k2, .string n2, .int .i64 m2, .slice a2 l2 r2] 48)).alloc (.cells #[.int .i64 k2, .string n2, .int .i64 m2, .slice a2 l2 r2] 48)).ownsRow Wb.heap.size 48 4 (.slice ro j rc) j (flatV f j) ∧ Wb.heap.size ≤ w3.heap.size ∧ ∀ w7 g7 c7, w7.ownsRow Wb.heap.size 48 4 (.slice (some ⟨g7, 0, none⟩) (j + 1) c7) (j + 1) (flatV f j ++ [.int .i64 k2, .string n2, .int .i64 m2, .slice a2 l2 r2]) → ((w3.alloc (.cells #[.int .i64 k2, .string n2, .int .i64 m2, .slice a2 l2 r2] 48)).alloc (.cells #[.int .i64 k2, .string n2, .int .i64 m2, .slice a2 l2 r2] 48)).grownBy w7 (Value.slice ro j rc).ownBlock → ((Value.slice ro j rc).ownBlock = some g7 ∨ g7 = w3.heap.size + 1 + 1) →
                Hid (Xo Wb.heap.size w7 (.slice (some ⟨g7, 0, none⟩) (j + 1) c7) (turnXs qN (l0.take (j + 1)))) ∧ Hid (Below Wb.heap.size Wb w7)) := fun w3 k2 n2 m2 a2 l2 r2 hb3 hv => by
            have hb := Below.next (below_alloc wr (.cells #[.int .i64 k', .string n', .int .i64 m', .slice aa al ac] 48)) hb3
            have hb6 := Below.next hb (below_alloc w3 (.cells #[.int .i64 k2, .string n2, .int .i64 m2, .slice a2 l2 r2] 48))
            have hb7 := Below.next hb6 (below_alloc (w3.alloc (.cells #[.int .i64 k2, .string n2, .int .i64 m2, .slice a2 l2 r2] 48)) (.cells #[.int .i64 k2, .string n2, .int .i64 m2, .slice a2 l2 r2] 48))
            have hsz3 := hb.size
            have hsz7 := hb7.size
            refine ⟨row_keep ho (fun q hq => hb7.block q (ho.lt q hq).2), by omega, fun w7 g7 c7 hown hg hat => ⟨?_, ?_⟩⟩
            · have h := xo_app (B := Wb.heap.size) (D := (wr.alloc (.cells #[.int .i64 k', .string n', .int .i64 m', .slice aa al ac] 48)).heap.size) (xs := turnXs qN (l0.take j)) hf (fun i hi => (hxc i hi).keep (fun b hp hl => ⟨hp, hb6.block b hl⟩)) (fun q hq => by have := (ho.lt q hq).2; simp; omega) (by simp; omega) (hv.next (below_alloc w3 _)) (by rw [hl]; exact hown) hg (hat.elim Or.inl (fun e => Or.inr (by simp; omega)))
              rw [hl, ← hts] at h
              exact h
            · exact (Below.next hB.out hb7).grown hg (by omega) (fun q hq => by have := (ho.lt q hq).1; omega)
          clear hX hB hxc ho hf hl hts hx d0 d1 d2 d3 hz hbr hsr
          obtain ⟨⟨t0, t1, t2, t3⟩, _⟩ := xblk (heap_alloc_new wr (.cells #[.int .i64 k', .string n', .int .i64 m', .slice aa al ac] 48))
          go_wp2_with (first
            | (go_at_call 15; go_must (refine hcall.mono ?_; clear hcall; rintro e w4 ⟨v', rfl, hv, hb4⟩; obtain ⟨k2, n2, m2, a2, l2, r2, rfl⟩ := hv.form; obtain ⟨y1, y2, y3⟩ := hnx.out w4 k2 n2 m2 a2 l2 r2 hb4 hv; obtain ⟨⟨s0, s1, s2, s3⟩, _⟩ := xblk (heap_alloc_new w4 (.cells #[.int .i64 k2, .string n2, .int .i64 m2, .slice a2 l2 r2] 48))))
            | (at_builtin; go_must (refine wpList_append_lies _ rfl _ _ 22 rfl Wb.heap.size 48 i4 (.agg #[.int .i64 0, .string ⟨#[]⟩, .int .i64 0, .slice none 0 0]) 4 56 Try.underlying22 hi4 hw0 hw1 hw2 rfl (by decide) (.slice ro j rc) j (flatV f j) rfl y1 ⟨w4.heap.size + 1, 0, none⟩ 1 1 [.int .i64 k2, .string n2, .int .i64 m2, .slice a2 l2 r2] rfl (by rfl) (by have h9 := World.news_of_block (cs := #[.int .i64 k2, .string n2, .int .i64 m2, .slice a2 l2 r2]) (t := 48) (fr := (0, 0)) (heap_alloc_new (w4.alloc (.cells #[.int .i64 k2, .string n2, .int .i64 m2, .slice a2 l2 r2] 48)) _); simpa using h9) (by simp [Value.oneCell']) (by omega) (by unfold maxLen; omega) (by omega) (by simp; omega) (w4.heap.size + 1 + 1) (by simp) ?_; intro g7 c7 w7 hown7 hg7 hat7 hlt7; obtain ⟨r7, b7⟩ := y3 w7 g7 c7 hown7 hg7 hat7)))
          go_roundw
          case rel => exact ⟨j + 1, some ⟨g7, 0, none⟩, c7, by omega, by go_num, rfl, r7, b7⟩
          case measure => simp [intOf]; omega
        · obtain rfl : j = l0.length := by omega
          obtain ⟨wA, hwA⟩ : ∃ wA, wA = wr := ⟨_, rfl⟩
          subst hwA
          have hLX : Hid (Rxs wA (.slice ro l0.length rc) (turnXs qN l0)) := show Rxs _ _ _ by
            have h1 := hX.out.rxw
            rw [List.take_length] at h1
            exact h1.rxs
          have hKA := hid hB.out
          clear hX hB
          go_wp2
          go_loopw [12, 13] (fun x i wr => ∃ (u t : Nat) (so : Option Addr) (sc : Nat), u + t = l1.length ∧ i = .int .i64 ((u : Int) - 1) ∧ x = .slice so t sc ∧ Hid (Rwo eltQ wA.heap.size wr (.slice so t sc) (revQ l1 t)) ∧ Hid (Below wA.heap.size wA wr)) (fun _ i _ => (intOf i + 1).toNat)
          case atStart =>
            refine ⟨l1.length, 0, _, 0, by omega, rfl, rfl, ?_, below_alloc wA _⟩
            show Rwo _ _ _ _ _
            rw [revQ_zero]
            exact rq_empty wA wA.heap.size (Nat.le_refl _)
          case round =>
            obtain ⟨u, t, so, sc, hut, rfl, rfl, hR, hB⟩ := hrel
            cases u with
            | succ u =>
              have hlt : u < l1.length := by omega
              have hu1 : ((u + 1 : Nat) : Int) - 1 = (u : Int) := by omega
              rw [hu1]
              obtain ⟨b, o, k', n', m', aa, al, ac, rfl, d0, d1, d2, d3, d4, hx⟩ := hQa.out u hlt
              have hbr := Below.next (Below.next hbW.out hKA.out) hB.out
              have hz := lt_of_cell d0
              have c0 := ((bcell hbr).1 b _ hz).trans d0
              have c1 := ((bcell hbr).1 b _ hz).trans d1
              have c2 := ((bcell hbr).1 b _ hz).trans d2
              have c3 := ((bcell hbr).1 b _ hz).trans d3
              have c4 := ((bcell hbr).1 b _ hz).trans d4
              have hzr : b < wr.heap.size := Nat.lt_of_lt_of_le hz hbr.size
              have hqm : l1.getD u q0 ∈ l1 := by simp [List.getD, hlt]
              have hcall := turn_any _ _ _ (hx.next hbr) (HZQ.out _ hqm).2 (hpcq.out _ hqm)
              have hl : (revQ l1 t).length = t := revQ_len (by omega)
              have hts : revQ l1 (t + 1) = revQ l1 t ++ [(qN (l1.getD u q0).1, turnX qN (l1.getD u q0).2)] := by
                have h := revQ_next (qs := l1) (t := t) (by omega)
                rw [show l1.length - 1 - t = u by omega] at h
                exact h
              have hqz := hqn.out _ hqm
              obtain ⟨f, hf, hxc, ho⟩ := hR.out
              have hf' : ∀ j, (f j).length = 5 := hf
              rw [hl] at ho
              have ho' : wr.ownsRow wA.heap.size 51 5 (.slice so t sc) t (flatV f t) := ho
              have hsr := hB.out.size
              generalize (l1.getD u q0).1 = qn at *
              have hnx : Hid (∀ (w4 : World) (k2 : Int) (n2 : ByteArray) (m2 : Int) (a2 : Option Addr) (l2 r2 : Nat), Below wr.heap.size wr w4 → Xw (wr.heap.size ≤ ·) w4 (turnX qN (l1.getD u q0).2) (.agg #[.int .i64 k2, .string n2, .int .i64 m2, .slice a2 l2 r2]) →
                  (w4.alloc (.cells #[.int .i64 k2, .string n2, .int .i64 m2, .slice a2 l2 r2] 48)).cell? ⟨b, o + u * 5, none⟩ = some (.string qn) ∧ b < w4.heap.size ∧ ∀ wd : World, wd.heap = (w4.alloc (.cells #[.int .i64 k2, .string n2, .int .i64 m2, .slice a2 l2 r2] 48)).heap → wd.os = (w4.alloc (.cells #[.int .i64 k2, .string n2, .int .i64 m2, .slice a2 l2 r2] 48)).os → wd.tape = (w4.alloc (.cells #[.int .i64 k2, .string n2, .int .i64 m2, .slice a2 l2 r2] 48)).tape → wd.output = (w4.alloc (.cells #[.int .i64 k2, .string n2, .int .i64 m2, .slice a2 l2 r2] 48)).output → (wd.alloc (.cells #[.string (qN qn), .int .i64 k2, .string n2, .int .i64 m2, .slice a2 l2 r2] 51)).ownsRow wA.heap.size 51 5 (.slice so t sc) t (flatV f t) ∧ wA.heap.size ≤ wd.heap.size ∧ ∀ w7 g7 c7, w7.ownsRow wA.heap.size 51 5 (.slice (some ⟨g7, 0, none⟩) (t + 1) c7) (t + 1) (flatV f t ++ [.string (qN qn), .int .i64 k2, .string n2, .int .i64 m2, .slice a2 l2 r2]) → (wd.alloc (.cells #[.string (qN qn), .int .i64 k2, .string n2, .int .i64 m2, .slice a2 l2 r2] 51)).grownBy w7 (Value.slice so t sc).ownBlock → ((Value.slice so t sc).ownBlock = some g7 ∨ g7 = wd.heap.size + 1) →
                    Hid (Rwo eltQ wA.heap.size w7 (.slice (some ⟨g7, 0, none⟩) (t + 1) c7) (revQ l1 (t + 1))) ∧ Hid (Below wA.heap.size wA w7)) := fun w4 k2 n2 m2 a2 l2 r2 hb4 hv => by
                have hb6 := Below.next hb4 (below_alloc w4 (.cells #[.int .i64 k2, .string n2, .int .i64 m2, .slice a2 l2 r2] 48))
                have hs4 := hb4.size
                refine ⟨((bcell hb6).1 b _ hzr).trans c0, by omega, fun wd e1 e2 e3 e4 => ?_⟩
                have hbd : Below wr.heap.size wr wd := ⟨e2.trans hb6.os, e3.trans hb6.tape, e4.trans hb6.output, by rw [e1]; exact hb6.size, fun k hk => by rw [e1]; exact hb6.block k hk⟩
                have hsd := hbd.size
                have hb7 := Below.next hbd (below_alloc wd (.cells #[.string (qN qn), .int .i64 k2, .string n2, .int .i64 m2, .slice a2 l2 r2] 51))
                refine ⟨row_keep ho' (fun q hq => hb7.block q (ho'.lt q hq).2), by omega, fun w7 g7 c7 hown hg hat => ⟨?_, ?_⟩⟩
                · have h := ro_app (E := eltQ) (B := wA.heap.size) (D := wr.heap.size) (w5 := wd) (xs := revQ l1 t) (x := (qN qn, turnX qN (l1.getD u q0).2)) (cs := [.string (qN qn), .int .i64 k2, .string n2, .int .i64 m2, .slice a2 l2 r2]) hf (fun i y hi => eltQ.keep (fun b hp hl => ⟨hp, hbd.block b hl⟩) (hxc i y hi)) (fun q hq => (ho'.lt q hq).2) (by omega) rfl ⟨k2, n2, m2, a2, l2, r2, rfl, hv.keep (fun b hp hl => ⟨hp, by rw [e1]; exact Below.heap_alloc _ _ _ hl⟩)⟩ (by rw [hl]; exact hown) hg hat
                  rw [hl] at h
                  show Rwo _ _ _ _ _
                  rw [hts]
                  exact h
                · have hs7 := hb7.size
                  exact (Below.next hB.out hb7).grown hg (by omega) (fun q hq => by have := (ho'.lt q hq).1; omega)
              clear hR hB hxc ho ho' hf hf' hl hts hx d0 d1 d2 d3 d4 hz hbr hsr hqm hu1
              have hul : (u : Int) < (l1.length : Int) := by omega
              have htb : t ≤ 1000 := by omega
              go_wp2_with (go_at_call 15; go_must (refine hcall.mono ?_; clear hcall; rintro e w4 ⟨v', rfl, hv, hb4⟩; obtain ⟨k2, n2, m2, a2, l2, r2, rfl⟩ := hv.form; obtain ⟨y0, y1, y3⟩ := hnx.out w4 k2 n2 m2 a2 l2 r2 hb4 hv; obtain ⟨⟨s0, s1, s2, s3⟩, _⟩ := xblk (heap_alloc_new w4 (.cells #[.int .i64 k2, .string n2, .int .i64 m2, .slice a2 l2 r2] 48))))
              obtain ⟨wd, hwd⟩ : ∃ wd, wd = w4.alloc (.cells #[.int .i64 k2, .string n2, .int .i64 m2, .slice a2 l2 r2] 48) := ⟨_, rfl⟩
              have hzd : w4.heap.size < wd.heap.size := by rw [hwd]; simp
              have hzb : b < wd.heap.size := by omega
              rw [← hwd] at s0 s1 s2 s3 y0 y3 ⊢
              have hwa := (y3 wd rfl rfl rfl rfl).2.1
              have hqz2 : (qn.size : Int) ≤ 9223372036854775805 := by omega
              have hqz3 : ¬ (9223372036854775807 : Int) < 2 + (qn.size : Int) := by omega
              have hqz4 : ¬ 9223372036854775807 < 2 + qn.size := by omega
              clear hnx hv hb4 hwd
              go_region_law (refine step_append_lies _ (by rfl) _ _ _ (by rfl) wA.heap.size 51 i5 (.agg #[.string ⟨#[]⟩, .int .i64 0, .string ⟨#[]⟩, .int .i64 0, .slice none 0 0]) 5 72 Try.underlying23 hi5 hy0 hy1 hy2 rfl (by omega) _ t (flatV f t) (by rfl) (y3 wd.drew rfl rfl rfl rfl).1 ⟨wd.heap.size, 0, none⟩ 1 1 [.string (qN qn), .int .i64 k2, .string n2, .int .i64 m2, .slice a2 l2 r2] (by rfl) (by rfl) (World.news_of_block (cs := #[.string (qN qn), .int .i64 k2, .string n2, .int .i64 m2, .slice a2 l2 r2]) (t := 51) (fr := (0, 0)) (heap_alloc_new wd.drew _)) (by simp [Value.oneCell']) (by omega) (by unfold maxLen; omega) (by omega) (by simp; omega) (wd.heap.size + 1) (by simp) ?_; intro g7 c7 w7 hown7 hg7 hat7 hlt7; obtain ⟨r7, b7⟩ := (y3 wd.drew rfl rfl rfl rfl).2.2 w7 g7 c7 hown7 hg7 hat7)
              all_goals go_wp2
              all_goals
                go_roundw
                case rel => exact ⟨u, t + 1, some ⟨g7, 0, none⟩, c7, by omega, by go_num, rfl, r7, b7⟩
                case measure => simp [intOf]
            | zero =>
              obtain rfl : t = l1.length := by omega
              obtain ⟨wB, hwB⟩ : ∃ wB, wB = wr := ⟨_, rfl⟩
              subst hwB
              have hKB := hid (Below.next hKA.out hB.out)
              have hLQ : Hid (Rqs wB (.slice so l1.length sc) (l1.map (turnQ qN)).reverse) := show Rqs _ _ _ by
                have h1 := hR.out
                have hl : (revQ l1 l1.length).length = l1.length := revQ_len (Nat.le_refl _)
                have h2 := Rwo.rqs (c := sc) (ao := so) (by rw [hl]; exact h1)
                rw [hl, revQ_all] at h2
                exact h2
              have hpp : prtXs (turnXs qN l0) + prtQ (l1.map (turnQ qN)).reverse ≤ 30000 := by rw [prts_turn, prtQ_rev]; exact hp
              have hLX2 := hid (hLX.out.next hB.out)
              clear hR hB hut hLX
              by_cases hc2 : (tieC (turnXs qN l0) (l1.map (turnQ qN)).reverse).1 = 0
              · obtain ⟨e2, hd2⟩ := al_dec (tieG (turnXs qN l0) (l1.map (turnQ qN)).reverse)
                have hsr := hn2.out hc2 e2 hd2
                have ht2 := tie_ok hLX2.out hLQ.out hzx2.out hzq2.out hpp hc2 e2 hd2
                rw [hsr.1, hsr.2] at ht2
                clear hsr hd2 hc2 hpp
                by_cases hc3 : (tieC l0 (l1 ++ [selfQ qaS ⟨#[102]⟩])).1 = 0
                · obtain ⟨e3, hd3⟩ := al_dec (tieG l0 (l1 ++ [selfQ qaS ⟨#[102]⟩]))
                  have hn3' := hid (hn3.out hc3 e3 hd3)
                  have ht3 := hid (fun (w : World) (v : Value) (hb : Below W.heap.size W w) (hr : Rqs w v (l1 ++ [selfQ qaS ⟨#[102]⟩])) => tie_ok (HX.out.next hb) hr HZX.out (self_sz HZQ.out) (self_small s3) hc3 e3 hd3)
                  clear hd3 hc3 hn3
                  generalize trimF (quoF e3 (tieG l0 (l1 ++ [selfQ qaS ⟨#[102]⟩]))) = T3 at *
                  go_wp2_with (first
                    | (go_at_call 9; refine (ht3.out wH _ (Below.next hWD hDH) hRH).mono ?_; clear ht3; rintro r wI ⟨⟨nv3, rv3, avs3, mv3, rfl, hO3, _⟩, hbI⟩; have hO3' := hid hO3; obtain ⟨i0, i9, rfl⟩ := hO3.nsl; obtain ⟨o0, o9, rfl, _⟩ := hO3.r; have hDI := Below.next hDH hbI; have hbx15 := (hDI.block _ hz15).trans hx15; obtain ⟨⟨b0, b1⟩, b2, b3⟩ := blk2 hbx15; have hzb := lt_of_block hbx15; clear hO3)
                    | (at_builtin; refine wpList_append_lies _ rfl _ _ 23 rfl wD.heap.size 51 i5 (.agg #[.string ⟨#[]⟩, .int .i64 0, .string ⟨#[]⟩, .int .i64 0, .slice none 0 0]) 5 72 Try.underlying23 hi5 hy0 hy1 hy2 rfl (by decide) (.slice ao5 l1.length c5) l1.length (flatV F l1.length) rfl (self_own _ hown5 hbF hbG) ⟨wG.heap.size, 0, none⟩ 1 1 [.string qaS, .int .i64 4, .string ⟨#[102]⟩, .int .i64 0, .slice (some ⟨wF.heap.size, 0, none⟩) 1 1] rfl (by rfl) (World.news_of_block (cs := #[.string qaS, .int .i64 4, .string ⟨#[102]⟩, .int .i64 0, .slice (some ⟨wF.heap.size, 0, none⟩) 1 1]) (t := 51) (fr := (0, 0)) (heap_alloc_new wG _)) (by simp [Value.oneCell']) (by omega) (by unfold maxLen; omega) (by omega) (self_size _ hgr5 hbF hbG) (wG.heap.size + 1) (by simp) ?_; intro g8 c8 wH hownH hgH hatH hltH; obtain ⟨hRH, hDH⟩ := self_all hWD hF5 hFX5 hown5 hgr5 hbF hbG hownH hgH)
                    | (at_builtin; go_must (refine wpList_copyQ rfl _ _ rfl (B := wD.heap.size) (g := wD.heap.size) rfl rfl HQ.out (Below.next hWD (below_alloc wD _)) (heap_alloc_new wD _) (Nat.le_refl _) (by omega) ?_; intro ao5 c5 F wE hF5 hFX5 hown5 hgr5))
                    | (go_at_call 18; go_must (refine (v_any qaS _).mono ?_; rintro e wF ⟨rfl, hbF⟩))
                    | (go_at_call 17; go_must (refine (c_any ⟨#[102]⟩ (some ⟨wF.heap.size, 0, none⟩) 1 1 _).mono ?_; rintro e wG ⟨rfl, hbG⟩))
                    | (go_at_call 16; go_must (refine (hsm.out _ _ _ _ _ T hG3C.out hG2C.out).mono ?_; rw [eqG_yes]; rintro e wD ⟨rfl, hbD⟩; have hWD := Below.next hbWCb hbD; have hx15 := (hbD.block wC.heap.size (by simp)).trans (heap_alloc_new wC _); have hx5D := (hbD.block _ (by simp; omega)).trans ((Below.heap_alloc _ _ _ hz5).trans hx5C); have hz15 := lt_of_block hx15))
                    | (go_at_call 9; go_must (refine ht2.mono ?_; clear ht2; rintro r wC ⟨⟨nv, rv, avs, mv, rfl, hO, hM⟩, hbC⟩; have hG2 := hid hO.gr; obtain ⟨m0, m9, rfl⟩ := hO.nsl; obtain ⟨p0, p9, rfl, _⟩ := hO.r; obtain ⟨nn, nc, rfl⟩ := own_sl hM; clear hM hO; have hbWC := Below.next (Below.next hbW.out hKB.out) hbC; have hbWCb := Below.next hbWC (below_alloc wC (.cells #[.slice m0 T.nodes.length m9, .slice p0 T.roots.length p9] 29)); have hG2C := hid (hG2.out.below (below_alloc wC (.cells #[.slice m0 T.nodes.length m9, .slice p0 T.roots.length p9] 29))); have hbC3 := Below.next (Below.next (Below.next hbA.out hKB.out) hbC) (below_alloc wC (.cells #[.slice m0 T.nodes.length m9, .slice p0 T.roots.length p9] 29)); have hG3C := hid (hG3.out.below hbC3); have hx5C := (hbC.block _ (by have := lt_of_block hx5.out; have := hKB.out.size; omega)).trans ((hKB.out.block _ (lt_of_block hx5.out)).trans hx5.out); obtain ⟨⟨k0, k1⟩, _⟩ := blk2 hx5C; have hz5 := lt_of_block hx5C)))
                  have hWI := Below.next hWD hDI
                  have hs15 : wC.heap.size < wH.heap.size := by have := hDH.size; omega
                  have hGT := hid (og_gr2 (u0 := .slice i0 T3.nodes.length i9) (u1 := .slice o0 T3.roots.length o9) hO3'.out hs15)
                  have hwc : W.heap.size ≤ wC.heap.size := hbWC.size
                  have hW3 : W.heap.size ≤ w3.heap.size ∧ w3.heap.size < wC.heap.size := ⟨by have := hb3.size; have := hB.size; omega, hz5⟩
                  have hx15J := hid (blk2_set (v0 := .slice i0 T3.nodes.length i9) (v1 := .slice o0 T3.roots.length o9) hbx15)
                  have hx5J : Hid (((wI.setCell ⟨wC.heap.size, 0, none⟩ (.slice i0 T3.nodes.length i9)).setCell ⟨wC.heap.size, 1, none⟩ (.slice o0 T3.roots.length o9)).heap[w3.heap.size]? = some (.cells #[.slice n0 TN n9, .slice r0 TR r9] 29)) := show _ = _ by
                    rw [Below.heap_setCell _ _ _ _ (by show w3.heap.size ≠ wC.heap.size; omega), Below.heap_setCell _ _ _ _ (by show w3.heap.size ≠ wC.heap.size; omega), hDI.block _ (lt_of_block hx5D)]
                    exact hx5D
                  have hWJ := hid ((hWI.setCell (p := ⟨wC.heap.size, 0, none⟩) hwc (.slice i0 T3.nodes.length i9)).setCell (p := ⟨wC.heap.size, 1, none⟩) hwc (.slice o0 T3.roots.length o9))
                  have hW3J : Hid (Below w3.heap.size w3 ((wI.setCell ⟨wC.heap.size, 0, none⟩ (.slice i0 T3.nodes.length i9)).setCell ⟨wC.heap.size, 1, none⟩ (.slice o0 T3.roots.length o9))) := ((Below.next (Below.next hbC3 hbD) hDI).setCell (p := ⟨wC.heap.size, 0, none⟩) (by show w3.heap.size ≤ wC.heap.size; omega) _).setCell (p := ⟨wC.heap.size, 1, none⟩) (by show w3.heap.size ≤ wC.heap.size; omega) _
                  generalize ((wI.setCell ⟨wC.heap.size, 0, none⟩ (.slice i0 T3.nodes.length i9)).setCell ⟨wC.heap.size, 1, none⟩ (.slice o0 T3.roots.length o9)) = wJ at *
                  have hGJ := hid (hG3.out.below hW3J.out)
                  clear hWI hWD hDI hDH hbI hbx15 b0 b1 b2 b3 hzb hx5D hz15 hx15 hs15 hO3' hwc hW3
                  go_loopw [128] (fun i wr => ∃ j : Nat, j ≤ l1.length ∧ i = .int .i64 (j : Int) ∧ Hid (∀ i, i < j → (l1.getD i q0).1 ≠ qaS) ∧ Hid (Below wJ.heap.size wJ wr)) (fun i _ => l1.length - (intOf i).toNat)
                  case atStart => exact ⟨0, by omega, rfl, fun i hi => absurd hi (Nat.not_lt_zero _), Below.refl _ _⟩
                  case round =>
                    obtain ⟨j, hj, rfl, hno, hbw⟩ := hrel
                    by_cases hlt : j < l1.length
                    · obtain ⟨b, o, k', n', m', aa, al, ac, rfl, d0, d1, d2, d3, d4, hx⟩ := hQa.out j hlt
                      have hbr := Below.next hWJ.out hbw.out
                      have hz := lt_of_cell d0
                      have c0 := ((bcell hbr).1 b _ hz).trans d0
                      have c1 := ((bcell hbr).1 b _ hz).trans d1
                      have c2 := ((bcell hbr).1 b _ hz).trans d2
                      have c3 := ((bcell hbr).1 b _ hz).trans d3
                      have c4 := ((bcell hbr).1 b _ hz).trans d4
                      have hzr : b < wr.heap.size := Nat.lt_of_lt_of_le hz hbr.size
                      have hbn := hid (hbw.out.alloc hbw.out.size (.cells #[.string (l1.getD j q0).1, .int .i64 k', .string n', .int .i64 m', .slice aa al ac] 51))
                      obtain ⟨t0, t1, t2, t3, t4⟩ := (tblk5 (heap_alloc_new wr (.cells #[.string (l1.getD j q0).1, .int .i64 k', .string n', .int .i64 m', .slice aa al ac] 51))).1
                      have hbWr := hid (Below.next hWJ.out hbn.out)
                      by_cases hq : (l1.getD j q0).1 = qaS
                      · have hqb : ((l1.getD j q0).1.toList == [81, 117, 105, 116, 101, 95, 97, 110, 111, 116, 104, 101, 114]) = true := by rw [hq, qaS_list]; rfl
                        clear hx d0 d1 d2 d3 d4 hz hbr hno hq
                        generalize (l1.getD j q0).1 = qn at *
                        go_wp2
                        go_ret
                        exact ⟨rfl, hbWr.out⟩
                      · have hqb : ((l1.getD j q0).1.toList == [81, 117, 105, 116, 101, 95, 97, 110, 111, 116, 104, 101, 114]) = false := by
                          refine beq_eq_false_iff_ne.2 (fun e => hq ?_)
                          rw [← qaS_list, ByteArray.toList_eq, ByteArray.toList_eq] at e
                          exact ByteArray.ext (Array.toList_inj.1 e)
                        have hno2 : Hid (∀ i, i < j + 1 → (l1.getD i q0).1 ≠ qaS) := fun i hi => by
                          by_cases e : i < j
                          · exact hno.out i e
                          · obtain rfl : i = j := by omega
                            exact hq
                        clear hx d0 d1 d2 d3 d4 hz hbr hno hq
                        generalize (l1.getD j q0).1 = qn at *
                        go_wp2
                        go_roundw
                        case rel => exact ⟨j + 1, by omega, by go_num, hno2, hbn.out⟩
                        case measure => simp [intOf]; omega
                    · obtain rfl : j = l1.length := by omega
                      have hN := hn3'.out (fun q hq => by
                        obtain ⟨i, hi, rfl⟩ := List.getElem_of_mem hq
                        have := hno.out i hi
                        simpa [List.getD, hi] using this)
                      have hbr := Below.next hWJ.out hbw.out
                      have hgx := (hbw.out.block _ (lt_of_block hx5J.out)).trans hx5J.out
                      have hgy := (hbw.out.block _ (lt_of_block hx15J.out)).trans hx15J.out
                      obtain ⟨⟨e0, e1⟩, _⟩ := blk2 hgx
                      obtain ⟨⟨f0, f1⟩, _⟩ := blk2 hgy
                      have hsa := hid (hsm.out wr _ _ _ _ T3 (hGJ.out.below hbw.out) (hGT.out.below hbw.out))
                      have hbR := hid hbr
                      have hoc := hid (fun (w : World) (hb : Below W.heap.size W w) => occurs_any (HX.out.next hb) (HQ.out.next hb) (by omega) (by omega) hpcx.out hpcq.out)
                      clear hno hn3' hgx hgy hbr
                      cases hE : eqG T T3 with
                      | true =>
                        rw [hE] at hsa
                        clear hN hE
                        go_wp2_with (go_at_call 16; go_must (refine hsa.out.mono ?_; clear hsa; rintro e wK ⟨rfl, hbK⟩))
                        go_ret
                        exact ⟨rfl, Below.next hbR.out hbK⟩
                      | false =>
                        have hO : occX l0 l1 = true := by rw [hE] at hN; simpa using hN
                        rw [hE] at hsa
                        rw [hO] at hoc
                        clear hN hE hO
                        go_wp2_with (first
                          | (go_at_call 19; go_must (refine (hoc.out wK (Below.next hbR.out hbK)).mono ?_; rintro e wL ⟨rfl, hbL⟩))
                          | (go_at_call 16; go_must (refine hsa.out.mono ?_; clear hsa; rintro e wK ⟨rfl, hbK⟩)))
                        go_ret
                        exact ⟨rfl, Below.next (Below.next hbR.out hbK) hbL⟩
                · have ht3 := hid (fun (w : World) (v : Value) (hb : Below W.heap.size W w) (hr : Rqs w v (l1 ++ [selfQ qaS ⟨#[102]⟩])) => tie_bad (HX.out.next hb) hr HZX.out (self_sz HZQ.out) (by have := self_small s3; omega) hc3)
                  go_wp2_with (first
                    | (go_at_call 9; refine (ht3.out wH _ (Below.next hWD hDH) hRH).mono ?_; clear ht3; rintro r wI ⟨⟨ev3, rfl, hE3⟩, hbI⟩; obtain ⟨eb3, rfl, _⟩ := hE3; have hDI := Below.next hDH hbI; have hbx15 := (hDI.block _ hz15).trans hx15; obtain ⟨⟨b0, b1⟩, b2, b3⟩ := blk2 hbx15; have hzb := lt_of_block hbx15; have hWI := Below.next hWD hDI)
                    | (at_builtin; refine wpList_append_lies _ rfl _ _ 23 rfl wD.heap.size 51 i5 (.agg #[.string ⟨#[]⟩, .int .i64 0, .string ⟨#[]⟩, .int .i64 0, .slice none 0 0]) 5 72 Try.underlying23 hi5 hy0 hy1 hy2 rfl (by decide) (.slice ao5 l1.length c5) l1.length (flatV F l1.length) rfl (self_own _ hown5 hbF hbG) ⟨wG.heap.size, 0, none⟩ 1 1 [.string qaS, .int .i64 4, .string ⟨#[102]⟩, .int .i64 0, .slice (some ⟨wF.heap.size, 0, none⟩) 1 1] rfl (by rfl) (World.news_of_block (cs := #[.string qaS, .int .i64 4, .string ⟨#[102]⟩, .int .i64 0, .slice (some ⟨wF.heap.size, 0, none⟩) 1 1]) (t := 51) (fr := (0, 0)) (heap_alloc_new wG _)) (by simp [Value.oneCell']) (by omega) (by unfold maxLen; omega) (by omega) (self_size _ hgr5 hbF hbG) (wG.heap.size + 1) (by simp) ?_; intro g8 c8 wH hownH hgH hatH hltH; obtain ⟨hRH, hDH⟩ := self_all hWD hF5 hFX5 hown5 hgr5 hbF hbG hownH hgH)
                    | (at_builtin; go_must (refine wpList_copyQ rfl _ _ rfl (B := wD.heap.size) (g := wD.heap.size) rfl rfl HQ.out (Below.next hWD (below_alloc wD _)) (heap_alloc_new wD _) (Nat.le_refl _) (by omega) ?_; intro ao5 c5 F wE hF5 hFX5 hown5 hgr5))
                    | (go_at_call 18; go_must (refine (v_any qaS _).mono ?_; rintro e wF ⟨rfl, hbF⟩))
                    | (go_at_call 17; go_must (refine (c_any ⟨#[102]⟩ (some ⟨wF.heap.size, 0, none⟩) 1 1 _).mono ?_; rintro e wG ⟨rfl, hbG⟩))
                    | (go_at_call 16; go_must (refine (hsm.out _ _ _ _ _ T hG3C.out hG2C.out).mono ?_; rw [eqG_yes]; rintro e wD ⟨rfl, hbD⟩; have hWD := Below.next hbWCb hbD; have hx15 := (hbD.block wC.heap.size (by simp)).trans (heap_alloc_new wC _); have hx5D := (hbD.block _ (by simp; omega)).trans ((Below.heap_alloc _ _ _ hz5).trans hx5C); have hz15 := lt_of_block hx15))
                    | (go_at_call 9; go_must (refine ht2.mono ?_; clear ht2; rintro r wC ⟨⟨nv, rv, avs, mv, rfl, hO, hM⟩, hbC⟩; have hG2 := hid hO.gr; obtain ⟨m0, m9, rfl⟩ := hO.nsl; obtain ⟨p0, p9, rfl, _⟩ := hO.r; obtain ⟨nn, nc, rfl⟩ := own_sl hM; clear hM hO; have hbWC := Below.next (Below.next hbW.out hKB.out) hbC; have hbWCb := Below.next hbWC (below_alloc wC (.cells #[.slice m0 T.nodes.length m9, .slice p0 T.roots.length p9] 29)); have hG2C := hid (hG2.out.below (below_alloc wC (.cells #[.slice m0 T.nodes.length m9, .slice p0 T.roots.length p9] 29))); have hbC3 := Below.next (Below.next (Below.next hbA.out hKB.out) hbC) (below_alloc wC (.cells #[.slice m0 T.nodes.length m9, .slice p0 T.roots.length p9] 29)); have hG3C := hid (hG3.out.below hbC3); have hx5C := (hbC.block _ (by have := lt_of_block hx5.out; have := hKB.out.size; omega)).trans ((hKB.out.block _ (lt_of_block hx5.out)).trans hx5.out); obtain ⟨⟨k0, k1⟩, _⟩ := blk2 hx5C; have hz5 := lt_of_block hx5C)))
                  go_ret
                  exact ⟨rfl, (hWI.setCell (p := ⟨wC.heap.size, 0, none⟩) (by have := hbWC.size; omega) _).setCell (p := ⟨wC.heap.size, 1, none⟩) (by have := hbWC.size; omega) _⟩
              · have ht2 := tie_bad hLX2.out hLQ.out hzx2.out hzq2.out (by omega) hc2
                clear hc2 hpp
                by_cases hc3 : (tieC l0 (l1 ++ [selfQ qaS ⟨#[102]⟩])).1 = 0
                · obtain ⟨e3, hd3⟩ := al_dec (tieG l0 (l1 ++ [selfQ qaS ⟨#[102]⟩]))
                  have hn3' := hid (hn3.out hc3 e3 hd3)
                  have ht3 := hid (fun (w : World) (v : Value) (hb : Below W.heap.size W w) (hr : Rqs w v (l1 ++ [selfQ qaS ⟨#[102]⟩])) => tie_ok (HX.out.next hb) hr HZX.out (self_sz HZQ.out) (self_small s3) hc3 e3 hd3)
                  clear hd3 hc3 hn3
                  generalize trimF (quoF e3 (tieG l0 (l1 ++ [selfQ qaS ⟨#[102]⟩]))) = T3 at *
                  go_wp2_with (first
                    | (go_at_call 9; refine (ht3.out wH _ (Below.next hWD hDH) hRH).mono ?_; clear ht3; rintro r wI ⟨⟨nv3, rv3, avs3, mv3, rfl, hO3, _⟩, hbI⟩; have hO3' := hid hO3; obtain ⟨i0, i9, rfl⟩ := hO3.nsl; obtain ⟨o0, o9, rfl, _⟩ := hO3.r; have hDI := Below.next hDH hbI; have hbx15 := (hDI.block _ hz15).trans hx15; obtain ⟨⟨b0, b1⟩, b2, b3⟩ := blk2 hbx15; have hzb := lt_of_block hbx15; clear hO3)
                    | (at_builtin; refine wpList_append_lies _ rfl _ _ 23 rfl (wC.alloc (.cells #[.slice none 0 0, .slice none 0 0] 29)).heap.size 51 i5 (.agg #[.string ⟨#[]⟩, .int .i64 0, .string ⟨#[]⟩, .int .i64 0, .slice none 0 0]) 5 72 Try.underlying23 hi5 hy0 hy1 hy2 rfl (by decide) (.slice ao5 l1.length c5) l1.length (flatV F l1.length) rfl (self_own _ hown5 hbF hbG) ⟨wG.heap.size, 0, none⟩ 1 1 [.string qaS, .int .i64 4, .string ⟨#[102]⟩, .int .i64 0, .slice (some ⟨wF.heap.size, 0, none⟩) 1 1] rfl (by rfl) (World.news_of_block (cs := #[.string qaS, .int .i64 4, .string ⟨#[102]⟩, .int .i64 0, .slice (some ⟨wF.heap.size, 0, none⟩) 1 1]) (t := 51) (fr := (0, 0)) (heap_alloc_new wG _)) (by simp [Value.oneCell']) (by omega) (by unfold maxLen; omega) (by omega) (self_size _ hgr5 hbF hbG) (wG.heap.size + 1) (by simp) ?_; intro g8 c8 wH hownH hgH hatH hltH; obtain ⟨hRH, hDH⟩ := self_all hWD hF5 hFX5 hown5 hgr5 hbF hbG hownH hgH)
                    | (at_builtin; go_must (refine wpList_copyQ rfl _ _ rfl (B := wC.heap.size + 1) (g := wC.heap.size + 1) rfl rfl HQ.out (Below.next hWD (below_alloc (wC.alloc (.cells #[.slice none 0 0, .slice none 0 0] 29)) _)) (by have h9 := heap_alloc_new (wC.alloc (.cells #[.slice none 0 0, .slice none 0 0] 29)) (.cells #[] 51); rw [hSz] at h9; exact h9) (Nat.le_refl _) (by omega) ?_; intro ao5 c5 F wE hF5 hFX5 hown5 hgr5; rw [← hSz] at hown5 hgr5))
                    | (go_at_call 18; go_must (refine (v_any qaS _).mono ?_; rintro e wF ⟨rfl, hbF⟩))
                    | (go_at_call 17; go_must (refine (c_any ⟨#[102]⟩ (some ⟨wF.heap.size, 0, none⟩) 1 1 _).mono ?_; rintro e wG ⟨rfl, hbG⟩))
                    | (go_at_call 9; go_must (refine ht2.mono ?_; clear ht2; rintro r wC ⟨⟨ev, rfl, hE⟩, hbC⟩; obtain ⟨eb, rfl, _⟩ := hE; have hbWC := Below.next (Below.next hbW.out hKB.out) hbC; have hx5C := (hbC.block _ (by have := lt_of_block hx5.out; have := hKB.out.size; omega)).trans ((hKB.out.block _ (lt_of_block hx5.out)).trans hx5.out); have hz5 := lt_of_block hx5C; have hWD := Below.next hbWC (below_alloc wC (.cells #[.slice none 0 0, .slice none 0 0] 29)); have hx15 := heap_alloc_new wC (.cells #[.slice none 0 0, .slice none 0 0] 29); have hx5D := (Below.heap_alloc wC (.cells #[.slice none 0 0, .slice none 0 0] 29) _ hz5).trans hx5C; have hz15 := lt_of_block hx15; have hSz : (wC.alloc (.cells #[.slice none 0 0, .slice none 0 0] 29)).heap.size = wC.heap.size + 1 := by simp)))
                  have hWI := Below.next hWD hDI
                  have hs15 : wC.heap.size < wH.heap.size := by have := hDH.size; omega
                  have hGT := hid (og_gr2 (u0 := .slice i0 T3.nodes.length i9) (u1 := .slice o0 T3.roots.length o9) hO3'.out hs15)
                  have hwc : W.heap.size ≤ wC.heap.size := hbWC.size
                  have hW3 : W.heap.size ≤ w3.heap.size ∧ w3.heap.size < wC.heap.size := ⟨by have := hb3.size; have := hB.size; omega, hz5⟩
                  have hx15J := hid (blk2_set (v0 := .slice i0 T3.nodes.length i9) (v1 := .slice o0 T3.roots.length o9) hbx15)
                  have hx5J : Hid (((wI.setCell ⟨wC.heap.size, 0, none⟩ (.slice i0 T3.nodes.length i9)).setCell ⟨wC.heap.size, 1, none⟩ (.slice o0 T3.roots.length o9)).heap[w3.heap.size]? = some (.cells #[.slice n0 TN n9, .slice r0 TR r9] 29)) := show _ = _ by
                    rw [Below.heap_setCell _ _ _ _ (by show w3.heap.size ≠ wC.heap.size; omega), Below.heap_setCell _ _ _ _ (by show w3.heap.size ≠ wC.heap.size; omega), hDI.block _ (lt_of_block hx5D)]
                    exact hx5D
                  have hWJ := hid ((hWI.setCell (p := ⟨wC.heap.size, 0, none⟩) hwc (.slice i0 T3.nodes.length i9)).setCell (p := ⟨wC.heap.size, 1, none⟩) hwc (.slice o0 T3.roots.length o9))
                  have hW3J : Hid (Below w3.heap.size w3 ((wI.setCell ⟨wC.heap.size, 0, none⟩ (.slice i0 T3.nodes.length i9)).setCell ⟨wC.heap.size, 1, none⟩ (.slice o0 T3.roots.length o9))) := ((Below.next (Below.next (Below.next (Below.next hbA.out hKB.out) hbC) (below_alloc wC (.cells #[.slice none 0 0, .slice none 0 0] 29))) hDI).setCell (p := ⟨wC.heap.size, 0, none⟩) (by show w3.heap.size ≤ wC.heap.size; omega) _).setCell (p := ⟨wC.heap.size, 1, none⟩) (by show w3.heap.size ≤ wC.heap.size; omega) _
                  generalize ((wI.setCell ⟨wC.heap.size, 0, none⟩ (.slice i0 T3.nodes.length i9)).setCell ⟨wC.heap.size, 1, none⟩ (.slice o0 T3.roots.length o9)) = wJ at *
                  have hGJ := hid (hG3.out.below hW3J.out)
                  clear hWI hWD hDI hDH hbI hbx15 b0 b1 b2 b3 hzb hx5D hz15 hx15 hs15 hO3' hwc hW3
                  go_loopw [128] (fun i wr => ∃ j : Nat, j ≤ l1.length ∧ i = .int .i64 (j : Int) ∧ Hid (∀ i, i < j → (l1.getD i q0).1 ≠ qaS) ∧ Hid (Below wJ.heap.size wJ wr)) (fun i _ => l1.length - (intOf i).toNat)
                  case atStart => exact ⟨0, by omega, rfl, fun i hi => absurd hi (Nat.not_lt_zero _), Below.refl _ _⟩
                  case round =>
                    obtain ⟨j, hj, rfl, hno, hbw⟩ := hrel
                    by_cases hlt : j < l1.length
                    · obtain ⟨b, o, k', n', m', aa, al, ac, rfl, d0, d1, d2, d3, d4, hx⟩ := hQa.out j hlt
                      have hbr := Below.next hWJ.out hbw.out
                      have hz := lt_of_cell d0
                      have c0 := ((bcell hbr).1 b _ hz).trans d0
                      have c1 := ((bcell hbr).1 b _ hz).trans d1
                      have c2 := ((bcell hbr).1 b _ hz).trans d2
                      have c3 := ((bcell hbr).1 b _ hz).trans d3
                      have c4 := ((bcell hbr).1 b _ hz).trans d4
                      have hzr : b < wr.heap.size := Nat.lt_of_lt_of_le hz hbr.size
                      have hbn := hid (hbw.out.alloc hbw.out.size (.cells #[.string (l1.getD j q0).1, .int .i64 k', .string n', .int .i64 m', .slice aa al ac] 51))
                      obtain ⟨t0, t1, t2, t3, t4⟩ := (tblk5 (heap_alloc_new wr (.cells #[.string (l1.getD j q0).1, .int .i64 k', .string n', .int .i64 m', .slice aa al ac] 51))).1
                      have hbWr := hid (Below.next hWJ.out hbn.out)
                      by_cases hq : (l1.getD j q0).1 = qaS
                      · have hqb : ((l1.getD j q0).1.toList == [81, 117, 105, 116, 101, 95, 97, 110, 111, 116, 104, 101, 114]) = true := by rw [hq, qaS_list]; rfl
                        clear hx d0 d1 d2 d3 d4 hz hbr hno hq
                        generalize (l1.getD j q0).1 = qn at *
                        go_wp2
                        go_ret
                        exact ⟨rfl, hbWr.out⟩
                      · have hqb : ((l1.getD j q0).1.toList == [81, 117, 105, 116, 101, 95, 97, 110, 111, 116, 104, 101, 114]) = false := by
                          refine beq_eq_false_iff_ne.2 (fun e => hq ?_)
                          rw [← qaS_list, ByteArray.toList_eq, ByteArray.toList_eq] at e
                          exact ByteArray.ext (Array.toList_inj.1 e)
                        have hno2 : Hid (∀ i, i < j + 1 → (l1.getD i q0).1 ≠ qaS) := fun i hi => by
                          by_cases e : i < j
                          · exact hno.out i e
                          · obtain rfl : i = j := by omega
                            exact hq
                        clear hx d0 d1 d2 d3 d4 hz hbr hno hq
                        generalize (l1.getD j q0).1 = qn at *
                        go_wp2
                        go_roundw
                        case rel => exact ⟨j + 1, by omega, by go_num, hno2, hbn.out⟩
                        case measure => simp [intOf]; omega
                    · obtain rfl : j = l1.length := by omega
                      have hN := hn3'.out (fun q hq => by
                        obtain ⟨i, hi, rfl⟩ := List.getElem_of_mem hq
                        have := hno.out i hi
                        simpa [List.getD, hi] using this)
                      have hbr := Below.next hWJ.out hbw.out
                      have hgx := (hbw.out.block _ (lt_of_block hx5J.out)).trans hx5J.out
                      have hgy := (hbw.out.block _ (lt_of_block hx15J.out)).trans hx15J.out
                      obtain ⟨⟨e0, e1⟩, _⟩ := blk2 hgx
                      obtain ⟨⟨f0, f1⟩, _⟩ := blk2 hgy
                      have hsa := hid (hsm.out wr _ _ _ _ T3 (hGJ.out.below hbw.out) (hGT.out.below hbw.out))
                      have hbR := hid hbr
                      have hoc := hid (fun (w : World) (hb : Below W.heap.size W w) => occurs_any (HX.out.next hb) (HQ.out.next hb) (by omega) (by omega) hpcx.out hpcq.out)
                      clear hno hn3' hgx hgy hbr
                      cases hE : eqG T T3 with
                      | true =>
                        rw [hE] at hsa
                        clear hN hE
                        go_wp2_with (go_at_call 16; go_must (refine hsa.out.mono ?_; clear hsa; rintro e wK ⟨rfl, hbK⟩))
                        go_ret
                        exact ⟨rfl, Below.next hbR.out hbK⟩
                      | false =>
                        have hO : occX l0 l1 = true := by rw [hE] at hN; simpa using hN
                        rw [hE] at hsa
                        rw [hO] at hoc
                        clear hN hE hO
                        go_wp2_with (first
                          | (go_at_call 19; go_must (refine (hoc.out wK (Below.next hbR.out hbK)).mono ?_; rintro e wL ⟨rfl, hbL⟩))
                          | (go_at_call 16; go_must (refine hsa.out.mono ?_; clear hsa; rintro e wK ⟨rfl, hbK⟩)))
                        go_ret
                        exact ⟨rfl, Below.next (Below.next hbR.out hbK) hbL⟩
                · have ht3 := hid (fun (w : World) (v : Value) (hb : Below W.heap.size W w) (hr : Rqs w v (l1 ++ [selfQ qaS ⟨#[102]⟩])) => tie_bad (HX.out.next hb) hr HZX.out (self_sz HZQ.out) (by have := self_small s3; omega) hc3)
                  go_wp2_with (first
                    | (go_at_call 9; refine (ht3.out wH _ (Below.next hWD hDH) hRH).mono ?_; clear ht3; rintro r wI ⟨⟨ev3, rfl, hE3⟩, hbI⟩; obtain ⟨eb3, rfl, _⟩ := hE3; have hDI := Below.next hDH hbI; have hbx15 := (hDI.block _ hz15).trans hx15; obtain ⟨⟨b0, b1⟩, b2, b3⟩ := blk2 hbx15; have hzb := lt_of_block hbx15; have hWI := Below.next hWD hDI)
                    | (at_builtin; refine wpList_append_lies _ rfl _ _ 23 rfl (wC.alloc (.cells #[.slice none 0 0, .slice none 0 0] 29)).heap.size 51 i5 (.agg #[.string ⟨#[]⟩, .int .i64 0, .string ⟨#[]⟩, .int .i64 0, .slice none 0 0]) 5 72 Try.underlying23 hi5 hy0 hy1 hy2 rfl (by decide) (.slice ao5 l1.length c5) l1.length (flatV F l1.length) rfl (self_own _ hown5 hbF hbG) ⟨wG.heap.size, 0, none⟩ 1 1 [.string qaS, .int .i64 4, .string ⟨#[102]⟩, .int .i64 0, .slice (some ⟨wF.heap.size, 0, none⟩) 1 1] rfl (by rfl) (World.news_of_block (cs := #[.string qaS, .int .i64 4, .string ⟨#[102]⟩, .int .i64 0, .slice (some ⟨wF.heap.size, 0, none⟩) 1 1]) (t := 51) (fr := (0, 0)) (heap_alloc_new wG _)) (by simp [Value.oneCell']) (by omega) (by unfold maxLen; omega) (by omega) (self_size _ hgr5 hbF hbG) (wG.heap.size + 1) (by simp) ?_; intro g8 c8 wH hownH hgH hatH hltH; obtain ⟨hRH, hDH⟩ := self_all hWD hF5 hFX5 hown5 hgr5 hbF hbG hownH hgH)
                    | (at_builtin; go_must (refine wpList_copyQ rfl _ _ rfl (B := wC.heap.size + 1) (g := wC.heap.size + 1) rfl rfl HQ.out (Below.next hWD (below_alloc (wC.alloc (.cells #[.slice none 0 0, .slice none 0 0] 29)) _)) (by have h9 := heap_alloc_new (wC.alloc (.cells #[.slice none 0 0, .slice none 0 0] 29)) (.cells #[] 51); rw [hSz] at h9; exact h9) (Nat.le_refl _) (by omega) ?_; intro ao5 c5 F wE hF5 hFX5 hown5 hgr5; rw [← hSz] at hown5 hgr5))
                    | (go_at_call 18; go_must (refine (v_any qaS _).mono ?_; rintro e wF ⟨rfl, hbF⟩))
                    | (go_at_call 17; go_must (refine (c_any ⟨#[102]⟩ (some ⟨wF.heap.size, 0, none⟩) 1 1 _).mono ?_; rintro e wG ⟨rfl, hbG⟩))
                    | (go_at_call 9; go_must (refine ht2.mono ?_; clear ht2; rintro r wC ⟨⟨ev, rfl, hE⟩, hbC⟩; obtain ⟨eb, rfl, _⟩ := hE; have hbWC := Below.next (Below.next hbW.out hKB.out) hbC; have hx5C := (hbC.block _ (by have := lt_of_block hx5.out; have := hKB.out.size; omega)).trans ((hKB.out.block _ (lt_of_block hx5.out)).trans hx5.out); have hz5 := lt_of_block hx5C; have hWD := Below.next hbWC (below_alloc wC (.cells #[.slice none 0 0, .slice none 0 0] 29)); have hx15 := heap_alloc_new wC (.cells #[.slice none 0 0, .slice none 0 0] 29); have hx5D := (Below.heap_alloc wC (.cells #[.slice none 0 0, .slice none 0 0] 29) _ hz5).trans hx5C; have hz15 := lt_of_block hx15; have hSz : (wC.alloc (.cells #[.slice none 0 0, .slice none 0 0] 29)).heap.size = wC.heap.size + 1 := by simp)))
                  go_ret
                  exact ⟨rfl, (hWI.setCell (p := ⟨wC.heap.size, 0, none⟩) (by have := hbWC.size; omega) _).setCell (p := ⟨wC.heap.size, 1, none⟩) (by have := hbWC.size; omega) _⟩
    · have ht := hid (fun (w : World) (hb : Below W.heap.size W w) => tie_bad (HX.out.next hb) (HQ.out.next hb) HZX.out HZQ.out (by omega) hc)
      go_enter Try.func4, Try.ntmps4
      go_wp2_with (first
        | (go_at_call 8; go_must (refine (hla.out _ hb1).mono ?_; clear hla; rintro e2 w2 ⟨rfl, hb2⟩; have hB := Below.next hb1 hb2; clear hb1 hb2))
        | (go_at_call 7; go_must (refine (tlives_any _).mono ?_; rintro e1 w1 ⟨rfl, hb1⟩))
        | (go_at_call 9; go_must (refine (ht.out w2 hB).mono ?_; clear ht; rintro r w3 ⟨⟨ev, rfl, hE⟩, hb3⟩; obtain ⟨eb, rfl, _⟩ := hE; have hbf := Below.next (Below.next hB hb3) (below_alloc w3 (.cells #[.slice none 0 0, .slice none 0 0] 29)))))
      go_ret
      exact ⟨rfl, hbf⟩
end Go.Proofs.Ytncileojdighnaa
