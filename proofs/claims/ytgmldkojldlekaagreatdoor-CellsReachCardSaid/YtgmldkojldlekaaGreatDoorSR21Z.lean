/- refined of package bisim, walked. -/
import Derived.Deep.CutRange
import Derived.BigQuiet
import Derived.Deep.RegionWith
import Derived.Deep.RegionHeld3
import Derived.Test.YtgmldkojldlekaaGreatDoorSR19Z
import Derived.Test.YtgmldkojldlekaaGreatDoorSR06Z
import Derived.Test.YtgmldkojldlekaaGreatDoorSR07Z
import Derived.Test.YtgmldkojldlekaaGreatDoorSR17Z
import Derived.Test.YtgmldkojldlekaaGreatDoorSR14Z
namespace Go.Proofs.YtgmldkojldlekaaGreatDoor
set_option maxRecDepth 100000
open Go.RowKit
def Ro (W w1 w2 wr : World) (g : Gf) (pb : Nat) (v0 v1 v2 : Value) (c d : Nat) (T : Int → Prop) : Prop :=
  ∃ v3 v4 v5 S F, Rq W w1 w2 wr pb g.nodes.length v0 v1 v2 v3 v4 v5 S ∧ c ≤ S.C ∧ Rf g (fun x => S.cl x.toNat) S.C c F T d
theorem Pd.rf2 {g : Gf} (hg : Good g) {N : Nat} (hNN : g.nodes.length = N) {S S' : Ps} {D d : Nat} {F : List (Int → Prop)} {T : Int → Prop} {ms : List Nat} (h : Rf g (fun x => S.cl x.toNat) S.C D F T d) (hD : D ≤ S.C) (hT : ∀ n, n < N → (T (n : Int) ↔ n ∈ ms)) (hms : ∀ m ∈ ms, m < N)
    (k : Pd N S S' (ms.flatMap (fun a : Nat => usrF g.nodes d (a : Int) N))) : Rf g (fun x => S'.cl x.toNat) S'.C D F T (d + 1) := by
  subst hNN
  exact k.rf hg h hD hT hms
def Rk (W w1 w2 w0 w3 wr : World) (g : Gf) (pb N : Nat) (v0 v1 v2 : Value) (c k : Nat) (F : List (Int → Prop)) (T : Int → Prop) : Prop :=
  ∃ v3 v4 v5 S, Rq W w1 w2 wr pb N v0 v1 v2 v3 v4 v5 S ∧ c + 1 ≤ S.C ∧ Rf g (fun x => S.cl x.toNat) S.C (c + 1) F T k ∧ (∀ q ∈ pb :: blocks [v0, v1, v2, v3, v4, v5], q < w0.heap.size ∨ w3.heap.size ≤ q) ∧ (∀ q, w0.heap.size ≤ q → q < w3.heap.size → wr.heap[q]? = w3.heap[q]?) ∧ w3.heap.size ≤ wr.heap.size
set_option maxHeartbeats 4000000 in
theorem refined_any {W : World} {nv : Value} {g : Gf} (hn : Rn W nv g.nodes) (hg : Good g) (hS : Sized g) :
    Calls Tryz.prog 114 #[nv] W fun e w' => (∃ pb v0 v1 v2 v3 v4 v5 S, e = .returned (.pointer (some ⟨pb, 0, none⟩)) ∧ Pt w' W.heap.size pb v0 v1 v2 v3 v4 v5 (S.rows g.nodes.length) ∧ Iv g.nodes.length S ∧ ∀ x y, isN g x → isN g y → (S.cl x.toNat = S.cl y.toNat ↔ Al g x y)) ∧ Below W.heap.size W w' := by
  have hnl := hg.nodes
  have hl1 := labelled_any hn hg hS
  have hu1 := hid (fun w1 (hb : Below W.heap.size W w1) => users_any (hn.below hb) hg)
  have hd8 : Hid (∀ x, isN g x → (g.nd x).args.length ≤ 8) := fun x hx => (hg.args hx.1 hx.2).2
  have hHg := hid hg
  generalize hNN : g.nodes.length = N at *
  go_enter Tryz.func114, Tryz.ntmps114
  go_wp2_with (first
    | (go_at_call 126; refine hl1.mono ?_; rintro e w1 ⟨⟨pb, v0, v1, v2, v3, v4, v5, S0, rfl, hP0, hI0, hm0, hlv⟩, hb1⟩)
    | (go_at_call 127; refine (hu1.out w1 hb1).mono ?_; rintro e w2 ⟨⟨vs, rfl, hUb⟩, hb2⟩))
  have hst : Hid (Ro W w1 w2 w2 g pb v0 v1 v2 0 8 (fun _ => True)) := by
    refine ⟨v3, v4, v5, S0, [], ⟨by rw [hNN]; exact hP0.below hb2, by rw [hNN]; exact hI0, hm0, fun _ _ _ => rfl, fun k hk => Or.inl (hP0.lt k hk), Nat.le_refl _, Below.next hb1 hb2⟩, Nat.zero_le _, Rf.start8 (fun x hx => hI0.cls _ (by have := hx.1; have := hx.2; omega)) (fun x y hx hy => ?_)⟩
    have h1 := hx.1
    have h2 := hx.2
    have h3 := hy.1
    have h4 := hy.2
    rw [hlv _ _ (by omega) (by omega), lv_iff]
    have e1 : ((x.toNat : Nat) : Int) = x := by omega
    have e2 : ((y.toNat : Nat) : Int) = y := by omega
    rw [e1, e2]
  have hHU := hid hUb
  have hb12 := hb2.size
  clear hl1 hu1 hP0 hI0 hm0 hlv hUb hb1 hb2
  go_loopw [5] (fun i wr => ∃ c : Nat, i = .int .i64 c ∧ c ≤ N ∧ Hid (∃ T, Ro W w1 w2 wr g pb v0 v1 v2 c 8 T)) (fun i _ => N - (intOf i).toNat)
  case atStart => exact ⟨0, rfl, Nat.zero_le _, ⟨_, hst.out⟩⟩
  case round =>
    clear hst
    obtain ⟨c, rfl, hcN, hRo⟩ := hrel
    obtain ⟨T, v3, v4, v5, S, F, hRq, hcS, hRf⟩ := hRo.out
    rw [hNN] at hRq
    have hCN := hRq.iv.le
    have e0 : (S.rows N 0).length = N := rowF_len _ _
    have e3 : (S.rows N 3).length = S.C := rowF_len _ _
    have e4 : (S.rows N 4).length = S.C := rowF_len _ _
    have z3 := (blk6 hRq.pt.blk).1.2.2.2.1
    by_cases hlt : c < S.C
    · obtain ⟨hf1, hf2, _⟩ := hRq.iv.rng c hlt
      obtain ⟨q0, c0, hv0, _⟩ := (own_form (hRq.pt.fm.own 0 (by simp))).resolve_left (fun h => by omega)
      obtain ⟨q3, c3, hv3, _⟩ := (own_form (hRq.pt.fm.own 3 (by simp))).resolve_left (fun h => by omega)
      obtain ⟨q4, c4, hv4, _⟩ := (own_form (hRq.pt.fm.own 4 (by simp))).resolve_left (fun h => by omega)
      have hv0' : v0 = .slice (some ⟨q0, 0, none⟩) N c0 := by
        rw [e0] at hv0
        exact hv0
      have hv3' : v3 = .slice (some ⟨q3, 0, none⟩) S.C c3 := by
        rw [e3] at hv3
        exact hv3
      have hv4' : v4 = .slice (some ⟨q4, 0, none⟩) S.C c4 := by
        rw [e4] at hv4
        exact hv4
      have hcap : N ≤ c0 := by
        have h1 := hRq.pt.fm.own 0 (by simp)
        rw [e0] at h1
        have h2 : wr.ownsRow W.heap.size 3 1 v0 N ((S.rows N 0).map (Value.int .i64)) := h1
        rw [hv0'] at h2
        exact own_cap7 h2
      have z0 := (blk6 hRq.pt.blk).1.1
      have z4 := (blk6 hRq.pt.blk).1.2.2.2.2.1
      have k3 := (hRq.pt.fm.cellN (i := 3) (j := c) (by simp) hv3' e3 hlt).1
      have k4 := (hRq.pt.fm.cellN (i := 4) (j := c) (by simp) hv4' e4 hlt).1
      have g3 : (S.rows N 3).getD c 0 = (S.fi c : Int) := rowF_get _ hlt
      have g4 : (S.rows N 4).getD c 0 = (S.be c : Int) := rowF_get _ hlt
      rw [g3] at k3
      rw [g4] at k4
      rw [hv0'] at z0
      rw [hv3'] at z3
      rw [hv4'] at z4
      have hmc : ∀ j, j < (ints (msF S c)).length → wr.cell? ⟨q0, S.fi c + j, none⟩ = some (.int .i64 ((ints (msF S c)).getD j 0)) := fun j hj => by
        rw [ints_len] at hj
        rw [ints_get hj]
        rw [msF_len] at hj
        rw [msF_get hj, (hRq.pt.fm.cellN (i := 0) (j := S.fi c + j) (by simp) hv0' e0 (by omega)).1]
        have g0 : (S.rows N 0).getD (S.fi c + j) 0 = (S.nd (S.fi c + j) : Int) := rowF_get _ (by omega)
        rw [g0]
      have hml : (ints (msF S c)).length = S.be c - S.fi c := by rw [ints_len, msF_len]
      have hclo := hid (fun cc => iclone_any (w := wr.drew) (c := cc) hmc (by rw [hml]; omega))
      rw [hml] at hclo
      have hne : ¬ c0 = S.fi c := by omega
      have hne2 : S.fi c < c0 := by omega
      have hHR := hid hRq
      have hHF := hid hRf
      have hi1 : (c : Int) < (S.C : Int) := by omega
      have hi2 : S.be c ≤ c0 := by omega
      have hi3 : S.fi c ≤ S.be c := by omega
      clear hRo hRq hRf hv0 hv3 hv4 hv0' hv3' hv4' g3 g4 e0 e3 e4 hmc hml
      generalize hfi : S.fi c = fi at *
      generalize hbe : S.be c = be at *
      go_wp2
      go_cut [6] from 22 to 52 (fun mv wc => Hid (wc.ownsRow wr.heap.size 3 1 mv (be - fi) ((ints (msF S c)).map (Value.int .i64)) ∧ Below wr.heap.size wr wc))
      case first =>
        go_region_law (first
          | (go_simp; go_at_call 128; refine (hclo.out _).mono ?_; rintro e w3 ⟨mv, rfl, hmo, hb3⟩))
        all_goals go_wp2_with fail
        all_goals go_meet
        all_goals exact ⟨hmo, undr1 hb3⟩
      case rest =>
        obtain ⟨hmo', hb3'⟩ := hcut.out
        obtain ⟨w0, hw0⟩ : ∃ w0, wr = w0 := ⟨_, rfl⟩
        rw [hw0] at hHR hb3' hmo'
        have hk0 : Hid (Rk W w1 w2 w0 wc wc g pb N v0 v1 v2 c 0 (F ++ [T]) (fun x => S.cl x.toNat = c)) := by
          refine ⟨v3, v4, v5, S, hHR.out.below hb3', hlt, hHF.out.next hd8.out, fun q hq => Or.inl (hHR.out.pt.lt q hq), fun _ _ _ => rfl, Nat.le_refl _⟩
        have hmem := hid (fun n => msF_mem hHR.out.iv hlt (n := n))
        have hnod := hid (msF_nodup hHR.out.iv hlt)
        have hlen : Hid ((msF S c).length ≤ 4500) := fewer (C := 4500) hnod.out (fun n hn => by
          have := (hmem.out n).1 hn
          omega)
        have hml2 : Hid ((ints (msF S c)).length = be - fi) := by
          show _ = _
          rw [ints_len, msF_len, hfi, hbe]
        have hHmo := hid hmo'
        clear hb3' hmo' hw0 hHR hHF hclo z0 z3 z4 k3 k4 hcut
        go_wp2
        go_loopw [44] (fun i wr => ∃ k : Nat, k ≤ 8 ∧ i = .int .i64 k ∧ Hid (Rk W w1 w2 w0 wc wr g pb N v0 v1 v2 c k (F ++ [T]) (fun x => S.cl x.toNat = c))) (fun i _ => 8 - (intOf i).toNat)
        case atStart => exact ⟨0, by omega, rfl, hk0⟩
        case round =>
          clear hk0
          obtain ⟨k, hk, rfl, hRk⟩ := hrel
          by_cases hltk : k < 8
          · obtain ⟨x3, x4, x5, S1, hRq, hcS1, hRf, hfar2, hreg2, hsz2⟩ := hRk.out
            obtain ⟨hru, d1⟩ := hHU.out.ru hltk hRq.reg
            have hcall := hid (part_any (F := fun a => usrF g.nodes k (a : Int) N) (V := vs k) (cu := N) (mv := u6) (ms := msF S c) hRq.pt hRq.iv hRq.mq0 (by omega) hRq.b.size (fun w' hC => own_read (B := w0.heap.size) hml2.out (own_block hHmo.out (fun q e => (hC.reg hfar2 hsz2 q (hHmo.out.lt q e).1 (hHmo.out.lt q e).2).trans (hreg2 q (hHmo.out.lt q e).1 (hHmo.out.lt q e).2)))) (fun w' hC => (hHU.out.ru hltk (fun q h1 h2 => (hC.reg hRq.far hRq.sz q h1 h2).trans (hRq.reg q h1 h2))).1) hlen.out (fun m hm => ((hmem.out m).1 hm).1) (users_nodup g.nodes k N _ hnod.out) users_lt)
            have hend : Hid (∀ w5 u3 u4 u5 S', Pt w5 W.heap.size pb v0 v1 v2 u3 u4 u5 (S'.rows N) → Pd N S1 S' ((msF S c).flatMap (fun a : Nat => usrF g.nodes k (a : Int) N)) → Ch (pb :: blocks [v0, v1, v2, x3, x4, x5]) wr w5 → (∀ q ∈ blocks [u3, u4, u5], q ∈ blocks [v0, v1, v2, x3, x4, x5] ∨ wr.heap.size ≤ q) → Rk W w1 w2 w0 wc w5 g pb N v0 v1 v2 c (k + 1) (F ++ [T]) (fun x => S.cl x.toNat = c)) := fun w5 u3 u4 u5 S' h1 h2 h3 h4 =>
              ⟨u3, u4, u5, S', hRq.next h1 h2 h3 h4, Nat.le_trans hcS1 h2.le, h2.rf2 hHg.out hNN hRf hcS1 (fun n hn => by
                show S.cl ((n : Int).toNat) = c ↔ _
                rw [Int.toNat_natCast, hmem.out n]
                exact ⟨fun e => ⟨hn, e⟩, fun e => e.2⟩) (fun m hm => ((hmem.out m).1 hm).1), away_six hfar2 hsz2 h4, fun q h5 h6 => (h3.reg hfar2 hsz2 q h5 h6).trans (hreg2 q h5 h6), Nat.le_trans hsz2 h3.size⟩
            have hki : (k : Int) < 8 := by omega
            clear hRk hRq hRf hfar2 hreg2 hsz2 hru
            go_wp2_with (go_at_call 129; refine hcall.out.mono ?_; rintro e w5 ⟨rfl, u3, u4, u5, S', hP5, hD5, hC5, hk5⟩)
            go_roundw
            case rel => exact ⟨k + 1, by omega, congrArg (Value.int .i64) (by omega), hend.out w5 u3 u4 u5 S' hP5 hD5 hC5 hk5⟩
            case measure => simp [intOf]; omega
          · obtain rfl : k = 8 := by omega
            have hout : Hid (c + 1 ≤ N ∧ ∃ T, Ro W w1 w2 wr g pb v0 v1 v2 (c + 1) 8 T) := by
              obtain ⟨x3, x4, x5, S1, hRq, hcS1, hRf, _⟩ := hRk.out
              exact ⟨Nat.le_trans hcS1 hRq.iv.le, _, x3, x4, x5, S1, _, by rw [hNN]; exact hRq, hcS1, hRf⟩
            have hc1 := hout.out.1
            clear hRk
            go_wp2
            go_roundw
            case rel => first | exact ⟨c + 1, congrArg (Value.int .i64) (by omega), hc1, hout.out.2⟩ | ((repeat apply Exists.intro); refine ⟨⟨c + 1, ?_, hc1, hout.out.2⟩, rfl⟩; exact congrArg (Value.int .i64) (by omega))
            case measure => simp [intOf]; omega
    · obtain rfl : c = S.C := by omega
      have hci : ¬ ((S.C : Int) < (S.C : Int)) := by omega
      obtain ⟨a3, c3, hv3⟩ := own_sl (hRq.pt.fm.own 3 (by simp))
      have hv3' : v3 = .slice a3 S.C c3 := by
        rw [e3] at hv3
        exact hv3
      rw [hv3'] at z3
      have hHR := hid hRq
      have hHF := hid hRf
      clear hRo hRq hRf hv3 hv3' e0 e3 e4
      go_wp2
      go_ret
      exact ⟨⟨pb, rfl, v0, v1, v2, v3, v4, v5, S, hHR.out.pt, hHR.out.iv, hHF.out.last hHg.out (Nat.le_refl _) hd8.out⟩, hHR.out.b⟩
end Go.Proofs.YtgmldkojldlekaaGreatDoor

namespace Go.Proofs.YtgmldkojldlekaaGreatDoor
set_option maxRecDepth 100000
open Go.RowKit
section
variable {w : World} {B p q : Nat} {v : Value} {ns : List ByteArray}
set_option maxHeartbeats 800000 in
theorem number_tab (h : Tb w B p v q ns) (s : ByteArray) (hs : s.size ≤ 281474976710656) :
    Calls Tryz.prog 109 #[.agg #[.pointer (some ⟨p, 0, none⟩)], .string s] w fun e w' => e = .returned (.int .i64 (num ns s : Int)) ∧ Below w.heap.size w w' := by
  have hb := hid (below_alloc w (.cells #[.pointer (some ⟨p, 0, none⟩)] 81))
  have hf := hid (find_any (h.below hb.out) s hs)
  generalize num ns s = k at *
  clear h
  go_enter Tryz.func109, Tryz.ntmps109
  go_wp2_with (go_at_call 77; refine hf.out.mono ?_; rintro e w1 ⟨rfl, hw⟩; replace hw := hw.symm; subst hw)
  go_ret
  exact ⟨rfl, hb.out⟩
end
def szN (nd : Nd) : Nat := if nd.kind = 1 then 1 else if nd.kind = 4 then 1 + nd.args.length else 0
set_option maxHeartbeats 800000 in
theorem size_any (w : World) (nd : Nd) (ao : Option Addr) (c : Nat) (hl : nd.args.length ≤ 5000) :
    Calls Tryz.prog 80 #[.agg #[.int .i64 nd.kind, .string nd.name, .int .i64 nd.num, .slice ao nd.args.length c]] w fun e w' => e = .returned (.int .i64 (szN nd : Int)) ∧ Below w.heap.size w w' := by
  obtain ⟨kd, nm, nu, args⟩ := nd
  dsimp only at hl ⊢
  have hR : Hid (szN ⟨kd, nm, nu, args⟩ = if kd = 1 then 1 else if kd = 4 then 1 + args.length else 0) := rfl
  generalize szN ⟨kd, nm, nu, args⟩ = R at *
  by_cases h1 : kd = 1
  · have hR1 : Hid (R = 1) := show _ = _ by rw [hR.out, if_pos h1]
    subst h1
    clear hR
    go_enter Tryz.func80, Tryz.ntmps80
    go_wp2
    go_ret
    exact ⟨ret_int (by rw [hR1.out]; rfl), below_alloc _ _⟩
  · by_cases h4 : kd = 4
    · have hR1 : Hid (R = 1 + args.length) := show _ = _ by rw [hR.out, if_neg h1, if_pos h4]
      subst h4
      clear hR h1
      go_enter Tryz.func80, Tryz.ntmps80
      go_wp2
      go_ret
      exact ⟨ret_int (by rw [hR1.out]; omega), below_alloc _ _⟩
    · have hR1 : Hid (R = 0) := show _ = _ by rw [hR.out, if_neg h1, if_neg h4]
      have d1 : (kd == 1) = false := by simpa using h1
      have d4 : (kd == 4) = false := by simpa using h4
      clear hR h1 h4
      go_enter Tryz.func80, Tryz.ntmps80
      go_wp2
      go_ret
      exact ⟨ret_int (by rw [hR1.out]; rfl), below_alloc _ _⟩
end Go.Proofs.YtgmldkojldlekaaGreatDoor

namespace Go.Proofs.YtgmldkojldlekaaGreatDoor
set_option maxRecDepth 100000
open Go.RowKit
def eqC (cl : Nat → Nat) (x y : Nat) : Bool := decide (cl x = cl y)
def numK (cl : Nat → Nat) (ls : List Nat) (c : Nat) : Nat := if fnd (fun l => decide (c = cl l)) ls < ls.length then fnd (fun l => decide (c = cl l)) ls + 1 else 0
theorem fnd_snoc {p : Nat → Bool} {x : Nat} : ∀ {l : List Nat}, fnd p (l ++ [x]) = if fnd p l < l.length then fnd p l else if p x then l.length else l.length + 1
  | [] => by
    show fnd p [x] = _
    unfold fnd fnd
    by_cases e : p x = true
    · simp [e]
    · simp [e]
  | y :: r => by
    have ih := fnd_snoc (p := p) (x := x) (l := r)
    show fnd p (y :: (r ++ [x])) = _
    unfold fnd
    by_cases e : p y = true
    · simp [e]
    · rw [if_neg e, if_neg e, ih]
      simp only [List.length_cons]
      by_cases h : fnd p r < r.length
      · have h' : fnd p r + 1 < r.length + 1 := by omega
        rw [if_pos h, if_pos h']
      · have h' : ¬ fnd p r + 1 < r.length + 1 := by omega
        rw [if_neg h, if_neg h']
        split <;> rfl
theorem numK_new {cl : Nat → Nat} {ls : List Nat} {m : Nat} (h : fnd (eqC cl m) ls = ls.length) : numK cl (ls ++ [m]) = upd (numK cl ls) (cl m) (ls.length + 1) := by
  funext c
  unfold numK upd
  rw [fnd_snoc, List.length_append, List.length_singleton]
  by_cases e : c = cl m
  · have h1 : fnd (fun l => decide (c = cl l)) ls = ls.length := by
      rw [← h, e]
      rfl
    have h2 : ¬ fnd (fun l => decide (c = cl l)) ls < ls.length := by omega
    have h3 : decide (c = cl m) = true := by simp [e]
    have h4 : ls.length < ls.length + 1 := by omega
    rw [if_neg h2, if_pos h3, if_pos h4, if_pos e]
  · have h3 : ¬ decide (c = cl m) = true := by simp [e]
    rw [if_neg e]
    by_cases h1 : fnd (fun l => decide (c = cl l)) ls < ls.length
    · have h4 : fnd (fun l => decide (c = cl l)) ls < ls.length + 1 := by omega
      rw [if_pos h1, if_pos h4]
      exact (if_pos h1).symm
    · have h4 : ¬ ls.length + 1 < ls.length + 1 := by omega
      rw [if_neg h1, if_neg h3, if_neg h4]
      exact (if_neg h1).symm
theorem numK_at (cl : Nat → Nat) (ls : List Nat) (m : Nat) : numK cl ls (cl m) = if fnd (eqC cl m) ls < ls.length then fnd (eqC cl m) ls + 1 else 0 := rfl
def rows2 (cl : Nat → Nat) (m i : Nat) : List Int := if i = 0 then ints (csF (eqC cl) m) else ints (lsF (eqC cl) m)
structure Lq (W wr : World) (B pb N nb : Nat) (v0 v1 v2 v3 v4 v5 : Value) (S : Ps) (m : Nat) (t2 t3 : Value) : Prop where
  b : Below W.heap.size W wr
  pt : Pt wr B pb v0 v1 v2 v3 v4 v5 (S.rows N)
  plt : ∀ k ∈ pb :: blocks [v0, v1, v2, v3, v4, v5], k < nb
  num : wr.heap[nb]? = some (.cells (rowV S.C (fun c => .int .i64 (numK S.cl (lsF (eqC S.cl) m) c : Int))) 3 (0, 0))
  fm : Fm wr (nb + 1) [t2, t3] (rows2 S.cl m)
  bW : W.heap.size ≤ nb
theorem Lq.sz {W wr : World} {B pb N nb m : Nat} {v0 v1 v2 v3 v4 v5 t2 t3 : Value} {S : Ps} (h : Lq W wr B pb N nb v0 v1 v2 v3 v4 v5 S m t2 t3) : nb + 1 ≤ wr.heap.size := lt_of_block h.num
theorem two {P : Nat → Prop} (h0 : P 0) (h1 : P 1) : ∀ i, i < 2 → P i := fun i hi => by
  have : i = 0 ∨ i = 1 := by omega
  rcases this with rfl | rfl <;> assumption
theorem Fm.congr2 {w : World} {B : Nat} {a b : Value} {f f' : Nat → List Int} (h : Fm w B [a, b] f) (e : ∀ i, i < 2 → f i = f' i) : Fm w B [a, b] f' :=
  ⟨fun i hi => by
    have hi' : i < 2 := by simpa using hi
    rw [← e i hi']
    exact h.own i hi, h.nd⟩
theorem Lq.old {W wr w5 : World} {B pb N nb m g cap : Nat} {v0 v1 v2 v3 v4 v5 t2 t3 : Value} {S : Ps} {o : Obj} (h : Lq W wr B pb N nb v0 v1 v2 v3 v4 v5 S m t2 t3) (hf : fnd (eqC S.cl m) (lsF (eqC S.cl) m) < (lsF (eqC S.cl) m).length)
    (hown : w5.ownsRow (nb + 1) 3 1 (.slice (some ⟨g, 0, none⟩) (m + 1) cap) (m + 1) ((ints (csF (eqC S.cl) m)).map (Value.int .i64) ++ [.int .i64 (fnd (eqC S.cl m) (lsF (eqC S.cl) m) : Int)])) (hgr : (wr.alloc o).grownBy w5 t2.ownBlock) (hat : t2.ownBlock = some g ∨ g = wr.heap.size + 1) :
    Lq W w5 B pb N nb v0 v1 v2 v3 v4 v5 S (m + 1) (.slice (some ⟨g, 0, none⟩) (m + 1) cap) t3 := by
  have hsz := h.sz
  have hlow : ∀ q, t2.ownBlock = some q → nb + 1 ≤ q := fun q e => ((h.fm.own 0 (by simp)).lt q e).1
  have hold : ∀ q, q ≤ nb → w5.heap[q]? = wr.heap[q]? := fun q hq => by
    rw [hgr.block q (by simp; omega) (fun e => by have := hlow q e.symm; omega), Below.heap_alloc _ _ _ (by omega)]
  have hls : lsF (eqC S.cl) (m + 1) = lsF (eqC S.cl) m := by rw [lsF_succ, if_neg (by omega)]
  have hcl : (rows2 S.cl m 0).length = m := (ints_len _).trans (csF_len _ _)
  refine ⟨(h.b.alloc h.b.size _).grown hgr (by simp; have := h.b.size; omega) (fun q e => by have := hlow q e; have := h.bW; omega), h.pt.keep (fun k hk => hold k (by have := h.plt k hk; omega)), h.plt, by rw [hold nb (Nat.le_refl _), hls]; exact h.num, ?_, h.bW⟩
  have hF := Fm.push (k := 0) (x := (fnd (eqC S.cl m) (lsF (eqC S.cl) m) : Int)) (g := g) (cap := cap) h.fm (by simp) (by rw [hcl, List.map_append]; exact hown) hgr hat
  rw [hcl] at hF
  refine hF.congr2 (two ?_ ?_)
  · show ints (csF (eqC S.cl) m) ++ [_] = ints (csF (eqC S.cl) (m + 1))
    rw [csF_succ, ints_snoc]
  · show ints (lsF (eqC S.cl) m) = ints (lsF (eqC S.cl) (m + 1))
    rw [hls]
theorem Lq.new {W wr w3 w5 : World} {B pb N nb m g cap g' cap' : Nat} {v0 v1 v2 v3 v4 v5 t2 t3 : Value} {S : Ps} {o o' : Obj} (h : Lq W wr B pb N nb v0 v1 v2 v3 v4 v5 S m t2 t3) (hf : fnd (eqC S.cl m) (lsF (eqC S.cl) m) = (lsF (eqC S.cl) m).length)
    (hown3 : w3.ownsRow (nb + 1) 3 1 (.slice (some ⟨g', 0, none⟩) ((lsF (eqC S.cl) m).length + 1) cap') ((lsF (eqC S.cl) m).length + 1) ((ints (lsF (eqC S.cl) m)).map (Value.int .i64) ++ [.int .i64 (m : Int)])) (hgr3 : (wr.alloc o').grownBy w3 t3.ownBlock) (hat3 : t3.ownBlock = some g' ∨ g' = wr.heap.size + 1)
    (hown : w5.ownsRow (nb + 1) 3 1 (.slice (some ⟨g, 0, none⟩) (m + 1) cap) (m + 1) ((ints (csF (eqC S.cl) m)).map (Value.int .i64) ++ [.int .i64 ((lsF (eqC S.cl) m).length : Int)])) (hgr : ((w3.setCell ⟨nb, S.cl m, none⟩ (.int .i64 (((lsF (eqC S.cl) m).length : Int) + 1))).alloc o).grownBy w5 t2.ownBlock) (hat : t2.ownBlock = some g ∨ g = w3.heap.size + 1) :
    Lq W w5 B pb N nb v0 v1 v2 v3 v4 v5 S (m + 1) (.slice (some ⟨g, 0, none⟩) (m + 1) cap) (.slice (some ⟨g', 0, none⟩) ((lsF (eqC S.cl) m).length + 1) cap') := by
  have hsz := h.sz
  have hs3 := hgr3.size
  simp at hs3
  have hlow2 : ∀ q, t2.ownBlock = some q → nb + 1 ≤ q := fun q e => ((h.fm.own 0 (by simp)).lt q e).1
  have hlow3 : ∀ q, t3.ownBlock = some q → nb + 1 ≤ q := fun q e => ((h.fm.own 1 (by simp)).lt q e).1
  have hold3 : ∀ q, q ≤ nb → w3.heap[q]? = wr.heap[q]? := fun q hq => by
    rw [hgr3.block q (by simp; omega) (fun e => by have := hlow3 q e.symm; omega), Below.heap_alloc _ _ _ (by omega)]
  have hold5 : ∀ q, q ≤ nb → w5.heap[q]? = (w3.setCell ⟨nb, S.cl m, none⟩ (.int .i64 (((lsF (eqC S.cl) m).length : Int) + 1))).heap[q]? := fun q hq => by
    rw [hgr.block q (by simp; omega) (fun e => by have := hlow2 q e.symm; omega), Below.heap_alloc _ _ _ (by simp; omega)]
  have hls : lsF (eqC S.cl) (m + 1) = lsF (eqC S.cl) m ++ [m] := by rw [lsF_succ, if_pos hf]
  have hcl : (rows2 S.cl m 0).length = m := (ints_len _).trans (csF_len _ _)
  have hll : (rows2 S.cl m 1).length = (lsF (eqC S.cl) m).length := ints_len _
  have hb3 : Below W.heap.size W w3 := (h.b.alloc h.b.size _).grown hgr3 (by simp; have := h.b.size; omega) (fun q e => by have := hlow3 q e; have := h.bW; omega)
  have hb4 := hb3.setCell (p := ⟨nb, S.cl m, none⟩) h.bW (.int .i64 (((lsF (eqC S.cl) m).length : Int) + 1))
  have hb5 : Below W.heap.size W w5 := (hb4.alloc hb4.size _).grown hgr (by simp; have := hb3.size; omega) (fun q e => by have := hlow2 q e; have := h.bW; omega)
  have hF3 := Fm.push (k := 1) (x := (m : Int)) (g := g') (cap := cap') h.fm (by simp) (by rw [hll, List.map_append]; exact hown3) hgr3 hat3
  rw [hll] at hF3
  have hF4 : Fm (w3.setCell ⟨nb, S.cl m, none⟩ (.int .i64 (((lsF (eqC S.cl) m).length : Int) + 1))) (nb + 1) [t2, .slice (some ⟨g', 0, none⟩) ((lsF (eqC S.cl) m).length + 1) cap'] (upd (rows2 S.cl m) 1 (rows2 S.cl m 1 ++ [(m : Int)])) := hF3.keep (fun k hk => Below.heap_setCell _ _ _ _ (fun e => by
    have h1 := (hF3.lt k hk).1
    have e' : k = nb := e
    omega))
  have hcl' : (upd (rows2 S.cl m) 1 (rows2 S.cl m 1 ++ [(m : Int)]) 0).length = m := hcl
  have hF5 := Fm.push (k := 0) (x := ((lsF (eqC S.cl) m).length : Int)) (g := g) (cap := cap) hF4 (by simp) (by rw [hcl', List.map_append]; exact hown) hgr (by simpa using hat)
  rw [hcl'] at hF5
  refine ⟨hb5, h.pt.keep (fun k hk => ?_), h.plt, ?_, hF5.congr2 (two ?_ ?_), h.bW⟩
  · have := h.plt k hk
    rw [hold5 k (by omega), Below.heap_setCell _ _ _ _ (by show k ≠ nb; omega), hold3 k (by omega)]
  · rw [hold5 nb (Nat.le_refl _)]
    have h1 : w3.heap[nb]? = _ := (hold3 nb (Nat.le_refl _)).trans h.num
    rw [heap_setCell_same w3 nb _ _ _ _ h1, rowV_set, hls, numK_new hf]
    congr 3
    funext c
    unfold upd
    split <;> rfl
  · show ints (csF (eqC S.cl) m) ++ [_] = ints (csF (eqC S.cl) (m + 1))
    rw [csF_succ, ints_snoc, hf]
  · show ints (lsF (eqC S.cl) m) ++ [_] = ints (lsF (eqC S.cl) (m + 1))
    rw [hls, ints_snoc]
end Go.Proofs.YtgmldkojldlekaaGreatDoor

namespace Go.Proofs.YtgmldkojldlekaaGreatDoor
set_option maxRecDepth 100000
open Go.RowKit
theorem fun_fitsC (a k : Int) (h : funB a k = true) : fitsB 4 (a * 16 + k) = true ∧ 0 ≤ a ∧ a < 1024 ∧ 1 ≤ k ∧ k ≤ 8 := by
  simp [funB] at h
  refine ⟨?_, h⟩
  simp [fitsB]; omega
set_option maxHeartbeats 400000 in
theorem fun_okC (a k : Int) (w : World) (h : funB a k = true) :
    Calls Tryz.prog 110 #[.int .i64 a, .int .i64 k] w fun e w' => e = .returned (.tuple #[.int .u64 (wordOf 4 (a * 16 + k)), .nilIface]) ∧ w' = w := by
  obtain ⟨hf, hb⟩ := fun_fitsC a k h
  go_enter Tryz.func110, Tryz.ntmps110
  go_wp2_with (first | (go_at_call 125; refine (isFunctor_any _ _ _).mono ?_; rintro e w' ⟨rfl, rfl⟩) | (go_at_call 90; refine (pack_ok _ _ _ hf).mono ?_; rintro e w' ⟨rfl, rfl⟩))
  go_ret2
  exact ⟨rfl, rfl⟩
def cwF (ns : List ByteArray) (nd : Nd) (pl : Nat) : Int := if nd.kind = 2 then wordOf 1 (num ns nd.name : Int) else if nd.kind = 3 then wordOf 2 nd.num else if nd.kind = 4 then wordOf 3 pl else wordOf 0 pl
theorem num_1024 {ns : List ByteArray} {s : ByteArray} (h : ns.length ≤ 1024) : num ns s < 1024 := by
  by_cases hi : inL ns s = true
  · have := num_lt hi
    omega
  · unfold num
    rw [if_neg hi]
    omega
section
variable {w : World} {B hb ab tb : Nat} {m : Int} {av : Value} {l : List Int} {tv : Value} {tq : Nat} {ns : List ByteArray} {trv ptv : Value} {n : Int}
set_option maxHeartbeats 4000000 in
theorem ccell_any (h : Hp w B hb ab tb m av l tv tq ns trv ptv n) (nd : Nd) (ao : Option Addr) (k c : Nat) (hs : nd.name.size ≤ 281474976710656) (h3 : nd.kind = 3 → fitsB 2 nd.num = true) (pl : Nat) (hp : nd.kind ≠ 2 → nd.kind ≠ 3 → pl < 65536) :
    Calls Tryz.prog 82 #[.pointer (some ⟨hb, 0, none⟩), .agg #[.int .i64 nd.kind, .string nd.name, .int .i64 nd.num, .slice ao k c], .int .i64 (pl : Int)] w fun e w' => e = .returned (.int .u64 (cwF ns nd pl)) ∧ Below w.heap.size w w' := by
  obtain ⟨kd, nm, nu, args⟩ := nd
  dsimp only at hs h3 hp ⊢
  have hR : Hid (cwF ns ⟨kd, nm, nu, args⟩ pl = if kd = 2 then wordOf 1 (num ns nm : Int) else if kd = 3 then wordOf 2 nu else if kd = 4 then wordOf 3 pl else wordOf 0 pl) := rfl
  generalize cwF ns ⟨kd, nm, nu, args⟩ pl = R at *
  have hb0 := hid (below_alloc w (.cells #[.int .i64 kd, .string nm, .int .i64 nu, .slice ao k c] 117))
  by_cases k2 : kd = 2
  · have hR1 : Hid (R = wordOf 1 (num ns nm : Int)) := show _ = _ by rw [hR.out, if_pos k2]
    have h1 := h.below hb0.out
    obtain ⟨⟨c0, c1, _⟩, c5⟩ := h1.cells
    have hnu := hid (fun w1 (hbb : Below (w.alloc (.cells #[.int .i64 kd, .string nm, .int .i64 nu, .slice ao k c] 117)).heap.size (w.alloc (.cells #[.int .i64 kd, .string nm, .int .i64 nu, .slice ao k c] 117)) w1) => number_tab (h1.below hbb).tb nm hs)
    have hpk := hid (fun w1 => packed_ok 1 (num ns nm : Int) w1 (by have := num_1024 (s := nm) h.tb.len; simp [fitsB]; omega))
    subst k2
    generalize num ns nm = N at *
    clear hR h h1 h3
    generalize wordOf 1 (N : Int) = X at *
    go_enter Tryz.func82, Tryz.ntmps82
    go_wp2
    go_region_with (first
      | (go_at_call 109; refine (hnu.out _ ?_).mono ?_; exact (Below.refl _ _).drew; rintro e w3 ⟨rfl, hb3⟩; have Hb3 := hid (Below.next hb0.out (Below.next (Below.refl _ _).drew hb3)); clear hb3)
      | (go_at_call 62; refine (hpk.out _).mono ?_; rintro e w2 ⟨rfl, hw⟩; replace hw := hw.symm; subst hw))
    all_goals go_wp2
    all_goals go_ret
    all_goals exact ⟨ret_int hR1.out.symm, Hb3.out⟩
  · have d2 : (kd == 2) = false := by simpa using k2
    by_cases k3 : kd = 3
    · have hR1 : Hid (R = wordOf 2 nu) := show _ = _ by rw [hR.out, if_neg k2, if_pos k3]
      have hpk := hid (fun w1 => packed_ok 2 nu w1 (h3 k3))
      subst k3
      clear hR h h3 k2
      generalize wordOf 2 nu = X at *
      go_enter Tryz.func82, Tryz.ntmps82
      go_wp2_with (go_at_call 62; refine (hpk.out _).mono ?_; rintro e w2 ⟨rfl, hw⟩; replace hw := hw.symm; subst hw)
      go_ret
      exact ⟨ret_int hR1.out.symm, hb0.out⟩
    · have d3 : (kd == 3) = false := by simpa using k3
      by_cases k4 : kd = 4
      · have hR1 : Hid (R = wordOf 3 pl) := show _ = _ by rw [hR.out, if_neg k2, if_neg k3, if_pos k4]
        have hpk := hid (fun w1 => packed_ok 3 (pl : Int) w1 (fits_str (hp k2 k3)))
        subst k4
        clear hR h h3 k2 k3
        generalize wordOf 3 (pl : Int) = X at *
        go_enter Tryz.func82, Tryz.ntmps82
        go_wp2_with (go_at_call 62; refine (hpk.out _).mono ?_; rintro e w2 ⟨rfl, hw⟩; replace hw := hw.symm; subst hw)
        go_ret
        exact ⟨ret_int hR1.out.symm, hb0.out⟩
      · have hR1 : Hid (R = wordOf 0 pl) := show _ = _ by rw [hR.out, if_neg k2, if_neg k3, if_neg k4]
        have d4 : (kd == 4) = false := by simpa using k4
        have hpk := hid (fun w1 => packed_ok 0 (pl : Int) w1 (by have := hp k2 k3; simp [fitsB]; omega))
        clear hR h h3 k2 k3 k4
        generalize wordOf 0 (pl : Int) = X at *
        go_enter Tryz.func82, Tryz.ntmps82
        go_wp2_with (go_at_call 62; refine (hpk.out _).mono ?_; rintro e w2 ⟨rfl, hw⟩; replace hw := hw.symm; subst hw)
        go_ret
        exact ⟨ret_int hR1.out.symm, hb0.out⟩
theorem nblk4 {w : World} {b : Nat} {u0 u1 u2 u3 : Value} {T : TypeId} (h : w.heap[b]? = some (.cells #[u0, u1, u2, u3] T)) : (w.cell? ⟨b, 0, none⟩ = some u0 ∧ w.cell? ⟨b, 1, none⟩ = some u1 ∧ w.cell? ⟨b, 2, none⟩ = some u2 ∧ w.cell? ⟨b, 3, none⟩ = some u3) ∧ b < w.heap.size := by
  refine ⟨⟨?_, ?_, ?_, ?_⟩, lt_of_block h⟩ <;> simp [World.cell?, h]
def fwF (ns : List ByteArray) (nd : Nd) : Int := wordOf 4 ((num ns nd.name : Int) * 16 + (nd.args.length : Int))
set_option maxHeartbeats 4000000 in
theorem functor_any (h : Hp w B hb ab tb m av l tv tq ns trv ptv n) (nd : Nd) (ao : Option Addr) (c : Nat) (hs : nd.name.size ≤ 281474976710656) (h1 : 1 ≤ nd.args.length) (h8 : nd.args.length ≤ 8) :
    Calls Tryz.prog 83 #[.pointer (some ⟨hb, 0, none⟩), .agg #[.int .i64 nd.kind, .string nd.name, .int .i64 nd.num, .slice ao nd.args.length c]] w fun e w' => e = .returned (.int .u64 (fwF ns nd)) ∧ Below w.heap.size w w' := by
  obtain ⟨kd, nm, nu, args⟩ := nd
  dsimp only at hs h1 h8 ⊢
  have hb0 := hid (below_alloc w (.cells #[.int .i64 kd, .string nm, .int .i64 nu, .slice ao args.length c] 117))
  have hh1 := h.below hb0.out
  obtain ⟨⟨c0, c1, _⟩, c5⟩ := hh1.cells
  have hnu := hid (fun w1 (hbb : Below (w.alloc (.cells #[.int .i64 kd, .string nm, .int .i64 nu, .slice ao args.length c] 117)).heap.size (w.alloc (.cells #[.int .i64 kd, .string nm, .int .i64 nu, .slice ao args.length c] 117)) w1) => number_tab (hh1.below hbb).tb nm hs)
  have hfn := hid (fun w1 => fun_okC (num ns nm : Int) (args.length : Int) w1 (by have := num_1024 (s := nm) h.tb.len; simp [funB]; omega))
  have hR : Hid (fwF ns ⟨kd, nm, nu, args⟩ = wordOf 4 ((num ns nm : Int) * 16 + (args.length : Int))) := rfl
  generalize fwF ns ⟨kd, nm, nu, args⟩ = R at *
  generalize num ns nm = N at *
  generalize wordOf 4 ((N : Int) * 16 + (args.length : Int)) = X at *
  have z0 : w.heap.size < (w.alloc (.cells #[.int .i64 kd, .string nm, .int .i64 nu, .slice ao args.length c] 117)).heap.size := by simp
  clear h hh1
  go_enter Tryz.func83, Tryz.ntmps83
  go_wp2
  have bx := heap_alloc_new w (.cells #[.int .i64 kd, .string nm, .int .i64 nu, .slice ao args.length c] 117)
  obtain ⟨⟨n0, n1, n2, n3⟩, _⟩ := nblk4 bx
  have HX := hid bx
  clear bx n0 n2
  go_region_held3 (fun w' => w'.cell? ⟨hb, 1, none⟩ = some (.pointer (some ⟨tb, 0, none⟩)) ∧ w'.cell? ⟨w.heap.size, 1, none⟩ = some (.string nm) ∧ w'.cell? ⟨w.heap.size, 3, none⟩ = some (.slice ao args.length c)) (first | exact ⟨c1, n1, n3⟩ | go_keep)
    (first
      | (go_at_call 109; refine (hnu.out _ ?_).mono ?_; exact (Below.refl _ _).drew; rintro e w3 ⟨rfl, hb3⟩; have hb4 := Below.next (Below.refl _ _).drew hb3; have Hb3 := hid (Below.next hb0.out hb4); replace c1 := (hb4.cell (p := ⟨hb, 1, none⟩) c5).trans c1; replace n1 := (hb4.cell (p := ⟨w.heap.size, 1, none⟩) z0).trans n1; replace n3 := (hb4.cell (p := ⟨w.heap.size, 3, none⟩) z0).trans n3; clear hb3 hb4)
      | (go_at_call 110; refine (hfn.out _).mono ?_; rintro e w2 ⟨rfl, hw⟩; replace hw := hw.symm; subst hw))
  all_goals go_wp2
  all_goals go_ret
  all_goals exact ⟨ret_int hR.out.symm, Hb3.out⟩
end
end Go.Proofs.YtgmldkojldlekaaGreatDoor
