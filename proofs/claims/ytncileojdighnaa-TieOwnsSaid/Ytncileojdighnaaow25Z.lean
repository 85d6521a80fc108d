/- refined of package bisim: the classes are those of nodes that unfold alike. -/
import Derived.Deep.CutRange
import Derived.Test.Ytncileojdighnaaow24Z
import Derived.Test.Ytncileojdighnaaow23Z
import Derived.Test.Ytncileojdighnaaow14Z
namespace Go.Proofs.Ytncileojdighnaa
set_option maxRecDepth 100000
open Go.RowKit
theorem Pd.rf {g : Gf} (hg : Good g) {S S' : Ps} {D d : Nat} {F : List (Int → Prop)} {T : Int → Prop} {ms : List Nat} (h : Rf g (fun x => S.cl x.toNat) S.C D F T d) (hD : D ≤ S.C) (hT : ∀ n, n < g.nodes.length → (T (n : Int) ↔ n ∈ ms)) (hms : ∀ m ∈ ms, m < g.nodes.length)
    (k : Pd g.nodes.length S S' (ms.flatMap (fun a : Nat => usrF g.nodes d (a : Int) g.nodes.length))) : Rf g (fun x => S'.cl x.toNat) S'.C D F T (d + 1) := by
  have hN : ∀ x : Int, isN g x → x.toNat < g.nodes.length ∧ ((x.toNat : Nat) : Int) = x := fun x hx => ⟨by have := hx.1; have := hx.2; omega, by have := hx.1; omega⟩
  have hL : ∀ x : Int, isN g x → (x.toNat ∈ ms.flatMap (fun a : Nat => usrF g.nodes d (a : Int) g.nodes.length) ↔ (d < (g.nd x).args.length ∧ T (g.arg x d))) := fun x hx => by
    obtain ⟨h1, h2⟩ := hN x hx
    rw [List.mem_flatMap]
    have hnd : g.nd x = g.nodes.getD x.toNat nd0 := rfl
    constructor
    · rintro ⟨a, ha, hm⟩
      obtain ⟨_, h3, h4⟩ := usrF_mem.1 hm
      refine ⟨by rw [hnd]; exact h3, ?_⟩
      unfold Gf.arg
      rw [hnd, h4]
      exact (hT a (hms a ha)).2 ha
    · rintro ⟨h3, h4⟩
      have h5 := arg_isN hg hx h3
      obtain ⟨h6, h7⟩ := hN _ h5
      refine ⟨(g.arg x d).toNat, (hT _ h6).1 (by rw [h7]; exact h4), usrF_mem.2 ⟨h1, by rw [hnd] at h3; exact h3, ?_⟩⟩
      rw [h7]
      rfl
  refine h.split hD (fun x hx => k.iv.cls _ (hN x hx).1) (fun x hx => k.new _ (hN x hx).1) (fun x y hx hy e => k.fine _ _ (hN x hx).1 (hN y hy).1 e) (fun x y hx hy e => ?_)
  have := k.same _ _ (hN x hx).1 (hN y hy).1 e
  rw [hL x hx, hL y hy] at this
  exact this
theorem Rf.start8 {g : Gf} {cls : Int → Nat} {C : Nat} (hlt : ∀ x, isN g x → cls x < C) (hl : ∀ x y, isN g x → isN g y → (cls x = cls y ↔ labE g x y)) : Rf g cls C 0 [] (fun _ => True) 8 := by
  have h := Rf.start hlt hl
  exact ⟨h.lt, h.lab, h.al, h.old, fun _ _ _ _ _ _ _ _ => Iff.rfl, h.cl, h.sep⟩
def msF (S : Ps) (c : Nat) : List Nat := (List.range (S.be c - S.fi c)).map (fun j => S.nd (S.fi c + j))
theorem msF_len (S : Ps) (c : Nat) : (msF S c).length = S.be c - S.fi c := by simp [msF]
theorem msF_get {S : Ps} {c j : Nat} (h : j < S.be c - S.fi c) : (msF S c).getD j 0 = S.nd (S.fi c + j) := by simp [msF, List.getD, h]
theorem msF_mem {N : Nat} {S : Ps} (h : Iv N S) {c : Nat} (hc : c < S.C) {n : Nat} : n ∈ msF S c ↔ n < N ∧ S.cl n = c := by
  obtain ⟨h1, h2, _⟩ := h.rng c hc
  unfold msF
  rw [List.mem_map]
  constructor
  · rintro ⟨j, hj, rfl⟩
    have hj' := List.mem_range.1 hj
    have h3 := h.np (S.fi c + j) (by omega)
    refine ⟨h3.1, (h.mem _ c h3.1 hc).2 ?_⟩
    rw [h3.2]
    omega
  · rintro ⟨hn, e⟩
    have h3 := (h.mem n c hn hc).1 e
    refine ⟨S.pl n - S.fi c, List.mem_range.2 (by omega), ?_⟩
    have e2 : S.fi c + (S.pl n - S.fi c) = S.pl n := by omega
    rw [e2]
    exact (h.pn n hn).2
theorem msF_nodup {N : Nat} {S : Ps} (h : Iv N S) {c : Nat} (hc : c < S.C) : (msF S c).Nodup := by
  obtain ⟨h1, h2, _⟩ := h.rng c hc
  unfold msF
  rw [List.nodup_iff_pairwise_ne, List.pairwise_map]
  refine List.Pairwise.imp_of_mem (R := fun a b => a < b) ?_ List.pairwise_lt_range
  intro a b ha hb hab e
  have ha' := List.mem_range.1 ha
  have hb' := List.mem_range.1 hb
  have h3 := (h.np (S.fi c + a) (by omega)).2
  have h4 := (h.np (S.fi c + b) (by omega)).2
  rw [e] at h3
  omega
theorem users_nodup (l : List Nd) (k N : Nat) : ∀ ms : List Nat, ms.Nodup → (ms.flatMap (fun a : Nat => usrF l k (a : Int) N)).Nodup
  | [], _ => by simp
  | m :: r, h => by
    have h1 := List.nodup_cons.1 h
    rw [List.flatMap_cons]
    refine List.nodup_append.2 ⟨usrF_nodup l k m N, users_nodup l k N r h1.2, fun a ha b hb e => ?_⟩
    subst e
    obtain ⟨m', hm', hb'⟩ := List.mem_flatMap.1 hb
    have h2 := (usrF_mem.1 ha).2.2
    have h3 := (usrF_mem.1 hb').2.2
    have h4 : m = m' := by omega
    exact h1.1 (by rw [h4]; exact hm')
theorem users_lt {l : List Nd} {k N : Nat} {ms : List Nat} : ∀ n ∈ ms.flatMap (fun a : Nat => usrF l k (a : Int) N), n < N := fun n hn => by
  obtain ⟨_, _, h⟩ := List.mem_flatMap.1 hn
  exact (usrF_mem.1 h).1
theorem Ub.ru {w2 w' : World} {B ub N k : Nat} {b : Nat → Nat} {vs : Nat → Nat → Value} {F : Nat → Nat → List Nat} (h : Ub w2 B ub N b vs F) (hk : k < 8) (hreg : ∀ q, B ≤ q → q < w2.heap.size → w'.heap[q]? = w2.heap[q]?) : Ru w' (b k) N (vs k) (F k) ∧ w'.cell? ⟨ub, k, none⟩ = some (.slice (some ⟨b k, 0, none⟩) N N) := by
  have hr : w'.heap[b k]? = some (.cells (rowV N (vs k)) 27 (0, 0)) := by
    rw [hreg _ (h.ge.2 k hk) (lt_of_block (h.row k hk))]
    exact h.row k hk
  have ht : w'.heap[ub]? = some (.cells (rowV 8 (fun k => .slice (some ⟨b k, 0, none⟩) N N)) 60 (0, 0)) := by
    rw [hreg _ h.ge.1 (lt_of_block h.top)]
    exact h.top
  refine ⟨fun a ha => ⟨?_, ?_⟩, ?_⟩
  · rw [cell_of_row w' _ a _ _ _ hr]
    exact rowV_at _ ha
  · exact own_read (B := B) (ints_len _) (own_block (h.own k a hk ha) (fun q e => hreg q ((h.own k a hk ha).lt q e).1 ((h.own k a hk ha).lt q e).2))
  · rw [cell_of_row w' _ k _ _ _ ht]
    exact rowV_at _ hk
structure Rq (W w1 w2 wr : World) (pb N : Nat) (v0 v1 v2 v3 v4 v5 : Value) (S : Ps) : Prop where
  pt : Pt wr W.heap.size pb v0 v1 v2 v3 v4 v5 (S.rows N)
  iv : Iv N S
  mq0 : ∀ c, c < S.C → S.mq c = 0
  reg : ∀ q, w1.heap.size ≤ q → q < w2.heap.size → wr.heap[q]? = w2.heap[q]?
  far : ∀ k ∈ pb :: blocks [v0, v1, v2, v3, v4, v5], k < w1.heap.size ∨ w2.heap.size ≤ k
  sz : w2.heap.size ≤ wr.heap.size
  b : Below W.heap.size W wr
theorem Rq.below {W w1 w2 wr wr' : World} {pb N : Nat} {v0 v1 v2 v3 v4 v5 : Value} {S : Ps} (h : Rq W w1 w2 wr pb N v0 v1 v2 v3 v4 v5 S) (hb : Below wr.heap.size wr wr') : Rq W w1 w2 wr' pb N v0 v1 v2 v3 v4 v5 S :=
  ⟨h.pt.below hb, h.iv, h.mq0, fun q h1 h2 => (hb.block q (by have := h.sz; omega)).trans (h.reg q h1 h2), h.far, Nat.le_trans h.sz hb.size, Below.next h.b hb⟩
theorem Ch.reg {w w' : World} {K : List Nat} {a b : Nat} (h : Ch K w w') (hK : ∀ k ∈ K, k < a ∨ b ≤ k) (hb : b ≤ w.heap.size) : ∀ q, a ≤ q → q < b → w'.heap[q]? = w.heap[q]? := fun q h1 h2 => h.far q (by omega) (fun hm => by
  have := hK q hm
  omega)
theorem away_six {pb a b H : Nat} {v0 v1 v2 v3 v4 v5 u3 u4 u5 : Value} (h : ∀ k ∈ pb :: blocks [v0, v1, v2, v3, v4, v5], k < a ∨ b ≤ k) (hH : b ≤ H) (hk : ∀ k ∈ blocks [u3, u4, u5], k ∈ blocks [v0, v1, v2, v3, v4, v5] ∨ H ≤ k) : ∀ k ∈ pb :: blocks [v0, v1, v2, u3, u4, u5], k < a ∨ b ≤ k := fun k hm => by
  rcases List.mem_cons.1 hm with h1 | h1
  · exact h k (by rw [h1]; simp)
  · refine blocks_six (v3 := v3) (v4 := v4) (v5 := v5) (P := fun k => k < a ∨ b ≤ k) h1 (fun k h2 => h k (List.mem_cons_of_mem _ h2)) (fun k h2 => ?_)
    rcases hk k h2 with h3 | h3
    · exact h k (List.mem_cons_of_mem _ h3)
    · exact Or.inr (by omega)
theorem Rq.next {W w1 w2 wr wr' : World} {pb N : Nat} {v0 v1 v2 v3 v4 v5 u3 u4 u5 : Value} {S S' : Ps} {L : List Nat} (h : Rq W w1 w2 wr pb N v0 v1 v2 v3 v4 v5 S) (hP : Pt wr' W.heap.size pb v0 v1 v2 u3 u4 u5 (S'.rows N)) (hd : Pd N S S' L) (hC : Ch (pb :: blocks [v0, v1, v2, v3, v4, v5]) wr wr') (hk : ∀ k ∈ blocks [u3, u4, u5], k ∈ blocks [v0, v1, v2, v3, v4, v5] ∨ wr.heap.size ≤ k) : Rq W w1 w2 wr' pb N v0 v1 v2 u3 u4 u5 S' :=
  ⟨hP, hd.iv, hd.mk0, fun q h1 h2 => (hC.reg h.far h.sz q h1 h2).trans (h.reg q h1 h2), away_six h.far h.sz hk, Nat.le_trans h.sz hC.size, Ch.below h.b hC (fun k hk' => by
    rcases List.mem_cons.1 hk' with h1 | h1
    · rw [h1]
      exact h.pt.ge
    · exact (h.pt.fm.lt k h1).1)⟩
end Go.Proofs.Ytncileojdighnaa

namespace Go.Proofs.Ytncileojdighnaa
set_option maxRecDepth 100000
open Go.RowKit
def Ro (W w1 w2 wr : World) (g : Gf) (pb : Nat) (v0 v1 v2 : Value) (c d : Nat) (T : Int → Prop) : Prop :=
  ∃ v3 v4 v5 S F, Rq W w1 w2 wr pb g.nodes.length v0 v1 v2 v3 v4 v5 S ∧ c ≤ S.C ∧ Rf g (fun x => S.cl x.toNat) S.C c F T d
theorem Pd.rf2 {g : Gf} (hg : Good g) {N : Nat} (hNN : g.nodes.length = N) {S S' : Ps} {D d : Nat} {F : List (Int → Prop)} {T : Int → Prop} {ms : List Nat} (h : Rf g (fun x => S.cl x.toNat) S.C D F T d) (hD : D ≤ S.C) (hT : ∀ n, n < N → (T (n : Int) ↔ n ∈ ms)) (hms : ∀ m ∈ ms, m < N)
    (k : Pd N S S' (ms.flatMap (fun a : Nat => usrF g.nodes d (a : Int) N))) : Rf g (fun x => S'.cl x.toNat) S'.C D F T (d + 1) := by
  subst hNN
  exact k.rf hg h hD hT hms
def Rk (W w1 w2 w0 w3 wr : World) (g : Gf) (pb N : Nat) (v0 v1 v2 : Value) (c k : Nat) (F : List (Int → Prop)) (T : Int → Prop) : Prop :=
  ∃ v3 v4 v5 S, Rq W w1 w2 wr pb N v0 v1 v2 v3 v4 v5 S ∧ c + 1 ≤ S.C ∧ Rf g (fun x => S.cl x.toNat) S.C (c + 1) F T k ∧ (∀ q ∈ pb :: blocks [v0, v1, v2, v3, v4, v5], q < w0.heap.size ∨ w3.heap.size ≤ q) ∧ (∀ q, w0.heap.size ≤ q → q < w3.heap.size → wr.heap[q]? = w3.heap[q]?) ∧ w3.heap.size ≤ wr.heap.size
set_option maxHeartbeats 4000000 in
theorem refined_any {W : World} {nv : Value} {g : Gf} (hn : Rn W nv g.nodes) (hg : Good g) (hS : Sized g) :
    Calls Try.prog 67 #[nv] W fun e w' => (∃ pb v0 v1 v2 v3 v4 v5 S, e = .returned (.pointer (some ⟨pb, 0, none⟩)) ∧ Pt w' W.heap.size pb v0 v1 v2 v3 v4 v5 (S.rows g.nodes.length) ∧ Iv g.nodes.length S ∧ ∀ x y, isN g x → isN g y → (S.cl x.toNat = S.cl y.toNat ↔ Al g x y)) ∧ Below W.heap.size W w' := by
  have hnl := hg.nodes
  have hl1 := labelled_any hn hg hS
  have hu1 := hid (fun w1 (hb : Below W.heap.size W w1) => users_any (hn.below hb) hg)
  have hd8 : Hid (∀ x, isN g x → (g.nd x).args.length ≤ 8) := fun x hx => (hg.args hx.1 hx.2).2
  have hHg := hid hg
  generalize hNN : g.nodes.length = N at *
  go_enter Try.func67, Try.ntmps67
  go_wp2_with (first
    | (go_at_call 88; refine hl1.mono ?_; rintro e w1 ⟨⟨pb, v0, v1, v2, v3, v4, v5, S0, rfl, hP0, hI0, hm0, hlv⟩, hb1⟩)
    | (go_at_call 89; refine (hu1.out w1 hb1).mono ?_; rintro e w2 ⟨⟨vs, rfl, hUb⟩, hb2⟩))
  have hst : Hid (Ro W w1 w2 w2 g pb v0 v1 v2 0 8 (fun _ => True)) := by
    refine ⟨v3, v4, v5, S0, [], ⟨by rw [hNN]; exact hP0.below hb2, by rw [hNN]; exact hI0, hm0, fun _ _ _ => rfl, fun k hk => Or.inl (hP0.lt k hk), Nat.le_refl _, Below.next hb1 hb2⟩, Nat.zero_le _, Rf.start8 (fun x hx => hI0.cls _ (by have := hx.1; have := hx.2; omega)) (fun x y hx hy => ?_)⟩
    have h1 := hx.1
    have h2 := hx.2
    have h3 := hy.1
    have h4 := hy.2
    rw [hlv _ _ (by omega) (by omega), lv_iff]
    have e1 : ((x.toNat : Nat) : Int) = x := by omega
    have e2 : ((y.toNat : Nat) : Int) = y := by omega
    rw [e1, e2]
  have hHU := hid hUb
  have hb12 := hb2.size
  clear hl1 hu1 hP0 hI0 hm0 hlv hUb hb1 hb2
  go_loopw [5] (fun i wr => ∃ c : Nat, i = .int .i64 c ∧ c ≤ N ∧ Hid (∃ T, Ro W w1 w2 wr g pb v0 v1 v2 c 8 T)) (fun i _ => N - (intOf i).toNat)
  case atStart => exact ⟨0, rfl, Nat.zero_le _, ⟨_, hst.out⟩⟩
  case round =>
    clear hst
    obtain ⟨c, rfl, hcN, hRo⟩ := hrel
    obtain ⟨T, v3, v4, v5, S, F, hRq, hcS, hRf⟩ := hRo.out
    rw [hNN] at hRq
    have hCN := hRq.iv.le
    have e0 : (S.rows N 0).length = N := rowF_len _ _
    have e3 : (S.rows N 3).length = S.C := rowF_len _ _
    have e4 : (S.rows N 4).length = S.C := rowF_len _ _
    have z3 := (blk6 hRq.pt.blk).1.2.2.2.1
    by_cases hlt : c < S.C
    · obtain ⟨hf1, hf2, _⟩ := hRq.iv.rng c hlt
      obtain ⟨q0, c0, hv0, _⟩ := (own_form (hRq.pt.fm.own 0 (by simp))).resolve_left (fun h => by omega)
      obtain ⟨q3, c3, hv3, _⟩ := (own_form (hRq.pt.fm.own 3 (by simp))).resolve_left (fun h => by omega)
      obtain ⟨q4, c4, hv4, _⟩ := (own_form (hRq.pt.fm.own 4 (by simp))).resolve_left (fun h => by omega)
      have hv0' : v0 = .slice (some ⟨q0, 0, none⟩) N c0 := by
        rw [e0] at hv0
        exact hv0
      have hv3' : v3 = .slice (some ⟨q3, 0, none⟩) S.C c3 := by
        rw [e3] at hv3
        exact hv3
      have hv4' : v4 = .slice (some ⟨q4, 0, none⟩) S.C c4 := by
        rw [e4] at hv4
        exact hv4
      have hcap : N ≤ c0 := by
        have h1 := hRq.pt.fm.own 0 (by simp)
        rw [e0] at h1
        have h2 : wr.ownsRow W.heap.size 3 1 v0 N ((S.rows N 0).map (Value.int .i64)) := h1
        rw [hv0'] at h2
        exact own_cap7 h2
      have z0 := (blk6 hRq.pt.blk).1.1
      have z4 := (blk6 hRq.pt.blk).1.2.2.2.2.1
      have k3 := (hRq.pt.fm.cellN (i := 3) (j := c) (by simp) hv3' e3 hlt).1
      have k4 := (hRq.pt.fm.cellN (i := 4) (j := c) (by simp) hv4' e4 hlt).1
      have g3 : (S.rows N 3).getD c 0 = (S.fi c : Int) := rowF_get _ hlt
      have g4 : (S.rows N 4).getD c 0 = (S.be c : Int) := rowF_get _ hlt
      rw [g3] at k3
      rw [g4] at k4
      rw [hv0'] at z0
      rw [hv3'] at z3
      rw [hv4'] at z4
      have hmc : ∀ j, j < (ints (msF S c)).length → wr.cell? ⟨q0, S.fi c + j, none⟩ = some (.int .i64 ((ints (msF S c)).getD j 0)) := fun j hj => by
        rw [ints_len] at hj
        rw [ints_get hj]
        rw [msF_len] at hj
        rw [msF_get hj, (hRq.pt.fm.cellN (i := 0) (j := S.fi c + j) (by simp) hv0' e0 (by omega)).1]
        have g0 : (S.rows N 0).getD (S.fi c + j) 0 = (S.nd (S.fi c + j) : Int) := rowF_get _ (by omega)
        rw [g0]
      have hml : (ints (msF S c)).length = S.be c - S.fi c := by rw [ints_len, msF_len]
      have hclo := hid (fun cc => iclone_any (w := wr.drew) (c := cc) hmc (by rw [hml]; omega))
      rw [hml] at hclo
      have hne : ¬ c0 = S.fi c := by omega
      have hne2 : S.fi c < c0 := by omega
      have hHR := hid hRq
      have hHF := hid hRf
      have hi1 : (c : Int) < (S.C : Int) := by omega
      have hi2 : S.be c ≤ c0 := by omega
      have hi3 : S.fi c ≤ S.be c := by omega
      clear hRo hRq hRf hv0 hv3 hv4 hv0' hv3' hv4' g3 g4 e0 e3 e4 hmc hml
      generalize hfi : S.fi c = fi at *
      generalize hbe : S.be c = be at *
      go_wp2
      go_cut [6] from 22 to 52 (fun mv wc => Hid (wc.ownsRow wr.heap.size 3 1 mv (be - fi) ((ints (msF S c)).map (Value.int .i64)) ∧ Below wr.heap.size wr wc))
      case first =>
        go_region_law (first
          | (go_simp; go_at_call 90; refine (hclo.out _).mono ?_; rintro e w3 ⟨mv, rfl, hmo, hb3⟩))
        all_goals go_wp2_with fail
        all_goals go_meet
        all_goals exact ⟨hmo, undr1 hb3⟩
      case rest =>
        obtain ⟨hmo', hb3'⟩ := hcut.out
        obtain ⟨w0, hw0⟩ : ∃ w0, wr = w0 := ⟨_, rfl⟩
        rw [hw0] at hHR hb3' hmo'
        have hk0 : Hid (Rk W w1 w2 w0 wc wc g pb N v0 v1 v2 c 0 (F ++ [T]) (fun x => S.cl x.toNat = c)) := by
          refine ⟨v3, v4, v5, S, hHR.out.below hb3', hlt, hHF.out.next hd8.out, fun q hq => Or.inl (hHR.out.pt.lt q hq), fun _ _ _ => rfl, Nat.le_refl _⟩
        have hmem := hid (fun n => msF_mem hHR.out.iv hlt (n := n))
        have hnod := hid (msF_nodup hHR.out.iv hlt)
        have hlen : Hid ((msF S c).length ≤ 4500) := fewer (C := 4500) hnod.out (fun n hn => by
          have := (hmem.out n).1 hn
          omega)
        have hml2 : Hid ((ints (msF S c)).length = be - fi) := by
          show _ = _
          rw [ints_len, msF_len, hfi, hbe]
        have hHmo := hid hmo'
        clear hb3' hmo' hw0 hHR hHF hclo z0 z3 z4 k3 k4 hcut
        go_wp2
        go_loopw [44] (fun i wr => ∃ k : Nat, k ≤ 8 ∧ i = .int .i64 k ∧ Hid (Rk W w1 w2 w0 wc wr g pb N v0 v1 v2 c k (F ++ [T]) (fun x => S.cl x.toNat = c))) (fun i _ => 8 - (intOf i).toNat)
        case atStart => exact ⟨0, by omega, rfl, hk0⟩
        case round =>
          clear hk0
          obtain ⟨k, hk, rfl, hRk⟩ := hrel
          by_cases hltk : k < 8
          · obtain ⟨x3, x4, x5, S1, hRq, hcS1, hRf, hfar2, hreg2, hsz2⟩ := hRk.out
            obtain ⟨hru, d1⟩ := hHU.out.ru hltk hRq.reg
            have hcall := hid (part_any (F := fun a => usrF g.nodes k (a : Int) N) (V := vs k) (cu := N) (mv := u6) (ms := msF S c) hRq.pt hRq.iv hRq.mq0 (by omega) hRq.b.size (fun w' hC => own_read (B := w0.heap.size) hml2.out (own_block hHmo.out (fun q e => (hC.reg hfar2 hsz2 q (hHmo.out.lt q e).1 (hHmo.out.lt q e).2).trans (hreg2 q (hHmo.out.lt q e).1 (hHmo.out.lt q e).2)))) (fun w' hC => (hHU.out.ru hltk (fun q h1 h2 => (hC.reg hRq.far hRq.sz q h1 h2).trans (hRq.reg q h1 h2))).1) hlen.out (fun m hm => ((hmem.out m).1 hm).1) (users_nodup g.nodes k N _ hnod.out) users_lt)
            have hend : Hid (∀ w5 u3 u4 u5 S', Pt w5 W.heap.size pb v0 v1 v2 u3 u4 u5 (S'.rows N) → Pd N S1 S' ((msF S c).flatMap (fun a : Nat => usrF g.nodes k (a : Int) N)) → Ch (pb :: blocks [v0, v1, v2, x3, x4, x5]) wr w5 → (∀ q ∈ blocks [u3, u4, u5], q ∈ blocks [v0, v1, v2, x3, x4, x5] ∨ wr.heap.size ≤ q) → Rk W w1 w2 w0 wc w5 g pb N v0 v1 v2 c (k + 1) (F ++ [T]) (fun x => S.cl x.toNat = c)) := fun w5 u3 u4 u5 S' h1 h2 h3 h4 =>
              ⟨u3, u4, u5, S', hRq.next h1 h2 h3 h4, Nat.le_trans hcS1 h2.le, h2.rf2 hHg.out hNN hRf hcS1 (fun n hn => by
                show S.cl ((n : Int).toNat) = c ↔ _
                rw [Int.toNat_natCast, hmem.out n]
                exact ⟨fun e => ⟨hn, e⟩, fun e => e.2⟩) (fun m hm => ((hmem.out m).1 hm).1), away_six hfar2 hsz2 h4, fun q h5 h6 => (h3.reg hfar2 hsz2 q h5 h6).trans (hreg2 q h5 h6), Nat.le_trans hsz2 h3.size⟩
            have hki : (k : Int) < 8 := by omega
            clear hRk hRq hRf hfar2 hreg2 hsz2 hru
            go_wp2_with (go_at_call 91; refine hcall.out.mono ?_; rintro e w5 ⟨rfl, u3, u4, u5, S', hP5, hD5, hC5, hk5⟩)
            go_roundw
            case rel => exact ⟨k + 1, by omega, congrArg (Value.int .i64) (by omega), hend.out w5 u3 u4 u5 S' hP5 hD5 hC5 hk5⟩
            case measure => simp [intOf]; omega
          · obtain rfl : k = 8 := by omega
            have hout : Hid (c + 1 ≤ N ∧ ∃ T, Ro W w1 w2 wr g pb v0 v1 v2 (c + 1) 8 T) := by
              obtain ⟨x3, x4, x5, S1, hRq, hcS1, hRf, _⟩ := hRk.out
              exact ⟨Nat.le_trans hcS1 hRq.iv.le, _, x3, x4, x5, S1, _, by rw [hNN]; exact hRq, hcS1, hRf⟩
            have hc1 := hout.out.1
            clear hRk
            go_wp2
            go_roundw
            case rel => first | exact ⟨c + 1, congrArg (Value.int .i64) (by omega), hc1, hout.out.2⟩ | ((repeat apply Exists.intro); refine ⟨⟨c + 1, ?_, hc1, hout.out.2⟩, rfl⟩; exact congrArg (Value.int .i64) (by omega))
            case measure => simp [intOf]; omega
    · obtain rfl : c = S.C := by omega
      have hci : ¬ ((S.C : Int) < (S.C : Int)) := by omega
      obtain ⟨a3, c3, hv3⟩ := own_sl (hRq.pt.fm.own 3 (by simp))
      have hv3' : v3 = .slice a3 S.C c3 := by
        rw [e3] at hv3
        exact hv3
      rw [hv3'] at z3
      have hHR := hid hRq
      have hHF := hid hRf
      clear hRo hRq hRf hv3 hv3' e0 e3 e4
      go_wp2
      go_ret
      exact ⟨⟨pb, rfl, v0, v1, v2, v3, v4, v5, S, hHR.out.pt, hHR.out.iv, hHF.out.last hHg.out (Nat.le_refl _) hd8.out⟩, hHR.out.b⟩
end Go.Proofs.Ytncileojdighnaa
