/- part of package bisim: all classes are split by whether their nodes have one of the members at one place. -/
import Derived.Test.YtlibjdilicfcdaaGreatDoornb16Z
import Derived.Test.YtlibjdilicfcdaaGreatDoornb17Z
import Derived.Test.YtlibjdilicfcdaaGreatDoornb04Z
import Derived.Test.YtlibjdilicfcdaaGreatDoornb06Z
namespace Go.Proofs.YtlibjdilicfcdaaGreatDoor
set_option maxRecDepth 100000
open Go.RowKit
def ints (l : List Nat) : List Int := l.map (fun n : Nat => (n : Int))
theorem ints_len (l : List Nat) : (ints l).length = l.length := by simp [ints]
theorem ints_get {l : List Nat} {k : Nat} (h : k < l.length) : (ints l).getD k 0 = ((l.getD k 0 : Nat) : Int) := by simp [ints, List.getD, h]
theorem ints_snoc (l : List Nat) (n : Nat) : ints (l ++ [n]) = ints l ++ [(n : Int)] := by simp [ints]
theorem ntake_snoc {l : List Nat} {k : Nat} (h : k < l.length) : l.take (k + 1) = l.take k ++ [l.getD k 0] := by
  rw [List.take_succ_eq_append_getElem h]
  simp [List.getD, h]
theorem nget_mem {l : List Nat} {k : Nat} (h : k < l.length) : l.getD k 0 ∈ l := by simp [List.getD, h]
theorem fewer {C : Nat} {T : List Nat} (h : T.Nodup) (hr : ∀ c ∈ T, c < C) : T.length ≤ C := by
  have := pigeon C (ints T) (by
    unfold ints
    rw [List.nodup_iff_pairwise_ne, List.pairwise_map]
    exact (List.nodup_iff_pairwise_ne.1 h).imp (fun h' e => h' (by omega))) (fun x hx => by
    obtain ⟨c, hc, rfl⟩ := List.mem_map.1 hx
    have := hr c hc
    omega)
  rwa [ints_len] at this
theorem Pt.lt {w : World} {B pb : Nat} {v0 v1 v2 v3 v4 v5 : Value} {f : Nat → List Int} (h : Pt w B pb v0 v1 v2 v3 v4 v5 f) : ∀ k ∈ pb :: blocks [v0, v1, v2, v3, v4, v5], k < w.heap.size := fun k hk => by
  rcases List.mem_cons.1 hk with h1 | h1
  · rw [h1]
    exact lt_of_block h.blk
  · exact (h.fm.lt k h1).2
theorem Pt.keep {w w' : World} {B pb : Nat} {v0 v1 v2 v3 v4 v5 : Value} {f : Nat → List Int} (h : Pt w B pb v0 v1 v2 v3 v4 v5 f) (hk : ∀ k ∈ pb :: blocks [v0, v1, v2, v3, v4, v5], w'.heap[k]? = w.heap[k]?) : Pt w' B pb v0 v1 v2 v3 v4 v5 f :=
  ⟨by rw [hk pb (by simp)]; exact h.blk, h.fm.keep (fun k hk' => hk k (List.mem_cons_of_mem _ hk')), h.ge⟩
theorem Ri.at {w : World} {a : Option Addr} {n c : Nat} {l : List Int} (h : Ri w (.slice a n c) l) {j : Nat} (hj : j < l.length) : ∃ b o, a = some ⟨b, o, none⟩ ∧ w.cell? ⟨b, o + j, none⟩ = some (.int .i64 (l.getD j 0)) := by
  obtain ⟨a', c', e, h⟩ := h
  injection e with e1 _ _
  subst e1
  exact h j hj
theorem own_read {w : World} {B n : Nat} {v : Value} {l : List Int} (hl : l.length = n) (h : w.ownsRow B 3 1 v n (l.map (Value.int .i64))) : Ri w v l := by
  subst hl
  obtain ⟨a, c, rfl⟩ := own_sl h
  exact Ri.ofOwn h
def Ru (w : World) (bu N : Nat) (V : Nat → Value) (F : Nat → List Nat) : Prop := ∀ a, a < N → w.cell? ⟨bu, a, none⟩ = some (V a) ∧ Ri w (V a) (ints (F a))
theorem flat_prefix {ms : List Nat} {F : Nat → List Nat} {k j : Nat} (hk : k < ms.length) (hj : j < (F (ms.getD k 0)).length) : (ms.take k).flatMap F ++ (F (ms.getD k 0)).take j ++ [(F (ms.getD k 0)).getD j 0] <+: ms.flatMap F := by
  have h1 : (ms.take k).flatMap F ++ (F (ms.getD k 0)).take j ++ [(F (ms.getD k 0)).getD j 0] = (ms.take k).flatMap F ++ (F (ms.getD k 0)).take (j + 1) := by
    rw [ntake_snoc hj, List.append_assoc]
  have h2 : (ms.take (k + 1)).flatMap F = (ms.take k).flatMap F ++ F (ms.getD k 0) := by
    rw [ntake_snoc hk, List.flatMap_append]
    simp
  have h3 : ms.flatMap F = (ms.take (k + 1)).flatMap F ++ (ms.drop (k + 1)).flatMap F := by rw [← List.flatMap_append, List.take_append_drop]
  rw [h1, h3, h2, List.append_assoc]
  exact (List.prefix_append_right_inj _).2 ((List.take_prefix _ _).trans (List.prefix_append _ _))
theorem flat_nodup {ms : List Nat} {F : Nat → List Nat} {k : Nat} (hk : k < ms.length) (h : (ms.flatMap F).Nodup) : (F (ms.getD k 0)).Nodup := by
  have h2 : (ms.take (k + 1)).flatMap F = (ms.take k).flatMap F ++ F (ms.getD k 0) := by
    rw [ntake_snoc hk, List.flatMap_append]
    simp
  have h3 : ms.flatMap F = (ms.take (k + 1)).flatMap F ++ (ms.drop (k + 1)).flatMap F := by rw [← List.flatMap_append, List.take_append_drop]
  rw [h3, h2] at h
  exact (List.nodup_append.1 (List.nodup_append.1 h).1).2.1
theorem flat_next {ms : List Nat} {F : Nat → List Nat} {k : Nat} (hk : k < ms.length) : (ms.take k).flatMap F ++ (F (ms.getD k 0)).take (F (ms.getD k 0)).length = (ms.take (k + 1)).flatMap F := by
  rw [ntake_snoc hk, List.flatMap_append, List.take_of_length_le (Nat.le_refl _)]
  simp
structure Pm (w wr : World) (B pb N : Nat) (v0 v1 v2 v3 v4 v5 : Value) (S S1 : Ps) (L : List Nat) (tv : Value) (T : List Nat) : Prop where
  pt : Pt wr B pb v0 v1 v2 v3 v4 v5 (S1.rows N)
  mks : Mk N S S1 L T
  own : wr.ownsRow w.heap.size 3 1 tv T.length ((ints T).map (Value.int .i64))
  ch : Ch (blocks [v0, v1, v2, v3, v4, v5]) w wr
theorem Pm.mark {w wr w1 : World} {B pb N n : Nat} {v0 v1 v2 v3 v4 v5 tv : Value} {S S1 : Ps} {L T : List Nat} (h : Pm w wr B pb N v0 v1 v2 v3 v4 v5 S S1 L tv T) (hw : ∀ k ∈ blocks [v0, v1, v2, v3, v4, v5], k < w.heap.size) (hn : n < N) (hL : n ∉ L) (h1 : S1.mq (S1.cl n) ≠ 0)
    (hP : Pt w1 B pb v0 v1 v2 v3 v4 v5 ((S1.mark n).rows N)) (hC : Ch (blocks [v0, v1, v2, v3, v4, v5]) wr w1) : Pm w w1 B pb N v0 v1 v2 v3 v4 v5 S (S1.mark n) (L ++ [n]) tv T := by
  have hm := h.mks.step hn hL
  rw [if_neg h1] at hm
  refine ⟨hP, hm, own_block h.own (fun k e => hC.far k (h.own.lt k e).2 (fun hm' => ?_)), h.ch.trans hC (fun k hk => Or.inl hk)⟩
  have := (h.own.lt k e).1
  have := hw k hm'
  omega
theorem Pm.touch {w wr w1 w2 : World} {B pb N n g cap : Nat} {o : Obj} {v0 v1 v2 v3 v4 v5 tv : Value} {S S1 : Ps} {L T : List Nat} (h : Pm w wr B pb N v0 v1 v2 v3 v4 v5 S S1 L tv T) (hw : ∀ k ∈ blocks [v0, v1, v2, v3, v4, v5], k < w.heap.size) (hn : n < N) (hL : n ∉ L) (h1 : S1.mq (S1.cl n) = 0)
    (hgr : (wr.alloc o).grownBy w1 tv.ownBlock) (hown : w1.ownsRow w.heap.size 3 1 (.slice (some ⟨g, 0, none⟩) (T.length + 1) cap) (T.length + 1) ((ints T).map (Value.int .i64) ++ [.int .i64 ((S1.cl n : Nat) : Int)]))
    (hP : Pt w2 B pb v0 v1 v2 v3 v4 v5 ((S1.mark n).rows N)) (hC : Ch (blocks [v0, v1, v2, v3, v4, v5]) w1 w2) : Pm w w2 B pb N v0 v1 v2 v3 v4 v5 S (S1.mark n) (L ++ [n]) (.slice (some ⟨g, 0, none⟩) (T.length + 1) cap) (T ++ [S1.cl n]) := by
  have hm := h.mks.step hn hL
  rw [if_pos h1] at hm
  refine ⟨hP, hm, ?_, ((h.ch.alloc o).grown hgr (fun r e => Or.inr (h.own.lt r e).1)).trans hC (fun k hk => Or.inl hk)⟩
  rw [ints_snoc, List.map_append, List.length_append, List.length_singleton]
  refine own_block hown (fun k e => hC.far k (hown.lt k e).2 (fun hm' => ?_))
  have := (hown.lt k e).1
  have := hw k hm'
  omega
theorem Pm.grown {w wr w1 : World} {B pb N : Nat} {o : Obj} {v0 v1 v2 v3 v4 v5 tv : Value} {S S1 : Ps} {L T : List Nat} (h : Pm w wr B pb N v0 v1 v2 v3 v4 v5 S S1 L tv T) (hw : ∀ k ∈ pb :: blocks [v0, v1, v2, v3, v4, v5], k < w.heap.size) (hgr : (wr.alloc o).grownBy w1 tv.ownBlock) : Pt w1 B pb v0 v1 v2 v3 v4 v5 (S1.rows N) :=
  h.pt.keep (fun k hk => by
    have h1 := hw k hk
    have h2 := h.ch.size
    rw [hgr.block k (by simp; omega) (fun e => by
      have := (h.own.lt k e.symm).1
      omega), Below.heap_alloc _ _ _ (by omega)])
def Pq (w1 wr : World) (B pb N : Nat) (v0 v1 v2 v3 v4 v5 : Value) (S1 : Ps) (T : List Nat) : Prop :=
  ∃ u3 u4 u5 S2, Pt wr B pb v0 v1 v2 u3 u4 u5 (S2.rows N) ∧ Sp N S1 S2 T ∧ Ch (pb :: blocks [v0, v1, v2, v3, v4, v5]) w1 wr ∧ ∀ k ∈ blocks [u3, u4, u5], k ∈ blocks [v0, v1, v2, v3, v4, v5] ∨ w1.heap.size ≤ k
theorem blocks_six {v0 v1 v2 v3 v4 v5 u3 u4 u5 : Value} {k : Nat} {P : Nat → Prop} (h : k ∈ blocks [v0, v1, v2, u3, u4, u5]) (h1 : ∀ k ∈ blocks [v0, v1, v2, v3, v4, v5], P k) (h2 : ∀ k ∈ blocks [u3, u4, u5], P k) : P k := by
  obtain ⟨v, hv, e⟩ := List.mem_filterMap.1 h
  have hv' : v ∈ [v0, v1, v2] ∨ v ∈ [u3, u4, u5] := List.mem_append.1 (show v ∈ [v0, v1, v2] ++ [u3, u4, u5] from hv)
  rcases hv' with h3 | h3
  · exact h1 k (List.mem_filterMap.2 ⟨v, List.mem_append_left [v3, v4, v5] h3, e⟩)
  · exact h2 k (List.mem_filterMap.2 ⟨v, h3, e⟩)
theorem Pq.step {w1 wr w2 : World} {B pb N c : Nat} {v0 v1 v2 v3 v4 v5 u3 u4 u5 t3 t4 t5 : Value} {S1 S2 : Ps} {T : List Nat} (hs : Sp N S1 S2 T) (hch : Ch (pb :: blocks [v0, v1, v2, v3, v4, v5]) w1 wr) (hk : ∀ k ∈ blocks [u3, u4, u5], k ∈ blocks [v0, v1, v2, v3, v4, v5] ∨ w1.heap.size ≤ k)
    (hc : c < S1.C) (hT : c ∉ T) (hm : 0 < S1.mq c) (hP : Pt w2 B pb v0 v1 v2 t3 t4 t5 ((S2.split c).rows N)) (hC : Ch (pb :: blocks [v0, v1, v2, u3, u4, u5]) wr w2) (hk2 : ∀ k ∈ blocks [t3, t4, t5], k ∈ blocks [v0, v1, v2, u3, u4, u5] ∨ wr.heap.size ≤ k) : Pq w1 w2 B pb N v0 v1 v2 v3 v4 v5 S1 (T ++ [c]) := by
  have hz := hch.size
  have h6 : ∀ k ∈ blocks [v0, v1, v2, u3, u4, u5], k ∈ blocks [v0, v1, v2, v3, v4, v5] ∨ w1.heap.size ≤ k := fun k h => blocks_six (v3 := v3) (v4 := v4) (v5 := v5) (P := fun k => k ∈ blocks [v0, v1, v2, v3, v4, v5] ∨ w1.heap.size ≤ k) h (fun k h => Or.inl h) hk
  refine ⟨t3, t4, t5, _, hP, hs.step hc hT hm, hch.trans hC (fun k hk' => ?_), fun k hk' => ?_⟩
  · rcases List.mem_cons.1 hk' with h1 | h1
    · exact Or.inl (by rw [h1]; simp)
    · exact (h6 k h1).imp (fun h => List.mem_cons_of_mem _ h) id
  · rcases hk2 k hk' with h1 | h1
    · exact h6 k h1
    · exact Or.inr (by omega)
set_option maxHeartbeats 4000000 in
theorem part_any {w : World} {B pb N bu cu : Nat} {v0 v1 v2 v3 v4 v5 mv : Value} {S : Ps} {ms : List Nat} {V : Nat → Value} {F : Nat → List Nat} (hP : Pt w B pb v0 v1 v2 v3 v4 v5 (S.rows N)) (hI : Iv N S) (h0 : ∀ c, c < S.C → S.mq c = 0) (hN : N ≤ 4500) (hB : B ≤ w.heap.size)
    (hms : ∀ w', Ch (pb :: blocks [v0, v1, v2, v3, v4, v5]) w w' → Ri w' mv (ints ms)) (hus : ∀ w', Ch (pb :: blocks [v0, v1, v2, v3, v4, v5]) w w' → Ru w' bu N V F)
    (hml : ms.length ≤ 4500) (hmr : ∀ m ∈ ms, m < N) (hnd : (ms.flatMap F).Nodup) (hr : ∀ n ∈ ms.flatMap F, n < N) :
    Calls Tryz.prog 146 #[.pointer (some ⟨pb, 0, none⟩), mv, .slice (some ⟨bu, 0, none⟩) N cu] w fun e w' => e = .returned (.tuple #[]) ∧ ∃ u3 u4 u5 S', Pt w' B pb v0 v1 v2 u3 u4 u5 (S'.rows N) ∧ Pd N S S' (ms.flatMap F) ∧ Ch (pb :: blocks [v0, v1, v2, v3, v4, v5]) w w' ∧ ∀ k ∈ blocks [u3, u4, u5], k ∈ blocks [v0, v1, v2, v3, v4, v5] ∨ w.heap.size ≤ k := by
  obtain ⟨i0, hi, hz0, hz1, hz2⟩ := info_parts infoI
  have hplt := hid hP.lt
  have hmv : ∃ ma mc, mv = .slice ma ms.length mc := by
    obtain ⟨ma, mc, h, _⟩ := hms w (Ch.refl _ _)
    rw [ints_len] at h
    exact ⟨ma, mc, h⟩
  obtain ⟨ma, mc, rfl⟩ := hmv
  have hst : Hid (Pm w w B pb N v0 v1 v2 v3 v4 v5 S S [] (.slice none 0 0) []) := ⟨hP, Mk.start hI h0, World.ownsRow_nil _ _ _ _, Ch.refl _ _⟩
  have hMs := hid hms
  have hUs := hid hus
  have hNd := hid hnd
  have hR := hid hr
  have hMr := hid hmr
  have hIv := hid hI
  clear hP hI h0 hms hus hnd hr hmr
  go_enter Tryz.func146, Tryz.ntmps146
  go_wp2
  go_loopw [6, 16] (fun t i wr => ∃ (k : Nat) (T : List Nat) (ta : Option Addr) (tc : Nat), k ≤ ms.length ∧ i = .int .i64 k ∧ t = .slice ta T.length tc ∧ Hid (∃ S1, Pm w wr B pb N v0 v1 v2 v3 v4 v5 S S1 ((ms.take k).flatMap F) (.slice ta T.length tc) T)) (fun _ i _ => ms.length - (intOf i).toNat)
  case atStart => exact ⟨0, [], none, 0, Nat.zero_le _, rfl, rfl, ⟨S, hst.out⟩⟩
  case round =>
    clear hst
    obtain ⟨k, T, ta, tc, hk, rfl, rfl, hS1⟩ := hrel
    obtain ⟨S1, hPm⟩ := hS1.out
    have hCh : Ch (pb :: blocks [v0, v1, v2, v3, v4, v5]) w wr := hPm.ch.mono (fun k hk => List.mem_cons_of_mem _ hk)
    by_cases hlt : k < ms.length
    · obtain ⟨mb, mo, rfl, d1⟩ := (hMs.out wr hCh).at (j := k) (by rw [ints_len]; exact hlt)
      rw [ints_get hlt] at d1
      have hm := hMr.out _ (nget_mem hlt)
      obtain ⟨d2, d3⟩ := hUs.out wr hCh _ hm
      have hpre := hid (fun j (hj : j < (F (ms.getD k 0)).length) => flat_prefix (F := F) hlt hj)
      have hnext := hid (flat_next (F := F) hlt)
      obtain ⟨va, vc, hva⟩ : ∃ va vc, V (ms.getD k 0) = .slice va (F (ms.getD k 0)).length vc := by
        obtain ⟨va, vc, h, _⟩ := d3
        rw [ints_len] at h
        exact ⟨va, vc, h⟩
      have hUm : Hid (∀ w', Ch (pb :: blocks [v0, v1, v2, v3, v4, v5]) w w' → Ri w' (.slice va (F (ms.getD k 0)).length vc) (ints (F (ms.getD k 0)))) := fun w' hc => by
        have := (hUs.out w' hc _ hm).2
        rw [hva] at this
        exact this
      rw [hva] at d2
      have hFl : Hid (∀ n ∈ F (ms.getD k 0), n < N) := fun n hn => hR.out n (List.mem_flatMap.2 ⟨_, nget_mem hlt, hn⟩)
      have hFn : (F (ms.getD k 0)).length ≤ 4500 := by
        have h1 := fewer (T := F (ms.getD k 0)) (C := N) (flat_nodup hlt hNd.out) hFl.out
        omega
      clear hva d3
      generalize ms.getD k 0 = m at d1 d2 hm hpre hnext hUm hFl hFn
      generalize hFm : F m = Fm at d2 hpre hnext hUm hFl hFn
      clear hFm
      have hin : Hid (∃ S1, Pm w wr B pb N v0 v1 v2 v3 v4 v5 S S1 ((ms.take k).flatMap F ++ Fm.take 0) (.slice ta T.length tc) T) := ⟨S1, by simpa using hPm⟩
      clear hPm hS1 hCh
      go_wp2
      go_loopw [6, 25] (fun t i wr => ∃ (j : Nat) (T : List Nat) (ta : Option Addr) (tc : Nat), j ≤ Fm.length ∧ i = .int .i64 j ∧ t = .slice ta T.length tc ∧ Hid (∃ S1, Pm w wr B pb N v0 v1 v2 v3 v4 v5 S S1 ((ms.take k).flatMap F ++ Fm.take j) (.slice ta T.length tc) T)) (fun _ i _ => Fm.length - (intOf i).toNat)
      case atStart => exact ⟨0, T, ta, tc, Nat.zero_le _, rfl, rfl, hin⟩
      case round =>
        clear hin d1 d2
        obtain ⟨j, T, ta, tc, hj, rfl, rfl, hS1⟩ := hrel
        by_cases hltj : j < Fm.length
        · obtain ⟨S1, hPm⟩ := hS1.out
          have hCh : Ch (pb :: blocks [v0, v1, v2, v3, v4, v5]) w wr := hPm.ch.mono (fun k hk => List.mem_cons_of_mem _ hk)
          obtain ⟨vb, vo, rfl, d1⟩ := (hUm.out wr hCh).at (j := j) (by rw [ints_len]; exact hltj)
          rw [ints_get hltj] at d1
          have hn := hFl.out _ (nget_mem hltj)
          have hpj := hpre.out j hltj
          have hts := hid (ntake_snoc hltj)
          generalize Fm.getD j 0 = n at d1 hn hpj hts
          have hL : n ∉ (ms.take k).flatMap F ++ Fm.take j := fun hm => by
            have h1 := List.Sublist.nodup hpj.sublist hNd.out
            exact (List.nodup_append.1 h1).2.2 n hm n (by simp) rfl
          clear hpj
          have hun : Hid (¬ S1.mkd n) := fun h => hL ((hPm.mks.mkd n hn).1 h)
          have hcl := hPm.mks.iv.cls n hn
          have e2 : (S1.rows N 2).length = N := rowF_len _ _
          have e5 : (S1.rows N 5).length = S1.C := rowF_len _ _
          have hTl : T.length ≤ 4500 := by
            have h1 := fewer hPm.mks.nodup hPm.mks.rng
            have h2 := hPm.mks.iv.le
            omega
          obtain ⟨q2, c2, hv2⟩ : ∃ q c, v2 = .slice (some ⟨q, 0, none⟩) N c := by
            rw [← e2]
            obtain ⟨q, c, h, _⟩ := (own_form (hPm.pt.fm.own 2 (by simp))).resolve_left (fun h => by omega)
            exact ⟨q, c, h⟩
          obtain ⟨q5, c5, hv5⟩ : ∃ q c, v5 = .slice (some ⟨q, 0, none⟩) S1.C c := by
            rw [← e5]
            obtain ⟨q, c, h, _⟩ := (own_form (hPm.pt.fm.own 5 (by simp))).resolve_left (fun h => by omega)
            exact ⟨q, c, h⟩
          obtain ⟨⟨_, _, z2, _, _, z5⟩, _⟩ := blk6 hPm.pt.blk
          have k2 := (hPm.pt.fm.cellN (i := 2) (j := n) (by simp) hv2 e2 hn).1
          have k5 := (hPm.pt.fm.cellN (i := 5) (j := S1.cl n) (by simp) hv5 e5 hcl).1
          have g2 : (S1.rows N 2).getD n 0 = (S1.cl n : Int) := rowF_get _ hn
          have g5 : (S1.rows N 5).getD (S1.cl n) 0 = (S1.mq (S1.cl n) : Int) := rowF_get _ hcl
          rw [g2] at k2
          rw [g5] at k5
          rw [hv2] at z2
          rw [hv5] at z5
          have hHC := hid hv2
          have hHD := hid hv5
          clear hv2 hv5 e2 e5 g2 g5
          have hCl : S1.C ≤ 4500 := Nat.le_trans hPm.mks.iv.le hN
          have hHP := hid hPm
          have hHL := hid hL
          clear hL hS1
          by_cases hq : S1.mq (S1.cl n) = 0
          · rw [hq] at k5
            have hoz := World.ownsRow.alloc hPm.own (.cells #[.int .i64 ((S1.cl n : Nat) : Int)] 3)
            have hnews := heap_alloc_new wr (.cells #[.int .i64 ((S1.cl n : Nat) : Int)] 3)
            have hsz := hPm.ch.size
            have hmkc := hid (fun w5 (h5 : Pt w5 B pb v0 v1 v2 v3 v4 v5 (S1.rows N)) => mark_ps h5 hPm.mks.iv hN hn hun.out)
            have hend := hid (fun o w5 w6 g cap => Pm.touch (o := o) (w1 := w5) (w2 := w6) (g := g) (cap := cap) hPm (fun k hk => hplt.out k (List.mem_cons_of_mem _ hk)) hn hHL.out hq)
            have hgrn := hid (fun o w5 => Pm.grown (o := o) (w1 := w5) hPm hplt.out)
            have hqq := hid hq
            clear hq hPm hCh hcl
            have hcl : ((S1.cl n : Nat) : Int) < (S1.C : Int) := by
              have := hHP.out.mks.iv.cls n hn
              omega
            generalize S1.cl n = cc at *
            go_wp2_with (first
              | (at_builtin; refine wpList_append_lies _ rfl _ _ _ rfl w.heap.size 3 i0 (.int .i64 0) 1 8 Tryz.underlying23 hi hz0 hz1 hz2 rfl (by decide) _ T.length ((ints T).map (Value.int .i64)) rfl hoz ⟨wr.heap.size, 0, none⟩ 1 1 [.int .i64 (cc : Int)] rfl rfl (World.news_of_block (cs := #[.int .i64 (cc : Int)]) (t := 3) (fr := (0, 0)) hnews) (by simp [Value.oneCell']) (by omega) (by unfold maxLen; omega) (by omega) (by simp; omega) (wr.heap.size + 1) (by simp) ?_; clear hoz; intro gg cap w5 hown5 hgr5 hat5 hlt5; have hP5 := hgrn.out _ _ hgr5)
              | (go_at_call 155; refine (hmkc.out w5 hP5).mono ?_; rintro e w6 ⟨rfl, hP6, hC6⟩))
            go_roundw
            case rel =>
              refine ⟨j + 1, T ++ [cc], some ⟨gg, 0, none⟩, cap, by omega, congrArg (Value.int .i64) (by omega), by rw [List.length_append]; rfl, ⟨S1.mark n, ?_⟩⟩
              have := hend.out _ w5 w6 gg cap hgr5 hown5 hP6 hC6
              rw [hts.out, ← List.append_assoc, List.length_append]
              exact this
            case measure => simp [intOf]; omega
          · have hqi : ¬ ((S1.mq (S1.cl n) : Nat) : Int) = 0 := by omega
            have hmkc := hid (mark_ps hPm.pt hPm.mks.iv hN hn hun.out)
            have hend := hid (fun w6 => Pm.mark (w1 := w6) hPm (fun k hk => hplt.out k (List.mem_cons_of_mem _ hk)) hn hHL.out hq)
            clear hq hPm hCh hcl
            have hcl : ((S1.cl n : Nat) : Int) < (S1.C : Int) := by
              have := hHP.out.mks.iv.cls n hn
              omega
            generalize hmm : S1.mq (S1.cl n) = mm at *
            clear hmm
            generalize S1.cl n = cc at *
            go_wp2_with (first
              | (go_at_call 155; refine hmkc.out.mono ?_; rintro e w6 ⟨rfl, hP6, hC6⟩))
            go_roundw
            case rel =>
              refine ⟨j + 1, T, ta, tc, by omega, congrArg (Value.int .i64) (by omega), rfl, ⟨S1.mark n, ?_⟩⟩
              have := hend.out w6 hP6 hC6
              rw [hts.out, ← List.append_assoc]
              exact this
            case measure => simp [intOf]; omega
        · have hjl : j = Fm.length := by omega
          subst hjl
          rw [hnext.out] at hS1
          go_wp2
          exact ⟨⟨k + 1, T, ta, tc, by omega, congrArg (Value.int .i64) (by omega), rfl, hS1⟩, by simp [intOf]; omega⟩
    · have hkl : k = ms.length := by omega
      subst hkl
      rw [List.take_of_length_le (Nat.le_refl _)] at hPm hS1
      have hHP := hid hPm
      have hTl : T.length ≤ 4500 := by
        have h1 := fewer hPm.mks.nodup hPm.mks.rng
        have h2 := hPm.mks.iv.le
        omega
      have hq0 : Hid (Pq wr wr B pb N v0 v1 v2 v3 v4 v5 S1 (T.take 0)) := ⟨v3, v4, v5, S1, hPm.pt, by simpa using Sp.start hPm.mks.iv, Ch.refl _ _, fun k hk => Or.inl (blocks_last hk)⟩
      have hrd : Hid (∀ w', Ch (pb :: blocks [v0, v1, v2, v3, v4, v5]) wr w' → Ri w' (.slice ta T.length tc) (ints T)) := fun w' hc => by
        refine own_read (B := w.heap.size) (ints_len T) (own_block hPm.own (fun q e => hc.far q (hPm.own.lt q e).2 (fun hm => ?_)))
        have := (hPm.own.lt q e).1
        have := hplt.out q hm
        omega
      have hBr : B ≤ wr.heap.size := Nat.le_trans hB hPm.ch.size
      clear hPm hS1 hMs hUs hR hMr hlt
      go_wp2
      go_loopw [55] (fun i w2 => ∃ (j : Nat), j ≤ T.length ∧ i = .int .i64 j ∧ Hid (Pq wr w2 B pb N v0 v1 v2 v3 v4 v5 S1 (T.take j))) (fun i _ => T.length - (intOf i).toNat)
      case atStart => exact ⟨0, Nat.zero_le _, rfl, hq0⟩
      case round =>
        obtain ⟨j, hj, rfl, hPq⟩ := hrel
        by_cases hltj : j < T.length
        · obtain ⟨u3, u4, u5, S2, hPt, hSp, hCh, hkb⟩ := hPq.out
          obtain ⟨tb, tfo, rfl, d1⟩ := (hrd.out _ hCh).at (j := j) (by rw [ints_len]; exact hltj)
          rw [ints_get hltj] at d1
          have hc := hHP.out.mks.rng _ (nget_mem hltj)
          have hmq := (hHP.out.mks.tch _ hc).1 (nget_mem hltj)
          have hts := hid (ntake_snoc hltj)
          have hnT : T.getD j 0 ∉ T.take j := fun hm => by
            have h1 := List.Sublist.nodup (List.take_sublist (j + 1) T) hHP.out.mks.nodup
            rw [hts.out] at h1
            exact (List.nodup_append.1 h1).2.2 _ hm _ (by simp) rfl
          generalize T.getD j 0 = c at d1 hc hmq hts hnT
          have hcall := hid (split_any hPt hSp.iv hN (Nat.lt_of_lt_of_le hc hSp.le) (by rw [hSp.mq c hc hnT]; exact hmq) (Nat.le_trans hBr hCh.size))
          have hend := hid (fun w3 t3 t4 t5 => Pq.step (B := B) (w2 := w3) (t3 := t3) (t4 := t4) (t5 := t5) hSp hCh hkb hc hnT hmq)
          clear hPq hPt hSp hCh hkb hnT hmq hc
          go_wp2_with (go_at_call 156; refine hcall.out.mono ?_; rintro e w3 ⟨rfl, t3, t4, t5, hP3, hC3, hk3⟩)
          go_roundw
          case rel => exact ⟨j + 1, by omega, congrArg (Value.int .i64) (by omega), by rw [hts.out]; exact hend.out w3 t3 t4 t5 hP3 hC3 hk3⟩
          case measure => simp [intOf]; omega
        · have hjl : j = T.length := by omega
          subst hjl
          rw [List.take_of_length_le (Nat.le_refl _)] at hPq
          obtain ⟨u3, u4, u5, S2, hPt, hSp, hCh, hkb⟩ := hPq.out
          go_wp2
          go_end0
          refine ⟨rfl, u3, u4, u5, S2, hPt, Sp.parted hHP.out.mks hSp, (hHP.out.ch.mono (fun k hk => List.mem_cons_of_mem _ hk)).trans hCh (fun k hk => Or.inl hk), fun k hk => ?_⟩
          have := hHP.out.ch.size
          rcases hkb k hk with h1 | h1
          · exact Or.inl h1
          · exact Or.inr (by omega)
end Go.Proofs.YtlibjdilicfcdaaGreatDoor

namespace Go.Proofs.YtlibjdilicfcdaaGreatDoor
set_option maxRecDepth 100000
open Go.RowKit
section
variable {w : World} {B p q : Nat} {v : Value} {ns : List ByteArray}
set_option maxHeartbeats 800000 in
theorem text_any (h : Tb w B p v q ns) (k : Nat) (hk : k < ns.length) :
    Calls Tryz.prog 112 #[.agg #[.pointer (some ⟨p, 0, none⟩)], .int .i64 (k : Int)] w fun e w' => e = .returned (.string (ns.getD k ⟨#[]⟩)) ∧ Below w.heap.size w w' := by
  have hb := hid (below_alloc w (.cells #[.pointer (some ⟨p, 0, none⟩)] 76))
  have hnm := hid (name_yes (h.below hb.out) k hk)
  have hsz : (ns.getD k ⟨#[]⟩).size ≤ 281474976710656 := by
    have h1 := h.good (ns.getD k ⟨#[]⟩) (by simp [List.getD, hk])
    have := n_goodS_size h1
    omega
  have hcl := hid (fun w => n_clone_any (ns.getD k ⟨#[]⟩) w hsz)
  generalize ns.getD k ⟨#[]⟩ = s at *
  clear h hk
  go_enter Tryz.func112, Tryz.ntmps112
  go_wp2_with (first
    | (go_at_call 142; refine hnm.out.mono ?_; rintro e w1 ⟨rfl, rfl⟩)
    | (go_at_call 80; refine (hcl.out _).mono ?_; rintro e w1 ⟨rfl, hb1⟩))
  go_ret
  exact ⟨rfl, Below.next hb.out hb1⟩
end
def rchL (k : Nat) (x : Int) : List Int := if x % 8 = 0 ∨ x % 8 = 3 ∨ x % 8 = 5 then [valOf x] else if x % 8 = 4 then (List.range (valOf x % 16).toNat).map (fun i => ((k + 1 + i : Nat) : Int)) else []
theorem rng_take {k i : Nat} : (List.range (i + 1)).map (fun i => ((k + 1 + i : Nat) : Int)) = (List.range i).map (fun i => ((k + 1 + i : Nat) : Int)) ++ [((k + 1 + i : Nat) : Int)] := by
  rw [List.range_succ, List.map_append]
  rfl
set_option maxHeartbeats 2000000 in
theorem reached_any (w : World) (k : Nat) (hk : k < 65536) (x : Int) (h0 : 0 ≤ x) (h1 : x ≤ 18446744073709551615) (hg : goodB x = true) :
    Calls Tryz.prog 65 #[.int .i64 (k : Int), .int .u64 x] w fun e w' => (∃ ao c, e = .returned (.slice ao (rchL k x).length c) ∧ w'.ownsRow w.heap.size 3 1 (.slice ao (rchL k x).length c) (rchL k x).length ((rchL k x).map (Value.int .i64))) ∧ Below w.heap.size w w' := by
  obtain ⟨i0, hi, hz0, hz1, hz2⟩ := info_parts infoI
  by_cases hp : x % 8 = 0 ∨ x % 8 = 3 ∨ x % 8 = 5
  · have hR : Hid (rchL k x = [valOf x]) := show _ = _ by unfold rchL; rw [if_pos hp]
    have hpl := hid (fun w => place_yes x w h0 h1 hg hp)
    generalize rchL k x = R at *
    generalize valOf x = y at *
    have hlit := hid (World.ownsRow_lit (base := w.heap.size) (e := 3) (size := 1) w #[.int .i64 y] 1 (Nat.le_refl _) (by unfold maxLen; omega) (by simp))
    go_enter Tryz.func65, Tryz.ntmps65
    go_wp2_with (go_at_call 99; refine (hpl.out _).mono ?_; rintro e w1 ⟨rfl, rfl⟩)
    go_ret
    rw [hR.out]
    exact ⟨⟨_, _, rfl, hlit.out⟩, below_alloc _ _⟩
  · have hpl := hid (fun w => place_no x w h0 h1 (Or.inr (by omega)))
    by_cases h4 : x % 8 = 4
    · have hfv := fun_val x hg h4
      obtain ⟨a, ha⟩ : ∃ a : Nat, valOf x % 16 = (a : Int) := ⟨(valOf x % 16).toNat, by omega⟩
      have hR : Hid (rchL k x = (List.range a).map (fun i => ((k + 1 + i : Nat) : Int))) := show _ = _ by
        unfold rchL
        rw [if_neg hp, if_pos h4, ha, Int.toNat_natCast]
      have hhd := hid (fun w => head_yes x w h0 h1 hg h4)
      rw [ha] at hhd
      have ha8 : a ≤ 8 := by omega
      generalize rchL k x = R at *
      generalize valOf x / 16 = f at *
      clear hp h4 hfv ha
      obtain ⟨W, rfl⟩ : ∃ W : World, W = w := ⟨_, rfl⟩
      go_enter Tryz.func65, Tryz.ntmps65
      go_wp2_with (first
        | (go_at_call 99; refine (hpl.out _).mono ?_; rintro e w1 ⟨rfl, hw1⟩; replace hw1 := hw1.symm; subst hw1)
        | (go_at_call 100; refine (hhd.out _).mono ?_; rintro e w1 ⟨rfl, hw1⟩; replace hw1 := hw1.symm; subst hw1))
      go_loopw [7, 11, 27] (fun s _ i wr => ∃ (j : Nat) (ao : Option Addr) (c : Nat), j ≤ a ∧ i = .int .i64 (j : Int) ∧ s = .slice ao j c ∧ Hid (Below W.heap.size W wr) ∧ Hid (wr.ownsRow W.heap.size 3 1 (.slice ao j c) j (((List.range j).map (fun i => ((k + 1 + i : Nat) : Int))).map (Value.int .i64)))) (fun _ _ i _ => a - (intOf i).toNat)
      case atStart => exact ⟨0, none, 0, Nat.zero_le _, rfl, rfl, Below.refl _ _, World.ownsRow_nil _ _ _ _⟩
      case round =>
        obtain ⟨j, ao, c, hj, rfl, rfl, hb, ho⟩ := hrel
        by_cases hlt : j < a
        · have hji : (j : Int) < (a : Int) := by omega
          have hO1 := World.ownsRow.alloc ho.out (.cells #[.int .i64 ((k : Int) + 1 + (j : Int))] 3)
          have hzk := hb.out.size
          have hlo : Hid (∀ q, (Value.slice ao j c).ownBlock = some q → W.heap.size ≤ q) := fun q hq => (ho.out.lt q hq).1
          have hst : Hid (((List.range (j + 1)).map (fun i => ((k + 1 + i : Nat) : Int))).map (Value.int .i64) = ((List.range j).map (fun i => ((k + 1 + i : Nat) : Int))).map (Value.int .i64) ++ [.int .i64 ((k : Int) + 1 + (j : Int))]) := show _ = _ by
            rw [rng_take, List.map_append]
            congr 2
          generalize ((List.range j).map (fun i => ((k + 1 + i : Nat) : Int))).map (Value.int .i64) = XS at *
          clear ho
          go_wp2_with (at_builtin; go_must (refine wpList_append_lies _ rfl _ _ 23 rfl W.heap.size 3 i0 (.int .i64 0) 1 8 Tryz.underlying23 hi hz0 hz1 hz2 rfl (by decide) _ j _ rfl hO1 ⟨wr.heap.size, 0, none⟩ 1 1 [.int .i64 ((k : Int) + 1 + (j : Int))] rfl rfl (World.news_of_block (cs := #[.int .i64 ((k : Int) + 1 + (j : Int))]) (t := 3) (fr := (0, 0)) (heap_alloc_new wr _)) (by simp [Value.oneCell']) (by decide) (by unfold maxLen; omega) (by omega) (by simp; omega) _ rfl ?_; intro g6 cap w6 hown6 hg6 hat6 hlt6))
          have hb6 : Hid (Below W.heap.size W w6) := hb.out.trans (((Below.refl _ _).alloc hzk _).grown hg6 (by simp; omega) (fun q hq => hlo.out q hq))
          go_roundw
          case rel => exact ⟨j + 1, some ⟨g6, 0, none⟩, cap, by omega, by go_num, rfl, hb6, (show World.ownsRow _ _ _ _ _ _ _ by rw [hst.out]; exact hown6)⟩
          case measure => simp [intOf]; omega
        · obtain rfl : j = a := by omega
          go_wp2
          go_ret
          rw [hR.out]
          refine ⟨⟨ao, c, by simp, ?_⟩, hb.out⟩
          have h9 := ho.out
          simp only [List.length_map, List.length_range] at h9 ⊢
          exact h9
    · have hR : Hid (rchL k x = []) := show _ = _ by unfold rchL; rw [if_neg hp, if_neg h4]
      have hhd := hid (fun w => head_no x w h0 h1 (Or.inr h4))
      generalize rchL k x = R at *
      go_enter Tryz.func65, Tryz.ntmps65
      go_wp2_with (first
        | (go_at_call 99; refine (hpl.out _).mono ?_; rintro e w1 ⟨rfl, hw1⟩; replace hw1 := hw1.symm; subst hw1)
        | (go_at_call 100; refine (hhd.out _).mono ?_; rintro e w1 ⟨rfl, hw1⟩; replace hw1 := hw1.symm; subst hw1))
      go_loopw [7, 11, 27] (fun s _ i wr => i = .int .i64 0 ∧ s = .slice none 0 0 ∧ wr = w) (fun _ _ _ _ => 0)
      case atStart => exact ⟨rfl, rfl, rfl⟩
      case round =>
        obtain ⟨rfl, rfl, rfl⟩ := hrel
        go_wp2
        go_ret
        rw [hR.out]
        exact ⟨⟨none, 0, rfl, World.ownsRow_nil _ _ _ _⟩, Below.refl _ _⟩
end Go.Proofs.YtlibjdilicfcdaaGreatDoor
