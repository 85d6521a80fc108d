/- Unification of cells, as plain data: all terms of a heap are nodes of one graph. -/
import Derived.BigRegion
import Derived.Test.YtlibjdilicfcdaaGreatDoorns30Z
import Derived.Test.YtlibjdilicfcdaaGreatDoorns28Z
import Derived.Test.YtlibjdilicfcdaaGreatDoorns25Z
import Derived.Test.YtlibjdilicfcdaaGreatDoorns09Z
import Derived.Test.YtlibjdilicfcdaaGreatDoorns31Z
import Derived.Test.YtlibjdilicfcdaaGreatDoorns19Z
namespace Go.Proofs.YtlibjdilicfcdaaGreatDoor
set_option maxRecDepth 100000
open Go.RowKit
section
variable {l : List Int} {V : Nat → Bool} {nm : List ByteArray}
def plsU (l : List Int) : List Int := (List.range l.length).map (fun (k : Nat) => (k : Int))
theorem pls_len : (plsU l).length = l.length := by simp [plsU]
theorem pls_at {k : Nat} (hk : k < l.length) : (plsU l).getD k 0 = (k : Int) := by simp [plsU, List.getD, hk]
def utT (l : List Int) : List Int := addsJ l (plsU l) [] (plsU l).length
theorem ut_nodup : (utT l).Nodup := adds_nodup List.nodup_nil _
theorem ut_mem {k : Nat} (hk : k < l.length) : trmW l k ∈ utT l := by
  have := adds_mem (l := l) (cs := plsU l) (TS := []) (i := k) (j := (plsU l).length) (by rw [pls_len]; exact hk)
  rw [pls_at hk] at this
  exact this
theorem ut_in : ∀ t ∈ utT l, ∃ k, k < l.length ∧ t = trmW l k :=
  adds_all (p := fun t => ∃ k, k < l.length ∧ t = trmW l k) (fun _ h => by cases h) _ (fun i hi => by
    rw [pls_len] at hi
    rw [pls_at hi]
    exact ⟨i, hi, rfl⟩)
theorem ut_len : (utT l).length ≤ l.length := by
  have := adds_len (l := l) (cs := plsU l) (TS := []) (plsU l).length
  rw [pls_len] at this
  unfold utT
  rw [pls_len]
  simpa using this
def utI (l : List Int) (k : Nat) : Nat := pos (utT l) (trmW l k)
theorem utI_lt {k : Nat} (hk : k < l.length) : utI l k < (utT l).length := pos_lt (ut_mem hk)
theorem utI_at {k : Nat} (hk : k < l.length) : (utT l).getD (utI l k) 0 = trmW l k := pos_at (ut_mem hk)
theorem utI_eq {a b : Nat} (ha : a < l.length) (hb : b < l.length) : utI l a = utI l b ↔ trmW l a = trmW l b :=
  ⟨fun e => by rw [← utI_at ha, e, utI_at hb], fun e => by unfold utI; rw [e]⟩
theorem utI_all {i : Nat} (hi : i < (utT l).length) : ∃ k, k < l.length ∧ utI l k = i := by
  obtain ⟨k, hk, e⟩ := ut_in _ (getD_mem hi)
  exact ⟨k, hk, by unfold utI; rw [← e]; exact pos_of_getD ut_nodup hi⟩
def utN (l : List Int) (nm : List ByteArray) : List Nd := (utT l).map (ndT l nm (utT l))
theorem utN_len : (utN l nm).length = (utT l).length := by simp [utN]
theorem utN_of {k : Nat} (hk : k < l.length) : ndN (utN l nm) (utI l k) = ndT l nm (utT l) (trmW l k) := by
  have h1 := utI_lt hk
  have h2 := utI_at hk
  unfold ndN utN
  have : ((utT l).map (ndT l nm (utT l))).getD (utI l k) nd0 = ndT l nm (utT l) ((utT l).getD (utI l k) 0) := by simp [List.getD, h1]
  rw [this, h2]
theorem utN_args {k : Nat} (hk : k < l.length) : (ndN (utN l nm) (utI l k)).args.length = (tdL l (trmW l k)).length := by
  rw [utN_of hk]
  simp [ndT]
theorem utN_arg (hs : Snd l V) (hn : NsB l nm.length) (hl : l.length ≤ 65536) {k j : Nat} (hk : k < l.length) (hj : j < (tdL l (trmW l k)).length) : (0 ≤ (tdL l (trmW l k)).getD j 0 ∧ (tdL l (trmW l k)).getD j 0 < (l.length : Int)) ∧ argN (utN l nm) (utI l k) j = utI l ((tdL l (trmW l k)).getD j 0).toNat ∧ 0 ≤ (ndN (utN l nm) (utI l k)).args.getD j 0 := by
  have hr := args_ok hs (trm_tw hs hn hl hk) _ (getD_mem hj)
  have hm : tmC l ((tdL l (trmW l k)).getD j 0) ∈ utT l := ut_mem (by omega)
  have e : (ndN (utN l nm) (utI l k)).args.getD j 0 = posF (utT l) (tmC l ((tdL l (trmW l k)).getD j 0)) := by
    rw [utN_of hk]
    exact getD_mapI _ hj
  refine ⟨hr, ?_, ?_⟩
  · unfold argN
    rw [e]
    unfold posF
    rw [if_pos hm, Int.toNat_natCast]
    rfl
  · rw [e]
    exact (posF_in hm).1
theorem utA (hs : Snd l V) (hn : NsB l nm.length) (hl : l.length ≤ 65536) : GoodA (utN l nm) := by
  refine ⟨fun x hx k hk => ?_, fun x hx => ?_, fun x => ?_⟩
  · rw [utN_len] at hx
    obtain ⟨p, hp, rfl⟩ := utI_all hx
    rw [utN_args hp] at hk
    obtain ⟨h1, h2, h3⟩ := utN_arg hs hn hl hp hk
    refine ⟨h3, ?_⟩
    rw [h2, utN_len]
    exact utI_lt (by omega)
  · rcases Nat.lt_or_ge x (utT l).length with h | h
    · obtain ⟨p, hp, rfl⟩ := utI_all h
      have hT := trm_tw hs hn hl hp
      rw [utN_of hp] at hx ⊢
      have h1 : tdK (trmW l p) = 1 := hx
      have : tdL l (trmW l p) = [] := by
        unfold tdK at h1
        unfold tdL
        rw [if_neg (fun e => by rw [if_neg (by omega), if_neg (by omega), if_pos e] at h1; omega)]
      simp [ndT, this]
    · unfold ndN
      rw [show (utN l nm).getD x nd0 = nd0 by simp [List.getD, List.getElem?_eq_none (show (utN l nm).length ≤ x by rw [utN_len]; exact h)]]
  · rcases Nat.lt_or_ge x (utT l).length with h | h
    · obtain ⟨p, hp, rfl⟩ := utI_all h
      rw [utN_args hp]
      exact args_eight (trm_tw hs hn hl hp)
    · unfold ndN
      rw [show (utN l nm).getD x nd0 = nd0 by simp [List.getD, List.getElem?_eq_none (show (utN l nm).length ≤ x by rw [utN_len]; exact h)]]
      exact Nat.zero_le _
theorem trm_place (hs : Snd l V) {k : Nat} (hk : k < l.length) (ht : trmW l k % 8 = 0 ∨ trmW l k % 8 = 3) (hl : l.length ≤ 65536) : ∃ p, p < l.length ∧ valOf (trmW l k) = (p : Int) ∧ trmW l p = trmW l k ∧ nxN l p = none ∧ (trmW l k % 8 = 0 → wdN l p = trmW l k ∧ tgN l p = 0 ∧ vlN l p = p) ∧ (trmW l k % 8 = 3 → trmW l k = wordOf 3 (p : Int) ∧ tgN l p = 4) := by
  obtain ⟨j, hj, e, e2⟩ := trm_ends hs _ k hk (Nat.le_refl _)
  have he := trm_end e
  rw [e2] at ht ⊢
  unfold endW at ht ⊢
  by_cases h4 : tgN l j = 4
  · rw [if_pos h4] at ht ⊢
    obtain ⟨s1, s2, _, _⟩ := word_str (j := j) (by omega)
    refine ⟨j, hj, s2, ?_, e, fun h => by omega, fun _ => ⟨rfl, h4⟩⟩
    rw [he]
    unfold endW
    rw [if_pos h4]
  · rw [if_neg h4] at ht ⊢
    have ht' : wdN l j % 8 = tgN l j := rfl
    have h3 : ¬ (tgN l j = 3 ∨ tgN l j = 5) := fun h3 => by
      unfold nxN at e
      rw [if_neg (by omega), if_pos h3] at e
      cases e
    have h0 : tgN l j = 0 := by omega
    have hv : vlN l j = j := by
      unfold nxN at e
      rw [if_pos h0] at e
      by_cases h5 : vlN l j = j
      · exact h5
      · rw [if_neg h5] at e
        cases e
    have hg := hs.good j hj
    have hf : fitsB (wdN l j % 8) (valOf (wdN l j)) = true := hg
    rw [ht', h0] at hf
    have h6 : 0 ≤ valOf (wdN l j) := by
      simp [fitsB] at hf
      omega
    have h7 : (valOf (wdN l j)).toNat = j := hv
    refine ⟨j, hj, by omega, ?_, e, fun _ => ⟨rfl, h0, hv⟩, fun h => by omega⟩
    rw [he]
    unfold endW
    rw [if_neg h4]
theorem at_inj (hs : Snd l V) (hn : NsB l nm.length) (hl : l.length ≤ 65536) {a b : Nat} (ha : a < l.length) (hb : b < l.length) (h0 : 0 ≤ tdA (trmW l a)) (e : tdA (trmW l a) = tdA (trmW l b)) : trmW l a = trmW l b := by
  have tA := (trm_tw hs hn hl ha).tag
  have tB := (trm_tw hs hn hl hb).tag
  have kA : trmW l a % 8 = 0 ∨ trmW l a % 8 = 3 := by
    unfold tdA at h0
    by_cases h : trmW l a % 8 = 1 ∨ trmW l a % 8 = 2
    · rw [if_pos h] at h0
      omega
    · omega
  have kB : trmW l b % 8 = 0 ∨ trmW l b % 8 = 3 := by
    rw [e] at h0
    unfold tdA at h0
    by_cases h : trmW l b % 8 = 1 ∨ trmW l b % 8 = 2
    · rw [if_pos h] at h0
      omega
    · omega
  obtain ⟨p, hp, vp, ep, _, _, _⟩ := trm_place hs ha kA hl
  obtain ⟨q, hq, vq, eq, _, _, _⟩ := trm_place hs hb kB hl
  unfold tdA at e
  rw [if_neg (by omega), if_neg (by omega)] at e
  have : p = q := by omega
  rw [← ep, ← eq, this]
theorem leaf_inj (hs : Snd l V) (hn : NsB l nm.length) (hnd : nm.Nodup) (hl : l.length ≤ 65536) {a b : Nat} (ha : a < l.length) (hb : b < l.length) (hk : tdK (trmW l a) = 2 ∨ tdK (trmW l a) = 3) (e1 : tdK (trmW l a) = tdK (trmW l b)) (e2 : tdS l nm (trmW l a) = tdS l nm (trmW l b)) (e3 : tdN (trmW l a) = tdN (trmW l b)) : trmW l a = trmW l b := by
  have TA := trm_tw hs hn hl ha
  have TB := trm_tw hs hn hl hb
  have bA := wordOf_back _ TA.r0 TA.r1
  have bB := wordOf_back _ TB.r0 TB.r1
  have key : ∀ {t : Int}, (t % 8 = 0 ∨ t % 8 = 1 ∨ t % 8 = 2 ∨ t % 8 = 3) → (tdK t = 2 → t % 8 = 1) ∧ (tdK t = 3 → t % 8 = 2) := fun {t} h => by
    unfold tdK
    rcases h with h | h | h | h <;> simp [h]
  rcases hk with hk | hk
  · have gA := (key TA.tag).1 hk
    have gB := (key TB.tag).1 (by omega)
    unfold tdS at e2
    rw [if_pos gA, if_pos gB] at e2
    obtain ⟨a1, a2⟩ := TA.atom gA
    obtain ⟨b1, b2⟩ := TB.atom gB
    have : (valOf (trmW l a)).toNat = (valOf (trmW l b)).toNat := by
      simp only [List.getD, List.getElem?_eq_getElem a2, List.getElem?_eq_getElem b2, Option.getD_some] at e2
      have hp := List.pairwise_iff_getElem.1 hnd
      rcases Nat.lt_trichotomy (valOf (trmW l a)).toNat (valOf (trmW l b)).toNat with h | h | h
      · exact absurd e2 (hp _ _ a2 b2 h)
      · exact h
      · exact absurd e2.symm (hp _ _ b2 a2 h)
    rw [← bA, ← bB, gA, gB, show valOf (trmW l a) = valOf (trmW l b) by omega]
  · have gA := (key TA.tag).2 hk
    have gB := (key TB.tag).2 (by omega)
    unfold tdN at e3
    rw [if_pos gA, if_pos gB] at e3
    rw [← bA, ← bB, gA, gB, e3]
end
end Go.Proofs.YtlibjdilicfcdaaGreatDoor

namespace Go.Proofs.YtlibjdilicfcdaaGreatDoor
set_option maxRecDepth 100000
open Go.RowKit
abbrev tmV (k a : Int) (s : ByteArray) (n : Int) (v : Value) (c : Int) : Value := .agg #[.int .i64 k, .int .i64 a, .string s, .int .i64 n, v, .int .i64 c]
abbrev tmO (k a : Int) (s : ByteArray) (n : Int) (v : Value) (c : Int) : Obj := .cells #[.int .i64 k, .int .i64 a, .string s, .int .i64 n, v, .int .i64 c] 190
theorem tm_cells {w : World} {q : Nat} {u0 u1 u2 u3 u4 u5 : Value} {T : TypeId} (h : w.heap[q]? = some (.cells #[u0, u1, u2, u3, u4, u5] T)) : (w.cell? ⟨q, 0, none⟩ = some u0 ∧ w.cell? ⟨q, 1, none⟩ = some u1 ∧ w.cell? ⟨q, 2, none⟩ = some u2 ∧ w.cell? ⟨q, 3, none⟩ = some u3 ∧ w.cell? ⟨q, 4, none⟩ = some u4 ∧ w.cell? ⟨q, 5, none⟩ = some u5) ∧ (w.frozen? ⟨q, 0, none⟩ = false ∧ w.frozen? ⟨q, 1, none⟩ = false ∧ w.frozen? ⟨q, 2, none⟩ = false ∧ w.frozen? ⟨q, 3, none⟩ = false ∧ w.frozen? ⟨q, 4, none⟩ = false ∧ w.frozen? ⟨q, 5, none⟩ = false) ∧ q < w.heap.size := by
  refine ⟨⟨?_, ?_, ?_, ?_, ?_, ?_⟩, ⟨?_, ?_, ?_, ?_, ?_, ?_⟩, lt_of_block h⟩ <;> simp [World.cell?, World.frozen?, h]
theorem bytes_eqU {s t : ByteArray} (h : s.toList = t.toList) : s = t := by
  rw [ByteArray.toList_eq, ByteArray.toList_eq] at h
  apply ByteArray.ext
  exact Array.toList_inj.1 h
def ordU (k1 a1 k2 a2 : Int) : Bool := (decide (k1 = k2) && decide (a1 < a2)) || (!decide (k1 = 1) && decide (k2 = 1))
section
variable {k1 a1 n1 c1 k2 a2 n2 c2 : Int} {s1 s2 : ByteArray} {v1 v2 : Option Addr} {l1 l2 d1 d2 : Nat}
set_option maxHeartbeats 2000000 in
theorem alike_any (w : World) :
    Calls Tryz.prog 138 #[tmV k1 a1 s1 n1 (.slice v1 l1 d1) c1, tmV k2 a2 s2 n2 (.slice v2 l2 d2) c2] w fun e w' => e = .returned (.bool (decide (k1 = k2) && decide (s1 = s2) && decide (n1 = n2) && decide (l1 = l2))) ∧ Below w.heap.size w w' := by
  have hb : Below w.heap.size w ((w.alloc (tmO k1 a1 s1 n1 (.slice v1 l1 d1) c1)).alloc (tmO k2 a2 s2 n2 (.slice v2 l2 d2) c2)) := (below_alloc w _).alloc (by simp) _
  by_cases hk : k1 = k2
  · by_cases hs : s1 = s2
    · by_cases hn : n1 = n2
      · by_cases hl : l1 = l2
        · subst hk hs hn hl
          go_enter Tryz.func138, Tryz.ntmps138
          go_wp2
          go_ret
          exact ⟨by simp, hb⟩
        · subst hk hs hn
          have hl1 : ¬ (l1 : Int) = (l2 : Int) := by omega
          go_enter Tryz.func138, Tryz.ntmps138
          go_wp2
          go_ret
          exact ⟨by simp [hl, hl1], hb⟩
      · subst hk hs
        go_enter Tryz.func138, Tryz.ntmps138
        go_wp2
        go_ret
        exact ⟨by simp [hn], hb⟩
    · subst hk
      have hs1 : ¬ s1.toList = s2.toList := fun e => hs (bytes_eqU e)
      go_enter Tryz.func138, Tryz.ntmps138
      go_wp2
      go_ret
      exact ⟨by simp [hs], hb⟩
  · go_enter Tryz.func138, Tryz.ntmps138
    go_wp2
    go_ret
    exact ⟨by simp [hk], hb⟩
end
end Go.Proofs.YtlibjdilicfcdaaGreatDoor
