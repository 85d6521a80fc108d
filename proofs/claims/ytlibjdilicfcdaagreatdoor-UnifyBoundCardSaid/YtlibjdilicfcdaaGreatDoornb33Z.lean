/- Package cells: the graph that is read, as plain data. -/
import Derived.Deep.AppendLies
import Derived.Deep.RegionHeld3
import Derived.StillTailTactics
import Derived.Test.YtlibjdilicfcdaaGreatDoornb29Z
import Derived.Test.YtlibjdilicfcdaaGreatDoornb28Z
import Derived.Test.YtlibjdilicfcdaaGreatDoornb02Z
import Derived.Test.YtlibjdilicfcdaaGreatDoornb05Z
namespace Go.Proofs.YtlibjdilicfcdaaGreatDoor
set_option maxRecDepth 100000
open Go.RowKit
def ndT (l : List Int) (ns : List ByteArray) (TS : List Int) (t : Int) : Nd := ⟨tdK t, tdS l ns t, tdN t, (tdL l t).map (fun c => posF TS (tmC l c))⟩
def rdN (l : List Int) (ns : List ByteArray) (TS : List Int) (n : Nat) : List Nd := (TS.take n).map (ndT l ns TS)
def ClT (l TS : List Int) (n : Nat) : Prop := ∀ i, i < n → ∀ c ∈ tdL l (TS.getD i 0), tmC l c ∈ TS
def InT (l TS : List Int) : Prop := ∀ t ∈ TS, ∃ k, k < l.length ∧ t = trmW l k
def Mn (l cs TS : List Int) : Prop := ∀ P : Int → Prop, (∀ c ∈ cs, P (tmC l c)) → (∀ t, P t → ∀ c ∈ tdL l t, P (tmC l c)) → ∀ t ∈ TS, P t
def rdG (l : List Int) (ns : List ByteArray) (cs TS : List Int) : Gf := ⟨rdN l ns TS TS.length, cs.map (fun c => posF TS (tmC l c))⟩
structure Rfi (l cs TS : List Int) : Prop where
  nodup : TS.Nodup
  cl : ClT l TS TS.length
  inT : InT l TS
  mn : Mn l cs TS
  root : ∀ c ∈ cs, tmC l c ∈ TS
section
variable {l : List Int} {ns : List ByteArray} {TS : List Int} {V : Nat → Bool}
theorem args_ok (hs : Snd l V) {t : Int} (ht : Tw l ns t) : ∀ c ∈ tdL l t, 0 ≤ c ∧ c < (l.length : Int) := fun c hc => by
  unfold tdL at hc
  split at hc
  · rename_i h3
    obtain ⟨_, hy, h4, hg, _⟩ := ht.str h3
    have h4' : wdN l (valOf t).toNat % 8 = 4 := h4
    have hfv := fun_val (wdN l (valOf t).toNat) hg h4'
    obtain ⟨a1, _⟩ := hs.args _ hy h4
    unfold rchL at hc
    rw [if_neg (by omega), if_pos h4'] at hc
    obtain ⟨i, hi, rfl⟩ := List.mem_map.1 hc
    rw [List.mem_range] at hi
    unfold arN' vlN at a1
    omega
  · cases hc
theorem args_eight {t : Int} (ht : Tw l ns t) : (tdL l t).length ≤ 8 := by
  unfold tdL
  split
  · rename_i h3
    obtain ⟨_, hy, h4, hg, _⟩ := ht.str h3
    have h4' : wdN l (valOf t).toNat % 8 = 4 := h4
    have hfv := fun_val (wdN l (valOf t).toNat) hg h4'
    unfold rchL
    rw [if_neg (by omega), if_pos h4']
    simp
    omega
  · exact Nat.zero_le _
theorem rd_step {n : Nat} (hC : ClT l TS n) (hn : n < TS.length) :
    rdN l ns (addsJ l (tdL l (TS.getD n 0)) TS (tdL l (TS.getD n 0)).length) (n + 1) = rdN l ns TS n ++ [ndT l ns (addsJ l (tdL l (TS.getD n 0)) TS (tdL l (TS.getD n 0)).length) (TS.getD n 0)] ∧ ClT l (addsJ l (tdL l (TS.getD n 0)) TS (tdL l (TS.getD n 0)).length) (n + 1) := by
  have hp : TS <+: addsJ l (tdL l (TS.getD n 0)) TS (tdL l (TS.getD n 0)).length := adds_le (Nat.zero_le _)
  have hmem : ∀ c ∈ tdL l (TS.getD n 0), tmC l c ∈ addsJ l (tdL l (TS.getD n 0)) TS (tdL l (TS.getD n 0)).length := fun c hc => by
    obtain ⟨i, hi, rfl⟩ := list_mem_getD hc
    exact adds_mem hi
  generalize addsJ l (tdL l (TS.getD n 0)) TS (tdL l (TS.getD n 0)).length = TS' at *
  obtain ⟨r, rfl⟩ := hp
  have ht : (TS ++ r).take (n + 1) = TS.take n ++ [TS.getD n 0] := by
    rw [List.take_append_of_le_length (by omega), List.take_add_one]
    simp [List.getD, hn]
  refine ⟨?_, fun i hi c hc => ?_⟩
  · unfold rdN
    rw [ht, List.map_append]
    congr 1
    apply List.map_congr_left
    intro x hx
    obtain ⟨i, hi, hxi⟩ := list_mem_getD hx
    have hi' : i < n ∧ i < TS.length := by
      rw [List.length_take] at hi
      omega
    have hxe : x = TS.getD i 0 := by
      rw [← hxi]
      simp [List.getD, hi'.1]
    unfold ndT
    congr 1
    apply List.map_congr_left
    intro c hc
    exact posF_pre (List.prefix_append _ _) (hC i hi'.1 c (by rw [← hxe]; exact hc))
  · have hg : ∀ j, j < TS.length → (TS ++ r).getD j 0 = TS.getD j 0 := fun j hj => by simp [List.getD, List.getElem?_append_left hj]
    by_cases e : i = n
    · subst e
      rw [hg i hn] at hc
      exact hmem c hc
    · rw [hg i (by omega)] at hc
      exact List.mem_append_left _ (hC i (by omega) c hc)
theorem inT_adds {cs : List Int} (hcs : ∀ x ∈ cs, 0 ≤ x ∧ x < (l.length : Int)) (h : InT l TS) : InT l (addsJ l cs TS cs.length) :=
  adds_all h _ (fun i hi => ⟨(cs.getD i 0).toNat, by have := hcs _ (getD_mem hi); omega, rfl⟩)
theorem mn_adds {cs ds : List Int} (h : Mn l cs TS) (hd : ∀ P : Int → Prop, (∀ c ∈ cs, P (tmC l c)) → (∀ t, P t → ∀ c ∈ tdL l t, P (tmC l c)) → ∀ c ∈ ds, P (tmC l c)) : Mn l cs (addsJ l ds TS ds.length) := fun P h1 h2 =>
  adds_all (h P h1 h2) _ (fun _ hi => hd P h1 h2 _ (getD_mem hi))
theorem inT_len (h : InT l TS) (hn : TS.Nodup) : TS.length ≤ l.length := by
  have := len_le_of_subset ((List.range l.length).map (trmW l)) TS hn (fun x hx => by
    obtain ⟨k, hk, rfl⟩ := h x hx
    exact List.mem_map.2 ⟨k, List.mem_range.2 hk, rfl⟩)
  simpa using this
structure Rmi (l cs TS : List Int) (k : Nat) : Prop where
  nodup : TS.Nodup
  cl : ClT l TS k
  inT : InT l TS
  mn : Mn l cs TS
  root : ∀ c ∈ cs, tmC l c ∈ TS
theorem Rfi.start (_hs : Snd l V) {cs : List Int} (hcs : ∀ x ∈ cs, 0 ≤ x ∧ x < (l.length : Int)) : Rmi l cs (addsJ l cs [] cs.length) 0 :=
  ⟨adds_nodup List.nodup_nil _, fun i hi => absurd hi (Nat.not_lt_zero _), inT_adds hcs (fun _ h => by cases h), mn_adds (fun _ _ _ _ h => by cases h) (fun _ h1 _ => h1), fun c hc => by
    obtain ⟨i, hi, rfl⟩ := list_mem_getD hc
    exact adds_mem hi⟩
theorem Rmi.step (hs : Snd l V) (hn : NsB l ns.length) (hl : l.length ≤ 65536) {cs : List Int} {k : Nat} (h : Rmi l cs TS k) (hk : k < TS.length) : Rmi l cs (addsJ l (tdL l (TS.getD k 0)) TS (tdL l (TS.getD k 0)).length) (k + 1) := by
  have hp : TS <+: addsJ l (tdL l (TS.getD k 0)) TS (tdL l (TS.getD k 0)).length := adds_le (Nat.zero_le _)
  obtain ⟨j, hj, e⟩ := h.inT _ (getD_mem hk)
  have hTw : Tw l ns (TS.getD k 0) := by
    rw [e]
    exact trm_tw hs hn hl hj
  exact ⟨adds_nodup h.nodup _, (rd_step (ns := ns) h.cl hk).2, inT_adds (args_ok hs hTw) h.inT, mn_adds h.mn (fun P h1 h2 => h2 _ (h.mn P h1 h2 _ (getD_mem hk))), fun c hc => hp.subset (h.root c hc)⟩
theorem Rmi.fin {cs : List Int} (h : Rmi l cs TS TS.length) : Rfi l cs TS := ⟨h.nodup, h.cl, h.inT, h.mn, h.root⟩
theorem rts_pre {cs TS' : List Int} (h : TS <+: TS') (hr : ∀ c ∈ cs, tmC l c ∈ TS) : cs.map (fun c => posF TS (tmC l c)) = cs.map (fun c => posF TS' (tmC l c)) := by
  apply List.map_congr_left
  intro c hc
  exact (posF_pre h (hr c hc)).symm
end
end Go.Proofs.YtlibjdilicfcdaaGreatDoor

namespace Go.Proofs.YtlibjdilicfcdaaGreatDoor
set_option maxRecDepth 100000
open Go.RowKit
section
variable {l : List Int} {ns : List ByteArray} {cs TS : List Int} {V : Nat → Bool}
theorem trm_int (h : Snd l V) (hl : l.length ≤ 65536) {k : Nat} (hk : k < l.length) (h2 : trmW l k % 8 = 2) : -1125899906842624 ≤ valOf (trmW l k) ∧ valOf (trmW l k) ≤ 1125899906842624 := by
  obtain ⟨j, hj, e, e2⟩ := trm_ends h _ k hk (Nat.le_refl _)
  rw [e2] at h2 ⊢
  unfold endW at h2 ⊢
  split at h2
  · obtain ⟨s1, _⟩ := word_str (j := j) (by omega)
    omega
  · rename_i h4
    rw [if_neg h4]
    have hg := h.good j hj
    unfold goodB at hg
    rw [h2] at hg
    simp [fitsB] at hg
    exact hg
theorem posF_in {x : Int} (h : x ∈ TS) : 0 ≤ posF TS x ∧ posF TS x < (TS.length : Int) := by
  unfold posF
  rw [if_pos h]
  have := pos_lt h
  omega
theorem rd_nodes (_h : Rfi l cs TS) : (rdG l ns cs TS).nodes.length = TS.length := by simp [rdG, rdN]
theorem rd_good (hs : Snd l V) (hn : NsB l ns.length) (hl : l.length ≤ 65536) (hg : ∀ s ∈ ns, n_goodS s = true) (h : Rfi l cs TS) (h1 : TS.length ≤ 4096) (h2 : cs.length ≤ 4096) : Good (rdG l ns cs TS) := by
  refine ⟨by rw [rd_nodes h]; exact h1, by simp [rdG]; exact h2, fun nd hnd => ?_, fun x hx => ?_⟩
  · rw [rd_nodes h]
    have hnd' : nd ∈ (TS.take TS.length).map (ndT l ns TS) := hnd
    rw [List.take_length] at hnd'
    obtain ⟨t, ht, rfl⟩ := List.mem_map.1 hnd'
    obtain ⟨k, hk, hte⟩ := h.inT t ht
    have hTw : Tw l ns t := by rw [hte]; exact trm_tw hs hn hl hk
    have hcl : ∀ c ∈ tdL l t, tmC l c ∈ TS := by
      obtain ⟨i, hi, rfl⟩ := list_mem_getD ht
      exact h.cl i hi
    have hgD : ∀ i, i < ns.length → goodS (ns.getD i ⟨#[]⟩) = true := fun i hi => hg _ (by simp [List.getD, hi])
    have he : (⟨#[]⟩ : ByteArray).toList = [] := by rw [ByteArray.toList_eq]
    unfold goodNd ndT
    dsimp only
    rcases hTw.tag with e | e | e | e
    · have k1 : tdK t = 1 := by simp [tdK, e]
      rw [if_pos k1]
      simp [tdS, tdN, tdL, e, he]
    · have k1 : tdK t = 2 := by simp [tdK, e]
      rw [if_neg (by omega), if_pos k1]
      have hs1 : tdS l ns t = ns.getD (valOf t).toNat ⟨#[]⟩ := by simp [tdS, e]
      rw [hs1, hgD _ (hTw.atom e).2]
      simp [tdN, tdL, e]
    · have k1 : tdK t = 3 := by simp [tdK, e]
      rw [if_neg (by omega), if_neg (by omega), if_pos k1]
      have hi := trm_int hs hl hk (by rw [← hte]; exact e)
      rw [← hte] at hi
      simp [tdS, tdN, tdL, e, he, hi]
    · have k1 : tdK t = 4 := by simp [tdK, e]
      rw [if_neg (by omega), if_neg (by omega), if_neg (by omega), if_pos k1]
      obtain ⟨_, hy, h4, hgw, hnm⟩ := hTw.str e
      have hs1 : tdS l ns t = ns.getD (valOf (wdN l (valOf t).toNat) / 16).toNat ⟨#[]⟩ := by simp [tdS, e]
      rw [hs1, hgD _ hnm]
      have h4' : wdN l (valOf t).toNat % 8 = 4 := h4
      have hfv := fun_val (wdN l (valOf t).toNat) hgw h4'
      have hln : (tdL l t).length = (valOf (wdN l (valOf t).toNat) % 16).toNat := by
        unfold tdL rchL
        rw [if_pos e, if_neg (by omega), if_pos h4']
        simp
      have hst : ((tdL l t).map (fun c => posF TS (tmC l c))).any (strange TS.length) = false := by
        rw [List.any_eq_false]
        intro x hx
        obtain ⟨c, hc, rfl⟩ := List.mem_map.1 hx
        have := posF_in (hcl c hc)
        simp [strange]
        omega
      rw [hst, List.length_map, hln]
      have hn0 : tdN t = 0 := by simp [tdN, e]
      rw [hn0]
      simp
      omega
  · rw [rd_nodes h]
    have hx' : x ∈ cs.map (fun c => posF TS (tmC l c)) := hx
    obtain ⟨c, hc, rfl⟩ := List.mem_map.1 hx'
    exact posF_in (h.root c hc)
end
end Go.Proofs.YtlibjdilicfcdaaGreatDoor

namespace Go.Proofs.YtlibjdilicfcdaaGreatDoor
set_option maxRecDepth 100000
open Go.RowKit
def Lr (L : List Nat) (r : Nat → Nat) : Prop := ∀ n, n < L.length → L.getD n 0 ≠ n → r (L.getD n 0) < r n
theorem Lr.half {L : List Nat} {E r : Nat → Nat} (h : Ld L E) (hr : Lr L r) {n : Nat} (hn : n < L.length) : Lr (L.set n (L.getD (L.getD n 0) 0)) r := fun i hi hne => by
  have h1 := h.rng n hn
  rw [List.length_set] at hi
  rw [getD_setN hn] at hne ⊢
  split
  · rename_i e
    subst e
    rw [if_pos rfl] at hne
    have e1 : L.getD i 0 ≠ i := fun e => hne (by rw [e, e])
    have a1 := hr i hn e1
    by_cases e2 : L.getD (L.getD i 0) 0 = L.getD i 0
    · rw [e2]; exact a1
    · have a2 := hr _ h1 e2
      omega
  · rename_i e
    rw [if_neg e] at hne
    exact hr i hi hne
end Go.Proofs.YtlibjdilicfcdaaGreatDoor

namespace Go.Proofs.YtlibjdilicfcdaaGreatDoor
set_option maxRecDepth 100000
open Go.RowKit
theorem blk2y {w : World} {q : Nat} {u0 u1 : Value} {T : TypeId} (h : w.heap[q]? = some (.cells #[u0, u1] T)) : (w.cell? ⟨q, 0, none⟩ = some u0 ∧ w.cell? ⟨q, 1, none⟩ = some u1) ∧ w.frozen? ⟨q, 0, none⟩ = false ∧ w.frozen? ⟨q, 1, none⟩ = false := by
  refine ⟨⟨?_, ?_⟩, ?_, ?_⟩ <;> simp [World.cell?, World.frozen?, h]
end Go.Proofs.YtlibjdilicfcdaaGreatDoor
