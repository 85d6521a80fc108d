/- Classes laid one behind the other are a partition: as plain mathematics. -/
import Derived.Test.YtllafbghomohhaaBiLab
namespace Go.Proofs.Ytllafbghomohhaa
open Go.RowKit

/-- The nodes of the first c classes, class by class. -/
def catF (cl : Nat → Nat) (N c : Nat) : List Nat := (List.range c).flatMap (mF cl N)
theorem catF_succ (cl : Nat → Nat) (N c : Nat) : catF cl N (c + 1) = catF cl N c ++ mF cl N c := by
  unfold catF
  rw [List.range_succ, List.flatMap_append]
  simp
theorem catF_mem {cl : Nat → Nat} {N c n : Nat} : n ∈ catF cl N c ↔ n < N ∧ cl n < c := by
  unfold catF
  rw [List.mem_flatMap]
  constructor
  · rintro ⟨d, hd, hn⟩
    have h1 := List.mem_range.1 hd
    have h2 := mF_mem.1 hn
    omega
  · rintro ⟨h1, h2⟩
    exact ⟨cl n, List.mem_range.2 h2, mF_mem.2 ⟨h1, rfl⟩⟩
theorem catF_nodup (cl : Nat → Nat) (N : Nat) : ∀ c, (catF cl N c).Nodup
  | 0 => by simp [catF]
  | c + 1 => by
    rw [catF_succ]
    refine List.nodup_append.2 ⟨catF_nodup cl N c, mF_nodup cl N c, fun a ha b hb e => ?_⟩
    have h1 := catF_mem.1 ha
    have h2 := mF_mem.1 hb
    subst e
    omega
theorem full_len : ∀ (N : Nat) (L : List Nat), (∀ n, n < N → n ∈ L) → N ≤ L.length
  | 0, _, _ => Nat.zero_le _
  | N + 1, L, h => by
    have h1 := h N (by omega)
    have h2 := full_len N (L.erase N) (fun n hn => (List.mem_erase_of_ne (by omega)).2 (h n (by omega)))
    have h3 := List.length_erase_of_mem h1
    have h4 : 0 < L.length := List.length_pos_of_mem h1
    omega
theorem catF_prefix (cl : Nat → Nat) (N c : Nat) : ∀ d, catF cl N c <+: catF cl N (c + d)
  | 0 => List.prefix_refl _
  | d + 1 => (catF_prefix cl N c d).trans (by
    show _ <+: catF cl N (c + d + 1)
    rw [catF_succ]
    exact List.prefix_append _ _)
theorem prefix_get {A B : List Nat} (h : A <+: B) {i : Nat} (hi : i < A.length) : B.getD i 0 = A.getD i 0 := by
  obtain ⟨t, rfl⟩ := h
  simp [List.getD, List.getElem?_append_left hi]
/-- Where a number stands. -/
def idxN : List Nat → Nat → Nat
  | [], _ => 0
  | x :: r, n => if n = x then 0 else idxN r n + 1
theorem idxN_get : ∀ {L : List Nat} {i : Nat}, L.Nodup → i < L.length → idxN L (L.getD i 0) = i
  | [], _, _, h => absurd h (Nat.not_lt_zero _)
  | x :: r, 0, _, _ => by simp [idxN]
  | x :: r, i + 1, hn, hi => by
    have h1 := List.nodup_cons.1 hn
    have hi' : i < r.length := by simpa using hi
    have h2 := idxN_get h1.2 hi'
    have h3 : (x :: r).getD (i + 1) 0 = r.getD i 0 := by simp
    rw [h3]
    unfold idxN
    rw [if_neg (fun e => h1.1 (by rw [← e]; exact nget_mem hi')), h2]
theorem idxN_mem : ∀ {L : List Nat} {n : Nat}, n ∈ L → idxN L n < L.length ∧ L.getD (idxN L n) 0 = n
  | [], _, h => by simp at h
  | x :: r, n, h => by
    unfold idxN
    by_cases e : n = x
    · rw [if_pos e]
      exact ⟨by simp, by simp [e]⟩
    · rw [if_neg e]
      have h1 := idxN_mem (L := r) (n := n) ((List.mem_cons.1 h).resolve_left e)
      exact ⟨by simpa using h1.1, by simpa using h1.2⟩
/-- The partition that is laid. -/
def catS (cl : Nat → Nat) (N C : Nat) : Ps :=
  { C := C
    nd := fun i => (catF cl N C).getD i 0
    pl := idxN (catF cl N C)
    cl := cl
    fi := fun c => (catF cl N c).length
    be := fun c => (catF cl N (c + 1)).length
    mq := fun _ => 0 }
theorem catF_len {cl : Nat → Nat} {N C : Nat} (hlt : ∀ n, n < N → cl n < C) : (catF cl N C).length = N := by
  have h1 := fewer (catF_nodup cl N C) (fun n h => (catF_mem.1 h).1)
  have h2 := full_len N (catF cl N C) (fun n hn => catF_mem.2 ⟨hn, hlt n hn⟩)
  omega
theorem catS_iv {cl : Nat → Nat} {N C : Nat} (hlt : ∀ n, n < N → cl n < C) (hsur : ∀ c, c < C → ∃ n, n < N ∧ cl n = c) : Iv N (catS cl N C) := by
  have hlen := catF_len hlt
  have hnd := catF_nodup cl N C
  have hpos : ∀ c, c < C → ∀ i, (catF cl N c).length ≤ i → i < (catF cl N (c + 1)).length → (catF cl N C).getD i 0 = (mF cl N c).getD (i - (catF cl N c).length) 0 ∧ i - (catF cl N c).length < (mF cl N c).length := fun c hc i h1 h2 => by
    obtain ⟨d, rfl⟩ : ∃ d, C = c + 1 + d := ⟨C - (c + 1), by omega⟩
    rw [prefix_get (catF_prefix cl N (c + 1) d) h2]
    rw [catF_succ] at h2 ⊢
    rw [List.length_append] at h2
    exact ⟨by simp [List.getD, List.getElem?_append_right h1], by omega⟩
  have hle : ∀ c, c ≤ C → (catF cl N c).length ≤ N := fun c hc => by
    obtain ⟨d, rfl⟩ : ∃ d, C = c + d := ⟨C - c, by omega⟩
    have := (catF_prefix cl N c d).length_le
    omega
  refine ⟨fun n hn => ?_, fun i hi => ?_, fun n hn => hlt n hn, fun c hc => ?_, fun n c hn hc => ?_⟩
  · have h1 := idxN_mem (L := catF cl N C) (catF_mem.2 ⟨hn, hlt n hn⟩)
    rw [hlen] at h1
    exact h1
  · have h1 : i < (catF cl N C).length := by omega
    exact ⟨(catF_mem.1 (nget_mem h1)).1, idxN_get hnd h1⟩
  · obtain ⟨n, hn, e⟩ := hsur c hc
    have h1 : n ∈ mF cl N c := mF_mem.2 ⟨hn, e⟩
    have h2 := List.length_pos_of_mem h1
    have h3 := hle (c + 1) hc
    show (catF cl N c).length < (catF cl N (c + 1)).length ∧ (catF cl N (c + 1)).length ≤ N ∧ (catF cl N c).length + 0 ≤ (catF cl N (c + 1)).length
    rw [catF_succ, List.length_append] at h3 ⊢
    omega
  · show cl n = c ↔ (catF cl N c).length ≤ idxN (catF cl N C) n ∧ idxN (catF cl N C) n < (catF cl N (c + 1)).length
    have hm := idxN_mem (L := catF cl N C) (catF_mem.2 ⟨hn, hlt n hn⟩)
    constructor
    · intro e
      have h1 : n ∈ mF cl N c := mF_mem.2 ⟨hn, e⟩
      obtain ⟨j, hj, ej⟩ := List.getElem_of_mem h1
      have h2 : (catF cl N c).length + j < (catF cl N (c + 1)).length := by
        rw [catF_succ, List.length_append]
        omega
      have h3 := hpos c hc ((catF cl N c).length + j) (by omega) h2
      have h4 : (catF cl N c).length + j - (catF cl N c).length = j := by omega
      rw [h4] at h3
      have h5 : (catF cl N C).getD ((catF cl N c).length + j) 0 = n := by
        rw [h3.1, ← ej]
        simp [List.getD, hj]
      have h6 := hle (c + 1) hc
      have h7 := idxN_get hnd (i := (catF cl N c).length + j) (by omega)
      rw [h5] at h7
      omega
    · rintro ⟨h1, h2⟩
      have h3 := hpos c hc _ h1 h2
      rw [hm.2] at h3
      have h4 := nget_mem h3.2
      rw [← h3.1] at h4
      exact (mF_mem.1 h4).2
/-- The rows while classes are entered: so many are. -/
def catR (cl : Nat → Nat) (N c : Nat) (i : Nat) : List Int :=
  if i = 0 then ints (catF cl N c) else if i = 1 then rowF N (fun _ => 0) else if i = 2 then rowF N (fun n => if cl n < c then cl n else 0) else if i = 3 then rowF c (fun c => (catF cl N c).length) else if i = 4 then rowF c (fun c => (catF cl N (c + 1)).length) else rowF c (fun _ => 0)
theorem ints_app (a b : List Nat) : ints (a ++ b) = ints a ++ ints b := by simp [ints]
theorem ints_drop (a b : List Nat) : ((ints (a ++ b)).drop a.length).take ((a ++ b).length - a.length) = ints b := by
  rw [ints_app, List.drop_append_of_le_length (by rw [ints_len]; exact Nat.le_refl _), List.drop_of_length_le (by rw [ints_len]; exact Nat.le_refl _), List.nil_append, List.take_of_length_le (by rw [ints_len, List.length_append]; omega)]
theorem catR_step (cl : Nat → Nat) (N c : Nat) : ∀ i, i < 6 → upd (upd (upd (upd (upd (catR cl N c) 0 (ints (catF cl N (c + 1)))) 2 (setL (catR cl N c 2) (((ints (catF cl N (c + 1))).drop (catF cl N c).length).take ((catF cl N (c + 1)).length - (catF cl N c).length)) (catR cl N c 3).length)) 3 (catR cl N c 3 ++ [((catF cl N c).length : Int)])) 4 (catR cl N c 4 ++ [((catF cl N (c + 1)).length : Int)])) 5 (catR cl N c 5 ++ [0]) i = catR cl N (c + 1) i := by
  refine six rfl rfl ?_ ?_ ?_ ?_
  · show setL (rowF N _) _ ((rowF c _).length : Nat) = rowF N _
    rw [rowF_len, catF_succ, ints_drop, setL_row _ _ _ _ (fun x hx => by
      obtain ⟨n, _, rfl⟩ := List.mem_map.1 hx
      omega)]
    refine rowF_congr fun n hn => ?_
    have hm : (n : Int) ∈ ints (mF cl N c) ↔ cl n = c := by
      unfold ints
      rw [List.mem_map]
      constructor
      · rintro ⟨m, hm, e⟩
        have e' : m = n := by omega
        subst e'
        exact (mF_mem.1 hm).2
      · intro e
        exact ⟨n, mF_mem.2 ⟨hn, e⟩, rfl⟩
    by_cases e : cl n = c
    · rw [if_pos (hm.2 e), if_pos (by omega), e]
    · rw [if_neg (fun h => e (hm.1 h))]
      by_cases e2 : cl n < c
      · rw [if_pos e2, if_pos (by omega)]
      · rw [if_neg e2, if_neg (by omega)]
  · show rowF c _ ++ [((catF cl N c).length : Int)] = rowF (c + 1) _
    rw [rowF_snoc]
    refine rowF_congr fun i _ => ?_
    unfold upd
    by_cases e : i = c
    · rw [if_pos e, e]
    · rw [if_neg e]
  · show rowF c _ ++ [((catF cl N (c + 1)).length : Int)] = rowF (c + 1) _
    rw [rowF_snoc]
    refine rowF_congr fun i _ => ?_
    unfold upd
    by_cases e : i = c
    · rw [if_pos e, e]
    · rw [if_neg e]
  · show rowF c _ ++ [((0 : Nat) : Int)] = rowF (c + 1) _
    rw [rowF_snoc]
    refine rowF_congr fun i _ => ?_
    unfold upd
    by_cases e : i = c
    · rw [if_pos e]
    · rw [if_neg e]
theorem catR_step2 (cl : Nat → Nat) (N c b : Nat) (hb : b = (catF cl N (c + 1)).length) : ∀ i, i < 6 → upd (upd (upd (upd (upd (catR cl N c) 0 (ints (catF cl N (c + 1)))) 2 (setL (catR cl N c 2) (((ints (catF cl N (c + 1))).drop (catF cl N c).length).take (b - (catF cl N c).length)) (catR cl N c 3).length)) 3 (catR cl N c 3 ++ [((catF cl N c).length : Int)])) 4 (catR cl N c 4 ++ [(b : Int)])) 5 (catR cl N c 5 ++ [0]) i = catR cl N (c + 1) i := by
  subst hb
  exact catR_step cl N c
/-- The places while they are told: the first k nodes have one. -/
def plK (L : List Nat) (k n : Nat) : Nat := if n ∈ L.take k then idxN L n else 0
theorem plK_step {L : List Nat} (hn : L.Nodup) {k : Nat} (hk : k < L.length) : upd (plK L k) (L.getD k 0) k = plK L (k + 1) := by
  funext n
  unfold upd plK
  rw [ntake_snoc hk]
  by_cases e : n = L.getD k 0
  · rw [if_pos e, if_pos (by simp [e]), e, idxN_get hn hk]
  · rw [if_neg e]
    by_cases e2 : n ∈ L.take k
    · rw [if_pos e2, if_pos (by simp [e2])]
    · rw [if_neg e2, if_neg (fun h => by
        rcases List.mem_append.1 h with h1 | h1
        · exact e2 h1
        · exact e (by simpa using h1))]
theorem catR_last {cl : Nat → Nat} {N C : Nat} (hlt : ∀ n, n < N → cl n < C) : ∀ i, i < 6 → upd (catR cl N C) 1 (rowF N (plK (catF cl N C) N)) i = (catS cl N C).rows N i := by
  have hlen := catF_len hlt
  refine six ?_ ?_ ?_ rfl rfl rfl
  · show ints (catF cl N C) = rowF N _
    apply List.ext_getElem
    · rw [ints_len, rowF_len, hlen]
    · intro i h1 h2
      rw [ints_len] at h1
      simp [ints, rowF, catS, List.getD, h1]
  · show rowF N _ = rowF N _
    refine rowF_congr fun n hn => ?_
    unfold plK
    rw [List.take_of_length_le (by omega), if_pos (catF_mem.2 ⟨hn, hlt n hn⟩)]
    rfl
  · show rowF N _ = rowF N cl
    refine rowF_congr fun n hn => ?_
    rw [if_pos (hlt n hn)]
end Go.Proofs.Ytllafbghomohhaa
