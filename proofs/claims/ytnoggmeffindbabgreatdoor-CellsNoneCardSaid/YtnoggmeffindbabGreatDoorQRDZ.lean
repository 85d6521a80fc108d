/- Package cells: the words that Put lays down are sound. -/
import Derived.Test.YtnoggmeffindbabGreatDoorQRAZ
import Derived.Test.YtnoggmeffindbabGreatDoorQACZ
import Derived.Test.YtnoggmeffindbabGreatDoorQRBZ
import Derived.Laws.StructEq
import Derived.LaidEql
import Derived.Deep.RegionHeld3
namespace Go.Proofs.YtnoggmeffindbabGreatDoor
open Go.RowKit

/-- What Put is asked with, as plain data. -/
structure PmC (NS : List ByteArray) (g : Gf) (met : List Int) (b : Nat) : Prop where
  good : Good g
  ok : Ok g.nodes.length met
  root : ∀ x ∈ g.roots, x ∈ met
  arg : ∀ x ∈ met, ∀ y ∈ g.argsOf x, y ∈ met
  nm : ∀ x ∈ met, (g.nodes.getD x.toNat nd0).kind = 2 ∨ (g.nodes.getD x.toNat nd0).kind = 4 → num NS (g.nodes.getD x.toNat nd0).name < NS.length
  len : NS.length ≤ 1024
  room : b + (putW NS g met b).length ≤ 65536
section
variable {NS : List ByteArray} {g : Gf} {met : List Int} {b : Nat}
theorem PmC.nd (h : PmC NS g met b) {x : Int} (hx : x ∈ met) : goodNd g.nodes.length (g.nodes.getD x.toNat nd0) = true := by
  have hr := h.ok.rng x hx
  exact h.good.node _ (by
    have : x.toNat < g.nodes.length := by omega
    simp [List.getD, this])
theorem good_kind {N : Nat} {n : Nd} (h : goodNd N n = true) : n.kind = 1 ∨ n.kind = 2 ∨ n.kind = 3 ∨ n.kind = 4 := by
  unfold goodNd at h
  split at h
  · omega
  · split at h
    · omega
    · split at h
      · omega
      · split at h
        · omega
        · cases h
theorem PmC.pl (_h : PmC NS g met b) {x : Int} (hx : x ∈ met) : plN g met b x + szN (g.nodes.getD x.toNat nd0) ≤ b + (putW NS g met b).length ∧ b ≤ plN g met b x := by
  have h1 := want_next (g := g) (met := met) (pos_lt hx)
  rw [pos_at hx] at h1
  rw [putW_len]
  unfold plN
  omega
/-- The words of a node, where they lie. -/
theorem PmC.at (_h : PmC NS g met b) {x : Int} (hx : x ∈ met) {r : Nat} (hr : r < szN (g.nodes.getD x.toNat nd0)) : (putW NS g met b).getD (plN g met b x - b + r) 0 = (nwX NS g met b x).getD r 0 := by
  have h1 := putW_node (ns := NS) (b := b) (pos_lt hx) (r := r) (by rw [pos_at hx]; exact hr)
  rw [pos_at hx] at h1
  unfold plN
  rw [show b + wantJ g met (pos met x) - b + r = wantJ g met (pos met x) + r by omega]
  exact h1
/-- A cell's word. -/
structure Cw (NS : List ByteArray) (g : Gf) (met : List Int) (b : Nat) (x : Int) (u : Int) : Prop where
  good : goodB u = true
  rng : 0 ≤ u ∧ u ≤ 18446744073709551615
  tag : u % 8 = 0 ∨ u % 8 = 1 ∨ u % 8 = 2 ∨ u % 8 = 3
  ref : u % 8 = 0 → (g.nodes.getD x.toNat nd0).kind = 1 ∧ valOf u = (plN g met b x : Int)
  str : u % 8 = 3 → (g.nodes.getD x.toNat nd0).kind = 4 ∧ valOf u = (plN g met b x : Int)
  atom : u % 8 = 1 → (valOf u).toNat < NS.length
theorem PmC.cw (h : PmC NS g met b) {x : Int} (hx : x ∈ met) : Cw NS g met b x (cwX NS g met b x) := by
  have hn := h.nd hx
  have hp := (h.pl hx).1
  have hrm := h.room
  have hpl : (g.nodes.getD x.toNat nd0).kind ≠ 2 → (g.nodes.getD x.toNat nd0).kind ≠ 3 → plN g met b x < 65536 := fun h2 h3 => by
    have := sz_pos hn h2 h3
    omega
  unfold cwX cwF
  rcases good_kind hn with k | k | k | k
  · rw [if_neg (by omega), if_neg (by omega), if_neg (by omega)]
    have hf : fitsB 0 (plN g met b x : Int) = true := by have := hpl (by omega) (by omega); simp [fitsB]; omega
    have ht := wordOf_tag 0 (plN g met b x : Int) (by omega) (by omega)
    exact ⟨wordOf_good _ _ hf, wordOf_bd _ _, Or.inl ht, fun _ => ⟨k, wordOf_val _ _ hf⟩, fun e => by omega, fun e => by omega⟩
  · rw [if_pos k]
    have hnm := h.nm x hx (Or.inl k)
    have hl := h.len
    have hf : fitsB 1 (num NS (g.nodes.getD x.toNat nd0).name : Int) = true := by generalize num NS (g.nodes.getD x.toNat nd0).name = v at *; simp [fitsB]; omega
    have ht := wordOf_tag 1 (num NS (g.nodes.getD x.toNat nd0).name : Int) (by omega) (by omega)
    exact ⟨wordOf_good _ _ hf, wordOf_bd _ _, Or.inr (Or.inl ht), fun e => by omega, fun e => by omega, fun _ => by rw [wordOf_val _ _ hf, Int.toNat_natCast]; exact hnm⟩
  · rw [if_neg (by omega), if_pos k]
    have hf := good_int hn k
    have ht := wordOf_tag 2 (g.nodes.getD x.toNat nd0).num (by omega) (by omega)
    exact ⟨wordOf_good _ _ hf, wordOf_bd _ _, Or.inr (Or.inr (Or.inl ht)), fun e => by omega, fun e => by omega, fun e => by omega⟩
  · rw [if_neg (by omega), if_neg (by omega), if_pos k]
    have hf : fitsB 3 (plN g met b x : Int) = true := by have := hpl (by omega) (by omega); simp [fitsB]; omega
    have ht := wordOf_tag 3 (plN g met b x : Int) (by omega) (by omega)
    exact ⟨wordOf_good _ _ hf, wordOf_bd _ _, Or.inr (Or.inr (Or.inr ht)), fun e => by omega, fun _ => ⟨k, wordOf_val _ _ hf⟩, fun e => by omega⟩
/-- A functor's word. -/
theorem PmC.fw (h : PmC NS g met b) {x : Int} (hx : x ∈ met) (k : (g.nodes.getD x.toNat nd0).kind = 4) : goodB (fwF NS (g.nodes.getD x.toNat nd0)) = true ∧ (0 ≤ fwF NS (g.nodes.getD x.toNat nd0) ∧ fwF NS (g.nodes.getD x.toNat nd0) ≤ 18446744073709551615) ∧ fwF NS (g.nodes.getD x.toNat nd0) % 8 = 4 ∧ valOf (fwF NS (g.nodes.getD x.toNat nd0)) = (num NS (g.nodes.getD x.toNat nd0).name : Int) * 16 + ((g.nodes.getD x.toNat nd0).args.length : Int) := by
  have hn := h.nd hx
  have h18 := good_comp hn k
  have hnm := h.nm x hx (Or.inr k)
  have hl := h.len
  have hf := (fun_fitsC (num NS (g.nodes.getD x.toNat nd0).name : Int) ((g.nodes.getD x.toNat nd0).args.length : Int) (by generalize num NS (g.nodes.getD x.toNat nd0).name = v at *; generalize (g.nodes.getD x.toNat nd0).args.length = q at *; simp [funB]; omega)).1
  unfold fwF
  exact ⟨wordOf_good _ _ hf, wordOf_bd _ _, wordOf_tag _ _ (by omega) (by omega), wordOf_val _ _ hf⟩
theorem nw_var {x : Int} (k : (g.nodes.getD x.toNat nd0).kind = 1) : nwX NS g met b x = [8 * (plN g met b x : Int)] := by
  unfold nwX
  rw [if_pos k]
theorem nw_comp {x : Int} (k : (g.nodes.getD x.toNat nd0).kind = 4) : nwX NS g met b x = fwF NS (g.nodes.getD x.toNat nd0) :: (g.nodes.getD x.toNat nd0).args.map (cwX NS g met b) := by
  unfold nwX
  rw [if_neg (by omega), if_pos k]
theorem sz_var {n : Nd} (k : n.kind = 1) : szN n = 1 := by unfold szN; rw [if_pos k]
theorem sz_comp {n : Nd} (k : n.kind = 4) : szN n = 1 + n.args.length := by unfold szN; rw [if_neg (by omega), if_pos k]
/-- What stands at a place. -/
theorem PmC.cover (h : PmC NS g met b) {c : Nat} (hc : c < (putW NS g met b).length) :
    (∃ x ∈ met, (putW NS g met b).getD c 0 = cwX NS g met b x) ∨ (∃ x ∈ met, (g.nodes.getD x.toNat nd0).kind = 1 ∧ b + c = plN g met b x ∧ (putW NS g met b).getD c 0 = 8 * (plN g met b x : Int)) ∨ (∃ x ∈ met, (g.nodes.getD x.toNat nd0).kind = 4 ∧ b + c = plN g met b x ∧ (putW NS g met b).getD c 0 = fwF NS (g.nodes.getD x.toNat nd0)) := by
  rw [putW_len] at hc
  rcases want_cover _ c hc with h1 | ⟨j, r, hj, hr, rfl⟩
  · exact Or.inl ⟨_, h.root _ (getD_mem h1), putW_root h1⟩
  · have hx := getD_mem hj
    have e1 := putW_node (ns := NS) (b := b) hj hr
    have hpl : plN g met b (met.getD j 0) = b + wantJ g met j := by
      unfold plN
      rw [pos_of_getD h.ok.nodup hj]
    generalize met.getD j 0 = x at *
    rcases good_kind (h.nd hx) with k | k | k | k
    · rw [sz_var k] at hr
      obtain rfl : r = 0 := by omega
      refine Or.inr (Or.inl ⟨x, hx, k, by omega, ?_⟩)
      rw [e1, nw_var k]
      rfl
    · exact absurd hr (by unfold szN; rw [if_neg (by omega), if_neg (by omega)]; omega)
    · exact absurd hr (by unfold szN; rw [if_neg (by omega), if_neg (by omega)]; omega)
    · rw [sz_comp k] at hr
      rw [nw_comp k] at e1
      match r, hr with
      | 0, _ => exact Or.inr (Or.inr ⟨x, hx, k, by omega, e1⟩)
      | r + 1, hr =>
        rw [getD_map1 _ _ (by omega)] at e1
        exact Or.inl ⟨_, h.arg x hx _ (getD_mem (by unfold Gf.argsOf; omega)), e1⟩
/-- The places of variables. -/
def vrP (g : Gf) (met : List Int) (b : Nat) (V : Nat → Bool) (k : Nat) : Bool := if k < b then V k else met.any (fun x => decide ((g.nodes.getD x.toNat nd0).kind = 1) && decide (plN g met b x = k))
theorem PmC.may (h : PmC NS g met b) {c : Nat} (hc : c < (putW NS g met b).length) : 0 ≤ (putW NS g met b).getD c 0 ∧ (putW NS g met b).getD c 0 ≤ 18446744073709551615 ∧ mayB ((putW NS g met b).getD c 0) (b + (putW NS g met b).length) = true := by
  have key : ∀ u : Int, goodB u = true → (u % 8 = 0 ∨ u % 8 = 3 ∨ u % 8 = 5 → ∃ p : Nat, valOf u = (p : Int) ∧ p < b + (putW NS g met b).length) → mayB u (b + (putW NS g met b).length) = true := fun u hg hv => by
    unfold mayB
    rw [hg, Bool.true_and]
    by_cases ht : tellsB u = true
    · have : u % 8 = 0 ∨ u % 8 = 3 ∨ u % 8 = 5 := by simpa [tellsB] using ht
      obtain ⟨p, e, hp⟩ := hv this
      rw [e]
      simp
      exact Or.inr (by omega)
    · have : tellsB u = false := by simpa using ht
      rw [this]
      rfl
  rcases h.cover hc with ⟨x, hx, e⟩ | ⟨x, hx, k, e2, e⟩ | ⟨x, hx, k, e2, e⟩
  · rw [e]
    have hcw := h.cw hx
    refine ⟨hcw.rng.1, hcw.rng.2, key _ hcw.good (fun ht => ?_)⟩
    have hp := (h.pl hx).1
    rcases ht with t | t | t
    · obtain ⟨k, hv⟩ := hcw.ref t
      rw [sz_var k] at hp
      exact ⟨_, hv, by omega⟩
    · obtain ⟨k, hv⟩ := hcw.str t
      rw [sz_comp k] at hp
      exact ⟨_, hv, by omega⟩
    · have := hcw.tag
      omega
  · rw [e]
    have hp := (h.pl hx).1
    have hr := h.room
    rw [sz_var k] at hp
    have hf : fitsB 0 (plN g met b x : Int) = true := by simp [fitsB]; omega
    have hw : 8 * (plN g met b x : Int) = wordOf 0 (plN g met b x : Int) := by unfold wordOf; omega
    rw [hw]
    exact ⟨(wordOf_bd _ _).1, (wordOf_bd _ _).2, key _ (wordOf_good _ _ hf) (fun _ => ⟨_, wordOf_val _ _ hf, by omega⟩)⟩
  · rw [e]
    obtain ⟨f1, f2, f3, _⟩ := h.fw hx k
    exact ⟨f2.1, f2.2, key _ f1 (fun t => by omega)⟩
end
section
variable {NS : List ByteArray} {g : Gf} {met : List Int} {l : List Int} {V : Nat → Bool}
theorem wd_old {T : List Int} {k : Nat} (hk : k < l.length) : wdN (l ++ T) k = wdN l k := by
  unfold wdN
  simp [List.getD, List.getElem?_append_left hk]
theorem wd_nw {T : List Int} {k : Nat} (hk : l.length ≤ k) : wdN (l ++ T) k = T.getD (k - l.length) 0 := by
  unfold wdN
  simp [List.getD, List.getElem?_append_right hk]
theorem tg_old {T : List Int} {k : Nat} (hk : k < l.length) : tgN (l ++ T) k = tgN l k ∧ vlN (l ++ T) k = vlN l k := by
  unfold tgN vlN
  rw [wd_old hk]
  exact ⟨rfl, rfl⟩
/-- A variable's own word. -/
theorem PmC.var (h : PmC NS g met l.length) {x : Int} (hx : x ∈ met) (k : (g.nodes.getD x.toNat nd0).kind = 1) : wdN (l ++ putW NS g met l.length) (plN g met l.length x) = 8 * (plN g met l.length x : Int) := by
  have hp := h.pl hx
  rw [wd_nw hp.2]
  have h1 := h.at hx (r := 0) (by rw [sz_var k]; omega)
  rw [Nat.add_zero, nw_var k] at h1
  exact h1
theorem PmC.fun (h : PmC NS g met l.length) {x : Int} (hx : x ∈ met) (k : (g.nodes.getD x.toNat nd0).kind = 4) : wdN (l ++ putW NS g met l.length) (plN g met l.length x) = fwF NS (g.nodes.getD x.toNat nd0) := by
  have hp := h.pl hx
  rw [wd_nw hp.2]
  have h1 := h.at hx (r := 0) (by rw [sz_comp k]; omega)
  rw [Nat.add_zero, nw_comp k] at h1
  exact h1
theorem PmC.args (h : PmC NS g met l.length) {x : Int} (hx : x ∈ met) (k : (g.nodes.getD x.toNat nd0).kind = 4) {i : Nat} (hi : i < (g.nodes.getD x.toNat nd0).args.length) : wdN (l ++ putW NS g met l.length) (plN g met l.length x + 1 + i) = cwX NS g met l.length ((g.nodes.getD x.toNat nd0).args.getD i 0) ∧ (g.nodes.getD x.toNat nd0).args.getD i 0 ∈ met := by
  have hp := h.pl hx
  refine ⟨?_, h.arg x hx _ (getD_mem hi)⟩
  rw [wd_nw (by omega)]
  have h1 := h.at hx (r := i + 1) (by rw [sz_comp k]; omega)
  rw [nw_comp k, getD_map1 _ _ hi] at h1
  rw [show plN g met l.length x + 1 + i - l.length = plN g met l.length x - l.length + (i + 1) by omega]
  exact h1
theorem vr_new {b k : Nat} (hk : b ≤ k) : vrP g met b V k = true ↔ ∃ x ∈ met, (g.nodes.getD x.toNat nd0).kind = 1 ∧ plN g met b x = k := by
  unfold vrP
  rw [if_neg (by omega)]
  simp
theorem vr_old {b k : Nat} (hk : k < b) : vrP g met b V k = V k := by
  unfold vrP
  rw [if_pos hk]
/-- The words behind Put are sound. -/
theorem put_snd (hs : Snd l V) (h : PmC NS g met l.length) : Snd (l ++ putW NS g met l.length) (vrP g met l.length V) := by
  have hlen : (l ++ putW NS g met l.length).length = l.length + (putW NS g met l.length).length := by simp
  have hold : ∀ k, k < l.length → (hdN (l ++ putW NS g met l.length) k ↔ hdN l k) := fun k hk => by
    unfold hdN
    rw [(tg_old hk).1]
  have hcov : ∀ k, l.length ≤ k → k < l.length + (putW NS g met l.length).length → (∃ x ∈ met, wdN (l ++ putW NS g met l.length) k = cwX NS g met l.length x) ∨ (∃ x ∈ met, (g.nodes.getD x.toNat nd0).kind = 1 ∧ k = plN g met l.length x ∧ wdN (l ++ putW NS g met l.length) k = 8 * (k : Int)) ∨ (∃ x ∈ met, (g.nodes.getD x.toNat nd0).kind = 4 ∧ k = plN g met l.length x ∧ wdN (l ++ putW NS g met l.length) k = fwF NS (g.nodes.getD x.toNat nd0)) := fun k h1 h2 => by
    rw [wd_nw h1]
    rcases h.cover (c := k - l.length) (by omega) with ⟨x, hx, e⟩ | ⟨x, hx, kk, e2, e⟩ | ⟨x, hx, kk, e2, e⟩
    · exact Or.inl ⟨x, hx, e⟩
    · exact Or.inr (Or.inl ⟨x, hx, kk, by omega, by rw [e]; congr 1; omega⟩)
    · exact Or.inr (Or.inr ⟨x, hx, kk, by omega, e⟩)
  have hself : ∀ k : Nat, k < 65536 → goodB (8 * (k : Int)) = true ∧ (8 * (k : Int)) % 8 = 0 ∧ valOf (8 * (k : Int)) = (k : Int) := fun k hk => by
    have hf : fitsB 0 (k : Int) = true := by simp [fitsB]; omega
    have hw : 8 * (k : Int) = wordOf 0 (k : Int) := by unfold wordOf; omega
    rw [hw]
    exact ⟨wordOf_good _ _ hf, wordOf_tag _ _ (by omega) (by omega), wordOf_val _ _ hf⟩
  have hrm := h.room
  have hvar : ∀ k, l.length ≤ k → k < l.length + (putW NS g met l.length).length → vrP g met l.length V k = true → tgN (l ++ putW NS g met l.length) k = 0 ∧ vlN (l ++ putW NS g met l.length) k = k := fun k h1 h2 hv => by
    obtain ⟨x, hx, kk, e⟩ := (vr_new h1).1 hv
    have hw := h.var hx kk
    rw [e] at hw
    obtain ⟨_, s2, s3⟩ := hself k (by omega)
    unfold tgN vlN
    rw [hw]
    exact ⟨s2, by omega⟩
  refine ⟨fun k hk => ?_, fun x hx => ?_, fun k hk ht => ?_, fun k hk hv => ?_, fun k hk ht => ?_, fun k hk ht => ?_, fun k hk ht => ?_⟩
  · rw [hlen] at hk
    by_cases ho : k < l.length
    · rw [wd_old ho]
      exact hs.good k ho
    · rcases hcov k (by omega) hk with ⟨x, hx, e⟩ | ⟨x, hx, kk, e2, e⟩ | ⟨x, hx, kk, e2, e⟩
      · rw [e]; exact (h.cw hx).good
      · rw [e]; exact (hself k (by omega)).1
      · rw [e]; exact (h.fw hx kk).1
  · rcases List.mem_append.1 hx with hx | hx
    · exact hs.rng x hx
    · obtain ⟨i, hi, e⟩ : ∃ i, i < (putW NS g met l.length).length ∧ (putW NS g met l.length).getD i 0 = x := by
        obtain ⟨i, hi, rfl⟩ := List.getElem_of_mem hx
        exact ⟨i, hi, by simp [List.getD, hi]⟩
      have := h.may hi
      rw [e] at this
      exact ⟨this.1, this.2.1⟩
  · rw [hlen] at hk ⊢
    by_cases ho : k < l.length
    · rw [(tg_old ho).1] at ht
      rw [(tg_old ho).2]
      obtain ⟨r1, r2, r3⟩ := hs.ref k ho ht
      rw [vr_old r1, vr_old ho]
      exact ⟨by omega, r2, r3⟩
    · have hvk : vrP g met l.length V k = true → vlN (l ++ putW NS g met l.length) k ≤ k := fun hv => by
        have := (hvar k (by omega) hk hv).2
        omega
      rcases hcov k (by omega) hk with ⟨x, hx, e⟩ | ⟨x, hx, kk, e2, e⟩ | ⟨x, hx, kk, e2, e⟩
      · have hcw := h.cw hx
        have ht' : cwX NS g met l.length x % 8 = 0 := by rw [← e]; exact ht
        obtain ⟨kk, hv⟩ := hcw.ref ht'
        have hp := h.pl hx
        rw [sz_var kk] at hp
        have hvl : vlN (l ++ putW NS g met l.length) k = plN g met l.length x := by unfold vlN; rw [e, hv, Int.toNat_natCast]
        refine ⟨by omega, ?_, hvk⟩
        rw [hvl]
        exact (vr_new hp.2).2 ⟨x, hx, kk, rfl⟩
      · have hv : vrP g met l.length V k = true := (vr_new (by omega)).2 ⟨x, hx, kk, e2.symm⟩
        have hvl := (hvar k (by omega) hk hv).2
        refine ⟨by omega, by rw [hvl]; exact hv, hvk⟩
      · have : tgN (l ++ putW NS g met l.length) k = 4 := by unfold tgN; rw [e]; exact (h.fw hx kk).2.2.1
        omega
  · rw [hlen] at hk
    by_cases ho : k < l.length
    · rw [hold k ho]
      rw [vr_old ho] at hv
      exact hs.own k ho hv
    · have := (hvar k (by omega) hk hv).1
      unfold hdN
      omega
  · rw [hlen] at hk ⊢
    by_cases ho : k < l.length
    · rw [(tg_old ho).1] at ht
      rw [(tg_old ho).2]
      obtain ⟨r1, r2⟩ := hs.str k ho ht
      exact ⟨by omega, (hold _ r1).2 r2⟩
    · rcases hcov k (by omega) hk with ⟨x, hx, e⟩ | ⟨x, hx, kk, e2, e⟩ | ⟨x, hx, kk, e2, e⟩
      · have hcw := h.cw hx
        have ht' : cwX NS g met l.length x % 8 = 3 := by rw [← e]; exact ht
        obtain ⟨kk, hv⟩ := hcw.str ht'
        have hp := h.pl hx
        rw [sz_comp kk] at hp
        have hvl : vlN (l ++ putW NS g met l.length) k = plN g met l.length x := by unfold vlN; rw [e, hv, Int.toNat_natCast]
        refine ⟨by omega, ?_⟩
        rw [hvl]
        refine Or.inl ?_
        unfold tgN
        rw [h.fun hx kk]
        exact (h.fw hx kk).2.2.1
      · have : tgN (l ++ putW NS g met l.length) k = 0 := by unfold tgN; rw [e]; exact (hself k (by omega)).2.1
        omega
      · have : tgN (l ++ putW NS g met l.length) k = 4 := by unfold tgN; rw [e]; exact (h.fw hx kk).2.2.1
        omega
  · rw [hlen] at hk
    by_cases ho : k < l.length
    · rw [(tg_old ho).1] at ht
      rw [(tg_old ho).2]
      obtain ⟨r1, r2⟩ := hs.fwd k ho ht
      exact ⟨r1, (hold _ (by omega)).2 r2⟩
    · rcases hcov k (by omega) hk with ⟨x, hx, e⟩ | ⟨x, hx, kk, e2, e⟩ | ⟨x, hx, kk, e2, e⟩
      · have hcw := (h.cw hx).tag
        have ht' : cwX NS g met l.length x % 8 = 5 := by rw [← e]; exact ht
        omega
      · have : tgN (l ++ putW NS g met l.length) k = 0 := by unfold tgN; rw [e]; exact (hself k (by omega)).2.1
        omega
      · have : tgN (l ++ putW NS g met l.length) k = 4 := by unfold tgN; rw [e]; exact (h.fw hx kk).2.2.1
        omega
  · rw [hlen] at hk ⊢
    by_cases ho : k < l.length
    · rw [(tg_old ho).1] at ht
      have ear : arN' (l ++ putW NS g met l.length) k = arN' l k := by unfold arN'; rw [(tg_old ho).2]
      rw [ear]
      obtain ⟨r1, r2⟩ := hs.args k ho ht
      exact ⟨by omega, fun i hi1 hi2 hh => r2 i hi1 hi2 ((hold _ (by omega)).1 hh)⟩
    · rcases hcov k (by omega) hk with ⟨x, hx, e⟩ | ⟨x, hx, kk, e2, e⟩ | ⟨x, hx, kk, e2, e⟩
      · have hcw := (h.cw hx).tag
        have ht' : cwX NS g met l.length x % 8 = 4 := by rw [← e]; exact ht
        omega
      · have : tgN (l ++ putW NS g met l.length) k = 0 := by unfold tgN; rw [e]; exact (hself k (by omega)).2.1
        omega
      · have hp := h.pl hx
        rw [sz_comp kk] at hp
        have h18 := good_comp (h.nd hx) kk
        have ear : arN' (l ++ putW NS g met l.length) k = (g.nodes.getD x.toNat nd0).args.length := by
          unfold arN' vlN
          rw [e, (h.fw hx kk).2.2.2]
          omega
        rw [ear]
        refine ⟨by omega, fun i hi1 hi2 hh => ?_⟩
        obtain ⟨i, rfl⟩ : ∃ i', i = i' + 1 := ⟨i - 1, by omega⟩
        obtain ⟨ea, hm⟩ := h.args hx kk (i := i) (by omega)
        have hcw := (h.cw hm).tag
        have et : tgN (l ++ putW NS g met l.length) (k + (i + 1)) = cwX NS g met l.length ((g.nodes.getD x.toNat nd0).args.getD i 0) % 8 := by
          unfold tgN
          rw [show k + (i + 1) = plN g met l.length x + 1 + i by omega, ea]
        unfold hdN at hh
        rw [et] at hh
        omega
/-- The names that the words tell are in the table. -/
theorem put_nsb {N : Nat} (hn : NsB l N) (hle : N ≤ NS.length) (h : PmC NS g met l.length) : NsB (l ++ putW NS g met l.length) NS.length := by
  have hlen : (l ++ putW NS g met l.length).length = l.length + (putW NS g met l.length).length := by simp
  refine ⟨fun k hk ht => ?_, fun k hk ht => ?_⟩
  · rw [hlen] at hk
    by_cases ho : k < l.length
    · rw [(tg_old ho).1] at ht
      rw [(tg_old ho).2]
      have := hn.atom k ho ht
      omega
    · unfold tgN at ht
      unfold vlN
      rw [wd_nw (by omega)] at ht ⊢
      rcases h.cover (c := k - l.length) (by omega) with ⟨x, hx, e⟩ | ⟨x, hx, kk, e2, e⟩ | ⟨x, hx, kk, e2, e⟩
      · rw [e] at ht ⊢
        exact (h.cw hx).atom ht
      · rw [e] at ht
        omega
      · rw [e, (h.fw hx kk).2.2.1] at ht
        omega
  · rw [hlen] at hk
    by_cases ho : k < l.length
    · rw [(tg_old ho).1] at ht
      rw [wd_old ho]
      have := hn.func k ho ht
      omega
    · unfold tgN at ht
      rw [wd_nw (by omega)] at ht ⊢
      rcases h.cover (c := k - l.length) (by omega) with ⟨x, hx, e⟩ | ⟨x, hx, kk, e2, e⟩ | ⟨x, hx, kk, e2, e⟩
      · have := (h.cw hx).tag
        rw [e] at ht
        omega
      · rw [e] at ht
        omega
      · rw [e, (h.fw hx kk).2.2.2]
        have h18 := good_comp (h.nd hx) kk
        have hnm := h.nm x hx (Or.inr kk)
        omega
/-- What Put is asked with, where the graph is good and there is room. -/
theorem pmc_of {ns : List ByteArray} {b : Nat} (hg : Good g) (hna : ns.length + (metF g).length ≤ 1024) (hro : b + wantJ g (metF g) (metF g).length ≤ 65536) : PmC (wthJ ns g (metF g) (metF g).length) g (metF g) b := by
  refine ⟨hg, met_ok hg, met_root hg, met_arg hg, fun x hx hk => ?_, by have := wthJ_len ns g (metF g) (metF g).length; omega, by rw [putW_len]; exact hro⟩
  have hr := (met_ok hg).rng x hx
  have hgd := hg.node (g.nodes.getD x.toNat nd0) (by
    have : x.toNat < g.nodes.length := by omega
    simp [List.getD, this])
  have hs : (g.nodes.getD x.toNat nd0).name.size ≠ 0 := by
    have h1 : goodS (g.nodes.getD x.toNat nd0).name = true := by
      unfold goodNd at hgd
      rcases hk with k | k
      · rw [if_neg (by omega), if_pos k] at hgd
        simp only [Bool.and_eq_true] at hgd
        exact hgd.1.1
      · rw [if_neg (by omega), if_neg (by omega), if_neg (by omega), if_pos k] at hgd
        simp only [Bool.and_eq_true] at hgd
        exact hgd.1.1.1.1
    have := goodS_size h1
    omega
  have h2 := wthJ_in ns g (metF g) (pos_lt hx) (by rw [pos_at hx]; exact hs)
  rw [pos_at hx] at h2
  exact num_lt h2
end
end Go.Proofs.YtnoggmeffindbabGreatDoor

/- Package cells: the table with the names of a graph. -/
namespace Go.Proofs.YtnoggmeffindbabGreatDoor
open Go.RowKit

theorem alloc4 (W : World) (a b c d : Obj) : ((((W.alloc a).alloc b).alloc c).alloc d).heap[W.heap.size]? = some a ∧ ((((W.alloc a).alloc b).alloc c).alloc d).heap[W.heap.size + 1]? = some b ∧ ((((W.alloc a).alloc b).alloc c).alloc d).heap[W.heap.size + 2]? = some c ∧ ((((W.alloc a).alloc b).alloc c).alloc d).heap[W.heap.size + 3]? = some d := by
  have s1 : (W.alloc a).heap.size = W.heap.size + 1 := by simp
  have s2 : ((W.alloc a).alloc b).heap.size = W.heap.size + 2 := by simp
  have s3 : (((W.alloc a).alloc b).alloc c).heap.size = W.heap.size + 3 := by simp
  have h0 := heap_alloc_new W a
  have h1 := heap_alloc_new (W.alloc a) b
  have h2 := heap_alloc_new ((W.alloc a).alloc b) c
  have h3 := heap_alloc_new (((W.alloc a).alloc b).alloc c) d
  rw [s1] at h1
  rw [s2] at h2
  rw [s3] at h3
  refine ⟨?_, ?_, ?_, h3⟩
  · rw [Below.heap_alloc _ _ _ (by omega), Below.heap_alloc _ _ _ (by omega), Below.heap_alloc _ _ _ (by omega)]
    exact h0
  · rw [Below.heap_alloc _ _ _ (by omega), Below.heap_alloc _ _ _ (by omega)]
    exact h1
  · rw [Below.heap_alloc _ _ _ (by omega)]
    exact h2
/-- The boxes of 'with'. -/
structure Wt (W w : World) (nv rv : Value) (p p' : Nat) : Prop where
  b : Below W.heap.size W w
  x0 : w.heap[W.heap.size]? = some (.cells #[.pointer (some ⟨p, 0, none⟩)] 94)
  x1 : w.heap[W.heap.size + 1]? = some (.cells #[nv, rv] 25)
  x2 : w.heap[W.heap.size + 2]? = some (.cells #[.pointer none] 94)
  x3 : w.heap[W.heap.size + 3]? = some (.cells #[.pointer (some ⟨p', 0, none⟩)] 94)
theorem below_le {n k : Nat} {a b : World} (h : Below n a b) (hk : k ≤ n) : Below k a b := ⟨h.os, h.tape, h.output, h.size, fun i hi => h.block i (Nat.lt_of_lt_of_le hi hk)⟩
theorem Wt.next {W w w' : World} {nv rv : Value} {p p' : Nat} (h : Wt W w nv rv p p') (hb : Below (W.heap.size + 4) w w') : Wt W w' nv rv p p' :=
  ⟨h.b.trans (below_le hb (by omega)), (hb.block _ (by omega)).trans h.x0, (hb.block _ (by omega)).trans h.x1, (hb.block _ (by omega)).trans h.x2, (hb.block _ (by omega)).trans h.x3⟩
theorem Wt.size {W w : World} {nv rv : Value} {p p' : Nat} (h : Wt W w nv rv p p') : W.heap.size + 4 ≤ w.heap.size := lt_of_block h.x3
theorem Wt.cells {W w : World} {nv rv : Value} {p p' : Nat} (h : Wt W w nv rv p p') : (w.cell? ⟨W.heap.size, 0, none⟩ = some (.pointer (some ⟨p, 0, none⟩)) ∧ w.cell? ⟨W.heap.size + 1, 0, none⟩ = some nv ∧ w.cell? ⟨W.heap.size + 2, 0, none⟩ = some (.pointer none) ∧ w.cell? ⟨W.heap.size + 3, 0, none⟩ = some (.pointer (some ⟨p', 0, none⟩))) ∧ w.frozen? ⟨W.heap.size + 2, 0, none⟩ = false ∧ w.frozen? ⟨W.heap.size + 3, 0, none⟩ = false := by
  refine ⟨⟨?_, ?_, ?_, ?_⟩, ?_, ?_⟩
  · simp [World.cell?, h.x0]
  · simp [World.cell?, h.x1]
  · simp [World.cell?, h.x2]
  · simp [World.cell?, h.x3]
  · simp [World.frozen?, h.x2]
  · simp [World.frozen?, h.x3]
theorem Wt.set {W w : World} {nv rv : Value} {p p' : Nat} (h : Wt W w nv rv p p') (p2 : Nat) : Wt W (w.setCell ⟨W.heap.size + 3, 0, none⟩ (.pointer (some ⟨p2, 0, none⟩))) nv rv p p2 :=
  ⟨h.b.setCell (p := ⟨W.heap.size + 3, 0, none⟩) (by simp) _, (Below.heap_setCell _ _ _ _ (by simp)).trans h.x0, (Below.heap_setCell _ _ _ _ (by simp)).trans h.x1, (Below.heap_setCell _ _ _ _ (by simp)).trans h.x2, heap_setCell_same w _ 0 _ _ _ h.x3⟩
theorem tb_base {w : World} {B B' p q : Nat} {v : Value} {l : List ByteArray} (h : Tb w B p v q l) (hB : B' ≤ B) : Tb w B' p v q l :=
  ⟨h.blk, Nat.le_trans hB h.base, n_own_base h.own hB, Nat.le_trans hB h.mbase, h.map, h.len, h.good, h.nodup⟩
theorem tb_drew {w : World} {B p q : Nat} {v : Value} {l : List ByteArray} (h : Tb w B p v q l) : Tb w.drew B p v q l := h.below (Below.refl _ _).drew
theorem ptr_same {P : Program} (w : World) (d : Nat) (t : TypeId) {e : TypeId} {z : Nat} (h : P.underlying t = some (.pointer e)) (hz : ∀ w, (sizeOf e).run P w = .ok (z + 1) w) (a : Addr) : (Op.equalIn (d + 1) t (.pointer (some a)) (.pointer (some a))).run P w = .ok true w := by
  simp [Op.equalIn, run_underlying h, hz, run_sameAddr_same]
theorem ptr_other {P : Program} (w : World) (d : Nat) (t : TypeId) {e : TypeId} {z : Nat} (h : P.underlying t = some (.pointer e)) (hz : ∀ w, (sizeOf e).run P w = .ok (z + 1) w) {a b : Addr} {ca cb : Array Value} {ta tb : TypeId} (hne : a ≠ b) (ha : w.heap[a.block]? = some (.cells ca ta (0, 0))) (hb : w.heap[b.block]? = some (.cells cb tb (0, 0))) : (Op.equalIn (d + 1) t (.pointer (some a)) (.pointer (some b))).run P w = .ok false w := by
  simp [Op.equalIn, run_underlying h, hz, run_sameAddr_other w hne ha hb]
theorem tab_same (a : Addr) (w : World) : (Op.equalIn 10000 94 (.agg #[.pointer (some a)]) (.agg #[.pointer (some a)])).run Tryz.prog w = .ok true w := by
  have u3 := Tryz.underlying92
  have a3 := Tryz.isAgg92
  have z3 := Tryz.sizeOf92
  have hp := ptr_same w 9998 92 u3 Tryz.sizeOf164 a
  rw [show (9998 : Nat) + 1 = 9999 from rfl] at hp
  rw [show (10000 : Nat) = 9999 + 1 from rfl, run_equalIn_struct w 9999 94 _ _ (by kernel_rfl) (by kernel_rfl)]
  simp only [Program.fieldsOf, Tryz.underlying94]
  go_simp
theorem tab_other {a b : Addr} {w : World} {ca cb : Array Value} {ta tb : TypeId} (hne : a ≠ b) (ha : w.heap[a.block]? = some (.cells ca ta (0, 0))) (hb : w.heap[b.block]? = some (.cells cb tb (0, 0))) : (Op.equalIn 10000 94 (.agg #[.pointer (some a)]) (.agg #[.pointer (some b)])).run Tryz.prog w = .ok false w := by
  have u3 := Tryz.underlying92
  have a3 := Tryz.isAgg92
  have z3 := Tryz.sizeOf92
  have hp := ptr_other w 9998 92 u3 Tryz.sizeOf164 hne ha hb
  rw [show (9998 : Nat) + 1 = 9999 from rfl] at hp
  clear ha hb
  rw [show (10000 : Nat) = 9999 + 1 from rfl, run_equalIn_struct w 9999 94 _ _ (by kernel_rfl) (by kernel_rfl)]
  simp only [Program.fieldsOf, Tryz.underlying94]
  go_simp
theorem wt_copy {W wr w4 : World} {nv rv : Value} {p p' p4 q4 : Nat} {v4 : Value} {L : List ByteArray} (h : Wt W wr nv rv p p') (hb : Below wr.heap.size wr w4) (hT : Tb w4 wr.heap.size p4 v4 q4 L) :
    Wt W (w4.setCell ⟨W.heap.size + 3, 0, none⟩ (.pointer (some ⟨p4, 0, none⟩))) nv rv p p4 ∧ Tb (w4.setCell ⟨W.heap.size + 3, 0, none⟩ (.pointer (some ⟨p4, 0, none⟩))) (W.heap.size + 4) p4 v4 q4 L := by
  have hz := h.size
  refine ⟨(h.next (below_le hb hz)).set p4, tb_base (hT.keep (ks := [W.heap.size + 3]) ((n_Mod.refl _ w4).setCell (p := ⟨W.heap.size + 3, 0, none⟩) (Or.inl (by simp)) _) (fun k hk hf => ?_)) hz⟩
  have e : k = W.heap.size + 3 := by simpa using hk
  subst e
  rcases n_mem_foot.1 hf with e | e | e
  · have := hT.base
    omega
  · have := hT.mbase
    omega
  · have := (hT.row e).1
    omega
theorem wt_put {W w5 w6 w7 : World} {nv rv : Value} {p p5 q5 : Nat} {v5 v7 : Value} {L L' : List ByteArray} (h : Wt W w5 nv rv p p5) (hT : Tb w5 (W.heap.size + 4) p5 v5 q5 L) (hb : Below w5.heap.size w5 w6) (hU : n_Upd w6 w7 (W.heap.size + 4) p5 v5 q5 L' v7) : Wt W w7 nv rv p p5 ∧ Tb w7 (W.heap.size + 4) p5 v7 q5 L' := by
  have hz := h.size
  have h6 := h.next (below_le hb hz)
  exact ⟨h6.next (hU.below (hT.below hb) (by have := h6.size; omega)), hU.tb⟩
theorem ret_tabE {w : World} {fn : Func} {t s : Tmp} (hfn : fn.results = #[.cell t 94, .tmp s]) {tmps : Array Value} {q : Nat} {u0 v1 : Value} (h4 : tmps[t]?.getD undef = .pointer (some ⟨q, 0, none⟩)) (h5 : tmps[s]?.getD undef = v1) (hq : w.heap[q]? = some (.cells #[u0] 94)) : (results fn tmps).run Tryz.prog w = .ok (.tuple #[.agg #[u0], v1]) w := by
  have z0 : w.cell? ⟨q, 0, none⟩ = some u0 := by simp [World.cell?, hq]
  simp [results, hfn, go_sem, h4, h5, z0]
theorem size_nil {s : ByteArray} (h : s.toList = []) : s.size = 0 := by
  rw [ByteArray.toList_eq] at h
  have : s.data.size = 0 := by rw [← Array.length_toList, h]; rfl
  exact this
/-- The name of a good node. -/
theorem good_nameC {N : Nat} {n : Nd} (h : goodNd N n = true) : n.name.size = 0 ∧ n.name.toList = [] ∨ n_goodS n.name = true := by
  unfold goodNd at h
  split at h
  · simp at h
    exact Or.inl ⟨size_nil h.1.1, h.1.1⟩
  · split at h
    · simp at h
      exact Or.inr h.1.1
    · split at h
      · simp at h
        exact Or.inl ⟨size_nil h.1.1.1, h.1.1.1⟩
      · split at h
        · simp only [Bool.and_eq_true] at h
          exact Or.inr h.1.1.1.1
        · simp at h
end Go.Proofs.YtnoggmeffindbabGreatDoor

/- Package cells: the table with the names of a graph. -/
namespace Go.Proofs.YtnoggmeffindbabGreatDoor
open Go.RowKit

section
variable {W : World} {B p q : Nat} {v : Value} {ns : List ByteArray}
set_option maxRecDepth 100000 in
set_option maxHeartbeats 8000000 in
theorem with_ok (hT : Tb W B p v q ns) (hB : B ≤ W.heap.size) {nv rv mv : Value} {g : Gf} {met : List Int} (hG : Gr W nv rv g) (hg : Good g) (hM : Ri W mv met) (hm : ∀ x ∈ met, 0 ≤ x ∧ x < (g.nodes.length : Int)) (hl : ns.length + met.length ≤ 1024) :
    Calls Tryz.prog 43 #[.agg #[.pointer (some ⟨p, 0, none⟩)], .agg #[nv, rv], mv] W fun e w' => (∃ p' v' q', e = .returned (.tuple #[.agg #[.pointer (some ⟨p', 0, none⟩)], .nilIface]) ∧ ((p' = p ∧ v' = v ∧ q' = q ∧ wthJ ns g met met.length = ns) ∨ Tb w' W.heap.size p' v' q' (wthJ ns g met met.length))) ∧ Below W.heap.size W w' := by
  have hstart : Hid (Wt W ((((W.alloc (.cells #[.pointer (some ⟨p, 0, none⟩)] 94)).alloc (.cells #[nv, rv] 25)).alloc (.cells #[.pointer none] 94)).alloc (.cells #[.pointer (some ⟨p, 0, none⟩)] 94)) nv rv p p) := by
    have b0 := below_alloc W (.cells #[.pointer (some ⟨p, 0, none⟩)] 94)
    have b1 := Below.next b0 (below_alloc _ (.cells #[nv, rv] 25))
    have b2 := Below.next b1 (below_alloc _ (.cells #[.pointer none] 94))
    have b3 := Below.next b2 (below_alloc _ (.cells #[.pointer (some ⟨p, 0, none⟩)] 94))
    obtain ⟨x0, x1, x2, x3⟩ := alloc4 W (.cells #[.pointer (some ⟨p, 0, none⟩)] 94) (.cells #[nv, rv] 25) (.cells #[.pointer none] 94) (.cells #[.pointer (some ⟨p, 0, none⟩)] 94)
    exact ⟨b3, x0, x1, x2, x3⟩
  have hpz := hT.lt
  have HT := hid hT
  have HG := hid hG
  have HM := hid hM
  have Hg := hid hg
  have Hm := hid hm
  obtain ⟨na, nc, rfl, _⟩ := hG.1
  obtain ⟨ma, mc, rfl, _⟩ := hM
  clear hG hg hm hT
  go_enter Tryz.func43, Tryz.ntmps43
  go_wp2
  go_loopw [10, 11, 12, 13, 14, 15, 19] (fun _ _ _ _ _ _ i wr => ∃ (j p' : Nat) (v' : Value) (q' : Nat), j ≤ met.length ∧ i = .int .i64 (j : Int) ∧ Hid (Wt W wr (.slice na g.nodes.length nc) rv p p') ∧ Hid ((p' = p ∧ v' = v ∧ q' = q ∧ wthJ ns g met j = ns) ∨ Tb wr (W.heap.size + 4) p' v' q' (wthJ ns g met j))) (fun _ _ _ _ _ _ i _ => met.length - (intOf i).toNat)
  case atStart => exact ⟨0, p, v, q, Nat.zero_le _, rfl, hstart, Or.inl ⟨rfl, rfl, rfl, rfl⟩⟩
  case round =>
    clear hstart
    obtain ⟨j, p', v', q', hj, rfl, HW, hor⟩ := hrel
    have hb := HW.out.b
    obtain ⟨⟨c0, c1, c2, c3⟩, f2, f3⟩ := HW.out.cells
    have hz := HW.out.size
    by_cases hlt : j < met.length
    · have hji : (j : Int) < (met.length : Int) := by omega
      obtain ⟨mb, mo, hma, m0⟩ := (HM.out.below hb).at hlt
      subst hma
      have zm := lt_of_cell m0
      have hmr := Hm.out _ (getD_mem hlt)
      have hst : Hid (wthJ ns g met (j + 1) = wth1 (wthJ ns g met j) (g.nodes.getD (met.getD j 0).toNat nd0).name) := rfl
      generalize met.getD j 0 = y at *
      obtain ⟨yn, rfl⟩ : ∃ yn : Nat, y = (yn : Int) := ⟨y.toNat, by omega⟩
      rw [Int.toNat_natCast] at hst
      have hyn : yn < g.nodes.length := by omega
      have hyi : (yn : Int) < (g.nodes.length : Int) := by omega
      obtain ⟨nb, no, aa, ac, hna, p0, p1, p2, p3⟩ := gr_nd HG.out hb hyn
      subst hna
      have zn := lt_of_cell p1
      have hnm := good_nameC (Hg.out.node (g.nodes.getD yn nd0) (by simp [List.getD, hyn]))
      generalize (g.nodes.getD yn nd0).name = s at *
      have hs : s.size ≤ 281474976710656 := by
        rcases hnm with h | h
        · omega
        · have := n_goodS_size h
          omega
      have hTc : Hid (Tb wr B p' v' q' (wthJ ns g met j)) := by
        rcases hor.out with ⟨rfl, rfl, rfl, e⟩ | h
        · rw [e]
          exact HT.out.below hb
        · exact tb_base h (by omega)
      have hfi := hid (find_any hTc.out s hs)
      have hLl := wthJ_len ns g met j
      clear p0 p2 p3 hmr
      by_cases hin : inL (wthJ ns g met j) s = true
      · have hst2 : Hid (wthJ ns g met (j + 1) = wthJ ns g met j) := show _ = _ by rw [hst.out]; unfold wth1; rw [if_pos (Or.inl hin)]
        rw [hin] at hfi
        generalize num (wthJ ns g met j) s = nn at *
        go_wp2_with (go_at_call 86; refine hfi.out.mono ?_; rintro e w3 ⟨rfl, hw⟩; replace hw := hw.symm; subst hw)
        go_roundw
        case rel => exact ⟨j + 1, p', v', q', by omega, by go_num, HW, by rw [hst2.out]; exact hor⟩
        case measure => simp [intOf]; omega
      · have hin' : inL (wthJ ns g met j) s = false := by simpa using hin
        rw [hin'] at hfi
        rcases hnm with ⟨hs0, hs1⟩ | hgs
        · have hst2 : Hid (wthJ ns g met (j + 1) = wthJ ns g met j) := show _ = _ by rw [hst.out]; unfold wth1; rw [if_pos (Or.inr hs0)]
          have d0 : (s.toList == []) = true := by simp [hs1]
          generalize num (wthJ ns g met j) s = nn at *
          go_wp2_with (go_at_call 86; refine hfi.out.mono ?_; rintro e w3 ⟨rfl, hw⟩; replace hw := hw.symm; subst hw)
          go_roundw
          case rel => exact ⟨j + 1, p', v', q', by omega, by go_num, HW, by rw [hst2.out]; exact hor⟩
          case measure => simp [intOf]; omega
        · have hs32 := n_goodS_size hgs
          have hst2 : Hid (wthJ ns g met (j + 1) = wthJ ns g met j ++ [s]) := show _ = _ by rw [hst.out]; unfold wth1; rw [if_neg (by rintro (h | h); exact hin h; omega)]
          have d0 : (s.toList == []) = false := by
            cases h : s.toList with
            | nil =>
              have := size_nil h
              omega
            | cons a r => rfl
          have hcl := hid (fun w => n_clone_any s w hs)
          have hL : (wthJ ns g met j).length < 1024 := by omega
          generalize wthJ ns g met j = L at *
          generalize num L s = nn at *
          rcases hor.out with ⟨rfl, rfl, rfl, e⟩ | hTb
          · have hcp := hid (copy_any hTc.out)
            have e1 := tab_same ⟨p', 0, none⟩
            clear hor
            go_wp2_with (first
              | (go_at_call 86; refine hfi.out.mono ?_; rintro e w3 ⟨rfl, hw⟩; replace hw := hw.symm; subst hw)
              | (go_at_call 87; refine hcp.out.mono ?_; rintro e w4 ⟨p4, v4, q4, rfl, hT4, hb4⟩; have HC := hid (wt_copy HW.out hb4 hT4); have HW4 := hid (HW.out.next (below_le hb4 hz)); obtain ⟨⟨_, _, _, d3⟩, _, g3⟩ := HW4.out.cells; obtain ⟨⟨_, _, _, k3⟩, _, _⟩ := HC.out.1.cells; have HP := hid (fun w6 (hb6 : Below (w4.setCell ⟨W.heap.size + 3, 0, none⟩ (.pointer (some ⟨p4, 0, none⟩))).heap.size (w4.setCell ⟨W.heap.size + 3, 0, none⟩ (.pointer (some ⟨p4, 0, none⟩))) w6) => put_new (HC.out.2.below hb6) (by have := HC.out.1.size; have := hb6.size; omega) s hs hgs hin' hL); have z3 := hid HC.out.1.size; clear hT4 hb4))
            go_region_with (first
              | (go_at_call 57; refine (hcl.out _).mono ?_; rintro e w6 ⟨rfl, hb6⟩; have Hb6 := hid (Below.next (Below.refl _ _).drew hb6); obtain ⟨⟨_, _, _, k6⟩, _, _⟩ := (HC.out.1.next (below_le Hb6.out HC.out.1.size)).cells; clear hb6)
              | (go_at_call 88; refine (HP.out _ Hb6.out).mono ?_; rintro e w7 ⟨rfl, v7, hU, _⟩; have HU := hid (wt_put HC.out.1 HC.out.2 Hb6.out hU); clear hU))
            all_goals go_wp2
            all_goals
              go_roundw
              case rel => exact ⟨j + 1, p4, v7, q4, by omega, by go_num, hid HU.out.1, hid (Or.inr (by rw [hst2.out]; exact HU.out.2))⟩
              case measure => simp [intOf]; omega
          · have hne : (⟨p', 0, none⟩ : Addr) ≠ ⟨p, 0, none⟩ := fun e => by
              injection e with e _ _
              have := hTb.base
              omega
            have e1 := ptr_other (P := Tryz.prog) wr 9998 92 Tryz.underlying92 Tryz.sizeOf164 hne hTb.blk (HT.out.below hb).blk
            rw [show (9998 : Nat) + 1 = 9999 from rfl] at e1
            have HB := hid hTb
            have HP := hid (fun w6 (hb6 : Below wr.heap.size wr w6) => put_new (hTb.below hb6) (by have := hb6.size; omega) s hs hgs hin' hL)
            have Hz := hid hz
            clear hor hne hTb
            go_wp2_with (go_at_call 86; refine hfi.out.mono ?_; rintro e w3 ⟨rfl, hw⟩; replace hw := hw.symm; subst hw)
            go_region_with (first
              | (go_at_call 57; refine (hcl.out _).mono ?_; rintro e w6 ⟨rfl, hb6⟩; have Hb6 := hid (Below.next (Below.refl _ _).drew hb6); obtain ⟨⟨_, _, _, k6⟩, _, _⟩ := (HW.out.next (below_le Hb6.out Hz.out)).cells; clear hb6)
              | (go_at_call 88; refine (HP.out _ Hb6.out).mono ?_; rintro e w7 ⟨rfl, v7, hU, _⟩; have HU := hid (wt_put HW.out HB.out Hb6.out hU); clear hU))
            all_goals go_wp2
            all_goals
              go_roundw
              case rel => exact ⟨j + 1, p', v7, q', by omega, by go_num, hid HU.out.1, hid (Or.inr (by rw [hst2.out]; exact HU.out.2))⟩
              case measure => simp [intOf]; omega
    · obtain rfl : j = met.length := by omega
      go_wp2
      have HE := heap_setCell_same wr _ 0 _ _ (.pointer (some ⟨p', 0, none⟩)) HW.out.x2
      refine bodyPost_ret (ret_tabE Tryz.results43 (by rfl) (by rfl) HE) rfl ⟨⟨p', v', q', rfl, ?_⟩, hb.setCell (p := ⟨W.heap.size + 2, 0, none⟩) (by simp) _⟩
      rcases hor.out with h | h
      · exact Or.inl h
      · refine Or.inr (tb_base (h.keep (ks := [W.heap.size + 2]) ((n_Mod.refl _ wr).setCell (p := ⟨W.heap.size + 2, 0, none⟩) (Or.inl (by simp)) _) (fun k hk hf => ?_)) (by omega))
        have e : k = W.heap.size + 2 := by simpa using hk
        subst e
        rcases n_mem_foot.1 hf with e | e | e
        · have := h.base
          omega
        · have := h.mbase
          omega
        · have := (h.row e).1
          omega
end
end Go.Proofs.YtnoggmeffindbabGreatDoor

/- Package cells: Bind, where there is no point. -/
namespace Go.Proofs.YtnoggmeffindbabGreatDoor
open Go.RowKit

theorem ri_lit2 {w : World} {b : Nat} {x y : Int} (h : w.heap[b]? = some (.cells #[.int .i64 x, .int .i64 y] 3)) : Ri w (.slice (some ⟨b, 0, none⟩) 2 2) [x, y] := by
  refine ⟨some ⟨b, 0, none⟩, 2, rfl, fun j hj => ?_⟩
  have e : j = 0 ∨ j = 1 := by simp at hj; omega
  rcases e with rfl | rfl
  · exact ⟨b, 0, rfl, by simp [World.cell?, h]⟩
  · exact ⟨b, 0, rfl, by simp [World.cell?, h]⟩
theorem bad2 {l : List Int} {x y : Int} (hx : cellB l x = true) (hy : cellB l y = true) : badF l [x, y] = [] := by
  unfold badF badC
  rw [if_neg (by rw [ixOf_miss 0 (fun x => !cellB l x) [x, y] (fun j hj => by
    have e : j = 0 ∨ j = 1 := by simp at hj; omega
    rcases e with rfl | rfl
    · simp [hx]
    · simp [hy])]; omega)]
/-- A term's word may stand in the heap; a variable's tells its own place. -/
theorem trm_may {l : List Int} {V : Nat → Bool} (h : Snd l V) (hl : l.length ≤ 65536) {k : Nat} (hk : k < l.length) : (0 ≤ trmW l k ∧ trmW l k ≤ 18446744073709551615) ∧ mayB (trmW l k) l.length = true ∧ (trmW l k % 8 = 0 → ∃ j, j < l.length ∧ trmW l k = wdN l j ∧ valOf (trmW l k) = (j : Int)) := by
  obtain ⟨j, hj, e, e2⟩ := trm_ends h _ k hk (Nat.le_refl _)
  rw [e2]
  have hg := h.good j hj
  have hr := h.rng (wdN l j) (by unfold wdN; simp [List.getD, hj])
  unfold endW
  by_cases h4 : tgN l j = 4
  · rw [if_pos h4]
    obtain ⟨s1, s2, s3, s4⟩ := word_str (j := j) (by omega)
    refine ⟨⟨s3, s4⟩, ?_, fun e => by omega⟩
    unfold mayB
    rw [Bool.and_eq_true]
    refine ⟨?_, ?_⟩
    · unfold goodB
      rw [s1, s2]
      exact fits_str (by omega)
    · rw [s2]
      simp
      exact Or.inr hj
  · rw [if_neg h4]
    have htc := tag_cases hg
    have ht : wdN l j % 8 = tgN l j := rfl
    have hne : ¬ (tgN l j = 3 ∨ tgN l j = 5) := fun h3 => by
      unfold nxN at e
      rw [if_neg (by omega), if_pos h3] at e
      cases e
    have hself : tgN l j = 0 → valOf (wdN l j) = (j : Int) := fun h0 => by
      unfold nxN at e
      rw [if_pos h0] at e
      have hv := val_place hg (Or.inl (ht ▸ h0))
      by_cases hs : vlN l j = j
      · unfold vlN at hs
        omega
      · rw [if_neg hs] at e
        cases e
    refine ⟨hr, ?_, fun h0 => ⟨j, hj, rfl, hself (ht ▸ h0)⟩⟩
    unfold mayB
    rw [hg, Bool.true_and]
    by_cases h0 : tgN l j = 0
    · rw [hself h0]
      simp
      exact Or.inr hj
    · have htl : tellsB (wdN l j) = false := by
        simp [tellsB]
        omega
      rw [htl]
      rfl
end Go.Proofs.YtnoggmeffindbabGreatDoor

/- Package cells: Bind, walked where there is no point. -/
namespace Go.Proofs.YtnoggmeffindbabGreatDoor
open Go.RowKit

/-- Where Bind writes, and what. -/
def bndT (xa xb : Int) : Prop := xb % 8 = 0 ∧ valOf xa < valOf xb
section
variable {w : World} {B hb ab tb : Nat} {m : Int} {av : Value} {l : List Int} {tv : Value} {tq : Nat} {ns : List ByteArray} {trv : Value} {n : Int} {V : Nat → Bool}
set_option maxRecDepth 100000 in
set_option maxHeartbeats 4000000 in
theorem bind0_bound (h : Hp w B hb ab tb m av l tv tq ns trv (.slice none 0 0) n) (hs : Snd l V) (a b : Nat) (ca : cellB l (a : Int) = true) (cb : cellB l (b : Int) = true) (ha : a < l.length) (hb' : b < l.length) (hne : trmW l a % 8 ≠ 0) :
    Calls Tryz.prog 26 #[.pointer (some ⟨hb, 0, none⟩), .int .i64 (a : Int), .int .i64 (b : Int)] w fun e w' => (∃ fb, e = .returned (.iface 126 (.pointer (some ⟨fb, 0, none⟩))) ∧ w'.heap[fb]? = some (faultAtObj 114 0)) ∧ Below w.heap.size w w' := by
  have hl6 : l.length ≤ 65536 := by
    have h1 := h.ar.len
    have h2 := h.ar.m2
    omega
  obtain ⟨⟨xa0, xa1⟩, ma, va⟩ := trm_may hs hl6 ha
  obtain ⟨⟨xb0, xb1⟩, mb, vb⟩ := trm_may hs hl6 hb'
  have hb1 := below_alloc w (.cells #[.int .i64 (a : Int), .int .i64 (b : Int)] 3)
  have hri := ri_lit2 (heap_alloc_new w (.cells #[.int .i64 (a : Int), .int .i64 (b : Int)] 3))
  have hck := hid (checkedC_any (h.below hb1).ar hri (by simp))
  rw [bad2 ca cb] at hck
  have Hb1 := hid hb1
  obtain ⟨⟨c0, c1, _, _, _⟩, c5⟩ := h.cells
  have hta := hid (fun w1 (hbb : Below w.heap.size w w1) => term_any (h.below hbb).ar hs a ha)
  have htb := hid (fun w1 (hbb : Below w.heap.size w w1) => term_any (h.below hbb).ar hs b hb')
  have HH := hid h
  have htg := hid (fun w => tag_any (trmW l a) w xa0 xa1)
  have d9 : (trmW l a % 8 != 0) = true := by simpa using hne
  generalize trmW l a = XA at *
  generalize trmW l b = XB at *
  generalize XA % 8 = tA at *
  clear h hs ca cb ha hb' hb1 hri va vb ma mb hne
  go_enter Tryz.func26, Tryz.ntmps26
  go_wp2_with (go_at_call 49; refine hck.out.mono ?_; rintro e w3 ⟨⟨ev, rfl, hev⟩, hb3⟩; have hev1 : ev = .nilIface := hev; subst hev1; have HB := hid (Below.next Hb1.out hb3); obtain ⟨⟨d0, _⟩, d5⟩ := (HH.out.below HB.out).cells; clear hev hb3)
  go_region_held3 (fun w' => w'.cell? ⟨hb, 0, none⟩ = some (.pointer (some ⟨ab, 0, none⟩))) (first | exact d0 | go_keep)
    (first
      | (go_at_call_of 52 (Value.int IntKind.i64 (a : Int)); refine (hta.out _ ?_).mono ?_; (first | exact HB.out | exact HB.out.drew); rintro e w4 ⟨rfl, hb4⟩; replace HB := hid (Below.next (by first | exact HB.out | exact HB.out.drew) hb4); clear d0 d5 hb4; obtain ⟨⟨d0, _⟩, d5⟩ := (HH.out.below HB.out).cells)
      | (go_at_call_of 52 (Value.int IntKind.i64 (b : Int)); refine (htb.out _ ?_).mono ?_; (first | exact HB.out | exact HB.out.drew); rintro e w4 ⟨rfl, hb4⟩; replace HB := hid (Below.next (by first | exact HB.out | exact HB.out.drew) hb4); clear d0 d5 hb4; obtain ⟨⟨d0, _⟩, d5⟩ := (HH.out.below HB.out).cells))
  all_goals go_wp2_with (first
    | (go_at_call 68; refine (htg.out _).mono ?_; rintro e w6 ⟨rfl, hw⟩; replace hw := hw.symm; subst hw)
    | (go_at_call 40; refine (cfault_any _ _ _).mono ?_; rintro e w6 ⟨rfl, hw⟩; subst hw))
  all_goals go_ret
  all_goals exact ⟨⟨_, rfl, heap_alloc_new _ _⟩, HB.out.alloc HB.out.size _⟩
set_option maxRecDepth 100000 in
set_option maxHeartbeats 4000000 in
theorem bind0_same (h : Hp w B hb ab tb m av l tv tq ns trv (.slice none 0 0) n) (hs : Snd l V) (a b : Nat) (ca : cellB l (a : Int) = true) (cb : cellB l (b : Int) = true) (ha : a < l.length) (hb' : b < l.length) (hv : trmW l a % 8 = 0) (he : trmW l a = trmW l b) :
    Calls Tryz.prog 26 #[.pointer (some ⟨hb, 0, none⟩), .int .i64 (a : Int), .int .i64 (b : Int)] w fun e w' => e = .returned .nilIface ∧ Below w.heap.size w w' := by
  have hl6 : l.length ≤ 65536 := by
    have h1 := h.ar.len
    have h2 := h.ar.m2
    omega
  obtain ⟨⟨xa0, xa1⟩, ma, va⟩ := trm_may hs hl6 ha
  obtain ⟨⟨xb0, xb1⟩, mb, vb⟩ := trm_may hs hl6 hb'
  have hb1 := below_alloc w (.cells #[.int .i64 (a : Int), .int .i64 (b : Int)] 3)
  have hri := ri_lit2 (heap_alloc_new w (.cells #[.int .i64 (a : Int), .int .i64 (b : Int)] 3))
  have hck := hid (checkedC_any (h.below hb1).ar hri (by simp))
  rw [bad2 ca cb] at hck
  have Hb1 := hid hb1
  obtain ⟨⟨c0, c1, _, _, _⟩, c5⟩ := h.cells
  have hta := hid (fun w1 (hbb : Below w.heap.size w w1) => term_any (h.below hbb).ar hs a ha)
  have htb := hid (fun w1 (hbb : Below w.heap.size w w1) => term_any (h.below hbb).ar hs b hb')
  have HH := hid h
  have htg := hid (fun w => tag_any (trmW l a) w xa0 xa1)
  rw [hv] at htg
  rw [← he] at htb
  generalize trmW l a = XA at *
  generalize trmW l b = XB at *
  clear h hs ca cb ha hb' hb1 hri va vb ma mb hv he
  go_enter Tryz.func26, Tryz.ntmps26
  go_wp2_with (go_at_call 49; refine hck.out.mono ?_; rintro e w3 ⟨⟨ev, rfl, hev⟩, hb3⟩; have hev1 : ev = .nilIface := hev; subst hev1; have HB := hid (Below.next Hb1.out hb3); obtain ⟨⟨d0, _⟩, d5⟩ := (HH.out.below HB.out).cells; clear hev hb3)
  go_region_held3 (fun w' => w'.cell? ⟨hb, 0, none⟩ = some (.pointer (some ⟨ab, 0, none⟩))) (first | exact d0 | go_keep)
    (first
      | (go_at_call_of 52 (Value.int IntKind.i64 (a : Int)); refine (hta.out _ ?_).mono ?_; (first | exact HB.out | exact HB.out.drew); rintro e w4 ⟨rfl, hb4⟩; replace HB := hid (Below.next (by first | exact HB.out | exact HB.out.drew) hb4); clear d0 d5 hb4; obtain ⟨⟨d0, _⟩, d5⟩ := (HH.out.below HB.out).cells)
      | (go_at_call_of 52 (Value.int IntKind.i64 (b : Int)); refine (htb.out _ ?_).mono ?_; (first | exact HB.out | exact HB.out.drew); rintro e w4 ⟨rfl, hb4⟩; replace HB := hid (Below.next (by first | exact HB.out | exact HB.out.drew) hb4); clear d0 d5 hb4; obtain ⟨⟨d0, _⟩, d5⟩ := (HH.out.below HB.out).cells))
  all_goals go_wp2_with (go_at_call 68; refine (htg.out _).mono ?_; rintro e w6 ⟨rfl, hw⟩; replace hw := hw.symm; subst hw)
  all_goals go_ret
  all_goals exact ⟨rfl, HB.out⟩
set_option maxRecDepth 100000 in
set_option maxHeartbeats 4000000 in
theorem bind0_left (h : Hp w B hb ab tb m av l tv tq ns trv (.slice none 0 0) n) (hs : Snd l V) (a b : Nat) (ca : cellB l (a : Int) = true) (cb : cellB l (b : Int) = true) (ha : a < l.length) (hb' : b < l.length) (n0 : 0 ≤ n) (n1 : n ≤ 4611686018427387904) (hv : trmW l a % 8 = 0) (hne : trmW l a ≠ trmW l b) (hsw : ¬ (trmW l b % 8 = 0 ∧ valOf (trmW l a) < valOf (trmW l b))) :
    Calls Tryz.prog 26 #[.pointer (some ⟨hb, 0, none⟩), .int .i64 (a : Int), .int .i64 (b : Int)] w fun e w' => e = .returned .nilIface ∧ Hp w' B hb ab tb m av (l.set (valOf (trmW l a)).toNat (trmW l b)) tv tq ns trv (.slice none 0 0) (n + 1) ∧ a_Mod (hb :: a_foot ab av) w w' := by
  have hl6 : l.length ≤ 65536 := by
    have h1 := h.ar.len
    have h2 := h.ar.m2
    omega
  obtain ⟨⟨xa0, xa1⟩, ma, va⟩ := trm_may hs hl6 ha
  obtain ⟨⟨xb0, xb1⟩, mb, vb⟩ := trm_may hs hl6 hb'
  have hb1 := below_alloc w (.cells #[.int .i64 (a : Int), .int .i64 (b : Int)] 3)
  have hri := ri_lit2 (heap_alloc_new w (.cells #[.int .i64 (a : Int), .int .i64 (b : Int)] 3))
  have hck := hid (checkedC_any (h.below hb1).ar hri (by simp))
  rw [bad2 ca cb] at hck
  have Hb1 := hid hb1
  obtain ⟨⟨c0, c1, _, _, _⟩, c5⟩ := h.cells
  have hta := hid (fun w1 (hbb : Below w.heap.size w w1) => term_any (h.below hbb).ar hs a ha)
  have htb := hid (fun w1 (hbb : Below w.heap.size w w1) => term_any (h.below hbb).ar hs b hb')
  have HH := hid h
  have htg := hid (fun w => tag_any (trmW l a) w xa0 xa1)
  have htg2 := hid (fun w => tag_any (trmW l b) w xb0 xb1)
  rw [hv] at htg
  obtain ⟨j, hj, hjj, vj⟩ := va hv
  clear hjj
  have hvl := hid (fun w => value_any (trmW l a) w)
  rw [vj] at hvl
  have dne : (trmW l a == trmW l b) = false := by simpa using hne
  have hwr := hid (fun w1 (hbb : Below w.heap.size w w1) => write0_ok (h.below hbb) j (trmW l b) hj xb0 xb1 mb n0 n1)
  have hvl2 := hid (fun w => value_any (trmW l b) w)
  rw [vj] at hsw
  rw [show (valOf (trmW l a)).toNat = j by rw [vj, Int.toNat_natCast]]
  have dsw : trmW l b % 8 = 0 ∧ decide ((j : Int) < valOf (trmW l b)) = false ∨ (trmW l b % 8 == 0) = false := by
    by_cases h0 : trmW l b % 8 = 0
    · exact Or.inl ⟨h0, decide_eq_false (fun h1 => hsw ⟨h0, h1⟩)⟩
    · exact Or.inr (by simpa using h0)
  generalize hRS : l.set j (trmW l b) = LS at *
  generalize trmW l a = XA at *
  generalize trmW l b = XB at *
  generalize valOf XB = vB at *
  generalize XB % 8 = tB at *
  clear h hs ca cb ha hb' hb1 hri va vb ma mb hv hne hj vj hsw hRS
  rcases dsw with ⟨rfl, dsw⟩ | dsw
  · go_enter Tryz.func26, Tryz.ntmps26
    go_wp2_with (go_at_call 49; refine hck.out.mono ?_; rintro e w3 ⟨⟨ev, rfl, hev⟩, hb3⟩; have hev1 : ev = .nilIface := hev; subst hev1; have HB := hid (Below.next Hb1.out hb3); obtain ⟨⟨d0, _⟩, d5⟩ := (HH.out.below HB.out).cells; clear hev hb3)
    go_region_held3 (fun w' => w'.cell? ⟨hb, 0, none⟩ = some (.pointer (some ⟨ab, 0, none⟩))) (first | exact d0 | go_keep)
      (first
        | (go_at_call_of 52 (Value.int IntKind.i64 (a : Int)); refine (hta.out _ ?_).mono ?_; (first | exact HB.out | exact HB.out.drew); rintro e w4 ⟨rfl, hb4⟩; replace HB := hid (Below.next (by first | exact HB.out | exact HB.out.drew) hb4); clear d0 d5 hb4; obtain ⟨⟨d0, _⟩, d5⟩ := (HH.out.below HB.out).cells)
        | (go_at_call_of 52 (Value.int IntKind.i64 (b : Int)); refine (htb.out _ ?_).mono ?_; (first | exact HB.out | exact HB.out.drew); rintro e w4 ⟨rfl, hb4⟩; replace HB := hid (Below.next (by first | exact HB.out | exact HB.out.drew) hb4); clear d0 d5 hb4; obtain ⟨⟨d0, _⟩, d5⟩ := (HH.out.below HB.out).cells))
    all_goals go_wp2_with (first
      | (go_at_call_of 68 (Value.int IntKind.u64 XA); refine (htg.out _).mono ?_; rintro e w6 ⟨rfl, hw⟩; replace hw := hw.symm; subst hw)
      | (go_at_call_of 68 (Value.int IntKind.u64 XB); refine (htg2.out _).mono ?_; rintro e w6 ⟨rfl, hw⟩; replace hw := hw.symm; subst hw)
      | (go_at_call_of 69 (Value.int IntKind.u64 XA); refine (hvl.out _).mono ?_; rintro e w6 ⟨rfl, hw⟩; replace hw := hw.symm; subst hw)
      | (go_at_call_of 69 (Value.int IntKind.u64 XB); refine (hvl2.out _).mono ?_; rintro e w6 ⟨rfl, hw⟩; replace hw := hw.symm; subst hw)
      | (go_at_call 70; refine (hwr.out _ HB.out).mono ?_; rintro e w7 ⟨rfl, hp7, hm7⟩; have HP7 := hid hp7; have HM7 := hid (hm7.ofMem (hb :: a_foot ab av) (fun y hy => Or.inl hy)); clear hp7 hm7))
    all_goals go_ret
    all_goals exact ⟨rfl, HP7.out, (a_Mod.ofBelow HB.out).trans HM7.out (fun y hy => Or.inl hy)⟩
  · go_enter Tryz.func26, Tryz.ntmps26
    go_wp2_with (go_at_call 49; refine hck.out.mono ?_; rintro e w3 ⟨⟨ev, rfl, hev⟩, hb3⟩; have hev1 : ev = .nilIface := hev; subst hev1; have HB := hid (Below.next Hb1.out hb3); obtain ⟨⟨d0, _⟩, d5⟩ := (HH.out.below HB.out).cells; clear hev hb3)
    go_region_held3 (fun w' => w'.cell? ⟨hb, 0, none⟩ = some (.pointer (some ⟨ab, 0, none⟩))) (first | exact d0 | go_keep)
      (first
        | (go_at_call_of 52 (Value.int IntKind.i64 (a : Int)); refine (hta.out _ ?_).mono ?_; (first | exact HB.out | exact HB.out.drew); rintro e w4 ⟨rfl, hb4⟩; replace HB := hid (Below.next (by first | exact HB.out | exact HB.out.drew) hb4); clear d0 d5 hb4; obtain ⟨⟨d0, _⟩, d5⟩ := (HH.out.below HB.out).cells)
        | (go_at_call_of 52 (Value.int IntKind.i64 (b : Int)); refine (htb.out _ ?_).mono ?_; (first | exact HB.out | exact HB.out.drew); rintro e w4 ⟨rfl, hb4⟩; replace HB := hid (Below.next (by first | exact HB.out | exact HB.out.drew) hb4); clear d0 d5 hb4; obtain ⟨⟨d0, _⟩, d5⟩ := (HH.out.below HB.out).cells))
    all_goals go_wp2_with (first
      | (go_at_call_of 68 (Value.int IntKind.u64 XA); refine (htg.out _).mono ?_; rintro e w6 ⟨rfl, hw⟩; replace hw := hw.symm; subst hw)
      | (go_at_call_of 68 (Value.int IntKind.u64 XB); refine (htg2.out _).mono ?_; rintro e w6 ⟨rfl, hw⟩; replace hw := hw.symm; subst hw)
      | (go_at_call_of 69 (Value.int IntKind.u64 XA); refine (hvl.out _).mono ?_; rintro e w6 ⟨rfl, hw⟩; replace hw := hw.symm; subst hw)
      | (go_at_call_of 69 (Value.int IntKind.u64 XB); refine (hvl2.out _).mono ?_; rintro e w6 ⟨rfl, hw⟩; replace hw := hw.symm; subst hw)
      | (go_at_call 70; refine (hwr.out _ HB.out).mono ?_; rintro e w7 ⟨rfl, hp7, hm7⟩; have HP7 := hid hp7; have HM7 := hid (hm7.ofMem (hb :: a_foot ab av) (fun y hy => Or.inl hy)); clear hp7 hm7))
    all_goals go_ret
    all_goals exact ⟨rfl, HP7.out, (a_Mod.ofBelow HB.out).trans HM7.out (fun y hy => Or.inl hy)⟩
set_option maxRecDepth 100000 in
set_option maxHeartbeats 4000000 in
theorem bind0_swap (h : Hp w B hb ab tb m av l tv tq ns trv (.slice none 0 0) n) (hs : Snd l V) (a b : Nat) (ca : cellB l (a : Int) = true) (cb : cellB l (b : Int) = true) (ha : a < l.length) (hb' : b < l.length) (n0 : 0 ≤ n) (n1 : n ≤ 4611686018427387904) (hv : trmW l a % 8 = 0) (hne : trmW l a ≠ trmW l b) (hv2 : trmW l b % 8 = 0) (hsw : valOf (trmW l a) < valOf (trmW l b)) :
    Calls Tryz.prog 26 #[.pointer (some ⟨hb, 0, none⟩), .int .i64 (a : Int), .int .i64 (b : Int)] w fun e w' => e = .returned .nilIface ∧ Hp w' B hb ab tb m av (l.set (valOf (trmW l b)).toNat (trmW l a)) tv tq ns trv (.slice none 0 0) (n + 1) ∧ a_Mod (hb :: a_foot ab av) w w' := by
  have hl6 : l.length ≤ 65536 := by
    have h1 := h.ar.len
    have h2 := h.ar.m2
    omega
  obtain ⟨⟨xa0, xa1⟩, ma, va⟩ := trm_may hs hl6 ha
  obtain ⟨⟨xb0, xb1⟩, mb, vb⟩ := trm_may hs hl6 hb'
  have hb1 := below_alloc w (.cells #[.int .i64 (a : Int), .int .i64 (b : Int)] 3)
  have hri := ri_lit2 (heap_alloc_new w (.cells #[.int .i64 (a : Int), .int .i64 (b : Int)] 3))
  have hck := hid (checkedC_any (h.below hb1).ar hri (by simp))
  rw [bad2 ca cb] at hck
  have Hb1 := hid hb1
  obtain ⟨⟨c0, c1, _, _, _⟩, c5⟩ := h.cells
  have hta := hid (fun w1 (hbb : Below w.heap.size w w1) => term_any (h.below hbb).ar hs a ha)
  have htb := hid (fun w1 (hbb : Below w.heap.size w w1) => term_any (h.below hbb).ar hs b hb')
  have HH := hid h
  have htg := hid (fun w => tag_any (trmW l a) w xa0 xa1)
  have htg2 := hid (fun w => tag_any (trmW l b) w xb0 xb1)
  rw [hv] at htg
  obtain ⟨j, hj, hjj, vj⟩ := va hv
  clear hjj
  have hvl := hid (fun w => value_any (trmW l a) w)
  rw [vj] at hvl
  have dne : (trmW l a == trmW l b) = false := by simpa using hne
  obtain ⟨j2, hj2, hjj2, vj2⟩ := vb hv2
  clear hjj2
  have hwr := hid (fun w1 (hbb : Below w.heap.size w w1) => write0_ok (h.below hbb) j2 (trmW l a) hj2 xa0 xa1 ma n0 n1)
  have hvl2 := hid (fun w => value_any (trmW l b) w)
  rw [vj2] at hvl2
  rw [hv2] at htg2
  rw [vj, vj2] at hsw
  rw [show (valOf (trmW l b)).toNat = j2 by rw [vj2, Int.toNat_natCast]]
  have dsw : decide ((j : Int) < (j2 : Int)) = true := decide_eq_true hsw
  generalize hRS : l.set j2 (trmW l a) = LS at *
  generalize trmW l a = XA at *
  generalize trmW l b = XB at *
  clear h hs ca cb ha hb' hb1 hri va vb ma mb hv hne hj vj hRS hv2 hj2 vj2
  go_enter Tryz.func26, Tryz.ntmps26
  go_wp2_with (go_at_call 49; refine hck.out.mono ?_; rintro e w3 ⟨⟨ev, rfl, hev⟩, hb3⟩; have hev1 : ev = .nilIface := hev; subst hev1; have HB := hid (Below.next Hb1.out hb3); obtain ⟨⟨d0, _⟩, d5⟩ := (HH.out.below HB.out).cells; clear hev hb3)
  go_region_held3 (fun w' => w'.cell? ⟨hb, 0, none⟩ = some (.pointer (some ⟨ab, 0, none⟩))) (first | exact d0 | go_keep)
    (first
      | (go_at_call_of 52 (Value.int IntKind.i64 (a : Int)); refine (hta.out _ ?_).mono ?_; (first | exact HB.out | exact HB.out.drew); rintro e w4 ⟨rfl, hb4⟩; replace HB := hid (Below.next (by first | exact HB.out | exact HB.out.drew) hb4); clear d0 d5 hb4; obtain ⟨⟨d0, _⟩, d5⟩ := (HH.out.below HB.out).cells)
      | (go_at_call_of 52 (Value.int IntKind.i64 (b : Int)); refine (htb.out _ ?_).mono ?_; (first | exact HB.out | exact HB.out.drew); rintro e w4 ⟨rfl, hb4⟩; replace HB := hid (Below.next (by first | exact HB.out | exact HB.out.drew) hb4); clear d0 d5 hb4; obtain ⟨⟨d0, _⟩, d5⟩ := (HH.out.below HB.out).cells))
  all_goals go_wp2_with (first
    | (go_at_call_of 68 (Value.int IntKind.u64 XA); refine (htg.out _).mono ?_; rintro e w6 ⟨rfl, hw⟩; replace hw := hw.symm; subst hw)
    | (go_at_call_of 68 (Value.int IntKind.u64 XB); refine (htg2.out _).mono ?_; rintro e w6 ⟨rfl, hw⟩; replace hw := hw.symm; subst hw)
    | (go_at_call_of 69 (Value.int IntKind.u64 XA); refine (hvl.out _).mono ?_; rintro e w6 ⟨rfl, hw⟩; replace hw := hw.symm; subst hw)
    | (go_at_call_of 69 (Value.int IntKind.u64 XB); refine (hvl2.out _).mono ?_; rintro e w6 ⟨rfl, hw⟩; replace hw := hw.symm; subst hw)
    | (go_at_call 70; refine (hwr.out _ HB.out).mono ?_; rintro e w7 ⟨rfl, hp7, hm7⟩; have HP7 := hid hp7; have HM7 := hid (hm7.ofMem (hb :: a_foot ab av) (fun y hy => Or.inl hy)); clear hp7 hm7))
  all_goals go_ret
  all_goals exact ⟨rfl, HP7.out, (a_Mod.ofBelow HB.out).trans HM7.out (fun y hy => Or.inl hy)⟩
end
end Go.Proofs.YtnoggmeffindbabGreatDoor
