/- Package cells: the words that Put lays down are sound. -/
import Derived.Test.YtlibjdilicfcdaaGreatDoorns24Z
import Derived.Test.YtlibjdilicfcdaaGreatDoorns19Z
namespace Go.Proofs.YtlibjdilicfcdaaGreatDoor
set_option maxRecDepth 100000
open Go.RowKit
structure PmC (NS : List ByteArray) (g : Gf) (met : List Int) (b : Nat) : Prop where
  good : Good g
  ok : Ok g.nodes.length met
  root : ∀ x ∈ g.roots, x ∈ met
  arg : ∀ x ∈ met, ∀ y ∈ g.argsOf x, y ∈ met
  nm : ∀ x ∈ met, (g.nodes.getD x.toNat nd0).kind = 2 ∨ (g.nodes.getD x.toNat nd0).kind = 4 → num NS (g.nodes.getD x.toNat nd0).name < NS.length
  len : NS.length ≤ 1024
  room : b + (putW NS g met b).length ≤ 65536
section
variable {NS : List ByteArray} {g : Gf} {met : List Int} {b : Nat}
theorem PmC.nd (h : PmC NS g met b) {x : Int} (hx : x ∈ met) : goodNd g.nodes.length (g.nodes.getD x.toNat nd0) = true := by
  have hr := h.ok.rng x hx
  exact h.good.node _ (by
    have : x.toNat < g.nodes.length := by omega
    simp [List.getD, this])
theorem good_kind {N : Nat} {n : Nd} (h : goodNd N n = true) : n.kind = 1 ∨ n.kind = 2 ∨ n.kind = 3 ∨ n.kind = 4 := by
  unfold goodNd at h
  split at h
  · omega
  · split at h
    · omega
    · split at h
      · omega
      · split at h
        · omega
        · cases h
theorem PmC.pl (_h : PmC NS g met b) {x : Int} (hx : x ∈ met) : plN g met b x + szN (g.nodes.getD x.toNat nd0) ≤ b + (putW NS g met b).length ∧ b ≤ plN g met b x := by
  have h1 := want_next (g := g) (met := met) (pos_lt hx)
  rw [pos_at hx] at h1
  rw [putW_len]
  unfold plN
  omega
theorem PmC.at (_h : PmC NS g met b) {x : Int} (hx : x ∈ met) {r : Nat} (hr : r < szN (g.nodes.getD x.toNat nd0)) : (putW NS g met b).getD (plN g met b x - b + r) 0 = (nwX NS g met b x).getD r 0 := by
  have h1 := putW_node (ns := NS) (b := b) (pos_lt hx) (r := r) (by rw [pos_at hx]; exact hr)
  rw [pos_at hx] at h1
  unfold plN
  rw [show b + wantJ g met (pos met x) - b + r = wantJ g met (pos met x) + r by omega]
  exact h1
structure Cw (NS : List ByteArray) (g : Gf) (met : List Int) (b : Nat) (x : Int) (u : Int) : Prop where
  good : goodB u = true
  rng : 0 ≤ u ∧ u ≤ 18446744073709551615
  tag : u % 8 = 0 ∨ u % 8 = 1 ∨ u % 8 = 2 ∨ u % 8 = 3
  ref : u % 8 = 0 → (g.nodes.getD x.toNat nd0).kind = 1 ∧ valOf u = (plN g met b x : Int)
  str : u % 8 = 3 → (g.nodes.getD x.toNat nd0).kind = 4 ∧ valOf u = (plN g met b x : Int)
  atom : u % 8 = 1 → (valOf u).toNat < NS.length
theorem PmC.cw (h : PmC NS g met b) {x : Int} (hx : x ∈ met) : Cw NS g met b x (cwX NS g met b x) := by
  have hn := h.nd hx
  have hp := (h.pl hx).1
  have hrm := h.room
  have hpl : (g.nodes.getD x.toNat nd0).kind ≠ 2 → (g.nodes.getD x.toNat nd0).kind ≠ 3 → plN g met b x < 65536 := fun h2 h3 => by
    have := sz_pos hn h2 h3
    omega
  unfold cwX cwF
  rcases good_kind hn with k | k | k | k
  · rw [if_neg (by omega), if_neg (by omega), if_neg (by omega)]
    have hf : fitsB 0 (plN g met b x : Int) = true := by have := hpl (by omega) (by omega); simp [fitsB]; omega
    have ht := wordOf_tag 0 (plN g met b x : Int) (by omega) (by omega)
    exact ⟨wordOf_good _ _ hf, wordOf_bd _ _, Or.inl ht, fun _ => ⟨k, wordOf_val _ _ hf⟩, fun e => by omega, fun e => by omega⟩
  · rw [if_pos k]
    have hnm := h.nm x hx (Or.inl k)
    have hl := h.len
    have hf : fitsB 1 (num NS (g.nodes.getD x.toNat nd0).name : Int) = true := by generalize num NS (g.nodes.getD x.toNat nd0).name = v at *; simp [fitsB]; omega
    have ht := wordOf_tag 1 (num NS (g.nodes.getD x.toNat nd0).name : Int) (by omega) (by omega)
    exact ⟨wordOf_good _ _ hf, wordOf_bd _ _, Or.inr (Or.inl ht), fun e => by omega, fun e => by omega, fun _ => by rw [wordOf_val _ _ hf, Int.toNat_natCast]; exact hnm⟩
  · rw [if_neg (by omega), if_pos k]
    have hf := good_int hn k
    have ht := wordOf_tag 2 (g.nodes.getD x.toNat nd0).num (by omega) (by omega)
    exact ⟨wordOf_good _ _ hf, wordOf_bd _ _, Or.inr (Or.inr (Or.inl ht)), fun e => by omega, fun e => by omega, fun e => by omega⟩
  · rw [if_neg (by omega), if_neg (by omega), if_pos k]
    have hf : fitsB 3 (plN g met b x : Int) = true := by have := hpl (by omega) (by omega); simp [fitsB]; omega
    have ht := wordOf_tag 3 (plN g met b x : Int) (by omega) (by omega)
    exact ⟨wordOf_good _ _ hf, wordOf_bd _ _, Or.inr (Or.inr (Or.inr ht)), fun e => by omega, fun _ => ⟨k, wordOf_val _ _ hf⟩, fun e => by omega⟩
theorem PmC.fw (h : PmC NS g met b) {x : Int} (hx : x ∈ met) (k : (g.nodes.getD x.toNat nd0).kind = 4) : goodB (fwF NS (g.nodes.getD x.toNat nd0)) = true ∧ (0 ≤ fwF NS (g.nodes.getD x.toNat nd0) ∧ fwF NS (g.nodes.getD x.toNat nd0) ≤ 18446744073709551615) ∧ fwF NS (g.nodes.getD x.toNat nd0) % 8 = 4 ∧ valOf (fwF NS (g.nodes.getD x.toNat nd0)) = (num NS (g.nodes.getD x.toNat nd0).name : Int) * 16 + ((g.nodes.getD x.toNat nd0).args.length : Int) := by
  have hn := h.nd hx
  have h18 := good_comp hn k
  have hnm := h.nm x hx (Or.inr k)
  have hl := h.len
  have hf := (fun_fitsC (num NS (g.nodes.getD x.toNat nd0).name : Int) ((g.nodes.getD x.toNat nd0).args.length : Int) (by generalize num NS (g.nodes.getD x.toNat nd0).name = v at *; generalize (g.nodes.getD x.toNat nd0).args.length = q at *; simp [funB]; omega)).1
  unfold fwF
  exact ⟨wordOf_good _ _ hf, wordOf_bd _ _, wordOf_tag _ _ (by omega) (by omega), wordOf_val _ _ hf⟩
theorem nw_var {x : Int} (k : (g.nodes.getD x.toNat nd0).kind = 1) : nwX NS g met b x = [8 * (plN g met b x : Int)] := by
  unfold nwX
  rw [if_pos k]
theorem nw_comp {x : Int} (k : (g.nodes.getD x.toNat nd0).kind = 4) : nwX NS g met b x = fwF NS (g.nodes.getD x.toNat nd0) :: (g.nodes.getD x.toNat nd0).args.map (cwX NS g met b) := by
  unfold nwX
  rw [if_neg (by omega), if_pos k]
theorem sz_var {n : Nd} (k : n.kind = 1) : szN n = 1 := by unfold szN; rw [if_pos k]
theorem sz_comp {n : Nd} (k : n.kind = 4) : szN n = 1 + n.args.length := by unfold szN; rw [if_neg (by omega), if_pos k]
theorem PmC.cover (h : PmC NS g met b) {c : Nat} (hc : c < (putW NS g met b).length) :
    (∃ x ∈ met, (putW NS g met b).getD c 0 = cwX NS g met b x) ∨ (∃ x ∈ met, (g.nodes.getD x.toNat nd0).kind = 1 ∧ b + c = plN g met b x ∧ (putW NS g met b).getD c 0 = 8 * (plN g met b x : Int)) ∨ (∃ x ∈ met, (g.nodes.getD x.toNat nd0).kind = 4 ∧ b + c = plN g met b x ∧ (putW NS g met b).getD c 0 = fwF NS (g.nodes.getD x.toNat nd0)) := by
  rw [putW_len] at hc
  rcases want_cover _ c hc with h1 | ⟨j, r, hj, hr, rfl⟩
  · exact Or.inl ⟨_, h.root _ (getD_mem h1), putW_root h1⟩
  · have hx := getD_mem hj
    have e1 := putW_node (ns := NS) (b := b) hj hr
    have hpl : plN g met b (met.getD j 0) = b + wantJ g met j := by
      unfold plN
      rw [pos_of_getD h.ok.nodup hj]
    generalize met.getD j 0 = x at *
    rcases good_kind (h.nd hx) with k | k | k | k
    · rw [sz_var k] at hr
      obtain rfl : r = 0 := by omega
      refine Or.inr (Or.inl ⟨x, hx, k, by omega, ?_⟩)
      rw [e1, nw_var k]
      rfl
    · exact absurd hr (by unfold szN; rw [if_neg (by omega), if_neg (by omega)]; omega)
    · exact absurd hr (by unfold szN; rw [if_neg (by omega), if_neg (by omega)]; omega)
    · rw [sz_comp k] at hr
      rw [nw_comp k] at e1
      match r, hr with
      | 0, _ => exact Or.inr (Or.inr ⟨x, hx, k, by omega, e1⟩)
      | r + 1, hr =>
        rw [getD_map1 _ _ (by omega)] at e1
        exact Or.inl ⟨_, h.arg x hx _ (getD_mem (by unfold Gf.argsOf; omega)), e1⟩
def vrP (g : Gf) (met : List Int) (b : Nat) (V : Nat → Bool) (k : Nat) : Bool := if k < b then V k else met.any (fun x => decide ((g.nodes.getD x.toNat nd0).kind = 1) && decide (plN g met b x = k))
theorem PmC.may (h : PmC NS g met b) {c : Nat} (hc : c < (putW NS g met b).length) : 0 ≤ (putW NS g met b).getD c 0 ∧ (putW NS g met b).getD c 0 ≤ 18446744073709551615 ∧ mayB ((putW NS g met b).getD c 0) (b + (putW NS g met b).length) = true := by
  have key : ∀ u : Int, goodB u = true → (u % 8 = 0 ∨ u % 8 = 3 ∨ u % 8 = 5 → ∃ p : Nat, valOf u = (p : Int) ∧ p < b + (putW NS g met b).length) → mayB u (b + (putW NS g met b).length) = true := fun u hg hv => by
    unfold mayB
    rw [hg, Bool.true_and]
    by_cases ht : tellsB u = true
    · have : u % 8 = 0 ∨ u % 8 = 3 ∨ u % 8 = 5 := by simpa [tellsB] using ht
      obtain ⟨p, e, hp⟩ := hv this
      rw [e]
      simp
      exact Or.inr (by omega)
    · have : tellsB u = false := by simpa using ht
      rw [this]
      rfl
  rcases h.cover hc with ⟨x, hx, e⟩ | ⟨x, hx, k, e2, e⟩ | ⟨x, hx, k, e2, e⟩
  · rw [e]
    have hcw := h.cw hx
    refine ⟨hcw.rng.1, hcw.rng.2, key _ hcw.good (fun ht => ?_)⟩
    have hp := (h.pl hx).1
    rcases ht with t | t | t
    · obtain ⟨k, hv⟩ := hcw.ref t
      rw [sz_var k] at hp
      exact ⟨_, hv, by omega⟩
    · obtain ⟨k, hv⟩ := hcw.str t
      rw [sz_comp k] at hp
      exact ⟨_, hv, by omega⟩
    · have := hcw.tag
      omega
  · rw [e]
    have hp := (h.pl hx).1
    have hr := h.room
    rw [sz_var k] at hp
    have hf : fitsB 0 (plN g met b x : Int) = true := by simp [fitsB]; omega
    have hw : 8 * (plN g met b x : Int) = wordOf 0 (plN g met b x : Int) := by unfold wordOf; omega
    rw [hw]
    exact ⟨(wordOf_bd _ _).1, (wordOf_bd _ _).2, key _ (wordOf_good _ _ hf) (fun _ => ⟨_, wordOf_val _ _ hf, by omega⟩)⟩
  · rw [e]
    obtain ⟨f1, f2, f3, _⟩ := h.fw hx k
    exact ⟨f2.1, f2.2, key _ f1 (fun t => by omega)⟩
end
section
variable {NS : List ByteArray} {g : Gf} {met : List Int} {l : List Int} {V : Nat → Bool}
theorem wd_old {T : List Int} {k : Nat} (hk : k < l.length) : wdN (l ++ T) k = wdN l k := by
  unfold wdN
  simp [List.getD, List.getElem?_append_left hk]
theorem wd_nw {T : List Int} {k : Nat} (hk : l.length ≤ k) : wdN (l ++ T) k = T.getD (k - l.length) 0 := by
  unfold wdN
  simp [List.getD, List.getElem?_append_right hk]
theorem tg_old {T : List Int} {k : Nat} (hk : k < l.length) : tgN (l ++ T) k = tgN l k ∧ vlN (l ++ T) k = vlN l k := by
  unfold tgN vlN
  rw [wd_old hk]
  exact ⟨rfl, rfl⟩
theorem PmC.var (h : PmC NS g met l.length) {x : Int} (hx : x ∈ met) (k : (g.nodes.getD x.toNat nd0).kind = 1) : wdN (l ++ putW NS g met l.length) (plN g met l.length x) = 8 * (plN g met l.length x : Int) := by
  have hp := h.pl hx
  rw [wd_nw hp.2]
  have h1 := h.at hx (r := 0) (by rw [sz_var k]; omega)
  rw [Nat.add_zero, nw_var k] at h1
  exact h1
theorem PmC.fun (h : PmC NS g met l.length) {x : Int} (hx : x ∈ met) (k : (g.nodes.getD x.toNat nd0).kind = 4) : wdN (l ++ putW NS g met l.length) (plN g met l.length x) = fwF NS (g.nodes.getD x.toNat nd0) := by
  have hp := h.pl hx
  rw [wd_nw hp.2]
  have h1 := h.at hx (r := 0) (by rw [sz_comp k]; omega)
  rw [Nat.add_zero, nw_comp k] at h1
  exact h1
theorem PmC.args (h : PmC NS g met l.length) {x : Int} (hx : x ∈ met) (k : (g.nodes.getD x.toNat nd0).kind = 4) {i : Nat} (hi : i < (g.nodes.getD x.toNat nd0).args.length) : wdN (l ++ putW NS g met l.length) (plN g met l.length x + 1 + i) = cwX NS g met l.length ((g.nodes.getD x.toNat nd0).args.getD i 0) ∧ (g.nodes.getD x.toNat nd0).args.getD i 0 ∈ met := by
  have hp := h.pl hx
  refine ⟨?_, h.arg x hx _ (getD_mem hi)⟩
  rw [wd_nw (by omega)]
  have h1 := h.at hx (r := i + 1) (by rw [sz_comp k]; omega)
  rw [nw_comp k, getD_map1 _ _ hi] at h1
  rw [show plN g met l.length x + 1 + i - l.length = plN g met l.length x - l.length + (i + 1) by omega]
  exact h1
theorem vr_new {b k : Nat} (hk : b ≤ k) : vrP g met b V k = true ↔ ∃ x ∈ met, (g.nodes.getD x.toNat nd0).kind = 1 ∧ plN g met b x = k := by
  unfold vrP
  rw [if_neg (by omega)]
  simp
theorem vr_old {b k : Nat} (hk : k < b) : vrP g met b V k = V k := by
  unfold vrP
  rw [if_pos hk]
theorem put_snd (hs : Snd l V) (h : PmC NS g met l.length) : Snd (l ++ putW NS g met l.length) (vrP g met l.length V) := by
  have hlen : (l ++ putW NS g met l.length).length = l.length + (putW NS g met l.length).length := by simp
  have hold : ∀ k, k < l.length → (hdN (l ++ putW NS g met l.length) k ↔ hdN l k) := fun k hk => by
    unfold hdN
    rw [(tg_old hk).1]
  have hcov : ∀ k, l.length ≤ k → k < l.length + (putW NS g met l.length).length → (∃ x ∈ met, wdN (l ++ putW NS g met l.length) k = cwX NS g met l.length x) ∨ (∃ x ∈ met, (g.nodes.getD x.toNat nd0).kind = 1 ∧ k = plN g met l.length x ∧ wdN (l ++ putW NS g met l.length) k = 8 * (k : Int)) ∨ (∃ x ∈ met, (g.nodes.getD x.toNat nd0).kind = 4 ∧ k = plN g met l.length x ∧ wdN (l ++ putW NS g met l.length) k = fwF NS (g.nodes.getD x.toNat nd0)) := fun k h1 h2 => by
    rw [wd_nw h1]
    rcases h.cover (c := k - l.length) (by omega) with ⟨x, hx, e⟩ | ⟨x, hx, kk, e2, e⟩ | ⟨x, hx, kk, e2, e⟩
    · exact Or.inl ⟨x, hx, e⟩
    · exact Or.inr (Or.inl ⟨x, hx, kk, by omega, by rw [e]; congr 1; omega⟩)
    · exact Or.inr (Or.inr ⟨x, hx, kk, by omega, e⟩)
  have hself : ∀ k : Nat, k < 65536 → goodB (8 * (k : Int)) = true ∧ (8 * (k : Int)) % 8 = 0 ∧ valOf (8 * (k : Int)) = (k : Int) := fun k hk => by
    have hf : fitsB 0 (k : Int) = true := by simp [fitsB]; omega
    have hw : 8 * (k : Int) = wordOf 0 (k : Int) := by unfold wordOf; omega
    rw [hw]
    exact ⟨wordOf_good _ _ hf, wordOf_tag _ _ (by omega) (by omega), wordOf_val _ _ hf⟩
  have hrm := h.room
  have hvar : ∀ k, l.length ≤ k → k < l.length + (putW NS g met l.length).length → vrP g met l.length V k = true → tgN (l ++ putW NS g met l.length) k = 0 ∧ vlN (l ++ putW NS g met l.length) k = k := fun k h1 h2 hv => by
    obtain ⟨x, hx, kk, e⟩ := (vr_new h1).1 hv
    have hw := h.var hx kk
    rw [e] at hw
    obtain ⟨_, s2, s3⟩ := hself k (by omega)
    unfold tgN vlN
    rw [hw]
    exact ⟨s2, by omega⟩
  refine ⟨fun k hk => ?_, fun x hx => ?_, fun k hk ht => ?_, fun k hk hv => ?_, fun k hk ht => ?_, fun k hk ht => ?_, fun k hk ht => ?_⟩
  · rw [hlen] at hk
    by_cases ho : k < l.length
    · rw [wd_old ho]
      exact hs.good k ho
    · rcases hcov k (by omega) hk with ⟨x, hx, e⟩ | ⟨x, hx, kk, e2, e⟩ | ⟨x, hx, kk, e2, e⟩
      · rw [e]; exact (h.cw hx).good
      · rw [e]; exact (hself k (by omega)).1
      · rw [e]; exact (h.fw hx kk).1
  · rcases List.mem_append.1 hx with hx | hx
    · exact hs.rng x hx
    · obtain ⟨i, hi, e⟩ : ∃ i, i < (putW NS g met l.length).length ∧ (putW NS g met l.length).getD i 0 = x := by
        obtain ⟨i, hi, rfl⟩ := List.getElem_of_mem hx
        exact ⟨i, hi, by simp [List.getD, hi]⟩
      have := h.may hi
      rw [e] at this
      exact ⟨this.1, this.2.1⟩
  · rw [hlen] at hk ⊢
    by_cases ho : k < l.length
    · rw [(tg_old ho).1] at ht
      rw [(tg_old ho).2]
      obtain ⟨r1, r2, r3⟩ := hs.ref k ho ht
      rw [vr_old r1, vr_old ho]
      exact ⟨by omega, r2, r3⟩
    · have hvk : vrP g met l.length V k = true → vlN (l ++ putW NS g met l.length) k ≤ k := fun hv => by
        have := (hvar k (by omega) hk hv).2
        omega
      rcases hcov k (by omega) hk with ⟨x, hx, e⟩ | ⟨x, hx, kk, e2, e⟩ | ⟨x, hx, kk, e2, e⟩
      · have hcw := h.cw hx
        have ht' : cwX NS g met l.length x % 8 = 0 := by rw [← e]; exact ht
        obtain ⟨kk, hv⟩ := hcw.ref ht'
        have hp := h.pl hx
        rw [sz_var kk] at hp
        have hvl : vlN (l ++ putW NS g met l.length) k = plN g met l.length x := by unfold vlN; rw [e, hv, Int.toNat_natCast]
        refine ⟨by omega, ?_, hvk⟩
        rw [hvl]
        exact (vr_new hp.2).2 ⟨x, hx, kk, rfl⟩
      · have hv : vrP g met l.length V k = true := (vr_new (by omega)).2 ⟨x, hx, kk, e2.symm⟩
        have hvl := (hvar k (by omega) hk hv).2
        refine ⟨by omega, by rw [hvl]; exact hv, hvk⟩
      · have : tgN (l ++ putW NS g met l.length) k = 4 := by unfold tgN; rw [e]; exact (h.fw hx kk).2.2.1
        omega
  · rw [hlen] at hk
    by_cases ho : k < l.length
    · rw [hold k ho]
      rw [vr_old ho] at hv
      exact hs.own k ho hv
    · have := (hvar k (by omega) hk hv).1
      unfold hdN
      omega
  · rw [hlen] at hk ⊢
    by_cases ho : k < l.length
    · rw [(tg_old ho).1] at ht
      rw [(tg_old ho).2]
      obtain ⟨r1, r2⟩ := hs.str k ho ht
      exact ⟨by omega, (hold _ r1).2 r2⟩
    · rcases hcov k (by omega) hk with ⟨x, hx, e⟩ | ⟨x, hx, kk, e2, e⟩ | ⟨x, hx, kk, e2, e⟩
      · have hcw := h.cw hx
        have ht' : cwX NS g met l.length x % 8 = 3 := by rw [← e]; exact ht
        obtain ⟨kk, hv⟩ := hcw.str ht'
        have hp := h.pl hx
        rw [sz_comp kk] at hp
        have hvl : vlN (l ++ putW NS g met l.length) k = plN g met l.length x := by unfold vlN; rw [e, hv, Int.toNat_natCast]
        refine ⟨by omega, ?_⟩
        rw [hvl]
        refine Or.inl ?_
        unfold tgN
        rw [h.fun hx kk]
        exact (h.fw hx kk).2.2.1
      · have : tgN (l ++ putW NS g met l.length) k = 0 := by unfold tgN; rw [e]; exact (hself k (by omega)).2.1
        omega
      · have : tgN (l ++ putW NS g met l.length) k = 4 := by unfold tgN; rw [e]; exact (h.fw hx kk).2.2.1
        omega
  · rw [hlen] at hk
    by_cases ho : k < l.length
    · rw [(tg_old ho).1] at ht
      rw [(tg_old ho).2]
      obtain ⟨r1, r2⟩ := hs.fwd k ho ht
      exact ⟨r1, (hold _ (by omega)).2 r2⟩
    · rcases hcov k (by omega) hk with ⟨x, hx, e⟩ | ⟨x, hx, kk, e2, e⟩ | ⟨x, hx, kk, e2, e⟩
      · have hcw := (h.cw hx).tag
        have ht' : cwX NS g met l.length x % 8 = 5 := by rw [← e]; exact ht
        omega
      · have : tgN (l ++ putW NS g met l.length) k = 0 := by unfold tgN; rw [e]; exact (hself k (by omega)).2.1
        omega
      · have : tgN (l ++ putW NS g met l.length) k = 4 := by unfold tgN; rw [e]; exact (h.fw hx kk).2.2.1
        omega
  · rw [hlen] at hk ⊢
    by_cases ho : k < l.length
    · rw [(tg_old ho).1] at ht
      have ear : arN' (l ++ putW NS g met l.length) k = arN' l k := by unfold arN'; rw [(tg_old ho).2]
      rw [ear]
      obtain ⟨r1, r2⟩ := hs.args k ho ht
      exact ⟨by omega, fun i hi1 hi2 hh => r2 i hi1 hi2 ((hold _ (by omega)).1 hh)⟩
    · rcases hcov k (by omega) hk with ⟨x, hx, e⟩ | ⟨x, hx, kk, e2, e⟩ | ⟨x, hx, kk, e2, e⟩
      · have hcw := (h.cw hx).tag
        have ht' : cwX NS g met l.length x % 8 = 4 := by rw [← e]; exact ht
        omega
      · have : tgN (l ++ putW NS g met l.length) k = 0 := by unfold tgN; rw [e]; exact (hself k (by omega)).2.1
        omega
      · have hp := h.pl hx
        rw [sz_comp kk] at hp
        have h18 := good_comp (h.nd hx) kk
        have ear : arN' (l ++ putW NS g met l.length) k = (g.nodes.getD x.toNat nd0).args.length := by
          unfold arN' vlN
          rw [e, (h.fw hx kk).2.2.2]
          omega
        rw [ear]
        refine ⟨by omega, fun i hi1 hi2 hh => ?_⟩
        obtain ⟨i, rfl⟩ : ∃ i', i = i' + 1 := ⟨i - 1, by omega⟩
        obtain ⟨ea, hm⟩ := h.args hx kk (i := i) (by omega)
        have hcw := (h.cw hm).tag
        have et : tgN (l ++ putW NS g met l.length) (k + (i + 1)) = cwX NS g met l.length ((g.nodes.getD x.toNat nd0).args.getD i 0) % 8 := by
          unfold tgN
          rw [show k + (i + 1) = plN g met l.length x + 1 + i by omega, ea]
        unfold hdN at hh
        rw [et] at hh
        omega
theorem put_nsb {N : Nat} (hn : NsB l N) (hle : N ≤ NS.length) (h : PmC NS g met l.length) : NsB (l ++ putW NS g met l.length) NS.length := by
  have hlen : (l ++ putW NS g met l.length).length = l.length + (putW NS g met l.length).length := by simp
  refine ⟨fun k hk ht => ?_, fun k hk ht => ?_⟩
  · rw [hlen] at hk
    by_cases ho : k < l.length
    · rw [(tg_old ho).1] at ht
      rw [(tg_old ho).2]
      have := hn.atom k ho ht
      omega
    · unfold tgN at ht
      unfold vlN
      rw [wd_nw (by omega)] at ht ⊢
      rcases h.cover (c := k - l.length) (by omega) with ⟨x, hx, e⟩ | ⟨x, hx, kk, e2, e⟩ | ⟨x, hx, kk, e2, e⟩
      · rw [e] at ht ⊢
        exact (h.cw hx).atom ht
      · rw [e] at ht
        omega
      · rw [e, (h.fw hx kk).2.2.1] at ht
        omega
  · rw [hlen] at hk
    by_cases ho : k < l.length
    · rw [(tg_old ho).1] at ht
      rw [wd_old ho]
      have := hn.func k ho ht
      omega
    · unfold tgN at ht
      rw [wd_nw (by omega)] at ht ⊢
      rcases h.cover (c := k - l.length) (by omega) with ⟨x, hx, e⟩ | ⟨x, hx, kk, e2, e⟩ | ⟨x, hx, kk, e2, e⟩
      · have := (h.cw hx).tag
        rw [e] at ht
        omega
      · rw [e] at ht
        omega
      · rw [e, (h.fw hx kk).2.2.2]
        have h18 := good_comp (h.nd hx) kk
        have hnm := h.nm x hx (Or.inr kk)
        omega
theorem pmc_ofG {ns : List ByteArray} {b : Nat} (hg : Good g) (hna : (wthJ ns g (metF g) (metF g).length).length ≤ 1024) (hro : b + wantJ g (metF g) (metF g).length ≤ 65536) : PmC (wthJ ns g (metF g) (metF g).length) g (metF g) b := by
  refine ⟨hg, met_ok hg, met_root hg, met_arg hg, fun x hx hk => ?_, hna, by rw [putW_len]; exact hro⟩
  have hr := (met_ok hg).rng x hx
  have hgd := hg.node (g.nodes.getD x.toNat nd0) (by
    have : x.toNat < g.nodes.length := by omega
    simp [List.getD, this])
  have hs : (g.nodes.getD x.toNat nd0).name.size ≠ 0 := by
    have h1 : goodS (g.nodes.getD x.toNat nd0).name = true := by
      unfold goodNd at hgd
      rcases hk with k | k
      · rw [if_neg (by omega), if_pos k] at hgd
        simp only [Bool.and_eq_true] at hgd
        exact hgd.1.1
      · rw [if_neg (by omega), if_neg (by omega), if_neg (by omega), if_pos k] at hgd
        simp only [Bool.and_eq_true] at hgd
        exact hgd.1.1.1.1
    have := goodS_size h1
    omega
  have h2 := wthJ_in ns g (metF g) (pos_lt hx) (by rw [pos_at hx]; exact hs)
  rw [pos_at hx] at h2
  exact num_lt h2
end
end Go.Proofs.YtlibjdilicfcdaaGreatDoor

namespace Go.Proofs.YtlibjdilicfcdaaGreatDoor
set_option maxRecDepth 100000
open Go.RowKit
abbrev Te := Nat × Int
def undW (l : List Int) (tr : List Te) : List Int := tr.foldr (fun e a => a.set e.1 e.2) l
theorem undW_app (l : List Int) (a b : List Te) : undW l (a ++ b) = undW (undW l b) a := List.foldr_append ..
theorem undW_snoc (l : List Int) (a : List Te) (e : Te) : undW l (a ++ [e]) = undW (l.set e.1 e.2) a := by rw [undW_app]; rfl
theorem undW_len (l : List Int) : ∀ tr, (undW l tr).length = l.length
  | [] => rfl
  | e :: r => by
    show ((undW l r).set e.1 e.2).length = _
    rw [List.length_set, undW_len l r]
theorem undW_take (l : List Int) (K : Nat) : ∀ tr, (undW l tr).take K = undW (l.take K) tr
  | [] => rfl
  | e :: r => by
    show ((undW l r).set e.1 e.2).take K = (undW (l.take K) r).set e.1 e.2
    rw [← undW_take l K r, List.take_set]
abbrev Pe := Nat × Nat
def seesB (pt : List Pe) (k : Nat) : Bool := match pt.getLast? with
  | some p => decide (k < p.2)
  | none => false
def trW (l : List Int) (tr : List Te) (pt : List Pe) (k : Nat) : List Te := if seesB pt k = true then tr ++ [(k, l.getD k 0)] else tr
def atP (l : List Int) (tr : List Te) (p : Pe) : List Int := undW (l.take p.2) (tr.drop p.1)
def SndN (l : List Int) (N : Nat) : Prop := (∃ V, Snd l V) ∧ NsB l N
structure SI (l : List Int) (N : Nat) (tr : List Te) (pt : List Pe) : Prop where
  now : SndN l N
  ent : ∀ e ∈ tr, e.1 < l.length ∧ (0 ≤ e.2 ∧ e.2 ≤ 18446744073709551615) ∧ mayB e.2 l.length = true
  len : ∀ p ∈ pt, p.1 ≤ tr.length ∧ p.2 ≤ l.length
  old : ∀ p ∈ pt, ∀ e ∈ tr.take p.1, e.1 < p.2 ∧ mayB e.2 p.2 = true
  was : ∀ p ∈ pt, SndN (atP l tr p) N
  mono : pt.Pairwise (fun p q => p.1 ≤ q.1 ∧ p.2 ≤ q.2)
theorem SI.last {l : List Int} {N : Nat} {tr : List Te} {pt : List Pe} (h : SI l N tr pt) {p q : Pe} (hp : p ∈ pt) (hq : pt.getLast? = some q) : p.1 ≤ q.1 ∧ p.2 ≤ q.2 := by
  obtain ⟨i, hi, e⟩ := List.getElem_of_mem hp
  have hl : q = pt[pt.length - 1]'(by omega) := by
    rw [List.getLast?_eq_getElem?] at hq
    rw [List.getElem?_eq_getElem (by omega)] at hq
    exact (Option.some.inj hq).symm
  rcases Nat.lt_or_ge i (pt.length - 1) with h1 | h1
  · have := List.pairwise_iff_getElem.1 h.mono i (pt.length - 1) hi (by omega) h1
    rw [e, ← hl] at this
    exact this
  · have e2 : i = pt.length - 1 := by omega
    subst e2
    rw [← e, hl]
    exact ⟨Nat.le_refl _, Nat.le_refl _⟩
theorem atP_write {l : List Int} {N : Nat} {tr : List Te} {pt : List Pe} (h : SI l N tr pt) {p : Pe} (hp : p ∈ pt) {k : Nat} (hk : k < l.length) (x : Int) : atP (l.set k x) (trW l tr pt k) p = atP l tr p := by
  unfold atP trW
  have hl := h.len p hp
  split
  · rename_i hs
    rw [List.drop_append_of_le_length hl.1, undW_snoc, List.take_set]
    congr 1
    by_cases hkp : k < p.2
    · rw [List.set_set]
      apply List.ext_getElem?
      intro i
      rw [List.getElem?_set]
      split
      · rename_i e
        subst e
        have e1 : k < (l.take p.2).length := by simp; omega
        rw [if_pos e1, List.getElem?_take, if_pos hkp]
        simp [List.getD, hk]
      · rfl
    · rw [List.set_eq_of_length_le (by simp; omega), List.set_eq_of_length_le (by simp; omega)]
  · rename_i hs
    have hkp : p.2 ≤ k := by
      cases hq : pt.getLast? with
      | none => rw [List.getLast?_eq_none_iff] at hq; subst hq; cases hp
      | some q =>
        have h1 := h.last hp hq
        have h2 : ¬ k < q.2 := fun h3 => hs (by unfold seesB; rw [hq]; exact decide_eq_true h3)
        omega
    rw [List.take_set, List.set_eq_of_length_le (by simp; omega)]
theorem snd_may {l : List Int} {V : Nat → Bool} (h : Snd l V) {k : Nat} (hk : k < l.length) : (0 ≤ l.getD k 0 ∧ l.getD k 0 ≤ 18446744073709551615) ∧ mayB (l.getD k 0) l.length = true := by
  have hg := h.good k hk
  have hr := h.rng (l.getD k 0) (by simp [List.getD, hk])
  refine ⟨hr, ?_⟩
  unfold mayB
  have hg' : goodB (l.getD k 0) = true := hg
  rw [hg', Bool.true_and]
  by_cases ht : tellsB (l.getD k 0) = true
  · have h3 : l.getD k 0 % 8 = 0 ∨ l.getD k 0 % 8 = 3 ∨ l.getD k 0 % 8 = 5 := by simpa [tellsB] using ht
    have hv := val_place hg' h3
    have : vlN l k < l.length := by
      rcases h3 with e | e | e
      · exact (h.ref k hk e).1
      · exact (h.str k hk e).1
      · exact Nat.lt_trans (h.fwd k hk e).1 hk
    have e2 : vlN l k = (valOf (l.getD k 0)).toNat := rfl
    rw [Bool.or_eq_true]
    exact Or.inr (decide_eq_true (by omega))
  · simp only [Bool.not_eq_true] at ht
    rw [ht]
    rfl
theorem may_mono {x a b : Int} (h : mayB x a = true) (hab : a ≤ b) : mayB x b = true := by
  unfold mayB at *
  rw [Bool.and_eq_true, Bool.or_eq_true] at *
  exact ⟨h.1, h.2.imp id (fun h => decide_eq_true (by have := of_decide_eq_true h; omega))⟩
theorem SI.write {l : List Int} {N : Nat} {tr : List Te} {pt : List Pe} (h : SI l N tr pt) {k : Nat} (hk : k < l.length) {x : Int} (hn : SndN (l.set k x) N) : SI (l.set k x) N (trW l tr pt k) pt := by
  obtain ⟨V, hV⟩ := h.now.1
  have hm := snd_may hV hk
  have hlt : tr.length ≤ (trW l tr pt k).length := by unfold trW; split <;> simp
  refine ⟨hn, fun e he => ?_, fun p hp => ⟨Nat.le_trans (h.len p hp).1 hlt, by rw [List.length_set]; exact (h.len p hp).2⟩, fun p hp e he => ?_, fun p hp => by rw [atP_write h hp hk]; exact h.was p hp, h.mono⟩
  · rw [List.length_set]
    unfold trW at he
    split at he
    · rcases List.mem_append.1 he with he | he
      · exact h.ent e he
      · have e2 : e = (k, l.getD k 0) := by simpa using he
        subst e2
        exact ⟨hk, hm.1, hm.2⟩
    · exact h.ent e he
  · refine h.old p hp e ?_
    unfold trW at he
    split at he
    · rwa [List.take_append_of_le_length (h.len p hp).1] at he
    · exact he
theorem nsb_more {l : List Int} {N N' : Nat} (h : NsB l N) (hle : N ≤ N') : NsB l N' := ⟨fun k hk ht => by have := h.1 k hk ht; omega, fun k hk ht => by have := h.2 k hk ht; omega⟩
theorem atP_put {l m : List Int} {tr : List Te} {p : Pe} (hp : p.2 ≤ l.length) : atP (l ++ m) tr p = atP l tr p := by
  unfold atP
  rw [List.take_append_of_le_length hp]
theorem SI.put {l m : List Int} {N N' : Nat} {tr : List Te} {pt : List Pe} (h : SI l N tr pt) (hN : N ≤ N') (hn : SndN (l ++ m) N') : SI (l ++ m) N' tr pt := by
  have hl : l.length ≤ (l ++ m).length := by simp
  refine ⟨hn, fun e he => ?_, fun p hp => ⟨(h.len p hp).1, Nat.le_trans (h.len p hp).2 hl⟩, h.old, fun p hp => ?_, h.mono⟩
  · obtain ⟨h1, h2, h3⟩ := h.ent e he
    exact ⟨by omega, h2, may_mono h3 (by omega)⟩
  · rw [atP_put (h.len p hp).2]
    exact ⟨(h.was p hp).1, nsb_more (h.was p hp).2 hN⟩
theorem SI.point {l : List Int} {N : Nat} {tr : List Te} {pt : List Pe} (h : SI l N tr pt) : SI l N tr (pt ++ [(tr.length, l.length)]) := by
  have hc : ∀ p ∈ pt ++ [(tr.length, l.length)], p ∈ pt ∨ p = (tr.length, l.length) := fun p hp => by
    rcases List.mem_append.1 hp with hp | hp
    · exact Or.inl hp
    · exact Or.inr (by simpa using hp)
  refine ⟨h.now, h.ent, fun p hp => ?_, fun p hp e he => ?_, fun p hp => ?_, ?_⟩
  · rcases hc p hp with hp | rfl
    · exact h.len p hp
    · exact ⟨Nat.le_refl _, Nat.le_refl _⟩
  · rcases hc p hp with hp | rfl
    · exact h.old p hp e he
    · have := h.ent e (List.mem_of_mem_take he)
      exact ⟨this.1, this.2.2⟩
  · rcases hc p hp with hp | rfl
    · exact h.was p hp
    · unfold atP
      rw [List.take_length, List.drop_length]
      exact h.now
  · rw [List.pairwise_append]
    refine ⟨h.mono, List.pairwise_singleton _ _, fun p hp q hq => ?_⟩
    have e : q = (tr.length, l.length) := by simpa using hq
    subst e
    exact h.len p hp
theorem SI.release {l : List Int} {N : Nat} {tr : List Te} {pt : List Pe} (h : SI l N tr pt) (n : Nat) : SI l N tr (pt.take n) :=
  ⟨h.now, h.ent, fun p hp => h.len p (List.mem_of_mem_take hp), fun p hp => h.old p (List.mem_of_mem_take hp), fun p hp => h.was p (List.mem_of_mem_take hp), h.mono.sublist (List.take_sublist _ _)⟩
theorem atP_undo {l : List Int} {tr : List Te} {p q : Pe} (h1 : p.1 ≤ q.1) (h2 : p.2 ≤ q.2) (hq1 : q.1 ≤ tr.length) : atP (atP l tr q) (tr.take q.1) p = atP l tr p := by
  unfold atP
  have e : tr.drop p.1 = (tr.take q.1).drop p.1 ++ tr.drop q.1 := by
    rw [← List.drop_append_of_le_length (by simp; omega), List.take_append_drop]
  rw [e, undW_app, undW_take, List.take_take, Nat.min_eq_left h2]
theorem SI.undo {l : List Int} {N : Nat} {tr : List Te} {pt : List Pe} (h : SI l N tr pt) (n : Nat) (hn : n < pt.length) : SI (atP l tr pt[n]) N (tr.take pt[n].1) (pt.take (n + 1)) := by
  have hm : pt[n] ∈ pt := List.getElem_mem hn
  have hl := h.len _ hm
  have hlen : (atP l tr pt[n]).length = pt[n].2 := by
    unfold atP
    rw [undW_len, List.length_take]
    omega
  have hle : ∀ p ∈ pt.take (n + 1), p.1 ≤ pt[n].1 ∧ p.2 ≤ pt[n].2 := fun p hp => by
    obtain ⟨i, hi, e⟩ := List.getElem_of_mem hp
    rw [List.getElem_take] at e
    have hi2 : i < pt.length ∧ i ≤ n := by simp at hi; omega
    rcases Nat.lt_or_ge i n with h1 | h1
    · have := List.pairwise_iff_getElem.1 h.mono i n hi2.1 hn h1
      rw [e] at this
      exact this
    · have e2 : i = n := by omega
      subst e2
      rw [← e]
      exact ⟨Nat.le_refl _, Nat.le_refl _⟩
  refine ⟨h.was _ hm, fun e he => ?_, fun p hp => ?_, fun p hp e he => ?_, fun p hp => ?_, h.mono.sublist (List.take_sublist _ _)⟩
  · rw [hlen]
    have h1 := h.old _ hm e he
    exact ⟨h1.1, (h.ent e (List.mem_of_mem_take he)).2.1, h1.2⟩
  · rw [hlen, List.length_take]
    have := hle p hp
    exact ⟨by omega, this.2⟩
  · refine h.old p (List.mem_of_mem_take hp) e ?_
    rw [List.take_take, Nat.min_eq_left (hle p hp).1] at he
    exact he
  · rw [atP_undo (hle p hp).1 (hle p hp).2 hl.1]
    exact h.was p (List.mem_of_mem_take hp)
end Go.Proofs.YtlibjdilicfcdaaGreatDoor
