/- BisimSplits, at every graph and every number. -/
import Derived.Test.YtcgkmenlacinjaaBiSpZ
import Derived.Test.YtcgkmenlacinjaaBiSpWZ
namespace Go.Proofs.Ytcgkmenlacinjaa
open Go.RowKit

theorem set_sized {g : Gf} (hS : Sized g) {k : Nat} {n : Nd} (hn : n.name.size ≤ 9223372036854775807) : Sized (setNd g k n) := fun m hm => by
  rcases List.mem_or_eq_of_mem_set hm with h | h
  · exact hS m h
  · rw [h]; exact hn
theorem splits_good {W : World} {nv rv : Value} {g : Gf} (x : Nat) (hG : Gr W nv rv g) (hS : Sized g) (hs : smallK 150 g = true) (hb : one (chk g) = []) (hx : x < (metF g).length) :
    Calls Try.prog 6 #[.agg #[nv, rv], .int .i64 (x : Int)] W fun e w' => e = .returned (.bool true) ∧ Below W.heap.size W w' := by
  have hg := chk_good hb
  have hok := met_ok hg
  obtain ⟨_, hN, hR⟩ := smallK_fits hs
  have hmem : (metF g).getD x 0 ∈ metF g := getD_mem hx
  have hr := hok.rng _ hmem
  obtain ⟨k, hk⟩ : ∃ k : Nat, (metF g).getD x 0 = (k : Int) := ⟨((metF g).getD x 0).toNat, by omega⟩
  rw [hk] at hmem hr
  have hkN : k < g.nodes.length := by omega
  have hR0 : 0 < g.roots.length := by
    rcases Nat.eq_zero_or_pos g.roots.length with h | h
    · have h1 : g.roots = [] := List.length_eq_zero_iff.1 h
      have h2 : ∀ y ∈ metF g, False := meet_in (fun _ => False) (fun _ h => h.elim) _ _ _ (fun z hz => by rw [h1] at hz; cases hz) (by simp)
      exact (h2 _ hmem).elim
    · exact h
  obtain ⟨nb, no, ncap, nc, env, hnb, hncl, hncc, hnc1, hcu⟩ := copy_cells hG.1 (by omega)
  obtain ⟨ra, rcap, erv, hrc⟩ := hG.2
  obtain ⟨rb, ro, e0, hr0⟩ := hrc 0 hR0
  have hrb := lt_of_cell hr0
  subst e0
  have hrcc : ∀ (j : Nat) (u : Value), (g.roots.map (Value.int .i64))[j]? = some u → W.cell? ⟨rb, ro + j, none⟩ = some u := fun j u hu => by
    have hj : j < g.roots.length := by
      have := (List.getElem?_eq_some_iff.1 hu).1
      simpa using this
    obtain ⟨b, o, e1, h1⟩ := hrc j hj
    injection e1 with e1
    injection e1 with e1 e2
    subst e1 e2
    rw [h1]
    have : u = .int .i64 (g.roots.getD j 0) := by
      simp [hj] at hu
      simp [List.getD, hj, hu]
    rw [this]
  have hsz : (g.nodes.getD k nd0).name.size ≤ 9223372036854775807 := hS _ (by simp [List.getD, hkN])
  refine splits_in x hG hS hs hb hx nc (g.roots.map (Value.int .i64)) g.nodes.length g.roots.length nb no ncap rb ro rcap env erv hnb hrb hncl (by simp) hncc hrcc hnc1 (fun u hu => by obtain ⟨y, _, rfl⟩ := List.mem_map.1 hu; rfl) (by omega) hR0 hN hR k _ hk hkN rfl rfl hcu rfl rfl (hid hsz) (hid ?_) (hid ?_)
  · intro n w mv sv ha hn hbw hGw
    exact balike_any (hG.below hbw) hS hGw (set_sized hS hn) (by rw [eqG_iff]; exact (split_iff hb hmem (by rw [ha]; unfold Gf.nd; simp)).symm)
  · intro n w mv sv hbw hGw
    exact same_any (hG.below hbw) hGw (fits_good hg)
theorem bisimSplits_walk {W : World} (nv rv : Value) (g : Gf) (hG : Gr W nv rv g) (hS : Sized g) (x : Int) (_hx : -9223372036854775808 ≤ x ∧ x ≤ 9223372036854775807) :
    Calls Try.prog 6 #[.agg #[nv, rv], .int .i64 x] W fun e w' => e = .returned (.bool true) ∧ Below W.heap.size W w' := by
  by_cases hs : smallK 150 g = true
  · by_cases hb : one (chk g) = []
    · by_cases hx : 0 ≤ x ∧ x < ((metF g).length : Int)
      · obtain ⟨k, rfl⟩ : ∃ k : Nat, x = (k : Int) := ⟨x.toNat, by omega⟩
        exact splits_good k hG hS hs hb (by omega)
      · exact splits_out x hG hS hs hb hx
    · exact splits_bad x hG hS hs hb
  · exact splits_short x hG (by simpa using hs)
end Go.Proofs.Ytcgkmenlacinjaa
