/- The reference's Put at every text; two rows of texts that are the same. -/
import Derived.Test.YtobimnfjfinphaaNmRef
namespace Go.Proofs.Ytobimnfjfinphaa
open Go.RowKit Go.Maps

theorem RUpd.same {w w' : World} {B : Nat} {v : Value} {l : List ByteArray} (h : w.ownsRow B 9 1 v l.length (l.map Value.string)) (hb : Below w.heap.size w w') : RUpd w w' B v l v := ⟨own_below h hb, Mod.ofBelow hb, Nx.refl _ _⟩
theorem own_row {w : World} {B : Nat} {e : TypeId} {v : Value} {n : Nat} {xs : List Value} (h : w.ownsRow B e 1 v n xs) {k : Nat} (hk : v.ownBlock = some k) : B ≤ k ∧ k < w.heap.size := h.lt k hk
theorem rput_upd {w w4 : World} {B g cap : Nat} {v : Value} {l : List ByteArray} {s : ByteArray} {o o' o'' : Obj} (h : w.ownsRow B 9 1 v l.length (l.map Value.string))
    (hown : w4.ownsRow B 9 1 (.slice (some ⟨g, 0, none⟩) (l.length + 1) cap) (l.length + 1) ((l ++ [s]).map Value.string)) (hg : ((w.alloc o).alloc o').grownBy w4 v.ownBlock) (hat : v.ownBlock = some g ∨ g = ((w.alloc o).alloc o').heap.size) :
    RUpd w (fltEnd w4 w.heap.size 0 0 ⟨#[]⟩ o'') B v (l ++ [s]) (.slice (some ⟨g, 0, none⟩) (l.length + 1) cap) := by
  have hgq : g ≠ w.heap.size := by
    rcases hat with e | e
    · have := (own_row h e).2
      omega
    · simp at e
      omega
  have hM : Mod v.ownBlock.toList w w4 := (((Mod.refl _ w).alloc o).alloc o').grown hg (fun k e => Or.inl (by simp [e]))
  refine ⟨?_, hM.trans flt_mod (fun x hx => Or.inr (by simp at hx; omega)), fun k hk => ?_⟩
  · rw [List.length_append]
    exact own_keep hown flt_mod (fun k hk e => by
      simp at hk
      subst hk
      exact hgq (by simpa [Value.ownBlock] using e))
  · have hk' : k = g := by simpa [Value.ownBlock] using hk.symm
    subst hk'
    rcases hat with e | e
    · exact Or.inl e
    · simp at e
      exact Or.inr (by omega)
theorem one_at1 (w : World) (o : Obj) (s : ByteArray) : ∀ j u, [Value.string s][j]? = some u → ((w.alloc o).alloc (.cells #[.string s] 9)).cell? ((⟨w.heap.size + 1, 0, none⟩ : Addr).add j) = some u := by
  have h := cell_one_new (w.alloc o) (.string s) 9
  rw [World.size_alloc] at h
  exact h
set_option maxRecDepth 100000 in
set_option maxHeartbeats 2000000 in
theorem rput_new {w : World} {B : Nat} {v : Value} {l : List ByteArray} (h : w.ownsRow B 9 1 v l.length (l.map Value.string)) (hB : B ≤ w.heap.size) (s : ByteArray) (hs : s.size ≤ 281474976710656) (hg : goodS s = true) (hi : inL l s = false) (hn : l.length < 1024) :
    Calls Try.prog 13 #[v, .string s] w fun e w' => ∃ v', e = .returned (.tuple #[v', .int .i64 (l.length : Int), flt 0 0 ⟨#[]⟩]) ∧ RUpd w w' B v (l ++ [s]) v' := by
  have hr := Rs.ofOwn h
  have hf := fun o => rfind_any (hr.alloc o) s (by omega)
  obtain ⟨ao, c, rfl⟩ := hr.shape
  rw [hi] at hf
  clear hr
  go_enter Try.func13, Try.ntmps13
  go_wp2_with (first
    | (go_at_call 10; refine (rgood_any _ _ hs).mono ?_; rintro e w' ⟨rfl, rfl⟩)
    | (go_at_call 17; refine (hf _).mono ?_; rintro e w' ⟨rfl, rfl⟩)
    | (at_builtin; refine wpList_append_still rfl _ _ rfl rfl ((h.alloc _).alloc _) ⟨w.heap.size + 1, 0, none⟩ 1 s rfl (one_at1 w _ s) (by omega) (by simp; omega) ?_; intro g cap w4 hown hgr hat; have hq4 : w4.heap[w.heap.size]? = some (fltObj 0 0 ⟨#[]⟩) := ((hgr.block w.heap.size (by simp; omega) (fun e => absurd (own_row h e.symm).2 (Nat.lt_irrefl _))).trans (two_new w _ _)); obtain ⟨⟨q0, q1, q2, q3⟩, g0, g1, g2, g3⟩ := flt_facts hq4; have HU := fun o'' => rput_upd (o'' := o'') h hown hgr (hat.imp id (fun e => e.1)); have hs4 := lt_of_block hq4)
    | (go_at_call 26; refine (no_ex _).mono ?_; rintro e wq ⟨rfl, hq⟩; subst hq))
  exact bodyPost_ret (ret_flt3 Try.results13 (by rfl) (by rfl) (by rfl) (flt_end hq4)) rfl ⟨_, rfl, HU _⟩
/-- The reference's Put, at every text. -/
theorem rput_any {w : World} {B : Nat} {v : Value} {l : List ByteArray} (h : w.ownsRow B 9 1 v l.length (l.map Value.string)) (hB : B ≤ w.heap.size) (hl : l.length ≤ 1024) (s : ByteArray) (hs : s.size ≤ 281474976710656) :
    Calls Try.prog 13 #[v, .string s] w fun e w' => ∃ v', e = .returned (.tuple #[v', .int .i64 (putN l s : Int), flt (putC l s) (putA l s) (putS l s)]) ∧ RUpd w w' B v (putL l s) v' := by
  have hr := Rs.ofOwn h
  cases hg : goodS s with
  | false =>
    have e1 : putN l s = 0 := by simp [putN, hg]
    have e2 : putC l s = 30 := by simp [putC, hg]
    have e3 : putL l s = l := by simp [putL, hg]
    have e4 : putA l s = -1 := by simp [putA, e2]
    have e5 : putS l s = s := by simp [putS, e2]
    refine (rput_bad hr s hs hg).mono fun e w' ⟨he, hb⟩ => ?_
    rw [e1, e2, e3, e4, e5]
    exact ⟨v, he, RUpd.same h hb⟩
  | true =>
    cases hi : inL l s with
    | true =>
      have e1 : putN l s = num l s := by simp [putN, hg, hi]
      have e2 : putC l s = 0 := by simp [putC, hg, hi]
      have e3 : putL l s = l := by simp [putL, hi]
      have e4 : putA l s = 0 := by simp [putA, e2]
      have e5 : putS l s = ⟨#[]⟩ := by simp [putS, e2]
      refine (rput_old hr (by omega) s hs hg hi).mono fun e w' ⟨he, hb⟩ => ?_
      rw [e1, e2, e3, e4, e5]
      exact ⟨v, he, RUpd.same h hb⟩
    | false =>
      by_cases hn : l.length < 1024
      · have e1 : putN l s = l.length := by simp [putN, hg, hi, hn]
        have e2 : putC l s = 0 := by simp [putC, hg, hn]
        have e3 : putL l s = l ++ [s] := by simp [putL, hg, hi, hn]
        have e4 : putA l s = 0 := by simp [putA, e2]
        have e5 : putS l s = ⟨#[]⟩ := by simp [putS, e2]
        refine (rput_new h hB s hs hg hi hn).mono fun e w' ⟨v', he, hU⟩ => ?_
        rw [e1, e2, e3, e4, e5]
        exact ⟨v', he, hU⟩
      · have e1 : putN l s = 0 := by simp [putN, hg, hi, hn]
        have e2 : putC l s = 31 := by simp [putC, hg, hi, hn]
        have e3 : putL l s = l := by simp [putL, hn]
        have e4 : putA l s = -1 := by simp [putA, e2]
        have e5 : putS l s = s := by simp [putS, e2]
        refine (rput_full hr (by omega) s hs hg hi hn).mono fun e w' ⟨he, hb⟩ => ?_
        rw [e1, e2, e3, e4, e5]
        exact ⟨v, he, RUpd.same h hb⟩
set_option maxHeartbeats 1000000 in
theorem same_some (b o c b' o' c' : Nat) (l : List ByteArray) (w : World) (hl : l.length ≤ 5000) (hc : ∀ j, j < l.length → w.cell? ⟨b, o + j, none⟩ = some (.string (l.getD j ⟨#[]⟩))) (hc' : ∀ j, j < l.length → w.cell? ⟨b', o' + j, none⟩ = some (.string (l.getD j ⟨#[]⟩))) :
    Calls Try.prog 20 #[.slice (some ⟨b, o, none⟩) l.length c, .slice (some ⟨b', o', none⟩) l.length c'] w fun e w' => e = .returned (.bool true) ∧ ∃ d, w' = w.drewN d := by
  go_enter Try.func20, Try.ntmps20
  go_wp2
  go_loopw [5] (fun i wr => ∃ k : Nat, k ≤ l.length ∧ i = .int .i64 k ∧ ∃ d, wr = w.drewN d) (fun i _ => l.length - (intOf i).toNat)
  case atStart => exact ⟨0, Nat.zero_le _, rfl, 0, rfl⟩
  case round =>
    obtain ⟨k, hk, rfl, d, rfl⟩ := hrel
    by_cases hlt : k < l.length
    · have h1 := hc k hlt
      have h2 := hc' k hlt
      obtain ⟨x, hx⟩ : ∃ x, x = l.getD k ⟨#[]⟩ := ⟨_, rfl⟩
      rw [← hx] at h1 h2
      clear hc hc' hx
      have hk0 : (0 : Int) ≤ (k : Int) := by omega
      have hlt' : (k : Int) < (l.length : Int) := by omega
      go_wp2
      go_quiet (fail)
      go_wp2
      go_roundw
      case rel => exact ⟨k + 1, by omega, by go_num, _, rfl⟩
      case measure => simp [intOf]; omega
    · have hlt' : ¬ (k : Int) < (l.length : Int) := by omega
      go_wp2
      go_ret
      exact ⟨rfl, d, rfl⟩
set_option maxHeartbeats 400000 in
theorem same_none (ao ao' : Option Addr) (c c' : Nat) (w : World) :
    Calls Try.prog 20 #[.slice ao 0 c, .slice ao' 0 c'] w fun e w' => e = .returned (.bool true) ∧ w' = w := by
  go_enter Try.func20, Try.ntmps20
  go_wp2
  refine wp_loop_rounds 1 ?_
  rw [rounds_succ]
  go_wp2
  go_ret
  exact ⟨rfl, rfl⟩
theorem same_any {w : World} {u u' : Value} {l : List ByteArray} (h : Rs w u l) (h' : Rs w u' l) (hl : l.length ≤ 5000) :
    Calls Try.prog 20 #[u, u'] w fun e w' => e = .returned (.bool true) ∧ Below w.heap.size w w' := by
  by_cases h0 : l = []
  · subst h0
    obtain ⟨ao, c, rfl⟩ := h.shape
    obtain ⟨ao', c', rfl⟩ := h'.shape
    exact (same_none ao ao' c c' w).mono fun e w' ⟨he, hw⟩ => ⟨he, by rw [hw]; exact Below.refl _ _⟩
  · rcases h with ⟨_, h1⟩ | ⟨_, _, _, h1⟩ | ⟨b, o, c, rfl, hc⟩
    · exact absurd h1 h0
    · exact absurd h1 h0
    · rcases h' with ⟨_, h1⟩ | ⟨_, _, _, h1⟩ | ⟨b', o', c', rfl, hc'⟩
      · exact absurd h1 h0
      · exact absurd h1 h0
      · exact (same_some b o c b' o' c' l w hl hc hc').mono fun e w' ⟨he, d, hw⟩ => ⟨he, by rw [hw]; exact below_drewN (Below.refl _ _) d⟩
end Go.Proofs.Ytobimnfjfinphaa
