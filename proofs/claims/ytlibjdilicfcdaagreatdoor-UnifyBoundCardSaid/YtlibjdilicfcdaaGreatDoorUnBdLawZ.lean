/- UnifyBound of layer 12 holds at every graph and every two numbers: no more writes than words that can be reached; the two hold one term behind it; a second time makes no write. -/
import Derived.Test.YtlibjdilicfcdaaGreatDoornb50Z
import Derived.Test.YtlibjdilicfcdaaGreatDoornb20Z
import Derived.Test.YtlibjdilicfcdaaGreatDoornb46Z
import Derived.Test.YtlibjdilicfcdaaGreatDoornb51Z
import Derived.Test.YtlibjdilicfcdaaGreatDoornb41Z
import Derived.Deep.RegionHeld3
import Derived.Deep.DeepCutAuto
import Derived.Test.YtlibjdilicfcdaaGreatDoornb52Z
import Derived.Test.YtlibjdilicfcdaaGreatDoornb08Z
import Derived.Test.YtlibjdilicfcdaaGreatDoornb42Z
namespace Go.Proofs.YtlibjdilicfcdaaGreatDoor
set_option maxRecDepth 100000
open Go.RowKit Go.Maps
section
variable {l cs M : List Int} {V : Nat → Bool} {nm : List ByteArray}
theorem rcs_next (hs : Snd l V) (hM : RcS l cs M) {k j : Nat} (hk : (k : Int) ∈ M) (hkl : k < l.length) (e : nxN l k = some j) : (j : Int) ∈ M := by
  refine (hM.all _).2 (.step ((hM.all _).1 hk) ?_)
  have hg := hs.good k hkl
  have hx : ∀ h3 : wdN l k % 8 = 0 ∨ wdN l k % 8 = 3 ∨ wdN l k % 8 = 5, j = vlN l k → (j : Int) ∈ rchN l (k : Int) := fun h3 h => by
    have hv := val_place hg h3
    unfold rchN rchL
    rw [Int.toNat_natCast, if_pos h3, List.mem_singleton]
    unfold vlN at h
    omega
  unfold nxN at e
  have ht : tgN l k = wdN l k % 8 := rfl
  by_cases h0 : tgN l k = 0
  · rw [if_pos h0] at e
    by_cases h1 : vlN l k = k
    · rw [if_pos h1] at e
      cases e
    · rw [if_neg h1] at e
      injection e with e
      exact hx (Or.inl (ht ▸ h0)) e.symm
  · rw [if_neg h0] at e
    by_cases h3 : tgN l k = 3 ∨ tgN l k = 5
    · rw [if_pos h3] at e
      injection e with e
      exact hx (Or.inr (by rw [ht] at h3; exact h3)) e.symm
    · rw [if_neg h3] at e
      cases e
theorem rcs_end (hs : Snd l V) (hM : RcS l cs M) : ∀ (r k : Nat), k < l.length → rkN l V k ≤ r → (k : Int) ∈ M → ∃ j, j < l.length ∧ nxN l j = none ∧ trmW l k = endW l j ∧ (j : Int) ∈ M := by
  intro r
  induction r with
  | zero =>
    intro k hk hr hm
    cases e : nxN l k with
    | none => exact ⟨k, hk, e, trm_end e, hm⟩
    | some j =>
      have := (nx_rk hs hk e).2
      omega
  | succ r ih =>
    intro k hk hr hm
    cases e : nxN l k with
    | none => exact ⟨k, hk, e, trm_end e, hm⟩
    | some j =>
      obtain ⟨h1, h2⟩ := nx_rk hs hk e
      rw [trm_next hs hk e]
      exact ih j h1 (by omega) (rcs_next hs hM hm hk e)
def RNx (l M : List Int) (x : Nat) : Prop := ∃ k : Nat, (k : Int) ∈ M ∧ k < l.length ∧ utI l k = x
theorem rnx_place (hs : Snd l V) (hl : l.length ≤ 65536) (hM : RcS l cs M) {k : Nat} (hk : (k : Int) ∈ M) (hkl : k < l.length) (ht : trmW l k % 8 = 0 ∨ trmW l k % 8 = 3) : valOf (trmW l k) ∈ M := by
  obtain ⟨j, hj, e, e2, hm⟩ := rcs_end hs hM _ k hkl (Nat.le_refl _) hk
  rw [e2] at ht ⊢
  rw [end_place hs hl hj e ht]
  exact hm
theorem rnx_arg (hs : Snd l V) (hn : NsB l nm.length) (hl : l.length ≤ 65536) (hM : RcS l cs M) {x : Nat} (hx : RNx l M x) {j : Nat} (hj : j < (ndN (utN l nm) x).args.length) : RNx l M (argN (utN l nm) x j) := by
  obtain ⟨k, hk, hkl, rfl⟩ := hx
  rw [utN_args hkl] at hj
  obtain ⟨h1, h2, _⟩ := utN_arg (nm := nm) hs hn hl hkl hj
  rw [h2]
  have h3 : trmW l k % 8 = 3 := by
    unfold tdL at hj
    split at hj
    · rename_i h
      exact h
    · simp at hj
  have hp := rnx_place hs hl hM hk hkl (Or.inr h3)
  refine ⟨_, ?_, by omega, rfl⟩
  rw [show ((((tdL l (trmW l k)).getD j 0).toNat : Nat) : Int) = (tdL l (trmW l k)).getD j 0 by omega]
  refine (hM.all _).2 (.step ((hM.all _).1 hp) ?_)
  have hg := getD_mem hj
  have e : tdL l (trmW l k) = rchN l (valOf (trmW l k)) := by
    unfold tdL rchN
    rw [if_pos h3]
  rw [← e]
  exact hg
end
section
variable {s s' : Hst} {V : Nat → Bool} {E : Nat → Nat} {a b n : Nat} {M : List Int}
theorem UnR.kind {P : List (Nat × Nat)} (h : UnR s P E n s') (hs : Snd s.l V) (hn : NsB s.l s.ns.length) (hnd : s.ns.Nodup) (hl : s.l.length ≤ 65536) {k : Nat} (hk : k < s.l.length) (hne : E (utI s.l k) ≠ utI s.l k) : trmW s.l k % 8 = 0 ∨ trmW s.l k % 8 = 3 := by
  have hT := (trm_tw (ns := s.ns) hs hn hl hk).tag
  by_cases h1 : trmW s.l k % 8 = 0 ∨ trmW s.l k % 8 = 3
  · exact h1
  · exfalso
    have hx := utI_lt hk
    have hkd : tdK (trmW s.l k) = 2 ∨ tdK (trmW s.l k) = 3 := by
      unfold tdK
      rcases hT with h | h | h | h <;> simp [h] at h1 ⊢
    have hr := (h.un.rep (utI s.l k) (by rw [utN_len]; exact hx) (by rw [utN_of hk]; show tdK _ ≠ 1; omega)).2.1
    have hy := h.un.rng (utI s.l k) (by rw [utN_len]; exact hx)
    rw [utN_len] at hy
    obtain ⟨d, hd, hde⟩ := utI_all hy
    rw [← hde] at hr
    have hlab := (labU_iff (nm := s.ns) hk hd).1 hr
    have he := leaf_inj hs hn hnd hl hk hd hkd hlab.1 hlab.2.1 hlab.2.2.1
    exact hne (by rw [← hde]; exact (utI_eq hd hk).2 he.symm)
theorem UnR.reach (h : UnR s [(utI s.l a, utI s.l b)] E n s') (hs : Snd s.l V) (hn : NsB s.l s.ns.length) (hl : s.l.length ≤ 65536) (ha : a < s.l.length) (hb : b < s.l.length) (hM : RcS s.l [(a : Int), (b : Int)] M) {x : Nat} (hx : x < (utT s.l).length) (hne : E x ≠ x) : RNx s.l M x := by
  obtain ⟨h1, h2, h3⟩ := h.un.done
  have hx2 := h.un.rng x (by rw [utN_len]; exact hx)
  have hra : RNx s.l M (utI s.l a) := ⟨a, (hM.all _).2 (.root (by simp)), ha, rfl⟩
  have hrb : RNx s.l M (utI s.l b) := ⟨b, (hM.all _).2 (.root (by simp)), hb, rfl⟩
  have hR : Cg (utN s.l s.ns) (fun x y => x = y ∨ (E x = E y ∧ RNx s.l M x ∧ RNx s.l M y)) := by
    refine ⟨⟨fun _ => Or.inl rfl, fun u v h => ?_, fun u v z h k => ?_⟩, fun u v hu hv h ku kv => ?_⟩
    · rcases h with h | ⟨h, k, m⟩
      · exact Or.inl h.symm
      · exact Or.inr ⟨h.symm, m, k⟩
    · rcases h with rfl | ⟨h, k1, k2⟩
      · exact k
      · rcases k with rfl | ⟨k, m1, m2⟩
        · exact Or.inr ⟨h, k1, k2⟩
        · exact Or.inr ⟨h.trans k, k1, m2⟩
    · rcases h with rfl | ⟨h, k1, k2⟩
      · exact ⟨labS.refl _, fun _ _ => Or.inl rfl⟩
      · obtain ⟨g1, g2⟩ := h1.lab u v hu hv h ku kv
        exact ⟨g1, fun j hj => Or.inr ⟨g2 j hj, rnx_arg hs hn hl hM k1 hj, rnx_arg hs hn hl hM k2 (by rw [← g1.2.2.2]; exact hj)⟩⟩
  rcases h3 _ hR (fun p hp => by
    have e : p = (utI s.l a, utI s.l b) := by simpa using hp
    subst e
    exact Or.inr ⟨h2 _ (by simp), hra, hrb⟩) x (E x) (h.un.idem x).symm with h | ⟨_, h, _⟩
  · exact absurd h.symm hne
  · exact h
theorem UnR.bound (h : UnR s [(utI s.l a, utI s.l b)] E n s') (hs : Snd s.l V) (hn : NsB s.l s.ns.length) (hnd : s.ns.Nodup) (hl : s.l.length ≤ 65536) (ha : a < s.l.length) (hb : b < s.l.length) (hM : RcS s.l [(a : Int), (b : Int)] M) : n ≤ M.length := by
  obtain ⟨xs, h1, h2, h3⟩ := h.nd
  rw [← h1]
  have hP : ∀ x ∈ xs, 0 ≤ tdA ((utT s.l).getD x 0) ∧ tdA ((utT s.l).getD x 0) ∈ M := fun x hx => by
    obtain ⟨g1, g2⟩ := h3 x hx
    obtain ⟨k, hk, hkl, e⟩ := h.reach hs hn hl ha hb hM g1 g2
    subst e
    have hkd := h.kind hs hn hnd hl hkl g2
    have hp := rnx_place hs hl hM hk hkl hkd
    obtain ⟨p, hpl, vp, _⟩ := trm_place hs hkl hkd hl
    rw [utI_at hkl]
    unfold tdA
    rw [if_neg (by omega)]
    exact ⟨by omega, hp⟩
  have hm : (xs.map (fun x => tdA ((utT s.l).getD x 0))).Nodup := by
    rw [List.nodup_iff_pairwise_ne, List.pairwise_map]
    rw [List.nodup_iff_pairwise_ne] at h2
    refine h2.imp_of_mem (fun {x y} hx hy hne e => hne ?_)
    exact ut_inj hs hn hl (h3 x hx).1 (h3 y hy).1 (hP x hx).1 e
  have h9 := nodup_valsG (fun k => M.getD k 0) M.length _ hm (fun v hv => by
    obtain ⟨x, hx, rfl⟩ := List.mem_map.1 hv
    obtain ⟨k, hk, e⟩ := List.getElem_of_mem (hP x hx).2
    exact ⟨k, hk, by simp [List.getD, hk, e]⟩)
  simpa using h9
theorem UnR.none {x : Nat} (h : UnR s [(x, x)] E n s') : n = 0 := by
  obtain ⟨xs, h1, h2, h3⟩ := h.nd
  obtain ⟨_, _, g3⟩ := h.un.done
  have hall : ∀ y, E y = y := fun y => (g3 (fun u v => u = v) ⟨⟨fun _ => rfl, fun _ _ e => e.symm, fun _ _ _ e f => e.trans f⟩, fun u v _ _ e _ _ => by subst e; exact ⟨labS.refl _, fun _ _ => rfl⟩⟩ (fun p hp => by
    have e : p = (x, x) := by simpa using hp
    subst e
    rfl) y (E y) (h.un.idem y).symm).symm
  match xs, h1, h3 with
  | [], h1, _ => exact h1.symm
  | y :: r, _, h3 => exact absurd (hall y) (h3 y (by simp)).2
theorem nosol_same {ns : List Nd} {x : Nat} (h : NoSol ns [(x, x)]) : False :=
  h (fun u v => u = v) ⟨⟨fun _ => rfl, fun _ _ e => e.symm, fun _ _ _ e f => e.trans f⟩, fun u v _ _ e _ _ => by subst e; exact ⟨labS.refl _, fun _ _ => rfl⟩⟩ (fun p hp => by
    have e : p = (x, x) := by simpa using hp
    subst e
    rfl)
theorem UnR.one (h : UnR s [(utI s.l a, utI s.l b)] E n s') (ha : a < s.l.length) (hb : b < s.l.length) : trmW s'.l a = trmW s'.l b := by
  have h2 := h.un.done.2.1 (utI s.l a, utI s.l b) (by simp)
  rw [h.wf.trm a ha, h.wf.trm b hb]
  unfold eW
  rw [h2]
end
end Go.Proofs.YtlibjdilicfcdaaGreatDoor

namespace Go.Proofs.YtlibjdilicfcdaaGreatDoor
set_option maxRecDepth 100000
open Go.RowKit Go.Maps
theorem putc_small {g : Gf} {z : Int} (hc : one (chk g) = []) (hn : g.nodes.length ≤ 400) (hz : 4000 ≤ z) : PutC hs0 (gAll g) z ∧ (putHs hs0 (gAll g)).l.length ≤ 4000 := by
  have hg := chk_good hc
  have hG : Good (gAll g) := ⟨hg.nodes, by rw [gAll_len]; omega, hg.node, fun x hx => by
    obtain ⟨k, hk, rfl⟩ := List.mem_map.1 hx
    have := List.mem_range.1 hk
    show 0 ≤ (k : Int) ∧ (k : Int) < (g.nodes.length : Int)
    omega⟩
  have hm : (metF (gAll g)).length ≤ 400 := Nat.le_trans (met_ok hG).le hn
  have h1 := wthJ_len [] (gAll g) (metF (gAll g)) (metF (gAll g)).length
  have h2 := want_le hG (met := metF (gAll g)) (metF (gAll g)).length
  rw [gAll_len] at h2
  have hw : wantJ (gAll g) (metF (gAll g)) (metF (gAll g)).length ≤ 4000 := by omega
  refine ⟨⟨chk_of_good hG, ?_, ?_⟩, ?_⟩
  · show (wthJ [] (gAll g) (metF (gAll g)) (metF (gAll g)).length).length ≤ 1024
    simp only [List.length_nil] at h1
    omega
  · show ((([] : List Int).length : Int) + _) ≤ z
    simp only [List.length_nil]
    omega
  · show (wdP [] [] (gAll g)).length ≤ 4000
    unfold wdP
    rw [List.length_append, putW_len]
    simp only [List.length_nil]
    omega
section
variable {w : World} {B hb ab tb : Nat} {m : Int} {av : Value} {l : List Int} {tv : Value} {tq : Nat} {ns : List ByteArray} {trv ptv : Value} {n : Int}
set_option maxHeartbeats 800000 in
theorem hwrites_any (h : Hp w B hb ab tb m av l tv tq ns trv ptv n) :
    Calls Tryz.prog 13 #[.pointer (some ⟨hb, 0, none⟩)] w fun e w' => e = .returned (.int .i64 n) ∧ Below w.heap.size w w' := by
  obtain ⟨⟨_, _, _, _, c4⟩, c5⟩ := h.cells
  clear h
  go_enter Tryz.func13, Tryz.ntmps13
  go_wp2_with (go_at_call 28; refine (self_some _ _).mono ?_; rintro e w' ⟨rfl, rfl⟩)
  go_ret
  exact ⟨rfl, Below.refl _ _⟩
end
structure Bs (W : World) (B hb q n : Nat) (m : Int) (s : Hst) (w : World) : Prop where
  b : Below W.heap.size W w
  h : ∃ F, Hs w B hb m F s ∧ ∀ k, F k → W.heap.size ≤ k ∧ (0 < n → k ≠ q)
  r : ∀ k, k < n → w.cell? ⟨q, k, none⟩ = some (.int .i64 (k : Int))
  z : 0 < n → q < w.heap.size
  B1 : W.heap.size ≤ B
  B2 : B ≤ w.heap.size
  sn : SndN s.l s.ns.length
  nd : s.ns.Nodup
  l4 : s.l.length ≤ 4000
  n0 : n ≤ s.l.length
  c : ∀ k, k < n → cellB s.l (k : Int) = true
section
variable {W w w' : World} {B hb q n : Nat} {m : Int} {s : Hst}
theorem Bs.next (h : Bs W B hb q n m s w) (hb' : Below w.heap.size w w') : Bs W B hb q n m s w' := by
  obtain ⟨F, h1, h2⟩ := h.h
  exact ⟨Below.next h.b hb', ⟨F, h1.below hb', h2⟩, fun k hk => (hb'.cell (p := ⟨q, k, none⟩) (h.z (by omega))).trans (h.r k hk), fun hn => Nat.lt_of_lt_of_le (h.z hn) hb'.size, h.B1, Nat.le_trans h.B2 hb'.size, h.sn, h.nd, h.l4, h.n0, h.c⟩
theorem Hs.lt {F : Nat → Prop} (h : Hs w B hb m F s) : Hs w B hb m (fun k => F k ∧ k < w.heap.size) s := by
  obtain ⟨ab, tb, av, tv, tq, trv, ptv, hq, hf⟩ := h
  refine ⟨ab, tb, av, tv, tq, trv, ptv, hq, fun k hk => ⟨hf k hk, ?_⟩⟩
  rcases mem_qfoot.1 hk with e | e | e | e
  · rw [e]
    exact lt_of_block hq.hp.blk
  · exact hq.hp.ltz.2.1 k e
  · exact (hq.tr.lt k e).2
  · exact (hq.pt.lt k e).2
theorem Bs.unify (h : Bs W B hb q n m s w) {w0 : World} (h0 : Below w.heap.size w w0) (hf : Few s) {i j : Int} (hi : cellB s.l i = true) (hj : cellB s.l j = true) :
    Calls Tryz.prog 12 #[.pointer (some ⟨hb, 0, none⟩), .int .i64 i, .int .i64 j] w0 fun e w' => ∃ ok, e = .returned (.tuple #[.bool ok, .nilIface]) ∧ (ok = true → ∃ E k s', UnR s [(utI s.l i.toNat, utI s.l j.toNat)] E k s' ∧ Bs W B hb q n m s' w') ∧ (ok = false → NoSol (utN s.l s.ns) [(utI s.l i.toNat, utI s.l j.toNat)] ∧ Bs W B hb q n m s w' ∧ Below w0.heap.size w0 w') ∧ (∀ k, w.heap.size ≤ k → k < w0.heap.size → w'.heap[k]? = w0.heap[k]?) ∧ w0.heap.size ≤ w'.heap.size := by
  obtain ⟨F, h1, h2⟩ := h.h
  have hl := h.l4
  have h9 := h.next h0
  refine (unify_any (h1.lt.below h0) h.sn (by omega) h.nd hf h9.B2 hi hj).mono ?_
  rintro e w' ⟨ok, e1, hy, hn⟩
  refine ⟨ok, e1, fun he => ?_, fun he => ⟨(hn he).1, h9.next (hn he).2, (hn he).2⟩, fun k hk1 hk2 => ?_, ?_⟩
  · obtain ⟨E, k, s', g1, g2, g3⟩ := hy he
    obtain ⟨k1, k2, k3, k4, k5, k6⟩ := g1.wr.keeps
    have hW := h9.b.size
    refine ⟨E, k, s', g1, Below.trans h9.b (g3.below (fun k hk => (h2 k hk.1).1) hW), ⟨_, g2, fun k hk => ?_⟩, fun k hk => ?_, fun hn => Nat.lt_of_lt_of_le (h9.z hn) g3.size, h.B1, Nat.le_trans h9.B2 g3.size, ?_, by rw [k1]; exact h.nd, by omega, by have := h.n0; omega, fun k hk => by rw [g1.wf.cel]; exact h.c k hk⟩
    · rcases hk with hk | hk
      · exact h2 k hk.1
      · exact ⟨by omega, fun hn => by have := h9.z hn; omega⟩
    · have h7 := g3.block q (h9.z (by omega)) (fun hx => (h2 q hx.1).2 (by omega) rfl)
      have h8 := h9.r k hk
      simpa [World.cell?, h7] using h8
    · have h7 := g1.wf.snd
      rw [← k1] at h7
      exact h7
  · cases ok with
    | true =>
      obtain ⟨E, k, s', g1, g2, g3⟩ := hy rfl
      exact g3.block _ hk2 (fun hx => by have := hx.2; omega)
    | false => exact (hn rfl).2.block _ hk2
  · cases ok with
    | true =>
      obtain ⟨E, k, s', g1, g2, g3⟩ := hy rfl
      exact g3.size
    | false => exact (hn rfl).2.size
theorem Bs.writes (h : Bs W B hb q n m s w) :
    Calls Tryz.prog 13 #[.pointer (some ⟨hb, 0, none⟩)] w fun e w' => e = .returned (.int .i64 s.n) ∧ Bs W B hb q n m s w' ∧ Below w.heap.size w w' := by
  obtain ⟨F, ⟨ab, tb, av, tv, tq, trv, ptv, hq, hf⟩, h2⟩ := h.h
  exact (hwrites_any hq.hp).mono fun e w' ⟨e1, e2⟩ => ⟨e1, h.next e2, e2⟩
theorem Bs.reach (h : Bs W B hb q n m s w) {i j : Nat} (hi : i < n) (hj : j < n) {cv : Value} (hC : Ri w cv [(i : Int), (j : Int)]) :
    Calls Tryz.prog 11 #[.pointer (some ⟨hb, 0, none⟩), cv] w fun e w' => ∃ M, e = .returned (.tuple #[.int .i64 (M.length : Int), .nilIface]) ∧ RcS s.l [(i : Int), (j : Int)] M ∧ Bs W B hb q n m s w' := by
  obtain ⟨F, ⟨ab, tb, av, tv, tq, trv, ptv, hq, hf⟩, h2⟩ := h.h
  obtain ⟨⟨V, hV⟩, hn⟩ := h.sn
  have hl := h.l4
  have h1 := h.c i hi
  have h3 := h.c j hj
  refine (hreach_ok hq.hp hV (by omega) hC (by simp) ?_).mono fun e w' ⟨⟨M, e1, e2⟩, e3⟩ => ⟨M, e1, e2, h.next e3⟩
  have e9 : badC s.l [(i : Int), (j : Int)] = -1 := ixOf_none _ _ (by simp [h1, h3])
  unfold badF
  rw [e9, if_neg (by decide)]
theorem Bs.get2 (h : Bs W B hb q n m s w) {i j : Nat} (hi : i < n) (hj : j < n) (ht : trmW s.l i = trmW s.l j) {cv : Value} (hC : Ri w cv [(i : Int), (j : Int)]) :
    Calls Tryz.prog 14 #[.pointer (some ⟨hb, 0, none⟩), cv] w fun e w' => ∃ nv rq rc x, e = .returned (.tuple #[.agg #[nv, .slice (some ⟨rq, 0, none⟩) 2 rc], .nilIface]) ∧ (∃ na nl nc, nv = .slice na nl nc) ∧ 2 ≤ rc ∧ w'.cell? ⟨rq, 0, none⟩ = some (.int .i64 x) ∧ w'.cell? ⟨rq, 1, none⟩ = some (.int .i64 x) ∧ Bs W B hb q n m s w' ∧ Below w.heap.size w w' ∧ w.heap.size ≤ rq ∧ rq < w'.heap.size := by
  obtain ⟨F, ⟨ab, tb, av, tv, tq, trv, ptv, hq, hf⟩, h2⟩ := h.h
  obtain ⟨⟨V, hV⟩, hn⟩ := h.sn
  have hl := h.l4
  have h1 := h.c i hi
  have h3 := h.c j hj
  have hil := h.n0
  refine (get_ok hq.hp hV hn hC (fun x hx => ?_) (by simp) (fun TS hT => ?_)).mono ?_
  · have e : x = (i : Int) ∨ x = (j : Int) := by simpa using hx
    rcases e with rfl | rfl
    · exact h1
    · exact h3
  · have h9 := nodup_valsG (fun k => trmW s.l k) s.l.length TS hT.nodup (fun t ht => ?_)
    · omega
    · obtain ⟨k, hk, e⟩ := hT.inT t ht
      exact ⟨k, hk, e⟩
  · rintro e w' ⟨⟨nv, rv, avs, TS, ee, rfl, hT, hg, he, ho⟩, hb'⟩
    obtain ⟨na, nc, hnv⟩ := ho.nsl
    obtain ⟨ao, c, hrv, hr⟩ := ho.r
    have hlen : (trimF (quoF ee (rdG s.l s.ns [(i : Int), (j : Int)] TS))).roots.length = 2 := by simp [trimF, quoF, rdG]
    have hroots : ∃ x, (trimF (quoF ee (rdG s.l s.ns [(i : Int), (j : Int)] TS))).roots = [x, x] := by
      have e9 : tmC s.l (i : Int) = tmC s.l (j : Int) := by
        unfold tmC
        rw [Int.toNat_natCast, Int.toNat_natCast, ht]
      have e8 : posF (metF (quoF ee (rdG s.l s.ns [(i : Int), (j : Int)] TS))) (clsI ee (rdG s.l s.ns [(i : Int), (j : Int)] TS).nodes.length (posF TS (tmC s.l (j : Int)))) = posF (metF (quoF ee (rdG s.l s.ns [(i : Int), (j : Int)] TS))) (clsI ee (rdG s.l s.ns [(i : Int), (j : Int)] TS).nodes.length (posF TS (tmC s.l (i : Int)))) := by rw [e9]
      exact ⟨_, congrArg (fun z => [posF (metF (quoF ee (rdG s.l s.ns [(i : Int), (j : Int)] TS))) (clsI ee (rdG s.l s.ns [(i : Int), (j : Int)] TS).nodes.length (posF TS (tmC s.l (i : Int)))), z]) e8⟩
    obtain ⟨x, hx⟩ := hroots
    rw [hlen, hx] at hr
    rw [hlen] at hrv
    obtain ⟨rq, rfl⟩ : ∃ rq, ao = some ⟨rq, 0, none⟩ := by
      rcases hr.2 with ⟨h8, h9⟩ | ⟨g, cap, cur, h8, _⟩
      · exact absurd h9 (by decide)
      · injection h8 with h8 _ _
        exact ⟨g, h8⟩
    obtain ⟨_, c9, e9, h9, _⟩ := own_slq hr
    injection e9 with _ _ e9
    exact ⟨nv, rq, c, x, by rw [hrv], ⟨na, _, nc, hnv⟩, by omega, (hr.cellAt 0 (by decide)).trans rfl, (hr.cellAt 1 (by decide)).trans rfl, h.next hb', hb', (hr.lt rq rfl).1, (hr.lt rq rfl).2⟩
end
theorem bs_of {W w3 w : World} {hb : Nat} {m : Int} {F : Nat → Prop} {g : Gf} {ao : Option Addr} {c : Nat} (h3 : Below W.heap.size W w3) (hb' : Below w3.heap.size w3 w) (hl : (putHs hs0 (gAll g)).l.length ≤ 4000) (hn : 0 < g.nodes.length) (ho : w.ownsRow w3.heap.size 3 1 (.slice ao g.nodes.length c) g.nodes.length ((csL 0 g.nodes.length).map (Value.int .i64))) (hH : Hs w w3.heap.size hb m F (putHs hs0 (gAll g))) (hF : ∀ k, F k → w3.heap.size ≤ k ∧ (Value.slice ao g.nodes.length c).ownBlock ≠ some k) (hj : Sj (putHs hs0 (gAll g)) 1) (hpm : PmC (nsP [] (gAll g)) (gAll g) (metF (gAll g)) 0) :
    ∃ q, ao = some ⟨q, 0, none⟩ ∧ g.nodes.length ≤ c ∧ w3.heap.size ≤ q ∧ Bs W w3.heap.size hb q g.nodes.length m (putHs hs0 (gAll g)) w := by
  obtain ⟨q, rfl⟩ : ∃ q, ao = some ⟨q, 0, none⟩ := by
    rcases ho.2 with ⟨h8, h9⟩ | ⟨g, cap, cur, h8, _⟩
    · omega
    · injection h8 with h8 _ _
      exact ⟨g, h8⟩
  obtain ⟨_, c9, e9, h9, _⟩ := own_slq ho
  injection e9 with _ _ e9
  have hz := h3.size
  have hnd : (putHs hs0 (gAll g)).ns.Nodup := by
    obtain ⟨ab, tb, av, tv, tq, trv, ptv, hq, _⟩ := hH
    exact hq.hp.tb.nodup
  have hc := csl_cell (l := []) (ns := []) (g := gAll g) hpm
  rw [gAll_len] at hc
  refine ⟨q, rfl, by omega, (ho.lt q rfl).1, Below.trans h3 (hb'.mono hz), ⟨F, hH, fun k hk => ⟨by have := (hF k hk).1; omega, fun _ e => (hF k hk).2 (by rw [e]; rfl)⟩⟩, fun k hk => ?_, fun _ => (ho.lt q rfl).2, hz, hb'.size, hj.si.now, hnd, hl, ?_, fun k hk => hc _ (List.mem_map.2 ⟨k, List.mem_range.2 hk, by simp⟩)⟩
  · rw [ho.cellAt k (by omega)]
    simp [csL, hk]
  · show g.nodes.length ≤ (wdP [] [] (gAll g)).length
    have hr := want_root (g := gAll g) (met := metF (gAll g)) (metF (gAll g)).length
    unfold wdP
    rw [List.length_append, putW_len]
    rw [gAll_len] at hr
    omega
end Go.Proofs.YtlibjdilicfcdaaGreatDoor
namespace Go.Proofs.YtlibjdilicfcdaaGreatDoor
set_option maxRecDepth 100000
open Go.RowKit Go.Maps
theorem skv_al {g i j : Nat} {x y : Int} {w : World} {o : Obj} (h : Skv g i j x y w) : Skv g i j x y (w.alloc o) :=
  ⟨((below_alloc w o).cell (p := ⟨g, i, none⟩) (lt_of_cell h.1)).trans h.1, ((below_alloc w o).cell (p := ⟨g, j, none⟩) (lt_of_cell h.2)).trans h.2⟩
theorem fewS0 (g : Gf) : Few (putHs hs0 (gAll g)) := ⟨by show (0 : Int) ≤ 0; decide, by show (0 : Int) ≤ _; decide, by show 0 ≤ _; omega, by show 0 ≤ _; omega⟩
theorem few_wrs {s s' : Hst} {k : Nat} (h : Wrs s k s') (hn : 0 ≤ s.n) (hn2 : s.n + k ≤ 4611686018427000000) (hp : s.pt.length ≤ 900000) (ht : s.tr.length + k ≤ 900000) : Few s' := by
  obtain ⟨k1, k2, k3, k4, k5, k6⟩ := h.keeps
  exact ⟨by omega, by omega, by rw [k2]; exact hp, by omega⟩
abbrev grO (nv rv : Value) : Obj := .cells #[nv, rv] 25
theorem al2_at (w : World) (o o2 : Obj) : ((w.alloc o).alloc o2).heap[w.heap.size + 1]? = some o2 := by
  have h9 := heap_alloc_new (w.alloc o) o2
  rw [show (w.alloc o).heap.size = w.heap.size + 1 by simp] at h9
  exact h9
theorem fr0 {w : World} {b : Nat} {u v : Value} {T : TypeId} (h : w.heap[b]? = some (.cells #[u, v] T)) : w.frozen? ⟨b, 0, none⟩ = false := by simp [World.frozen?, h]
theorem fr1 {w : World} {b : Nat} {u v : Value} {T : TypeId} (h : w.heap[b]? = some (.cells #[u, v] T)) : w.frozen? ⟨b, 1, none⟩ = false := by simp [World.frozen?, h]
theorem skv_set {g i j b k : Nat} {x y : Int} {w : World} {v : Value} (hne : g ≠ b) (h : Skv g i j x y w) : Skv g i j x y (w.setCell ⟨b, k, none⟩ v) := by
  have h9 : (w.setCell ⟨b, k, none⟩ v).heap[g]? = w.heap[g]? := Below.heap_setCell _ _ _ _ hne
  exact ⟨(World.cell?_of_block (w := w) (a := ⟨g, i, none⟩) h9).trans h.1, (World.cell?_of_block (w := w) (a := ⟨g, j, none⟩) h9).trans h.2⟩
abbrev Skg (xb rq rc : Nat) (x : Int) (w : World) : Prop := w.cell? ⟨xb, 1, none⟩ = some (.slice (some ⟨rq, 0, none⟩) 2 rc) ∧ w.cell? ⟨rq, 0, none⟩ = some (.int .i64 x) ∧ w.cell? ⟨rq, 1, none⟩ = some (.int .i64 x)
theorem skg_dr {xb rq rc : Nat} {x : Int} {w : World} (h : Skg xb rq rc x w) : Skg xb rq rc x w.drew := h
structure Gx (z xb : Nat) (nv : Value) (rq rc : Nat) (x : Int) (w : World) : Prop where
  xb0 : z ≤ xb
  rq0 : z ≤ rq
  rz : rq < w.heap.size
  hx : w.heap[xb]? = some (grO nv (.slice (some ⟨rq, 0, none⟩) 2 rc))
  r0 : w.cell? ⟨rq, 0, none⟩ = some (.int .i64 x)
  r1 : w.cell? ⟨rq, 1, none⟩ = some (.int .i64 x)
theorem Gx.keep {z xb : Nat} {nv : Value} {rq rc : Nat} {x : Int} {w w' : World} (h : Gx z xb nv rq rc x w) (hs : w.heap.size ≤ w'.heap.size) (hk : ∀ k, z ≤ k → k < w.heap.size → w'.heap[k]? = w.heap[k]?) : Gx z xb nv rq rc x w' := by
  have h1 := hk xb h.xb0 (lt_of_block h.hx)
  have h2 := hk rq h.rq0 h.rz
  have h3 := h.r0
  have h4 := h.r1
  exact ⟨h.xb0, h.rq0, Nat.lt_of_lt_of_le h.rz hs, h1.trans h.hx, by simpa [World.cell?, h2] using h3, by simpa [World.cell?, h2] using h4⟩
theorem gx_late {z rq rc : Nat} {nv : Value} {x : Int} {w : World} (hz : z ≤ w.heap.size) (hq : z ≤ rq) (hq2 : rq < w.heap.size) (r0 : w.cell? ⟨rq, 0, none⟩ = some (.int .i64 x)) (r1 : w.cell? ⟨rq, 1, none⟩ = some (.int .i64 x)) : Gx z w.heap.size nv rq rc x (w.alloc (grO nv (.slice (some ⟨rq, 0, none⟩) 2 rc))) :=
  ⟨hz, hq, Nat.lt_of_lt_of_le hq2 (below_alloc w _).size, heap_alloc_new w _, ((below_alloc w _).cell (p := ⟨rq, 0, none⟩) hq2).trans r0, ((below_alloc w _).cell (p := ⟨rq, 1, none⟩) hq2).trans r1⟩
theorem gx_early {z xb rq rc : Nat} {nv : Value} {x : Int} {w : World} (hz : z ≤ xb) (hq : z ≤ rq) (hq2 : rq < w.heap.size) (hne : rq ≠ xb) (hx : w.heap[xb]? = some (grO (.slice none 0 0) (.slice none 0 0))) (r0 : w.cell? ⟨rq, 0, none⟩ = some (.int .i64 x)) (r1 : w.cell? ⟨rq, 1, none⟩ = some (.int .i64 x)) : Gx z xb nv rq rc x ((w.setCell ⟨xb, 0, none⟩ nv).setCell ⟨xb, 1, none⟩ (.slice (some ⟨rq, 0, none⟩) 2 rc)) := by
  have h1 := heap_setCell_same w xb 0 _ _ nv hx
  have h2 := heap_setCell_same (w.setCell ⟨xb, 0, none⟩ nv) xb 1 _ _ (.slice (some ⟨rq, 0, none⟩) 2 rc) h1
  have h3 : ((w.setCell ⟨xb, 0, none⟩ nv).setCell ⟨xb, 1, none⟩ (.slice (some ⟨rq, 0, none⟩) 2 rc)).heap[rq]? = w.heap[rq]? := (Below.heap_setCell _ _ _ _ hne).trans (Below.heap_setCell _ _ _ _ hne)
  exact ⟨hz, hq, by simpa using hq2, h2, by simpa [World.cell?, h3] using r0, by simpa [World.cell?, h3] using r1⟩
set_option maxHeartbeats 16000000 in
theorem bound_main {W : World} {nv rv : Value} {g : Gf} (hG : Gr W nv rv g) (hS : Sized g) (hs : smallK 400 g = true) (hc : one (chk g) = []) (i j : Nat) (hi : i < g.nodes.length) (hj : j < g.nodes.length) :
    Calls Tryz.prog 3 #[.agg #[nv, rv], .int .i64 (i : Int), .int .i64 (j : Int)] W fun e w' => e = .returned (.bool true) ∧ Below W.heap.size W w' := by
  have hsz := smallK_fits hs
  have hb0 := hid (below_alloc W (grO nv rv))
  have hx0 := hid (heap_alloc_new W (grO nv rv))
  have hsm := hid (fun w1 (h : Below W.heap.size W w1) => smallK_any (K := 400) (by decide) (hG.below h))
  rw [hs] at hsm
  have hck := hid (fun w1 (h : Below W.heap.size W w1) => check_any (hG.below h) hS)
  rw [hc] at hck
  obtain ⟨hp1, hp2⟩ := putc_small (z := 20000) hc hsz.2.1 (by decide)
  have hld := hid (fun w1 (h : Below W.heap.size W w1) => laid_ok (hG.below h) hS (by omega) 20000 (by decide) (by decide) hp1)
  have Hp2 := hid hp2
  obtain ⟨na, nc, rfl, _⟩ := hG.1
  obtain ⟨ra, rc, rfl, _⟩ := hG.2
  have hnz : g.nodes.length ≤ 400 := hsz.2.1
  have hi0 : ¬ ((i : Int) < 0) := by omega
  have hj0 : ¬ ((j : Int) < 0) := by omega
  have hi1 : ¬ ((g.nodes.length : Int) ≤ (i : Int)) := by omega
  have hj1 : ¬ ((g.nodes.length : Int) ≤ (j : Int)) := by omega
  have hi2 : (i : Int) < (g.nodes.length : Int) := by omega
  have hj2 : (j : Int) < (g.nodes.length : Int) := by omega
  clear hG hs hc hp1 hp2 hsz
  go_enter Tryz.func3, Tryz.ntmps3
  go_wp2_with (first
    | (go_at_call 7; refine (ulives_any _).mono ?_; rintro e w1 ⟨rfl, hb1⟩; have HX1 := hid ((hb1.block _ (by simp)).trans hx0.out); have Hb1 := hid (Below.next hb0.out hb1); obtain ⟨⟨x0, x1⟩, _⟩ := cblk2 HX1.out; have x2 := lt_of_block HX1.out; clear hb1)
    | (go_at_call 8; refine (hsm.out _ Hb1.out).mono ?_; rintro e w2 ⟨rfl, hb2⟩; have HX2 := hid ((hb2.block _ (lt_of_block HX1.out)).trans HX1.out); have Hb2 := hid (Below.next Hb1.out hb2); clear hb2 x0 x1 x2; obtain ⟨⟨x0, x1⟩, _⟩ := cblk2 HX2.out; have x2 := lt_of_block HX2.out)
    | (go_at_call 9; refine (hck.out _ Hb2.out).mono ?_; rintro e w3 ⟨⟨ev, rfl, hE⟩, hb3⟩; obtain rfl : ev = .nilIface := hE; have HX3 := hid ((hb3.block _ (lt_of_block HX2.out)).trans HX2.out); have Hb3 := hid (Below.next Hb2.out hb3); clear hb3 x0 x1 x2; obtain ⟨⟨x0, x1⟩, _⟩ := cblk2 HX3.out; have x2 := lt_of_block HX3.out)
    | (go_at_call 10; refine (hld.out _ Hb3.out).mono ?_; rintro e w4 ⟨⟨hb, F, ao, c, rfl, ho, hH, hF, hjj, hpm⟩, hb4⟩; obtain ⟨q, rfl, hqc, hqz, hB⟩ := bs_of Hb3.out hb4 Hp2.out (by omega) ho hH hF hjj hpm; have S4 := hid hB; clear ho hH hF hjj hpm hb4 hB x0 x1 x2))
  obtain ⟨s0, hs0⟩ : ∃ s0, s0 = putHs hs0 (gAll g) := ⟨_, rfl⟩
  have hs0n : s0.n = 0 := by rw [hs0]; rfl
  have Hf0 : Hid (Few s0) := by rw [hs0]; exact fewS0 g
  have Ht0 : Hid (s0.pt.length = 0 ∧ s0.tr.length = 0) := by rw [hs0]; exact ⟨rfl, rfl⟩
  rw [← hs0] at S4
  have Hs0n := hid hs0n
  clear hs0 hs0n hld hck hsm hx0 hb0 HX1 HX2 HX3 Hb1 Hb2 Hb3 Hp2 hi0 hj0 hi1 hj1
  have d0 := S4.out.r i hi
  have d1 := S4.out.r j hj
  have hreach : Hid (∀ wx b, Below w4.heap.size w4 wx → wx.heap[b]? = some (.cells #[.int .i64 (i : Int), .int .i64 (j : Int)] 3) → Calls Tryz.prog 11 #[.pointer (some ⟨hb, 0, none⟩), .slice (some ⟨b, 0, none⟩) 2 2] wx fun e w' => ∃ M, e = .returned (.tuple #[.int .i64 (M.length : Int), .nilIface]) ∧ RcS s0.l [(i : Int), (j : Int)] M ∧ Bs W w3.heap.size hb q g.nodes.length 20000 s0 w') := fun wx b hbx hx => (S4.out.next hbx).reach hi hj (ri_lit2 hx)
  go_cut [9, 10] from 58 to 71 (fun s9 s10 wc => ∃ M : List Int, s9 = .int .i64 (M.length : Int) ∧ s10 = .nilIface ∧ Hid (RcS s0.l [(i : Int), (j : Int)] M) ∧ Hid (Bs W w3.heap.size hb q g.nodes.length 20000 s0 wc))
  case first =>
    go_region_held3 (fun w' => Skv q i j (i : Int) (j : Int) w') (first | (with_reducible exact ⟨d0, d1⟩) | (with_reducible exact skv_dr ⟨d0, d1⟩) | (with_reducible exact skv_al ⟨d0, d1⟩) | (with_reducible exact skv_al (skv_dr ⟨d0, d1⟩)) | (with_reducible exact skv_dr (skv_al ⟨d0, d1⟩)))
      (first | (go_at_call 11; refine (hreach.out _ w4.heap.size (((Below.refl _ w4).alloc (Nat.le_refl _) _).drew) (heap_alloc_new w4 _)).mono ?_; rintro e w5 ⟨M, rfl, hM, hB5⟩; have HM := hid hM; have S5 := hid hB5; clear hM hB5 d0 d1; have d0 := S5.out.r i hi; have d1 := S5.out.r j hj))
    all_goals go_wp2_with fail
    all_goals go_meet
    all_goals exact ⟨M, rfl, rfl, HM, S5⟩
  case rest =>
    obtain ⟨M, rfl, rfl, HM, S5⟩ := hcut
    clear d0 d1 hreach S4
    go_wp2_with fail
    have d0 := S5.out.r i hi
    have d1 := S5.out.r j hj
    have hun := hid (S5.out.unify (Below.refl _ wc).drew Hf0.out (S5.out.c i hi) (S5.out.c j hj))
    go_cut [11, 12] from 72 to 84 (fun s11 s12 wx => ∃ ok : Bool, s11 = .bool ok ∧ s12 = .nilIface ∧ Hid ((ok = true → ∃ E k s', UnR s0 [(utI s0.l i, utI s0.l j)] E k s' ∧ Bs W w3.heap.size hb q g.nodes.length 20000 s' wx) ∧ (ok = false → Bs W w3.heap.size hb q g.nodes.length 20000 s0 wx)))
    case first =>
      go_region_held3 (fun w' => Skv q i j (i : Int) (j : Int) w') (first | (with_reducible exact ⟨d0, d1⟩) | (with_reducible exact skv_dr ⟨d0, d1⟩))
        (first | (go_at_call 12; refine hun.out.mono ?_; rintro e w6 ⟨ok, rfl, hy, hn, _⟩; have HY : Hid ((ok = true → ∃ E k s', UnR s0 [(utI s0.l i, utI s0.l j)] E k s' ∧ Bs W w3.heap.size hb q g.nodes.length 20000 s' w6) ∧ (ok = false → Bs W w3.heap.size hb q g.nodes.length 20000 s0 w6)) := ⟨hy, fun h => (hn h).2.1⟩; have hx6 : ∃ s', Bs W w3.heap.size hb q g.nodes.length 20000 s' w6 := (match ok, HY.out with | true, h9 => let ⟨_, _, s', _, h8⟩ := h9.1 rfl; ⟨s', h8⟩ | false, h9 => ⟨s0, h9.2 rfl⟩); clear hy hn d0 d1; obtain ⟨s9, hx9⟩ := hx6; have d0 := hx9.r i hi; have d1 := hx9.r j hj; clear hx9))
      all_goals go_wp2_with fail
      all_goals go_meet
      all_goals exact ⟨ok, rfl, rfl, HY⟩
    case rest =>
      obtain ⟨ok, rfl, rfl, HY⟩ := hcut
      clear d0 d1 hun
      cases ok with
      | false =>
        have S6 := hid (HY.out.2 rfl)
        have hM0 : ¬ ((M.length : Int) < 0) := by omega
        have hwr := hid (S6.out.writes)
        rw [Hs0n.out] at hwr
        clear HY HM
        go_wp2_with (go_at_call 13; refine hwr.out.mono ?_; rintro e w7 ⟨rfl, hB7, _⟩; have S7 := hid hB7; clear hB7)
        go_ret
        exact ⟨rfl, S7.out.b⟩
      | true =>
        obtain ⟨E, k, s1, hR, hB6⟩ := HY.out.1 rfl
        obtain ⟨⟨V, hV⟩, hN⟩ := S5.out.sn
        have hl4 := S5.out.l4
        have hbd := hR.bound hV hN S5.out.nd (by omega) (Nat.lt_of_lt_of_le hi S5.out.n0) (Nat.lt_of_lt_of_le hj S5.out.n0) HM.out
        obtain ⟨k1, k2, k3, k4, k5, k6⟩ := hR.wr.keeps
        have hsn : s1.n = (k : Int) := by rw [k3, Hs0n.out]; simp
        have hkl : k ≤ 4000 := by
          obtain ⟨xs, g1, g2, g3⟩ := hR.nd
          have h9 := nodup_valsG (fun x => x) (utT s0.l).length xs g2 (fun x hx => ⟨x, (g3 x hx).1, rfl⟩)
          have h8 := ut_len (l := s0.l)
          omega
        have hf1 : Hid (Few s1) := few_wrs hR.wr Hf0.out.n0 (by rw [Hs0n.out]; omega) (by have := Ht0.out.1; omega) (by have := Ht0.out.2; omega)
        have hone := hid (hR.one (Nat.lt_of_lt_of_le hi S5.out.n0) (Nat.lt_of_lt_of_le hj S5.out.n0))
        have hM0 : ¬ ((M.length : Int) < (k : Int)) := by omega
        have S6 := hid hB6
        have hwr := hid (S6.out.writes)
        rw [hsn] at hwr
        have Hsn := hid hsn
        clear HY HM hR hB6 hV hN hl4 k1 k2 k3 k4 k5 k6 hsn hbd
        go_wp2_with (go_at_call 13; refine hwr.out.mono ?_; rintro e w7 ⟨rfl, hB7, _⟩; have S7 := hid hB7; clear hB7)
        have d0 := S7.out.r i hi
        have d1 := S7.out.r j hj
        have hget : Hid (∀ wx b, Below w7.heap.size w7 wx → wx.heap[b]? = some (.cells #[.int .i64 (i : Int), .int .i64 (j : Int)] 3) → Calls Tryz.prog 14 #[.pointer (some ⟨hb, 0, none⟩), .slice (some ⟨b, 0, none⟩) 2 2] wx fun e w' => ∃ nv rq rc x, e = .returned (.tuple #[.agg #[nv, .slice (some ⟨rq, 0, none⟩) 2 rc], .nilIface]) ∧ (∃ na nl nc, nv = .slice na nl nc) ∧ 2 ≤ rc ∧ w'.cell? ⟨rq, 0, none⟩ = some (.int .i64 x) ∧ w'.cell? ⟨rq, 1, none⟩ = some (.int .i64 x) ∧ Bs W w3.heap.size hb q g.nodes.length 20000 s1 w' ∧ Below wx.heap.size wx w' ∧ wx.heap.size ≤ rq ∧ rq < w'.heap.size) := fun wx b hbx hx => (S7.out.next hbx).get2 hi hj hone.out (ri_lit2 hx)
        have hbA := hid ((((Below.refl w7.heap.size w7).alloc (Nat.le_refl _) (.cells #[.int .i64 (i : Int), .int .i64 (j : Int)] 3)).drew))
        have hbB := hid (((((Below.refl w7.heap.size w7).alloc (Nat.le_refl _) (.cells #[.int .i64 (i : Int), .int .i64 (j : Int)] 3)).alloc (by simp) (grO (.slice none 0 0) (.slice none 0 0))).drew))
        have hbC := hid (((((Below.refl w7.heap.size w7).alloc (Nat.le_refl _) (grO (.slice none 0 0) (.slice none 0 0))).alloc (by simp) (.cells #[.int .i64 (i : Int), .int .i64 (j : Int)] 3)).drew))
        have hgA := hid (hget.out (w7.alloc (.cells #[.int .i64 (i : Int), .int .i64 (j : Int)] 3)).drew w7.heap.size hbA.out (heap_alloc_new w7 (.cells #[.int .i64 (i : Int), .int .i64 (j : Int)] 3)))
        have hgB := hid (hget.out ((w7.alloc (.cells #[.int .i64 (i : Int), .int .i64 (j : Int)] 3)).alloc (grO (.slice none 0 0) (.slice none 0 0))).drew w7.heap.size hbB.out ((Below.heap_alloc _ _ _ (by simp)).trans (heap_alloc_new w7 (.cells #[.int .i64 (i : Int), .int .i64 (j : Int)] 3))))
        have hgC := hid (hget.out ((w7.alloc (grO (.slice none 0 0) (.slice none 0 0))).alloc (.cells #[.int .i64 (i : Int), .int .i64 (j : Int)] 3)).drew (w7.heap.size + 1) hbC.out (al2_at w7 (grO (.slice none 0 0) (.slice none 0 0)) (.cells #[.int .i64 (i : Int), .int .i64 (j : Int)] 3)))
        have hxB : Hid (w7.heap.size + 1 < ((w7.alloc (.cells #[.int .i64 (i : Int), .int .i64 (j : Int)] 3)).alloc (grO (.slice none 0 0) (.slice none 0 0))).drew.heap.size ∧ ((w7.alloc (.cells #[.int .i64 (i : Int), .int .i64 (j : Int)] 3)).alloc (grO (.slice none 0 0) (.slice none 0 0))).drew.heap[w7.heap.size + 1]? = some (grO (.slice none 0 0) (.slice none 0 0))) := ⟨lt_of_block (al2_at w7 (.cells #[.int .i64 (i : Int), .int .i64 (j : Int)] 3) (grO (.slice none 0 0) (.slice none 0 0))), al2_at w7 (.cells #[.int .i64 (i : Int), .int .i64 (j : Int)] 3) (grO (.slice none 0 0) (.slice none 0 0))⟩
        have hxC : Hid (w7.heap.size < ((w7.alloc (grO (.slice none 0 0) (.slice none 0 0))).alloc (.cells #[.int .i64 (i : Int), .int .i64 (j : Int)] 3)).drew.heap.size ∧ ((w7.alloc (grO (.slice none 0 0) (.slice none 0 0))).alloc (.cells #[.int .i64 (i : Int), .int .i64 (j : Int)] 3)).drew.heap[w7.heap.size]? = some (grO (.slice none 0 0) (.slice none 0 0))) := ⟨Nat.lt_of_succ_lt (lt_of_block (al2_at w7 (grO (.slice none 0 0) (.slice none 0 0)) (.cells #[.int .i64 (i : Int), .int .i64 (j : Int)] 3))), (Below.heap_alloc _ _ _ (by simp)).trans (heap_alloc_new w7 (grO (.slice none 0 0) (.slice none 0 0)))⟩
        have hqA : Hid (∀ rq, (w7.alloc (.cells #[.int .i64 (i : Int), .int .i64 (j : Int)] 3)).drew.heap.size ≤ rq → w7.heap.size ≤ rq) := fun rq h => Nat.le_trans hbA.out.size h
        have hqB : Hid (∀ rq, ((w7.alloc (.cells #[.int .i64 (i : Int), .int .i64 (j : Int)] 3)).alloc (grO (.slice none 0 0) (.slice none 0 0))).drew.heap.size ≤ rq → w7.heap.size ≤ rq ∧ rq ≠ w7.heap.size + 1) := fun rq h => ⟨Nat.le_trans hbB.out.size h, fun e => by have := hxB.out.1; omega⟩
        have hqC : Hid (∀ rq, ((w7.alloc (grO (.slice none 0 0) (.slice none 0 0))).alloc (.cells #[.int .i64 (i : Int), .int .i64 (j : Int)] 3)).drew.heap.size ≤ rq → w7.heap.size ≤ rq ∧ rq ≠ w7.heap.size) := fun rq h => ⟨Nat.le_trans hbC.out.size h, fun e => by have := hxC.out.1; omega⟩
        have hQB : Hid (q ≠ w7.heap.size + 1) := fun e => by have := S7.out.z (by omega); omega
        have hQC : Hid (q ≠ w7.heap.size) := fun e => by have := S7.out.z (by omega); omega
        clear hget hM0
        go_cut [14, 10] from 85 to 113 (fun s14 s10 wg => ∃ (xb : Nat) (nv : Value) (rq rc : Nat) (x : Int), s14 = .pointer (some ⟨xb, 0, none⟩) ∧ s10 = .nilIface ∧ 2 ≤ rc ∧ Hid (Gx w7.heap.size xb nv rq rc x wg) ∧ Hid (Below w7.heap.size w7 wg))
        case first =>
          go_region_held3 (fun w' => Skv q i j (i : Int) (j : Int) w') (first | (with_reducible exact ⟨d0, d1⟩) | (with_reducible exact skv_dr ⟨d0, d1⟩) | (with_reducible exact skv_al ⟨d0, d1⟩) | (with_reducible exact skv_al (skv_dr ⟨d0, d1⟩)) | (with_reducible exact skv_dr (skv_al ⟨d0, d1⟩)) | (with_reducible exact skv_dr (skv_al (skv_al ⟨d0, d1⟩))) | (with_reducible exact skv_al (skv_al (skv_dr ⟨d0, d1⟩))) | (with_reducible exact skv_al (skv_al ⟨d0, d1⟩)) | (with_reducible exact skv_set hq7 (skv_set hq7 ⟨d0, d1⟩)) | (with_reducible exact skv_dr (skv_set hq7 (skv_set hq7 ⟨d0, d1⟩))) | (with_reducible exact skv_set hq7 (skv_set hq7 (skv_dr ⟨d0, d1⟩))))
            (first
              | (go_at_call 14; (with_reducible refine hgA.out.mono ?_); rintro e w8 ⟨nv, rq, rc, x, rfl, ⟨na8, nl8, nc8, rfl⟩, hrc, hz0, hz1, hB8, hb8, hq8, hq9⟩; have S8 := hid hB8; have Q8 := hid (And.intro hq9 (And.intro hz0 hz1)); clear d0 d1; have d0 := S8.out.r i hi; have d1 := S8.out.r j hj; have B8 := hid (Below.next hbA.out hb8); have T8 := hid (hqA.out rq hq8); clear hB8 hb8 hq8 hq9 hz0 hz1)
              | (go_at_call 14; (with_reducible refine hgB.out.mono ?_); rintro e w8 ⟨nv, rq, rc, x, rfl, ⟨na8, nl8, nc8, rfl⟩, hrc, hz0, hz1, hB8, hb8, hq8, hq9⟩; have S8 := hid hB8; have Q8 := hid (And.intro hq9 (And.intro hz0 hz1)); clear d0 d1; have d0 := S8.out.r i hi; have d1 := S8.out.r j hj; have hx8 := (hb8.block _ hxB.out.1).trans hxB.out.2; have B8 := hid (Below.next hbB.out hb8); have T8 := hid (hqB.out rq hq8); have hq7 := hQB.out; have hx9 := hid hx8; obtain ⟨⟨f0, f1⟩, f2⟩ := cblk2 hx8; have f3 := lt_of_block hx8; have f4 := fr0 hx8; have f5 := fr1 hx8; clear hx8; clear hB8 hb8 hq8 hq9 hz0 hz1)
              | (go_at_call 14; (with_reducible refine hgC.out.mono ?_); rintro e w8 ⟨nv, rq, rc, x, rfl, ⟨na8, nl8, nc8, rfl⟩, hrc, hz0, hz1, hB8, hb8, hq8, hq9⟩; have S8 := hid hB8; have Q8 := hid (And.intro hq9 (And.intro hz0 hz1)); clear d0 d1; have d0 := S8.out.r i hi; have d1 := S8.out.r j hj; have hx8 := (hb8.block _ hxC.out.1).trans hxC.out.2; have B8 := hid (Below.next hbC.out hb8); have T8 := hid (hqC.out rq hq8); have hq7 := hQC.out; have hx9 := hid hx8; obtain ⟨⟨f0, f1⟩, f2⟩ := cblk2 hx8; have f3 := lt_of_block hx8; have f4 := fr0 hx8; have f5 := fr1 hx8; clear hx8; clear hB8 hb8 hq8 hq9 hz0 hz1))
          all_goals go_wp2_with fail
          all_goals go_meet
          all_goals first
            | exact ⟨_, _, rq, rc, x, rfl, rfl, hrc, hid (gx_late B8.out.size T8.out Q8.out.1 Q8.out.2.1 Q8.out.2.2), hid (B8.out.alloc B8.out.size _)⟩
            | exact ⟨_, _, rq, rc, x, rfl, rfl, hrc, hid (gx_early (by omega) T8.out.1 Q8.out.1 T8.out.2 hx9.out Q8.out.2.1 Q8.out.2.2), hid ((B8.out.setCell (by first | exact Nat.le_refl _ | exact Nat.le_succ _) _).setCell (by first | exact Nat.le_refl _ | exact Nat.le_succ _) _)⟩
        case rest =>
          obtain ⟨xb, nv, rq, rc, x, rfl, rfl, hrc, hX, hB⟩ := hcut
          clear d0 d1 hbA hbB hbC hgA hgB hgC hxB hxC hqA hqB hqC hQB hQC
          go_wp2_with fail
          have hSx := S7.out.next hB.out
          have d0 := hSx.r i hi
          have d1 := hSx.r j hj
          have hij : utI s1.l j = utI s1.l i := (utI_eq (Nat.lt_of_lt_of_le hj S7.out.n0) (Nat.lt_of_lt_of_le hi S7.out.n0)).2 hone.out.symm
          have hun2 : Hid (Calls Tryz.prog 12 #[.pointer (some ⟨hb, 0, none⟩), .int .i64 (j : Int), .int .i64 (i : Int)] wc.drew fun e w' => e = .returned (.tuple #[.bool true, .nilIface]) ∧ ∃ s2 : Hst, s2.n = (k : Int) ∧ Bs W w3.heap.size hb q g.nodes.length 20000 s2 w' ∧ Gx w7.heap.size xb nv rq rc x w') := (S7.out.unify (hB.out.drew) hf1.out (S7.out.c j hj) (S7.out.c i hi)).mono fun e w' ⟨ok, e1, hy, hn, hkp, hkz⟩ => by
            cases ok with
            | true =>
              obtain ⟨E, k2, s2, hR2, hB2⟩ := hy rfl
              have h9 : k2 = 0 := by
                have hR3 : UnR s1 [(utI s1.l j, utI s1.l i)] E k2 s2 := hR2
                rw [hij] at hR3
                exact hR3.none
              refine ⟨e1, s2, ?_, hB2, hX.out.keep hkz hkp⟩
              rw [hR2.wr.keeps.2.2.1, h9, Hsn.out]
              simp
            | false =>
              have h8 : NoSol (utN s1.l s1.ns) [(utI s1.l j, utI s1.l i)] := (hn rfl).1
              rw [hij] at h8
              exact (nosol_same h8).elim
          clear hSx hij
          go_cut [12, 15] from 114 to 126 (fun s12 s15 wy => s15 = .bool true ∧ s12 = .nilIface ∧ ∃ s2 : Hst, Hid (s2.n = (k : Int)) ∧ Hid (Bs W w3.heap.size hb q g.nodes.length 20000 s2 wy) ∧ Hid (Gx w7.heap.size xb nv rq rc x wy))
          case first =>
            go_region_held3 (fun w' => Skv q i j (i : Int) (j : Int) w') (first | (with_reducible exact ⟨d0, d1⟩) | (with_reducible exact skv_dr ⟨d0, d1⟩))
              (first | (go_at_call 12; (with_reducible refine hun2.out.mono ?_); rintro e w9 ⟨rfl, s2, g1, g2, g3⟩; have S9 := hid g2; have X9 := hid g3; have N9 := hid g1; clear g1 g2 g3 d0 d1; have d0 := S9.out.r i hi; have d1 := S9.out.r j hj))
            all_goals go_wp2_with fail
            all_goals go_meet
            all_goals exact ⟨rfl, rfl, s2, N9, S9, X9⟩
          case rest =>
            obtain ⟨rfl, rfl, s2, N9, S9, X9⟩ := hcut
            clear d0 d1 hun2 hX hB
            go_wp2_with fail
            have b0 := (cblk2 X9.out.hx).1.2
            have b1 := X9.out.r0
            have b2 := X9.out.r1
            have hwr2 : Hid (∀ wz, Below wc.heap.size wc wz → Calls Tryz.prog 13 #[.pointer (some ⟨hb, 0, none⟩)] wz fun e w' => e = .returned (.int .i64 (k : Int)) ∧ Below W.heap.size W w' ∧ Below wz.heap.size wz w') := fun wz hz => by
              have h9 := (S9.out.next hz).writes
              rw [N9.out] at h9
              exact h9.mono fun e w' ⟨e1, e2, e3⟩ => ⟨e1, e2.b, e3⟩
            have zx := lt_of_block X9.out.hx
            have zq := X9.out.rz
            have hr2 : (2 : Nat) ≤ rc := hrc
            clear S9 N9 X9 hrc
            go_cut [6] from 127 to 158 (fun s6 wz => s6 = .bool true ∧ Hid (Below W.heap.size W wz))
            case first =>
              go_region_held3 (fun w' => Skg xb rq rc x w') (first | (with_reducible exact ⟨b0, b1, b2⟩) | (with_reducible exact skg_dr ⟨b0, b1, b2⟩))
                (first | (go_at_call 13; refine (hwr2.out _ (by first | (with_reducible exact Below.refl _ _) | (with_reducible exact (Below.refl _ _).drew) | (with_reducible exact below_drewN (Below.refl _ _) _))).mono ?_; rintro e wk ⟨rfl, hbk, hbk2⟩; have BK := hid hbk; have f0 := (hbk2.cell (p := ⟨xb, 1, none⟩) zx).trans b0; have f1 := (hbk2.cell (p := ⟨rq, 0, none⟩) zq).trans b1; have f2 := (hbk2.cell (p := ⟨rq, 1, none⟩) zq).trans b2; clear b0 b1 b2 hbk hbk2; have b0 := f0; have b1 := f1; have b2 := f2))
              all_goals go_wp2_with fail
              all_goals go_meet
              all_goals exact ⟨rfl, BK⟩
            case rest =>
              obtain ⟨rfl, hZ⟩ := hcut
              go_wp2
              go_ret
              exact ⟨rfl, hZ.out⟩
end Go.Proofs.YtlibjdilicfcdaaGreatDoor

namespace Go.Proofs.YtlibjdilicfcdaaGreatDoor
set_option maxRecDepth 100000
open Go.RowKit Go.Maps
set_option maxHeartbeats 8000000 in
theorem bound_small {W : World} {nv rv : Value} {g : Gf} (hG : Gr W nv rv g) (hs : smallK 400 g = false) (i j : Int) :
    Calls Tryz.prog 3 #[.agg #[nv, rv], .int .i64 i, .int .i64 j] W fun e w' => e = .returned (.bool true) ∧ Below W.heap.size W w' := by
  have hb0 := hid (below_alloc W (grO nv rv))
  have hx0 := hid (heap_alloc_new W (grO nv rv))
  have hsm := hid (fun w1 (h : Below W.heap.size W w1) => smallK_any (K := 400) (by decide) (hG.below h))
  rw [hs] at hsm
  obtain ⟨na, nc, rfl, _⟩ := hG.1
  obtain ⟨ra, rc, rfl, _⟩ := hG.2
  have t1 : True := trivial
  clear hG hs
  go_enter Tryz.func3, Tryz.ntmps3
  go_wp2_with (first
    | (go_at_call 7; have _m := t1; clear t1 _m; refine (ulives_any _).mono ?_; rintro e w1 ⟨rfl, hb1⟩; have HX1 := hid ((hb1.block _ (by simp)).trans hx0.out); have Hb1 := hid (Below.next hb0.out hb1); obtain ⟨⟨x0, x1⟩, _⟩ := cblk2 HX1.out; have x2 := lt_of_block HX1.out; clear hb1)
    | (go_at_call 8; refine (hsm.out _ Hb1.out).mono ?_; rintro e w2 ⟨rfl, hb2⟩; have HX2 := hid ((hb2.block _ (lt_of_block HX1.out)).trans HX1.out); have Hb2 := hid (Below.next Hb1.out hb2); clear hb2 x0 x1 x2; obtain ⟨⟨x0, x1⟩, _⟩ := cblk2 HX2.out; have x2 := lt_of_block HX2.out)
    | (go_at_call 7; refine (ulives_any _).mono ?_; rintro e w5 ⟨rfl, hb5⟩; have Hb5 := hid (Below.next Hb2.out hb5); clear hb5))
  go_ret
  exact ⟨rfl, Hb5.out⟩
set_option maxHeartbeats 8000000 in
theorem bound_check {W : World} {nv rv : Value} {g : Gf} (hG : Gr W nv rv g) (hS : Sized g) (hs : smallK 400 g = true) (hc : one (chk g) ≠ []) (i j : Int) :
    Calls Tryz.prog 3 #[.agg #[nv, rv], .int .i64 i, .int .i64 j] W fun e w' => e = .returned (.bool true) ∧ Below W.heap.size W w' := by
  have hb0 := hid (below_alloc W (grO nv rv))
  have hx0 := hid (heap_alloc_new W (grO nv rv))
  have hsm := hid (fun w1 (h : Below W.heap.size W w1) => smallK_any (K := 400) (by decide) (hG.below h))
  rw [hs] at hsm
  have hck : Hid (∀ w1, Below W.heap.size W w1 → Calls Tryz.prog 9 #[.agg #[nv, rv]] w1 fun e w' => (∃ b, e = .returned (.iface 84 (.pointer (some ⟨b, 0, none⟩)))) ∧ Below w1.heap.size w1 w') := fun w1 h => (check_any (hG.below h) hS).mono fun e w' ⟨⟨ev, e1, hE⟩, hb⟩ => ⟨by
    match h9 : one (chk g), hc, hE with
    | [], hc, _ => exact absurd rfl hc
    | x :: r, _, hE =>
      obtain ⟨_, b, ev', e2, _⟩ := hE
      exact ⟨b, by rw [e1, e2]⟩, hb⟩
  obtain ⟨na, nc, rfl, _⟩ := hG.1
  obtain ⟨ra, rc, rfl, _⟩ := hG.2
  have t1 : True := trivial
  clear hG hs hc
  go_enter Tryz.func3, Tryz.ntmps3
  go_wp2_with (first
    | (go_at_call 7; have _m := t1; clear t1 _m; refine (ulives_any _).mono ?_; rintro e w1 ⟨rfl, hb1⟩; have HX1 := hid ((hb1.block _ (by simp)).trans hx0.out); have Hb1 := hid (Below.next hb0.out hb1); obtain ⟨⟨x0, x1⟩, _⟩ := cblk2 HX1.out; have x2 := lt_of_block HX1.out; clear hb1)
    | (go_at_call 8; refine (hsm.out _ Hb1.out).mono ?_; rintro e w2 ⟨rfl, hb2⟩; have HX2 := hid ((hb2.block _ (lt_of_block HX1.out)).trans HX1.out); have Hb2 := hid (Below.next Hb1.out hb2); clear hb2 x0 x1 x2; obtain ⟨⟨x0, x1⟩, _⟩ := cblk2 HX2.out; have x2 := lt_of_block HX2.out)
    | (go_at_call 9; refine (hck.out _ Hb2.out).mono ?_; rintro e w3 ⟨⟨b, rfl⟩, hb3⟩; have HX3 := hid ((hb3.block _ (lt_of_block HX2.out)).trans HX2.out); have Hb3 := hid (Below.next Hb2.out hb3); clear hb3 x0 x1 x2; obtain ⟨⟨x0, x1⟩, _⟩ := cblk2 HX3.out; have x2 := lt_of_block HX3.out)
    | (go_at_call 7; refine (ulives_any _).mono ?_; rintro e w5 ⟨rfl, hb5⟩; have Hb5 := hid (Below.next Hb3.out hb5); clear hb5))
  go_ret
  exact ⟨rfl, Hb5.out⟩
set_option maxHeartbeats 8000000 in
theorem bound_out {W : World} {nv rv : Value} {g : Gf} (hG : Gr W nv rv g) (hS : Sized g) (hs : smallK 400 g = true) (hc : one (chk g) = []) (i j : Int) (ho : ¬ (0 ≤ i ∧ 0 ≤ j ∧ i < (g.nodes.length : Int) ∧ j < (g.nodes.length : Int))) :
    Calls Tryz.prog 3 #[.agg #[nv, rv], .int .i64 i, .int .i64 j] W fun e w' => e = .returned (.bool true) ∧ Below W.heap.size W w' := by
  have hsz := (smallK_fits hs).2.1
  have hb0 := hid (below_alloc W (grO nv rv))
  have hx0 := hid (heap_alloc_new W (grO nv rv))
  have hsm := hid (fun w1 (h : Below W.heap.size W w1) => smallK_any (K := 400) (by decide) (hG.below h))
  rw [hs] at hsm
  have hck := hid (fun w1 (h : Below W.heap.size W w1) => check_any (hG.below h) hS)
  rw [hc] at hck
  obtain ⟨na, nc, rfl, _⟩ := hG.1
  obtain ⟨ra, rc, rfl, _⟩ := hG.2
  clear hG hs hc
  have hway : i < 0 ∨ (¬ i < 0 ∧ j < 0) ∨ (¬ i < 0 ∧ ¬ j < 0 ∧ (g.nodes.length : Int) ≤ i) ∨ (¬ i < 0 ∧ ¬ j < 0 ∧ ¬ (g.nodes.length : Int) ≤ i ∧ (g.nodes.length : Int) ≤ j) := by omega
  clear ho
  rcases hway with k1 | ⟨k1, k2⟩ | ⟨k1, k2, k3⟩ | ⟨k1, k2, k3, k4⟩
  all_goals
    have t1 : True := trivial
    go_enter Tryz.func3, Tryz.ntmps3
    go_wp2_with (first
      | (go_at_call 7; have _m := t1; clear t1 _m; refine (ulives_any _).mono ?_; rintro e w1 ⟨rfl, hb1⟩; have HX1 := hid ((hb1.block _ (by simp)).trans hx0.out); have Hb1 := hid (Below.next hb0.out hb1); obtain ⟨⟨x0, x1⟩, _⟩ := cblk2 HX1.out; have x2 := lt_of_block HX1.out; clear hb1)
      | (go_at_call 8; refine (hsm.out _ Hb1.out).mono ?_; rintro e w2 ⟨rfl, hb2⟩; have HX2 := hid ((hb2.block _ (lt_of_block HX1.out)).trans HX1.out); have Hb2 := hid (Below.next Hb1.out hb2); clear hb2 x0 x1 x2; obtain ⟨⟨x0, x1⟩, _⟩ := cblk2 HX2.out; have x2 := lt_of_block HX2.out)
      | (go_at_call 9; refine (hck.out _ Hb2.out).mono ?_; rintro e w3 ⟨⟨ev, rfl, hE⟩, hb3⟩; obtain rfl : ev = .nilIface := hE; have HX3 := hid ((hb3.block _ (lt_of_block HX2.out)).trans HX2.out); have Hb3 := hid (Below.next Hb2.out hb3); clear hb3 x0 x1 x2; obtain ⟨⟨x0, x1⟩, _⟩ := cblk2 HX3.out; have x2 := lt_of_block HX3.out)
      | (go_at_call 7; refine (ulives_any _).mono ?_; rintro e w5 ⟨rfl, hb5⟩; have Hb5 := hid (Below.next Hb3.out hb5); clear hb5))
    go_ret
    exact ⟨rfl, Hb5.out⟩
theorem unifyBound_walk {W : World} (_ : ErrC W) {nv rv : Value} {g : Gf} (hG : Gr W nv rv g) (hS : Sized g) (i j : Int) :
    Calls Tryz.prog 3 #[.agg #[nv, rv], .int .i64 i, .int .i64 j] W fun e w' => e = .returned (.bool true) ∧ Below W.heap.size W w' := by
  cases hs : smallK 400 g with
  | false => exact bound_small hG hs i j
  | true =>
    by_cases hc : one (chk g) = []
    · by_cases ho : 0 ≤ i ∧ 0 ≤ j ∧ i < (g.nodes.length : Int) ∧ j < (g.nodes.length : Int)
      · obtain ⟨a, rfl⟩ : ∃ a : Nat, i = (a : Int) := ⟨i.toNat, by omega⟩
        obtain ⟨b, rfl⟩ : ∃ b : Nat, j = (b : Int) := ⟨j.toNat, by omega⟩
        exact bound_main hG hS hs hc a b (by omega) (by omega)
      · exact bound_out hG hS hs hc i j ho
    · exact bound_check hG hS hs hc i j
end Go.Proofs.YtlibjdilicfcdaaGreatDoor
namespace Go.Proofs.YtlibjdilicfcdaaGreatDoor
set_option maxRecDepth 100000
open Go.ChangeShapes Go.WideShapes Go.ChangeAt Go.RowKit
theorem unifyBound_lifted (os : Os) (started : os.Started) (H : Type) (enc : TypeId × Value → H) :
    ReturnsInHanded {} Tryz.checked os 3 .any (fun w args => (Rows.unifyBoundSpec.pre enc Tryz.prog Tryz.f3 [] false w args ∧ laidMetH Tryz.prog Rows.unifyBoundRow.laid w) ∧ sizedMet enc Tryz.prog Tryz.f3 (OpenSpec.ofChange Rows.unifyBoundSpec) false w args)
      (Rows.unifyBoundSpec.post enc Tryz.prog Tryz.f3 false true false false) := by
  refine returnsInHanded_of_change_and (C := Tryz.checked) (X := fun w _ => laidMetH Tryz.prog Rows.unifyBoundRow.laid w) (fun _ _ _ hh h => h.of_heap hh) own started (by kernel_rfl) Tryz.func3
    (ChangeSpec.witness_shaped (enc := enc) (C := Tryz.checked) (os := os) (X := fun w _ => laidMetH Tryz.prog Rows.unifyBoundRow.laid w) false (World.doorLaid Tryz.prog 16 os) #[.agg #[.slice none 0 0, .slice none 0 0], .int .i64 0, .int .i64 0] 8 rfl (World.shaped_of_RefB (by kernel_rfl) (by kernel_rfl)) (by kernel_rfl) (by kernel_rfl) (by kernel_rfl) (door_met os _)) ?_
  intro W base args ds gs before hval0 hW _ _ hL _
  have hval : ∀ (j : Nat) t v, Tryz.f3.params[j]? = some t → args[j]? = some v → Value.okWide Tryz.prog W .any base t v := hval0
  have hW' := hW
  obtain ⟨p, q, hA0, hV, rfl, hfz, hnd⟩ := hW
  have hA : DataW.TrodAll enc Tryz.prog W 0 (fun _ => true) true Tryz.f3.params.toList args.toList ds p := hA0
  rw [Tryz.params3] at hA hval
  obtain ⟨v0, vs0, d0, ds0, p0, q0, hargs, rfl, rfl, h0, r0⟩ := trodAll_cons hA
  obtain ⟨v1, vs1, d1, ds1, p1, q1, rfl, rfl, rfl, h1, r1⟩ := trodAll_cons r0
  obtain ⟨v2, vs2, d2, ds2, p2, q2, rfl, rfl, rfl, h2, r2⟩ := trodAll_cons r1
  obtain ⟨rfl, rfl, rfl⟩ := trodAll_nil r2
  obtain rfl : args = #[v0, v1, v2] := by cases args; simp_all
  obtain ⟨rfl, rfl⟩ := trodVars_none hV
  clear hA0 hval0
  obtain ⟨a1, rfl, rfl, rfl, w1⟩ := open_int Tryz.underlying3 (hval 1 3 v1 rfl rfl) h1
  obtain ⟨a2, rfl, rfl, rfl, w2⟩ := open_int Tryz.underlying3 (hval 2 3 v2 rfl rfl) h2
  simp only [List.append_nil] at hW'
  have hlt0 : ∀ x ∈ p0, x.block < W.heap.size := fun x hx => by simpa using hW'.lt x (by simp [hx])
  have hargs0 : ∀ (W' : World), Below W.heap.size W W' → DataW.Trod enc Tryz.prog W' 0 (fun b => decide (b < W.heap.size)) true 25 v0 d0 p0 :=
    fun W' hn => Below.trod laidOut (by kernel_rfl) (of_decide_eq_true (by kernel_rfl)) h0 hn hlt0
  obtain ⟨nv0, rv0, g0, rfl, hG0, hS0⟩ := graph_of (hval 0 25 v0 rfl rfl) h0
  refine (unifyBound_walk (ready_of_laid hL) hG0 hS0 a1 a2).mono fun e W' ⟨he, hg⟩ => ?_
  subst he
  refine ⟨_, rfl, _, _, _, [], p0 ++ ([] ++ ([] ++ ([]))), [], hW', ?_, ?_, rfl, hg.frame _, fun h => by cases h⟩
  · exact trodAll_cons_mk (shut_bool Tryz.underlying4 _) trodAll_mk0
  · exact (trodAll_cons_mk (hargs0 _ hg) (trodAll_cons_mk (shut_int Tryz.underlying3 w1) (trodAll_cons_mk (shut_int Tryz.underlying3 w2) trodAll_mk0)))
theorem unifyBound_said : Rows.UnifyBoundSaid :=
  OpenClaim.holds_of_wide 3 Tryz.f3 rfl rfl rfl rfl rfl rfl rfl ⟨rfl, rfl, rfl, rfl, rfl⟩ rfl rfl rfl rfl rfl (by kernel_rfl) Tryz.func3 (by kernel_rfl)
    (of_decide_eq_true (by kernel_rfl)) (by unfold Func.isWrapper; first | (rw [if_pos (by decide +kernel)]; kernel_rfl) | (rw [if_neg (by decide +kernel)]; exact ⟨rfl, rfl⟩))
    (fun os started H enc _ => unifyBound_lifted os started H enc)
theorem unifyBound_card : Rows.UnifyBoundCardSaid :=
  Claim7.holds_tied_plain_at .later [] [.handle] true (true, "9d57827f5008c9f85a58ca4bfe14ea9bfd47622b783724e1a63bf3c28aee11d7") true
    unifyBound_said (fun _ h => by cases h) (by kernel_rfl) (fun _ h => by cases h) unifyBound_row_tie rfl ⟨rfl, rfl⟩ (by kernel_rfl) rfl
    (fun f fn hf hfn => by
      obtain rfl : f = 3 := Option.some.inj ((show Tryz.prog.funcNamed Rows.unifyBoundRow.func = some 3 by kernel_rfl).symm.trans hf) |>.symm
      obtain rfl : fn = Tryz.f3 := (Option.some.inj (Tryz.func3.symm.trans hfn)).symm
      exact ⟨by kernel_rfl, fun j t ht => by
        rw [Tryz.params3] at ht
        have hm : t ∈ [25, 3, 3] := by simpa using Array.mem_of_getElem? ht
        have hall : ([25, 3, 3].all fun u => !Tryz.prog.wantsStandIn u) = true := by kernel_rfl
        exact (show Tryz.prog.wantsStandIn t = false by simpa using List.all_eq_true.1 hall t hm)⟩)
    (by kernel_rfl)
#print axioms unifyBound_card
end Go.Proofs.YtlibjdilicfcdaaGreatDoor
