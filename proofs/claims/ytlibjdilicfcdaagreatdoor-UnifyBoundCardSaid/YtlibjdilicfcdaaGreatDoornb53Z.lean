/- UnifyBound, as plain data: what is led can be reached from the two; a second time nothing is led. -/
import Derived.Test.YtlibjdilicfcdaaGreatDoornb50Z
import Derived.Test.YtlibjdilicfcdaaGreatDoornb20Z
import Derived.Test.YtlibjdilicfcdaaGreatDoornb46Z
import Derived.Test.YtlibjdilicfcdaaGreatDoornb51Z
import Derived.Test.YtlibjdilicfcdaaGreatDoornb41Z
namespace Go.Proofs.YtlibjdilicfcdaaGreatDoor
set_option maxRecDepth 100000
open Go.RowKit Go.Maps
section
variable {l cs M : List Int} {V : Nat → Bool} {nm : List ByteArray}
theorem rcs_next (hs : Snd l V) (hM : RcS l cs M) {k j : Nat} (hk : (k : Int) ∈ M) (hkl : k < l.length) (e : nxN l k = some j) : (j : Int) ∈ M := by
  refine (hM.all _).2 (.step ((hM.all _).1 hk) ?_)
  have hg := hs.good k hkl
  have hx : ∀ h3 : wdN l k % 8 = 0 ∨ wdN l k % 8 = 3 ∨ wdN l k % 8 = 5, j = vlN l k → (j : Int) ∈ rchN l (k : Int) := fun h3 h => by
    have hv := val_place hg h3
    unfold rchN rchL
    rw [Int.toNat_natCast, if_pos h3, List.mem_singleton]
    unfold vlN at h
    omega
  unfold nxN at e
  have ht : tgN l k = wdN l k % 8 := rfl
  by_cases h0 : tgN l k = 0
  · rw [if_pos h0] at e
    by_cases h1 : vlN l k = k
    · rw [if_pos h1] at e
      cases e
    · rw [if_neg h1] at e
      injection e with e
      exact hx (Or.inl (ht ▸ h0)) e.symm
  · rw [if_neg h0] at e
    by_cases h3 : tgN l k = 3 ∨ tgN l k = 5
    · rw [if_pos h3] at e
      injection e with e
      exact hx (Or.inr (by rw [ht] at h3; exact h3)) e.symm
    · rw [if_neg h3] at e
      cases e
theorem rcs_end (hs : Snd l V) (hM : RcS l cs M) : ∀ (r k : Nat), k < l.length → rkN l V k ≤ r → (k : Int) ∈ M → ∃ j, j < l.length ∧ nxN l j = none ∧ trmW l k = endW l j ∧ (j : Int) ∈ M := by
  intro r
  induction r with
  | zero =>
    intro k hk hr hm
    cases e : nxN l k with
    | none => exact ⟨k, hk, e, trm_end e, hm⟩
    | some j =>
      have := (nx_rk hs hk e).2
      omega
  | succ r ih =>
    intro k hk hr hm
    cases e : nxN l k with
    | none => exact ⟨k, hk, e, trm_end e, hm⟩
    | some j =>
      obtain ⟨h1, h2⟩ := nx_rk hs hk e
      rw [trm_next hs hk e]
      exact ih j h1 (by omega) (rcs_next hs hM hm hk e)
def RNx (l M : List Int) (x : Nat) : Prop := ∃ k : Nat, (k : Int) ∈ M ∧ k < l.length ∧ utI l k = x
theorem rnx_place (hs : Snd l V) (hl : l.length ≤ 65536) (hM : RcS l cs M) {k : Nat} (hk : (k : Int) ∈ M) (hkl : k < l.length) (ht : trmW l k % 8 = 0 ∨ trmW l k % 8 = 3) : valOf (trmW l k) ∈ M := by
  obtain ⟨j, hj, e, e2, hm⟩ := rcs_end hs hM _ k hkl (Nat.le_refl _) hk
  rw [e2] at ht ⊢
  rw [end_place hs hl hj e ht]
  exact hm
theorem rnx_arg (hs : Snd l V) (hn : NsB l nm.length) (hl : l.length ≤ 65536) (hM : RcS l cs M) {x : Nat} (hx : RNx l M x) {j : Nat} (hj : j < (ndN (utN l nm) x).args.length) : RNx l M (argN (utN l nm) x j) := by
  obtain ⟨k, hk, hkl, rfl⟩ := hx
  rw [utN_args hkl] at hj
  obtain ⟨h1, h2, _⟩ := utN_arg (nm := nm) hs hn hl hkl hj
  rw [h2]
  have h3 : trmW l k % 8 = 3 := by
    unfold tdL at hj
    split at hj
    · rename_i h
      exact h
    · simp at hj
  have hp := rnx_place hs hl hM hk hkl (Or.inr h3)
  refine ⟨_, ?_, by omega, rfl⟩
  rw [show ((((tdL l (trmW l k)).getD j 0).toNat : Nat) : Int) = (tdL l (trmW l k)).getD j 0 by omega]
  refine (hM.all _).2 (.step ((hM.all _).1 hp) ?_)
  have hg := getD_mem hj
  have e : tdL l (trmW l k) = rchN l (valOf (trmW l k)) := by
    unfold tdL rchN
    rw [if_pos h3]
  rw [← e]
  exact hg
end
section
variable {s s' : Hst} {V : Nat → Bool} {E : Nat → Nat} {a b n : Nat} {M : List Int}
theorem UnR.kind {P : List (Nat × Nat)} (h : UnR s P E n s') (hs : Snd s.l V) (hn : NsB s.l s.ns.length) (hnd : s.ns.Nodup) (hl : s.l.length ≤ 65536) {k : Nat} (hk : k < s.l.length) (hne : E (utI s.l k) ≠ utI s.l k) : trmW s.l k % 8 = 0 ∨ trmW s.l k % 8 = 3 := by
  have hT := (trm_tw (ns := s.ns) hs hn hl hk).tag
  by_cases h1 : trmW s.l k % 8 = 0 ∨ trmW s.l k % 8 = 3
  · exact h1
  · exfalso
    have hx := utI_lt hk
    have hkd : tdK (trmW s.l k) = 2 ∨ tdK (trmW s.l k) = 3 := by
      unfold tdK
      rcases hT with h | h | h | h <;> simp [h] at h1 ⊢
    have hr := (h.un.rep (utI s.l k) (by rw [utN_len]; exact hx) (by rw [utN_of hk]; show tdK _ ≠ 1; omega)).2.1
    have hy := h.un.rng (utI s.l k) (by rw [utN_len]; exact hx)
    rw [utN_len] at hy
    obtain ⟨d, hd, hde⟩ := utI_all hy
    rw [← hde] at hr
    have hlab := (labU_iff (nm := s.ns) hk hd).1 hr
    have he := leaf_inj hs hn hnd hl hk hd hkd hlab.1 hlab.2.1 hlab.2.2.1
    exact hne (by rw [← hde]; exact (utI_eq hd hk).2 he.symm)
theorem UnR.reach (h : UnR s [(utI s.l a, utI s.l b)] E n s') (hs : Snd s.l V) (hn : NsB s.l s.ns.length) (hl : s.l.length ≤ 65536) (ha : a < s.l.length) (hb : b < s.l.length) (hM : RcS s.l [(a : Int), (b : Int)] M) {x : Nat} (hx : x < (utT s.l).length) (hne : E x ≠ x) : RNx s.l M x := by
  obtain ⟨h1, h2, h3⟩ := h.un.done
  have hx2 := h.un.rng x (by rw [utN_len]; exact hx)
  have hra : RNx s.l M (utI s.l a) := ⟨a, (hM.all _).2 (.root (by simp)), ha, rfl⟩
  have hrb : RNx s.l M (utI s.l b) := ⟨b, (hM.all _).2 (.root (by simp)), hb, rfl⟩
  have hR : Cg (utN s.l s.ns) (fun x y => x = y ∨ (E x = E y ∧ RNx s.l M x ∧ RNx s.l M y)) := by
    refine ⟨⟨fun _ => Or.inl rfl, fun u v h => ?_, fun u v z h k => ?_⟩, fun u v hu hv h ku kv => ?_⟩
    · rcases h with h | ⟨h, k, m⟩
      · exact Or.inl h.symm
      · exact Or.inr ⟨h.symm, m, k⟩
    · rcases h with rfl | ⟨h, k1, k2⟩
      · exact k
      · rcases k with rfl | ⟨k, m1, m2⟩
        · exact Or.inr ⟨h, k1, k2⟩
        · exact Or.inr ⟨h.trans k, k1, m2⟩
    · rcases h with rfl | ⟨h, k1, k2⟩
      · exact ⟨labS.refl _, fun _ _ => Or.inl rfl⟩
      · obtain ⟨g1, g2⟩ := h1.lab u v hu hv h ku kv
        exact ⟨g1, fun j hj => Or.inr ⟨g2 j hj, rnx_arg hs hn hl hM k1 hj, rnx_arg hs hn hl hM k2 (by rw [← g1.2.2.2]; exact hj)⟩⟩
  rcases h3 _ hR (fun p hp => by
    have e : p = (utI s.l a, utI s.l b) := by simpa using hp
    subst e
    exact Or.inr ⟨h2 _ (by simp), hra, hrb⟩) x (E x) (h.un.idem x).symm with h | ⟨_, h, _⟩
  · exact absurd h.symm hne
  · exact h
theorem UnR.bound (h : UnR s [(utI s.l a, utI s.l b)] E n s') (hs : Snd s.l V) (hn : NsB s.l s.ns.length) (hnd : s.ns.Nodup) (hl : s.l.length ≤ 65536) (ha : a < s.l.length) (hb : b < s.l.length) (hM : RcS s.l [(a : Int), (b : Int)] M) : n ≤ M.length := by
  obtain ⟨xs, h1, h2, h3⟩ := h.nd
  rw [← h1]
  have hP : ∀ x ∈ xs, 0 ≤ tdA ((utT s.l).getD x 0) ∧ tdA ((utT s.l).getD x 0) ∈ M := fun x hx => by
    obtain ⟨g1, g2⟩ := h3 x hx
    obtain ⟨k, hk, hkl, e⟩ := h.reach hs hn hl ha hb hM g1 g2
    subst e
    have hkd := h.kind hs hn hnd hl hkl g2
    have hp := rnx_place hs hl hM hk hkl hkd
    obtain ⟨p, hpl, vp, _⟩ := trm_place hs hkl hkd hl
    rw [utI_at hkl]
    unfold tdA
    rw [if_neg (by omega)]
    exact ⟨by omega, hp⟩
  have hm : (xs.map (fun x => tdA ((utT s.l).getD x 0))).Nodup := by
    rw [List.nodup_iff_pairwise_ne, List.pairwise_map]
    rw [List.nodup_iff_pairwise_ne] at h2
    refine h2.imp_of_mem (fun {x y} hx hy hne e => hne ?_)
    exact ut_inj hs hn hl (h3 x hx).1 (h3 y hy).1 (hP x hx).1 e
  have h9 := nodup_valsG (fun k => M.getD k 0) M.length _ hm (fun v hv => by
    obtain ⟨x, hx, rfl⟩ := List.mem_map.1 hv
    obtain ⟨k, hk, e⟩ := List.getElem_of_mem (hP x hx).2
    exact ⟨k, hk, by simp [List.getD, hk, e]⟩)
  simpa using h9
theorem UnR.none {x : Nat} (h : UnR s [(x, x)] E n s') : n = 0 := by
  obtain ⟨xs, h1, h2, h3⟩ := h.nd
  obtain ⟨_, _, g3⟩ := h.un.done
  have hall : ∀ y, E y = y := fun y => (g3 (fun u v => u = v) ⟨⟨fun _ => rfl, fun _ _ e => e.symm, fun _ _ _ e f => e.trans f⟩, fun u v _ _ e _ _ => by subst e; exact ⟨labS.refl _, fun _ _ => rfl⟩⟩ (fun p hp => by
    have e : p = (x, x) := by simpa using hp
    subst e
    rfl) y (E y) (h.un.idem y).symm).symm
  match xs, h1, h3 with
  | [], h1, _ => exact h1.symm
  | y :: r, _, h3 => exact absurd (hall y) (h3 y (by simp)).2
theorem nosol_same {ns : List Nd} {x : Nat} (h : NoSol ns [(x, x)]) : False :=
  h (fun u v => u = v) ⟨⟨fun _ => rfl, fun _ _ e => e.symm, fun _ _ _ e f => e.trans f⟩, fun u v _ _ e _ _ => by subst e; exact ⟨labS.refl _, fun _ _ => rfl⟩⟩ (fun p hp => by
    have e : p = (x, x) := by simpa using hp
    subst e
    rfl)
theorem UnR.one (h : UnR s [(utI s.l a, utI s.l b)] E n s') (ha : a < s.l.length) (hb : b < s.l.length) : trmW s'.l a = trmW s'.l b := by
  have h2 := h.un.done.2.1 (utI s.l a, utI s.l b) (by simp)
  rw [h.wf.trm a ha, h.wf.trm b hb]
  unfold eW
  rw [h2]
end
end Go.Proofs.YtlibjdilicfcdaaGreatDoor

namespace Go.Proofs.YtlibjdilicfcdaaGreatDoor
set_option maxRecDepth 100000
open Go.RowKit Go.Maps
theorem putc_small {g : Gf} {z : Int} (hc : one (chk g) = []) (hn : g.nodes.length ≤ 400) (hz : 4000 ≤ z) : PutC hs0 (gAll g) z ∧ (putHs hs0 (gAll g)).l.length ≤ 4000 := by
  have hg := chk_good hc
  have hG : Good (gAll g) := ⟨hg.nodes, by rw [gAll_len]; omega, hg.node, fun x hx => by
    obtain ⟨k, hk, rfl⟩ := List.mem_map.1 hx
    have := List.mem_range.1 hk
    show 0 ≤ (k : Int) ∧ (k : Int) < (g.nodes.length : Int)
    omega⟩
  have hm : (metF (gAll g)).length ≤ 400 := Nat.le_trans (met_ok hG).le hn
  have h1 := wthJ_len [] (gAll g) (metF (gAll g)) (metF (gAll g)).length
  have h2 := want_le hG (met := metF (gAll g)) (metF (gAll g)).length
  rw [gAll_len] at h2
  have hw : wantJ (gAll g) (metF (gAll g)) (metF (gAll g)).length ≤ 4000 := by omega
  refine ⟨⟨chk_of_good hG, ?_, ?_⟩, ?_⟩
  · show (wthJ [] (gAll g) (metF (gAll g)) (metF (gAll g)).length).length ≤ 1024
    simp only [List.length_nil] at h1
    omega
  · show ((([] : List Int).length : Int) + _) ≤ z
    simp only [List.length_nil]
    omega
  · show (wdP [] [] (gAll g)).length ≤ 4000
    unfold wdP
    rw [List.length_append, putW_len]
    simp only [List.length_nil]
    omega
section
variable {w : World} {B hb ab tb : Nat} {m : Int} {av : Value} {l : List Int} {tv : Value} {tq : Nat} {ns : List ByteArray} {trv ptv : Value} {n : Int}
set_option maxHeartbeats 800000 in
theorem hwrites_any (h : Hp w B hb ab tb m av l tv tq ns trv ptv n) :
    Calls Tryz.prog 13 #[.pointer (some ⟨hb, 0, none⟩)] w fun e w' => e = .returned (.int .i64 n) ∧ Below w.heap.size w w' := by
  obtain ⟨⟨_, _, _, _, c4⟩, c5⟩ := h.cells
  clear h
  go_enter Tryz.func13, Tryz.ntmps13
  go_wp2_with (go_at_call 28; refine (self_some _ _).mono ?_; rintro e w' ⟨rfl, rfl⟩)
  go_ret
  exact ⟨rfl, Below.refl _ _⟩
end
structure Bs (W : World) (B hb q n : Nat) (m : Int) (s : Hst) (w : World) : Prop where
  b : Below W.heap.size W w
  h : ∃ F, Hs w B hb m F s ∧ ∀ k, F k → W.heap.size ≤ k ∧ (0 < n → k ≠ q)
  r : ∀ k, k < n → w.cell? ⟨q, k, none⟩ = some (.int .i64 (k : Int))
  z : 0 < n → q < w.heap.size
  B1 : W.heap.size ≤ B
  B2 : B ≤ w.heap.size
  sn : SndN s.l s.ns.length
  nd : s.ns.Nodup
  l4 : s.l.length ≤ 4000
  n0 : n ≤ s.l.length
  c : ∀ k, k < n → cellB s.l (k : Int) = true
section
variable {W w w' : World} {B hb q n : Nat} {m : Int} {s : Hst}
theorem Bs.next (h : Bs W B hb q n m s w) (hb' : Below w.heap.size w w') : Bs W B hb q n m s w' := by
  obtain ⟨F, h1, h2⟩ := h.h
  exact ⟨Below.next h.b hb', ⟨F, h1.below hb', h2⟩, fun k hk => (hb'.cell (p := ⟨q, k, none⟩) (h.z (by omega))).trans (h.r k hk), fun hn => Nat.lt_of_lt_of_le (h.z hn) hb'.size, h.B1, Nat.le_trans h.B2 hb'.size, h.sn, h.nd, h.l4, h.n0, h.c⟩
theorem Hs.lt {F : Nat → Prop} (h : Hs w B hb m F s) : Hs w B hb m (fun k => F k ∧ k < w.heap.size) s := by
  obtain ⟨ab, tb, av, tv, tq, trv, ptv, hq, hf⟩ := h
  refine ⟨ab, tb, av, tv, tq, trv, ptv, hq, fun k hk => ⟨hf k hk, ?_⟩⟩
  rcases mem_qfoot.1 hk with e | e | e | e
  · rw [e]
    exact lt_of_block hq.hp.blk
  · exact hq.hp.ltz.2.1 k e
  · exact (hq.tr.lt k e).2
  · exact (hq.pt.lt k e).2
theorem Bs.unify (h : Bs W B hb q n m s w) {w0 : World} (h0 : Below w.heap.size w w0) (hf : Few s) {i j : Int} (hi : cellB s.l i = true) (hj : cellB s.l j = true) :
    Calls Tryz.prog 12 #[.pointer (some ⟨hb, 0, none⟩), .int .i64 i, .int .i64 j] w0 fun e w' => ∃ ok, e = .returned (.tuple #[.bool ok, .nilIface]) ∧ (ok = true → ∃ E k s', UnR s [(utI s.l i.toNat, utI s.l j.toNat)] E k s' ∧ Bs W B hb q n m s' w') ∧ (ok = false → NoSol (utN s.l s.ns) [(utI s.l i.toNat, utI s.l j.toNat)] ∧ Bs W B hb q n m s w' ∧ Below w0.heap.size w0 w') ∧ (∀ k, w.heap.size ≤ k → k < w0.heap.size → w'.heap[k]? = w0.heap[k]?) ∧ w0.heap.size ≤ w'.heap.size := by
  obtain ⟨F, h1, h2⟩ := h.h
  have hl := h.l4
  have h9 := h.next h0
  refine (unify_any (h1.lt.below h0) h.sn (by omega) h.nd hf h9.B2 hi hj).mono ?_
  rintro e w' ⟨ok, e1, hy, hn⟩
  refine ⟨ok, e1, fun he => ?_, fun he => ⟨(hn he).1, h9.next (hn he).2, (hn he).2⟩, fun k hk1 hk2 => ?_, ?_⟩
  · obtain ⟨E, k, s', g1, g2, g3⟩ := hy he
    obtain ⟨k1, k2, k3, k4, k5, k6⟩ := g1.wr.keeps
    have hW := h9.b.size
    refine ⟨E, k, s', g1, Below.trans h9.b (g3.below (fun k hk => (h2 k hk.1).1) hW), ⟨_, g2, fun k hk => ?_⟩, fun k hk => ?_, fun hn => Nat.lt_of_lt_of_le (h9.z hn) g3.size, h.B1, Nat.le_trans h9.B2 g3.size, ?_, by rw [k1]; exact h.nd, by omega, by have := h.n0; omega, fun k hk => by rw [g1.wf.cel]; exact h.c k hk⟩
    · rcases hk with hk | hk
      · exact h2 k hk.1
      · exact ⟨by omega, fun hn => by have := h9.z hn; omega⟩
    · have h7 := g3.block q (h9.z (by omega)) (fun hx => (h2 q hx.1).2 (by omega) rfl)
      have h8 := h9.r k hk
      simpa [World.cell?, h7] using h8
    · have h7 := g1.wf.snd
      rw [← k1] at h7
      exact h7
  · cases ok with
    | true =>
      obtain ⟨E, k, s', g1, g2, g3⟩ := hy rfl
      exact g3.block _ hk2 (fun hx => by have := hx.2; omega)
    | false => exact (hn rfl).2.block _ hk2
  · cases ok with
    | true =>
      obtain ⟨E, k, s', g1, g2, g3⟩ := hy rfl
      exact g3.size
    | false => exact (hn rfl).2.size
theorem Bs.writes (h : Bs W B hb q n m s w) :
    Calls Tryz.prog 13 #[.pointer (some ⟨hb, 0, none⟩)] w fun e w' => e = .returned (.int .i64 s.n) ∧ Bs W B hb q n m s w' ∧ Below w.heap.size w w' := by
  obtain ⟨F, ⟨ab, tb, av, tv, tq, trv, ptv, hq, hf⟩, h2⟩ := h.h
  exact (hwrites_any hq.hp).mono fun e w' ⟨e1, e2⟩ => ⟨e1, h.next e2, e2⟩
theorem Bs.reach (h : Bs W B hb q n m s w) {i j : Nat} (hi : i < n) (hj : j < n) {cv : Value} (hC : Ri w cv [(i : Int), (j : Int)]) :
    Calls Tryz.prog 11 #[.pointer (some ⟨hb, 0, none⟩), cv] w fun e w' => ∃ M, e = .returned (.tuple #[.int .i64 (M.length : Int), .nilIface]) ∧ RcS s.l [(i : Int), (j : Int)] M ∧ Bs W B hb q n m s w' := by
  obtain ⟨F, ⟨ab, tb, av, tv, tq, trv, ptv, hq, hf⟩, h2⟩ := h.h
  obtain ⟨⟨V, hV⟩, hn⟩ := h.sn
  have hl := h.l4
  have h1 := h.c i hi
  have h3 := h.c j hj
  refine (hreach_ok hq.hp hV (by omega) hC (by simp) ?_).mono fun e w' ⟨⟨M, e1, e2⟩, e3⟩ => ⟨M, e1, e2, h.next e3⟩
  have e9 : badC s.l [(i : Int), (j : Int)] = -1 := ixOf_none _ _ (by simp [h1, h3])
  unfold badF
  rw [e9, if_neg (by decide)]
theorem Bs.get2 (h : Bs W B hb q n m s w) {i j : Nat} (hi : i < n) (hj : j < n) (ht : trmW s.l i = trmW s.l j) {cv : Value} (hC : Ri w cv [(i : Int), (j : Int)]) :
    Calls Tryz.prog 14 #[.pointer (some ⟨hb, 0, none⟩), cv] w fun e w' => ∃ nv rq rc x, e = .returned (.tuple #[.agg #[nv, .slice (some ⟨rq, 0, none⟩) 2 rc], .nilIface]) ∧ (∃ na nl nc, nv = .slice na nl nc) ∧ 2 ≤ rc ∧ w'.cell? ⟨rq, 0, none⟩ = some (.int .i64 x) ∧ w'.cell? ⟨rq, 1, none⟩ = some (.int .i64 x) ∧ Bs W B hb q n m s w' ∧ Below w.heap.size w w' ∧ w.heap.size ≤ rq ∧ rq < w'.heap.size := by
  obtain ⟨F, ⟨ab, tb, av, tv, tq, trv, ptv, hq, hf⟩, h2⟩ := h.h
  obtain ⟨⟨V, hV⟩, hn⟩ := h.sn
  have hl := h.l4
  have h1 := h.c i hi
  have h3 := h.c j hj
  have hil := h.n0
  refine (get_ok hq.hp hV hn hC (fun x hx => ?_) (by simp) (fun TS hT => ?_)).mono ?_
  · have e : x = (i : Int) ∨ x = (j : Int) := by simpa using hx
    rcases e with rfl | rfl
    · exact h1
    · exact h3
  · have h9 := nodup_valsG (fun k => trmW s.l k) s.l.length TS hT.nodup (fun t ht => ?_)
    · omega
    · obtain ⟨k, hk, e⟩ := hT.inT t ht
      exact ⟨k, hk, e⟩
  · rintro e w' ⟨⟨nv, rv, avs, TS, ee, rfl, hT, hg, he, ho⟩, hb'⟩
    obtain ⟨na, nc, hnv⟩ := ho.nsl
    obtain ⟨ao, c, hrv, hr⟩ := ho.r
    have hlen : (trimF (quoF ee (rdG s.l s.ns [(i : Int), (j : Int)] TS))).roots.length = 2 := by simp [trimF, quoF, rdG]
    have hroots : ∃ x, (trimF (quoF ee (rdG s.l s.ns [(i : Int), (j : Int)] TS))).roots = [x, x] := by
      have e9 : tmC s.l (i : Int) = tmC s.l (j : Int) := by
        unfold tmC
        rw [Int.toNat_natCast, Int.toNat_natCast, ht]
      have e8 : posF (metF (quoF ee (rdG s.l s.ns [(i : Int), (j : Int)] TS))) (clsI ee (rdG s.l s.ns [(i : Int), (j : Int)] TS).nodes.length (posF TS (tmC s.l (j : Int)))) = posF (metF (quoF ee (rdG s.l s.ns [(i : Int), (j : Int)] TS))) (clsI ee (rdG s.l s.ns [(i : Int), (j : Int)] TS).nodes.length (posF TS (tmC s.l (i : Int)))) := by rw [e9]
      exact ⟨_, congrArg (fun z => [posF (metF (quoF ee (rdG s.l s.ns [(i : Int), (j : Int)] TS))) (clsI ee (rdG s.l s.ns [(i : Int), (j : Int)] TS).nodes.length (posF TS (tmC s.l (i : Int)))), z]) e8⟩
    obtain ⟨x, hx⟩ := hroots
    rw [hlen, hx] at hr
    rw [hlen] at hrv
    obtain ⟨rq, rfl⟩ : ∃ rq, ao = some ⟨rq, 0, none⟩ := by
      rcases hr.2 with ⟨h8, h9⟩ | ⟨g, cap, cur, h8, _⟩
      · exact absurd h9 (by decide)
      · injection h8 with h8 _ _
        exact ⟨g, h8⟩
    obtain ⟨_, c9, e9, h9, _⟩ := own_slq hr
    injection e9 with _ _ e9
    exact ⟨nv, rq, c, x, by rw [hrv], ⟨na, _, nc, hnv⟩, by omega, (hr.cellAt 0 (by decide)).trans rfl, (hr.cellAt 1 (by decide)).trans rfl, h.next hb', hb', (hr.lt rq rfl).1, (hr.lt rq rfl).2⟩
end
theorem bs_of {W w3 w : World} {hb : Nat} {m : Int} {F : Nat → Prop} {g : Gf} {ao : Option Addr} {c : Nat} (h3 : Below W.heap.size W w3) (hb' : Below w3.heap.size w3 w) (hl : (putHs hs0 (gAll g)).l.length ≤ 4000) (hn : 0 < g.nodes.length) (ho : w.ownsRow w3.heap.size 3 1 (.slice ao g.nodes.length c) g.nodes.length ((csL 0 g.nodes.length).map (Value.int .i64))) (hH : Hs w w3.heap.size hb m F (putHs hs0 (gAll g))) (hF : ∀ k, F k → w3.heap.size ≤ k ∧ (Value.slice ao g.nodes.length c).ownBlock ≠ some k) (hj : Sj (putHs hs0 (gAll g)) 1) (hpm : PmC (nsP [] (gAll g)) (gAll g) (metF (gAll g)) 0) :
    ∃ q, ao = some ⟨q, 0, none⟩ ∧ g.nodes.length ≤ c ∧ w3.heap.size ≤ q ∧ Bs W w3.heap.size hb q g.nodes.length m (putHs hs0 (gAll g)) w := by
  obtain ⟨q, rfl⟩ : ∃ q, ao = some ⟨q, 0, none⟩ := by
    rcases ho.2 with ⟨h8, h9⟩ | ⟨g, cap, cur, h8, _⟩
    · omega
    · injection h8 with h8 _ _
      exact ⟨g, h8⟩
  obtain ⟨_, c9, e9, h9, _⟩ := own_slq ho
  injection e9 with _ _ e9
  have hz := h3.size
  have hnd : (putHs hs0 (gAll g)).ns.Nodup := by
    obtain ⟨ab, tb, av, tv, tq, trv, ptv, hq, _⟩ := hH
    exact hq.hp.tb.nodup
  have hc := csl_cell (l := []) (ns := []) (g := gAll g) hpm
  rw [gAll_len] at hc
  refine ⟨q, rfl, by omega, (ho.lt q rfl).1, Below.trans h3 (hb'.mono hz), ⟨F, hH, fun k hk => ⟨by have := (hF k hk).1; omega, fun _ e => (hF k hk).2 (by rw [e]; rfl)⟩⟩, fun k hk => ?_, fun _ => (ho.lt q rfl).2, hz, hb'.size, hj.si.now, hnd, hl, ?_, fun k hk => hc _ (List.mem_map.2 ⟨k, List.mem_range.2 hk, by simp⟩)⟩
  · rw [ho.cellAt k (by omega)]
    simp [csL, hk]
  · show g.nodes.length ≤ (wdP [] [] (gAll g)).length
    have hr := want_root (g := gAll g) (met := metF (gAll g)) (metF (gAll g)).length
    unfold wdP
    rw [List.length_append, putW_len]
    rw [gAll_len] at hr
    omega
end Go.Proofs.YtlibjdilicfcdaaGreatDoor
