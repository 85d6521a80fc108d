/- The fixed fact of layer 10. -/
import Derived.Test.YtjenkpgoggmboaaSBZ
import Derived.Test.YtjenkpgoggmboaaSCZ
import Derived.Test.YtjenkpgoggmboaaGrRef3
namespace Go.Proofs.Ytjenkpgoggmboaa
open Go.RowKit

abbrev fS : ByteArray := ⟨#[102]⟩
abbrev aS : ByteArray := ⟨#[97]⟩
/-- The graph that is asked, and what it becomes. -/
def g0S : Gf := ⟨[⟨1, ⟨#[]⟩, 0, []⟩, ⟨4, fS, 0, [0]⟩, ⟨2, aS, 0, []⟩], [0]⟩
def g1S : Gf := ⟨[⟨1, ⟨#[]⟩, 0, []⟩, ⟨4, fS, 0, [1]⟩, ⟨2, aS, 0, []⟩], [1]⟩
theorem g0_good : Good g0S := by
  have hf : goodS fS = true := by decide
  have ha : goodS aS = true := by decide
  refine ⟨by decide, by decide, fun n hn => ?_, fun x hx => ?_⟩
  · have h : n = ⟨1, ⟨#[]⟩, 0, []⟩ ∨ n = ⟨4, fS, 0, [0]⟩ ∨ n = ⟨2, aS, 0, []⟩ := by simpa [g0S] using hn
    rcases h with rfl | rfl | rfl
    · simp [goodNd, ByteArray.toList_eq]
    · simp [goodNd, hf, strange, g0S]
    · simp [goodNd, ha]
  · have h : x = 0 := by simpa [g0S] using hx
    subst h
    decide
theorem chk0 : chkS g0S [(0, 1)] = [] := by
  unfold chkS
  rw [if_pos (chk_of_good g0_good)]
  simp [ixOf, badP, strange, g0S]
theorem chk1 : chkS g0S [(1, 2)] = [] := by
  unfold chkS
  rw [if_pos (chk_of_good g0_good)]
  simp [ixOf, badP, strange, g0S]
theorem nd_0 : ndN g0S.nodes 0 = ⟨1, ⟨#[]⟩, 0, []⟩ := rfl
theorem nd_1 : ndN g0S.nodes 1 = ⟨4, fS, 0, [0]⟩ := rfl
theorem nd_2 : ndN g0S.nodes 2 = ⟨2, aS, 0, []⟩ := rfl
theorem no1 : NoSol g0S.nodes ([((1 : Int), (2 : Int))].map natP) := fun R hR hp => by
  have h := hp (1, 2) (by simp [natP])
  have := (hR.lab 1 2 (by decide) (by decide) h (by rw [nd_1]; decide) (by rw [nd_2]; decide)).1.1
  rw [nd_1, nd_2] at this
  exact absurd this (by decide)
theorem yes0 : ¬ NoSol g0S.nodes ([((0 : Int), (1 : Int))].map natP) := fun hn => by
  refine hn (fun x y => x = y ∨ (x ≤ 1 ∧ y ≤ 1)) ⟨⟨fun x => Or.inl rfl, fun x y h => ?_, fun x y z h k => ?_⟩, fun x y hx hy h hkx hky => ?_⟩ (fun p hp => ?_)
  · rcases h with e | e
    · exact Or.inl e.symm
    · exact Or.inr ⟨e.2, e.1⟩
  · rcases h with e | e
    · subst e; exact k
    · rcases k with f | f
      · subst f; exact Or.inr e
      · exact Or.inr ⟨e.1, f.2⟩
  · have e : x = y := by
      rcases h with e | ⟨e1, e2⟩
      · exact e
      · have hx1 : x ≠ 0 := fun e => hkx (by rw [e, nd_0])
        have hy1 : y ≠ 0 := fun e => hky (by rw [e, nd_0])
        omega
    subst e
    exact ⟨labS.refl _, fun k _ => Or.inl rfl⟩
  · have e : p = (0, 1) := by simpa [natP] using hp
    subst e
    exact Or.inr ⟨by decide, by decide⟩
theorem g1_no (x y : Nat) (hx : x < 3) (hy : y < 3) (hne : x ≠ y) : ¬ Al g1S (x : Int) (y : Int) := fun h => by
  obtain ⟨_, _, ⟨h1, _, _, _, h5⟩, _⟩ := al_sim g1S _ _ h
  have ex : x = 0 ∨ x = 1 ∨ x = 2 := by omega
  have ey : y = 0 ∨ y = 1 ∨ y = 2 := by omega
  rcases ex with rfl | rfl | rfl <;> rcases ey with rfl | rfl | rfl <;> first | exact absurd rfl hne | exact absurd h1 (by decide) | exact absurd (h5 rfl) (by decide)
theorem g1_trim {e : Nat → Nat → Bool} (he : ∀ x y : Nat, (e x y = true ↔ Al g1S (x : Int) (y : Int))) : trimF (quoF e g1S) = ⟨[⟨4, fS, 0, [0]⟩], [0]⟩ := by
  have hf : ∀ x y : Nat, x < 3 → y < 3 → x ≠ y → e x y = false := fun x y hx hy hne => by
    cases h : e x y
    · rfl
    · exact absurd ((he x y).1 h) (g1_no x y hx hy hne)
  have h1 := hf 1 0 (by omega) (by omega) (by omega)
  have h2 := hf 2 0 (by omega) (by omega) (by omega)
  have h3 := hf 2 1 (by omega) (by omega) (by omega)
  have hc : csF e 3 = [0, 1, 2] ∧ lsF e 3 = [0, 1, 2] := by simp [csF, lsF, numF, fnd, h1, h2, h3]
  have c1 : clsI e 3 1 = 1 := by simp [clsI, hc.1, ints]
  have hq : quoF e g1S = g1S := by simp [quoF, g1S, hc.2, renum, c1]
  rw [hq]
  have hm : metF g1S = [1] := by simp [metF, g1S, meetF, Gf.argsOf]
  unfold trimF
  rw [hm]
  simp [g1S, renum, posF, pos]
theorem least0 {t : Gf} (h : LeastS g0S [(0, 1)] t) : t = ⟨[⟨4, fS, 0, [0]⟩], [0]⟩ := by
  obtain ⟨E, ee, hU, hd, rfl⟩ := h
  obtain ⟨_, hp, _⟩ := hU.done
  have e01 : E 0 = E 1 := hp (0, 1) (by simp [natP])
  obtain ⟨h1, h2, _⟩ := hU.rep 1 (by decide) (by rw [nd_1]; decide)
  have hr := hU.rng 1 (by decide)
  have hr3 : E 1 < 3 := hr
  have e1 : E 1 = 1 := by
    have hc : E 1 = 0 ∨ E 1 = 1 ∨ E 1 = 2 := by omega
    rcases hc with h | h | h
    · rw [h, nd_0] at h1; exact absurd rfl h1
    · exact h
    · have := h2.1
      rw [h, nd_1, nd_2] at this
      exact absurd this (by decide)
  have hg : gE g0S.nodes g0S.roots E = g1S := by
    simp [gE, g0S, g1S, renum, EI, e01, e1]
  rw [hg] at hd ⊢
  exact g1_trim hd
end Go.Proofs.Ytjenkpgoggmboaa

/- The fixed fact of layer 10: its walk. -/
namespace Go.Proofs.Ytjenkpgoggmboaa
open Go.RowKit

abbrev oA : Obj := .cells #[.int .i64 0] 3
abbrev oB (q : Nat) : Obj := .cells #[.int .i64 1, .string ⟨#[]⟩, .int .i64 0, .slice none 0 0, .int .i64 4, .string fS, .int .i64 0, .slice (some ⟨q, 0, none⟩) 1 1, .int .i64 2, .string aS, .int .i64 0, .slice none 0 0] 65
theorem gr_lit {w : World} {a b c : Nat} (ha : w.heap[a]? = some oA) (hb : w.heap[b]? = some (oB a)) (hc : w.heap[c]? = some oA) : Gr w (.slice (some ⟨b, 0, none⟩) 3 3) (.slice (some ⟨c, 0, none⟩) 1 1) g0S := by
  have hri : ∀ q, w.heap[q]? = some oA → Ri w (.slice (some ⟨q, 0, none⟩) 1 1) [0] := fun q hq => ⟨some ⟨q, 0, none⟩, 1, rfl, fun j hj => by
    have e : j = 0 := by simpa using hj
    subst e
    exact ⟨q, 0, rfl, by simp [World.cell?, hq]⟩⟩
  refine ⟨⟨some ⟨b, 0, none⟩, 3, rfl, fun j hj => ?_⟩, hri c hc⟩
  have hj3 : j = 0 ∨ j = 1 ∨ j = 2 := by
    have : j < 3 := hj
    omega
  rcases hj3 with rfl | rfl | rfl
  · exact ⟨b, 0, .slice none 0 0, rfl, by simp [World.cell?, hb, g0S], by simp [World.cell?, hb, g0S], by simp [World.cell?, hb, g0S], by simp [World.cell?, hb], Ri.nil _⟩
  · exact ⟨b, 0, .slice (some ⟨a, 0, none⟩) 1 1, rfl, by simp [World.cell?, hb, g0S], by simp [World.cell?, hb, g0S], by simp [World.cell?, hb, g0S], by simp [World.cell?, hb], hri a ha⟩
  · exact ⟨b, 0, .slice none 0 0, rfl, by simp [World.cell?, hb, g0S], by simp [World.cell?, hb, g0S], by simp [World.cell?, hb, g0S], by simp [World.cell?, hb], Ri.nil _⟩
theorem rp_lit {w : World} {q : Nat} {x y : Int} (h : w.heap[q]? = some (.cells #[.int .i64 x, .int .i64 y] 52)) : Rp w (.slice (some ⟨q, 0, none⟩) 1 1) [(x, y)] := ⟨some ⟨q, 0, none⟩, 1, rfl, fun j hj => by
  have e : j = 0 := by simpa using hj
  subst e
  exact ⟨q, 0, rfl, by simp [World.cell?, h], by simp [World.cell?, h]⟩⟩
abbrev oD (b c : Nat) : Obj := .cells #[.slice (some ⟨b, 0, none⟩) 3 3, .slice (some ⟨c, 0, none⟩) 1 1] 25
/-- The world behind the literal. -/
abbrev litW (w : World) : World := (((w.alloc oA).alloc (oB w.heap.size)).alloc oA).alloc (oD (w.heap.size + 1) (w.heap.size + 1 + 1))
structure Lt (w w' : World) : Prop where
  a : w'.heap[w.heap.size]? = some oA
  b : w'.heap[w.heap.size + 1]? = some (oB w.heap.size)
  c : w'.heap[w.heap.size + 1 + 1]? = some oA
  d : w'.heap[w.heap.size + 1 + 1 + 1]? = some (oD (w.heap.size + 1) (w.heap.size + 1 + 1))
  bel : Below w.heap.size w w'
theorem Lt.new (w : World) : Lt w (litW w) := by
  have s1 : (w.alloc oA).heap.size = w.heap.size + 1 := by simp
  have s2 : ((w.alloc oA).alloc (oB w.heap.size)).heap.size = w.heap.size + 1 + 1 := by simp
  have s3 : (((w.alloc oA).alloc (oB w.heap.size)).alloc oA).heap.size = w.heap.size + 1 + 1 + 1 := by simp
  have h1 := heap_alloc_new w oA
  have h2 := heap_alloc_new (w.alloc oA) (oB w.heap.size)
  have h3 := heap_alloc_new ((w.alloc oA).alloc (oB w.heap.size)) oA
  have h4 := heap_alloc_new (((w.alloc oA).alloc (oB w.heap.size)).alloc oA) (oD (w.heap.size + 1) (w.heap.size + 1 + 1))
  rw [s1] at h2
  rw [s2] at h3
  rw [s3] at h4
  refine ⟨?_, ?_, ?_, h4, ?_⟩
  · exact (Below.heap_alloc _ _ _ (by rw [s3]; omega)).trans ((Below.heap_alloc _ _ _ (by rw [s2]; omega)).trans ((Below.heap_alloc _ _ _ (by rw [s1]; omega)).trans h1))
  · exact (Below.heap_alloc _ _ _ (by rw [s3]; omega)).trans ((Below.heap_alloc _ _ _ (by rw [s2]; omega)).trans h2)
  · exact (Below.heap_alloc _ _ _ (by rw [s3]; omega)).trans h3
  · exact (((below_alloc w oA).alloc (by rw [s1]; omega) _).alloc (by rw [s2]; omega) _).alloc (by rw [s3]; omega) _
theorem Lt.next {w w' w'' : World} (h : Lt w w') (hb : Below w'.heap.size w' w'') : Lt w w'' :=
  ⟨(hb.block _ (lt_of_block h.a)).trans h.a, (hb.block _ (lt_of_block h.b)).trans h.b, (hb.block _ (lt_of_block h.c)).trans h.c, (hb.block _ (lt_of_block h.d)).trans h.d, Below.next h.bel hb⟩
set_option maxRecDepth 100000 in
set_option maxHeartbeats 4000000 in
theorem slives_any (w : World) : Calls Try.prog 9 #[] w fun e w' => e = .returned (.bool true) ∧ Below w.heap.size w w' := by
  have hL0 := hid (Lt.new w)
  have hs1 : Hid (∀ (w1 : World) (n : Nat), n = w1.heap.size → Lt w w1 → Calls Try.prog 11 #[.agg #[.slice (some ⟨w.heap.size + 1, 0, none⟩) 3 3, .slice (some ⟨w.heap.size + 1 + 1, 0, none⟩) 1 1], .slice (some ⟨n, 0, none⟩) 1 1] (w1.alloc (.cells #[.int .i64 0, .int .i64 1] 52)) fun e w' => Lt w w' ∧ ∃ nb no nc ra rc aa ac, e = .returned (.tuple #[.agg #[.slice (some ⟨nb, no, none⟩) 1 nc, .slice ra 1 rc], .bool true, .nilIface]) ∧ w'.cell? ⟨nb, no + 3, none⟩ = some (.slice aa 1 ac)) := fun w1 n en h1 => by
    subst en
    have hb := below_alloc w1 (.cells #[.int .i64 0, .int .i64 1] 52)
    have h2 := h1.next hb
    refine (solve_yes (ps := [(0, 1)]) (gr_lit h2.a h2.b h2.c) (good_sized g0_good) (rp_lit (heap_alloc_new w1 _)) (by simp) chk0 yes0).mono ?_
    rintro e w' ⟨⟨t, na, nc, ra, rc, avs, rfl, hLS, hO⟩, hb'⟩
    have ht := least0 hLS
    subst ht
    obtain ⟨ao, c, e1, hn⟩ := hO.gr.1
    injection e1 with e2 _ _
    subst e2
    obtain ⟨nb, no, av, rfl, _, _, _, h3, hri⟩ := hn 0 (by simp)
    obtain ⟨aa, ac, rfl, _⟩ := hri
    simp only [Nat.zero_mul, Nat.add_zero] at h3
    exact ⟨h2.next hb', nb, no, nc, ra, rc, aa, ac, rfl, h3⟩
  have hs2 : Hid (∀ (w1 : World) (n : Nat), n = w1.heap.size → Lt w w1 → Calls Try.prog 11 #[.agg #[.slice (some ⟨w.heap.size + 1, 0, none⟩) 3 3, .slice (some ⟨w.heap.size + 1 + 1, 0, none⟩) 1 1], .slice (some ⟨n, 0, none⟩) 1 1] (w1.alloc (.cells #[.int .i64 1, .int .i64 2] 52)) fun e w' => e = .returned (.tuple #[.agg #[.slice none 0 0, .slice none 0 0], .bool false, .nilIface]) ∧ Below w.heap.size w w') := fun w1 n en h1 => by
    subst en
    have hb := below_alloc w1 (.cells #[.int .i64 1, .int .i64 2] 52)
    have h2 := h1.next hb
    refine (solve_no (ps := [(1, 2)]) (gr_lit h2.a h2.b h2.c) (good_sized g0_good) (rp_lit (heap_alloc_new w1 _)) (by simp) chk1 no1).mono ?_
    rintro e w' ⟨rfl, hb'⟩
    exact ⟨rfl, (h2.next ⟨hb'.os, hb'.tape, hb'.output, hb'.size, hb'.block⟩).bel⟩
  have m1 : True := trivial
  go_enter Try.func9, Try.ntmps9
  go_wp2_with (first
    | (have _m := m1; go_at_call 11; go_must (refine (hs1.out (litW w) (w.heap.size + 1 + 1 + 1 + 1) (by simp) hL0.out).mono ?_; clear m1 _m hs1; rintro e w1 ⟨hL1, nb, no, nc, ra, rc, aa, ac, rfl, h3⟩; have z3 := lt_of_cell h3; have HL1 := hid (hL1.next (below_alloc w1 (.cells #[.slice (some ⟨nb, no, none⟩) 1 nc, .slice ra 1 rc] 25))); have hd1 := HL1.out.d; have zd := lt_of_block hd1; obtain ⟨⟨d0, d1⟩, _⟩ := blk2y hd1; have zw := lt_of_block hL1.d; clear hL1 hd1))
    | (go_at_call 11; go_must (refine (hs2.out (w1.alloc (.cells #[.slice (some ⟨nb, no, none⟩) 1 nc, .slice ra 1 rc] 25)) (w1.heap.size + 1) (by simp) HL1.out).mono ?_; rintro e w2 ⟨rfl, hb2⟩)))
  go_ret
  exact ⟨rfl, hb2⟩
end Go.Proofs.Ytjenkpgoggmboaa

/- hanging of package solve's merge. -/
namespace Go.Proofs.Ytjenkpgoggmboaa
open Go.RowKit

/-- How many of the first j nodes a node stands for. -/
def cntN (E : Nat → Nat) (m : Nat) : Nat → Nat
  | 0 => 0
  | j + 1 => cntN E m j + if E j = m then 1 else 0
theorem cntN_le (E : Nat → Nat) (m : Nat) : ∀ j, cntN E m j ≤ j
  | 0 => Nat.le_refl _
  | j + 1 => by
    have := cntN_le E m j
    unfold cntN
    split <;> omega
def cntL (E : Nat → Nat) (N j : Nat) : List Nat := (List.range N).map (fun m => cntN E m j)
theorem cntL_len (E : Nat → Nat) (N j : Nat) : (cntL E N j).length = N := by simp [cntL]
theorem cntL_get {E : Nat → Nat} {N j m : Nat} (h : m < N) : (cntL E N j).getD m 0 = cntN E m j := by simp [cntL, List.getD, h]
theorem cntL_zero (E : Nat → Nat) (N : Nat) : (ints (cntL E N 0)).map (Value.int .i64) = List.replicate N (.int .i64 0) := by
  apply List.ext_getElem?
  intro i
  by_cases h : i < N
  · simp [ints, cntL, cntN, h]
  · simp [ints, cntL, h]
theorem cntL_step {E : Nat → Nat} {N j : Nat} (h : E j < N) : (cntL E N j).set (E j) (cntN E (E j) j + 1) = cntL E N (j + 1) := by
  apply List.ext_getElem?
  intro i
  by_cases hi : i < N
  · by_cases e : i = E j
    · subst e
      rw [List.getElem?_set_self (by rw [cntL_len]; exact h)]
      simp [cntL, cntN, h]
    · rw [List.getElem?_set_ne (fun h => e h.symm)]
      have : ¬ E j = i := fun h => e h.symm
      simp [cntL, cntN, hi, this]
  · rw [List.getElem?_eq_none (by rw [List.length_set, cntL_len]; omega), List.getElem?_eq_none (by rw [cntL_len]; omega)]
/-- The variables that stand not for themselves alone, among the first. -/
def hangF (ns : List Nd) (E : Nat → Nat) : Nat → List Nat
  | 0 => []
  | j + 1 => hangF ns E j ++ if (ndN ns j).kind = 1 ∧ 1 < cntN E (E j) ns.length then [j] else []
theorem hangF_le (ns : List Nd) (E : Nat → Nat) : ∀ j, (hangF ns E j).length ≤ j
  | 0 => Nat.le_refl _
  | j + 1 => by
    have := hangF_le ns E j
    unfold hangF
    rw [List.length_append]
    split <;> simp <;> omega
theorem row_mo {wr w5 : World} {S : Nat} {lv : Value} (hz : ∀ k, lv.ownBlock = some k → k < S) (hm : Mo (fun k => lv.ownBlock = some k) wr w5) {e : TypeId} {z : Nat} {v : Value} {n : Nat} {xs : List Value} (ho : wr.ownsRow S e z v n xs) : w5.ownsRow S e z v n xs :=
  row_keep ho (fun k hk => hm.block k (ho.lt k hk).2 (fun e => by have h1 := hz k e; have h2 := (ho.lt k hk).1; omega))
set_option maxRecDepth 100000 in
set_option maxHeartbeats 8000000 in
theorem shang_any {W0 w : World} {mb : Nat} {nv lv : Value} {ns : List Nd} {L : List Nat} {E : Nat → Nat} (h : Mg W0 w mb nv lv ns L) (hE : Ld L E) (hN : ns.length ≤ 10000) :
    Calls Try.prog 44 #[.pointer (some ⟨mb, 0, none⟩)] w fun e w' => (∃ ao c, e = .returned (.slice ao (hangF ns E ns.length).length c) ∧ w'.ownsRow w.heap.size 3 1 (.slice ao (hangF ns E ns.length).length c) (hangF ns E ns.length).length ((ints (hangF ns E ns.length)).map (Value.int .i64))) ∧ MgL W0 w w' mb nv lv ns E := by
  obtain ⟨i0, hi, hz0, hz1, hz2⟩ := info_parts infoI
  have hkl : Hid (mb < w.heap.size ∧ ∀ k, lv.ownBlock = some k → k < w.heap.size) := ⟨lt_of_block h.blk, fun k hk => (h.l.lt k hk).2⟩
  have hW0 : Hid (W0.heap.size ≤ w.heap.size) := h.bel.size
  have HN := hid (fun x (hx : x < ns.length) => h.node hx)
  have hEr : Hid (∀ x, x < ns.length → E x < ns.length) := fun x hx => by rw [← h.ll]; exact hE.erng x (by rw [h.ll]; exact hx)
  have hS0 : Hid (MgL W0 w w mb nv lv ns E) := ⟨L, h, hE, Mo.refl _ _⟩
  obtain ⟨na, nc, rfl, _⟩ := h.nd
  obtain ⟨⟨k0, k1⟩, _⟩ := blk2y h.blk
  have hzm := lt_of_block h.blk
  clear h hE
  go_enter Try.func44, Try.ntmps44
  go_wp2_with (at_make; refine wpList_make_full _ rfl _ _ 23 rfl w.heap.size 3 i0 (.int .i64 0) 1 Try.underlying23 hi hz0 hz1 .i64 .i64 _ _ ns.length rfl rfl rfl rfl (by rw [hz2]; omega) (by unfold maxLen; omega) (Nat.le_refl _) ?_; intro w1 hown1 hgrow1; have hb1 := hid ((Below.refl w.heap.size w).grown hgrow1 (Nat.le_refl _) (fun _ e => by cases e)); have ho1 := hid hown1; have hs1 := (hown1.lt w.heap.size rfl).2; have hm1 := (hb1.out.block mb hkl.out.1); have q0 : w1.cell? ⟨mb, 0, none⟩ = some (.slice na ns.length nc) := (hb1.out.cell (p := ⟨mb, 0, none⟩) hkl.out.1).trans k0; have hzq := lt_of_cell q0; clear hown1 hgrow1 hm1)
  have hR0 : Hid (w1.ownsRow w.heap.size 3 1 (.slice (some ⟨w.heap.size, 0, none⟩) ns.length ns.length) ns.length ((ints (cntL E ns.length 0)).map (Value.int .i64))) := by
    have h9 := ho1.out
    rw [show (madeCells (Value.int .i64 0).cells (ns.length * 1)).toList = List.replicate ns.length (.int .i64 0) by rw [Nat.mul_one]; simp [Value.cells, toList_madeCells_one]] at h9
    rw [cntL_zero]
    exact h9
  have hS1 : Hid (MgL W0 w w1 mb (.slice na ns.length nc) lv ns E) := MgL.far hkl.out hW0.out hS0.out hb1.out
  clear ho1 hS0 hb1 k0 k1
  go_loopw [19] (fun i wr => ∃ j : Nat, j ≤ ns.length ∧ i = .int .i64 (j : Int) ∧ Hid (MgL W0 w wr mb (.slice na ns.length nc) lv ns E) ∧ Hid (wr.ownsRow w.heap.size 3 1 (.slice (some ⟨w.heap.size, 0, none⟩) ns.length ns.length) ns.length ((ints (cntL E ns.length j)).map (Value.int .i64)))) (fun i _ => ns.length - (intOf i).toNat)
  case atStart => exact ⟨0, Nat.zero_le _, rfl, hS1, hR0⟩
  case round =>
    clear hS1 hR0
    obtain ⟨j, hj, rfl, hS, hR⟩ := hrel
    by_cases hlt : j < ns.length
    · have hji : (j : Int) < (ns.length : Int) := by omega
      obtain ⟨L1, hm1, hl1⟩ := hS.out.mg
      have hcall := hid (send_any hm1 hl1 j hlt)
      have hEj := hEr.out j hlt
      have hEji : ((E j : Nat) : Int) < (ns.length : Int) := by omega
      have hcl := cntN_le E (E j) j
      have hnx : Hid (∀ w5, MgL W0 wr w5 mb (.slice na ns.length nc) lv ns E → (w5.cell? ⟨w.heap.size, E j, none⟩ = some (.int .i64 ((cntN E (E j) j : Nat) : Int)) ∧ w5.frozen? ⟨w.heap.size, E j, none⟩ = false ∧ w.heap.size < w5.heap.size) ∧ MgL W0 w (w5.setCell ⟨w.heap.size, E j, none⟩ (.int .i64 ((cntN E (E j) j : Nat) + 1 : Int))) mb (.slice na ns.length nc) lv ns E ∧ (w5.setCell ⟨w.heap.size, E j, none⟩ (.int .i64 ((cntN E (E j) j : Nat) + 1 : Int))).ownsRow w.heap.size 3 1 (.slice (some ⟨w.heap.size, 0, none⟩) ns.length ns.length) ns.length ((ints (cntL E ns.length (j + 1))).map (Value.int .i64))) := fun w5 hL5 => by
        have hR5 := row_mo hkl.out.2 hL5.mo hR.out
        have hc : w5.cell? ⟨w.heap.size, E j, none⟩ = some (.int .i64 ((cntN E (E j) j : Nat) : Int)) := by
          rw [hR5.cellAt (E j) (by omega), ints_at (by rw [cntL_len]; exact hEj), cntL_get hEj]
        refine ⟨⟨hc, hR5.frozenAt (E j), lt_of_cell hc⟩, MgL.far hkl.out hW0.out (MgL.trans hS.out.mo hL5) ((Below.refl _ _).setCell (p := ⟨w.heap.size, E j, none⟩) (Nat.le_refl _) _), ?_⟩
        have h2 := (World.ownsRow.stored hR5 (E j) (.int .i64 ((cntN E (E j) j + 1 : Nat) : Int))).1
        rw [ints_set, cntL_step hEj] at h2
        rw [Int.natCast_add] at h2
        exact h2
      clear hS hR hm1 hl1
      generalize cntN E (E j) j = cn at *
      go_wp2_with (go_at_call 75; refine hcall.out.mono ?_; rintro e w5 ⟨rfl, hL5⟩; obtain ⟨⟨u0, u1, u2⟩, hf1, hf2⟩ := hnx.out w5 hL5; have hf1' := hid hf1; have hf2' := hid hf2; clear hf1 hf2 hL5)
      go_roundw
      case rel => exact ⟨j + 1, by omega, by go_num, hf1', hf2'⟩
      case measure => simp [intOf]; omega
    · obtain rfl : j = ns.length := by omega
      obtain ⟨w0, hw0⟩ : ∃ w0, w0 = wr := ⟨_, rfl⟩
      subst hw0
      obtain ⟨_, _, hmk⟩ := mgl_bel hS.out
      have hzk := lt_of_block hmk
      obtain ⟨⟨k0, k1⟩, _⟩ := blk2y hmk
      clear hmk q0 hzq
      have hO0 : Hid (w0.ownsRow w.heap.size 3 1 (.slice none (hangF ns E 0).length 0) (hangF ns E 0).length ((ints (hangF ns E 0)).map (Value.int .i64))) := World.ownsRow_nil _ _ _ _
      have hSS := hid hS.out
      have hRR := hid hR.out
      clear hS hR
      go_wp2
      go_loopw [5, 36] (fun x i wr => ∃ (j : Nat) (ao : Option Addr) (c : Nat), j ≤ ns.length ∧ i = .int .i64 (j : Int) ∧ x = .slice ao (hangF ns E j).length c ∧ Hid (MgL W0 w wr mb (.slice na ns.length nc) lv ns E) ∧ Hid (wr.ownsRow w.heap.size 3 1 (.slice (some ⟨w.heap.size, 0, none⟩) ns.length ns.length) ns.length ((ints (cntL E ns.length ns.length)).map (Value.int .i64))) ∧ Hid (wr.ownsRow w.heap.size 3 1 (.slice ao (hangF ns E j).length c) (hangF ns E j).length ((ints (hangF ns E j)).map (Value.int .i64))) ∧ Hid (ao ≠ some ⟨w.heap.size, 0, none⟩)) (fun _ i _ => ns.length - (intOf i).toNat)
      case atStart => exact ⟨0, none, 0, Nat.zero_le _, rfl, rfl, hSS, hRR, hO0, fun e => by cases e⟩
      case round =>
        clear hSS hRR hO0 k0 k1 hzk
        obtain ⟨j, ao, c, hj, rfl, rfl, hS, hR, hO, hne⟩ := hrel
        by_cases hlt : j < ns.length
        · have hji : (j : Int) < (ns.length : Int) := by omega
          obtain ⟨nb, no, nc2, aa, ac, hnv, hNd⟩ := HN.out j hlt
          injection hnv with u1 _ u3
          subst u1 u3
          obtain ⟨d0, d1, d2, d3, hzn, dA⟩ := hNd wr hS.out.bel
          have hEj := hEr.out j hlt
          have hEji : ((E j : Nat) : Int) < (ns.length : Int) := by omega
          have hhl := hangF_le ns E j
          have hstep : Hid (hangF ns E (j + 1) = hangF ns E j ++ if (ndN ns j).kind = 1 ∧ 1 < cntN E (E j) ns.length then [j] else []) := show _ = _ from rfl
          clear dA hNd
          generalize hcn : cntN E (E j) ns.length = cn at *
          have hcnl := cntN_le E (E j) ns.length
          rw [hcn] at hcnl
          generalize ndN ns j = nd at *
          obtain ⟨kd, nm, nu, args⟩ := nd
          dsimp only at d0 d1 d2 d3 hstep
          have hbx := hid (below_alloc wr (.cells #[.int .i64 kd, .string nm, .int .i64 nu, .slice aa args.length ac] 65))
          have hS1 := hid (hS.out.next hbx.out)
          have hR1 := hid (World.ownsRow.alloc hR.out (.cells #[.int .i64 kd, .string nm, .int .i64 nu, .slice aa args.length ac] 65))
          have hO1 := hid (World.ownsRow.alloc hO.out (.cells #[.int .i64 kd, .string nm, .int .i64 nu, .slice aa args.length ac] 65))
          have hszr := hS.out.mo.size
          by_cases hkd : kd = 1
          · subst hkd
            obtain ⟨L1, hm1, hl1⟩ := hS1.out.mg
            have hcall := hid (send_any hm1 hl1 j hlt)
            have hnx : Hid (∀ w5, MgL W0 (wr.alloc (.cells #[.int .i64 1, .string nm, .int .i64 nu, .slice aa args.length ac] 65)) w5 mb (.slice (some ⟨nb, no, none⟩) ns.length nc) lv ns E → (w5.cell? ⟨w.heap.size, E j, none⟩ = some (.int .i64 (cn : Int)) ∧ w.heap.size < w5.heap.size) ∧ MgL W0 w w5 mb (.slice (some ⟨nb, no, none⟩) ns.length nc) lv ns E ∧ w5.ownsRow w.heap.size 3 1 (.slice (some ⟨w.heap.size, 0, none⟩) ns.length ns.length) ns.length ((ints (cntL E ns.length ns.length)).map (Value.int .i64)) ∧ w5.ownsRow w.heap.size 3 1 (.slice ao (hangF ns E j).length c) (hangF ns E j).length ((ints (hangF ns E j)).map (Value.int .i64))) := fun w5 hL5 => by
              have hR5 := row_mo hkl.out.2 hL5.mo hR1.out
              have hc : w5.cell? ⟨w.heap.size, E j, none⟩ = some (.int .i64 (cn : Int)) := by
                rw [hR5.cellAt (E j) (by omega), ints_at (by rw [cntL_len]; exact hEj), cntL_get hEj, hcn]
              exact ⟨⟨hc, lt_of_cell hc⟩, MgL.trans hS1.out.mo hL5, hR5, row_mo hkl.out.2 hL5.mo hO1.out⟩
            clear hS hR hO hS1 hR1 hO1 hm1 hl1 hbx hcn
            by_cases hc1 : 1 < cn
            · have hc1' : (1 : Int) < (cn : Int) := by omega
              have hst2 : Hid (hangF ns E (j + 1) = hangF ns E j ++ [j]) := by
                have := hstep.out
                rw [if_pos ⟨rfl, hc1⟩] at this
                exact this
              clear hstep
              generalize hangF ns E j = H0 at *
              go_wp2_with (first
                | (go_at_call 75; refine hcall.out.mono ?_; rintro e w5 ⟨rfl, hL5⟩; obtain ⟨⟨u0, u2⟩, hf1, hf2, hf3⟩ := hnx.out w5 hL5; have hf1' := hid hf1; have hf2' := hid hf2; have hf3' := hid hf3; have hf4 := World.ownsRow.alloc hf3 (.cells #[.int .i64 (j : Int)] 3); clear hf1 hf2 hf3 hL5)
                | (at_builtin; go_must (refine wpList_append_lies _ rfl _ _ 23 rfl w.heap.size 3 i0 (.int .i64 0) 1 8 Try.underlying23 hi hz0 hz1 hz2 rfl (by decide) _ H0.length _ rfl hf4 ⟨w5.heap.size, 0, none⟩ 1 1 [.int .i64 (j : Int)] rfl rfl (cell_one_new w5 _ _) (by simp [Value.oneCell']) (by decide) (by unfold maxLen; omega) (by omega) (by simp; omega) _ rfl ?_; intro g cap w6 hown6 hg6 hat6 hlt6)))
              have hgz : Hid (w.heap.size < w6.heap.size ∧ MgL W0 w w6 mb (.slice (some ⟨nb, no, none⟩) ns.length nc) lv ns E ∧ w6.ownsRow w.heap.size 3 1 (.slice (some ⟨w.heap.size, 0, none⟩) ns.length ns.length) ns.length ((ints (cntL E ns.length ns.length)).map (Value.int .i64)) ∧ some (⟨g, 0, none⟩ : Addr) ≠ some ⟨w.heap.size, 0, none⟩) := by
                have hs6 := hg6.size
                simp at hs6
                have hob : ∀ k, (Value.slice ao H0.length c).ownBlock = some k → k ≠ w.heap.size ∧ w.heap.size ≤ k := fun k hk => by
                  refine ⟨fun e => ?_, (hf3'.out.lt k hk).1⟩
                  rcases hf3'.out.2 with ⟨e1, _⟩ | ⟨g', cap', cur', e1, _⟩
                  · rw [e1] at hk; cases hk
                  · injection e1 with e2 _ _
                    subst e2
                    have e3 : g' = k := by simpa [Value.ownBlock] using hk
                    subst e3
                    exact hne.out (by rw [e])
                refine ⟨by omega, MgL.far hkl.out hW0.out hf1'.out (((Below.refl _ _).alloc (by omega) _).grown hg6 (by simp; omega) (fun k hk => (hob k hk).2)), ?_, fun e => ?_⟩
                · refine row_keep hf2'.out (fun k hk => ?_)
                  have ek : w.heap.size = k := by simpa [Value.ownBlock] using hk
                  subst ek
                  rw [hg6.block w.heap.size (by simp; omega) (fun e => (hob w.heap.size e.symm).1 rfl), Below.heap_alloc _ _ _ u2]
                · injection e with e
                  injection e with e _ _
                  rcases hat6 with h1 | h1
                  · exact (hob g h1).1 e
                  · simp at h1
                    omega
              obtain ⟨_, hS6, hR6, hn6⟩ := hgz.out
              go_roundw
              case rel => exact ⟨j + 1, some ⟨g, 0, none⟩, cap, by omega, by go_num, by rw [hst2.out, List.length_append]; rfl, hS6, hR6, (show World.ownsRow _ _ _ _ _ _ _ by rw [hst2.out, List.length_append]; simpa [ints] using hown6), hn6⟩
              case measure => simp [intOf]; omega
            · have hc1' : ¬ ((1 : Int) < (cn : Int)) := by omega
              have hst2 : Hid (hangF ns E (j + 1) = hangF ns E j) := by
                have := hstep.out
                rw [if_neg (fun h => hc1 h.2), List.append_nil] at this
                exact this
              clear hstep
              generalize hangF ns E j = H0 at *
              go_wp2_with (go_at_call 75; refine hcall.out.mono ?_; rintro e w5 ⟨rfl, hL5⟩; obtain ⟨⟨u0, u2⟩, hf1, hf2, hf3⟩ := hnx.out w5 hL5; have hf1' := hid hf1; have hf2' := hid hf2; have hf3' := hid hf3; clear hf1 hf2 hf3 hL5)
              go_roundw
              case rel => exact ⟨j + 1, ao, c, by omega, by go_num, by rw [hst2.out], hf1', hf2', (show World.ownsRow _ _ _ _ _ _ _ by rw [hst2.out]; exact hf3'.out), hne⟩
              case measure => simp [intOf]; omega
          · have hst2 : Hid (hangF ns E (j + 1) = hangF ns E j) := by
              have := hstep.out
              rw [if_neg (fun h => hkd h.1), List.append_nil] at this
              exact this
            clear hstep hS hR hO
            generalize hangF ns E j = H0 at *
            go_wp2
            go_roundw
            case rel => exact ⟨j + 1, ao, c, by omega, by go_num, by rw [hst2.out], hS1, hR1, (show World.ownsRow _ _ _ _ _ _ _ by rw [hst2.out]; exact hO1.out), hne⟩
            case measure => simp [intOf]; omega
        · obtain rfl : j = ns.length := by omega
          have hO9 := hid hO.out
          have hS9 := hid hS.out
          clear hO hS hR
          go_wp2
          go_ret
          exact ⟨⟨_, _, rfl, hO9.out⟩, hS9.out⟩
end Go.Proofs.Ytjenkpgoggmboaa

/- Verdict of package solve. -/
namespace Go.Proofs.Ytjenkpgoggmboaa
open Go.RowKit

theorem ret_ve {w : World} {fn : Func} {t r : Tmp} (hfn : fn.results = #[.cell t 41, .tmp r]) {tmps : Array Value} {q : Nat} {u0 u1 v2 : Value} (h4 : tmps[t]?.getD undef = .pointer (some ⟨q, 0, none⟩)) (h6 : tmps[r]?.getD undef = v2) (hq : w.heap[q]? = some (.cells #[u0, u1] 41)) : (results fn tmps).run Try.prog w = .ok (.tuple #[.agg #[u0, u1], v2]) w := by
  obtain ⟨⟨z0, z1⟩, _⟩ := blk2y hq
  simp [results, hfn, go_sem, h4, h6, z0, z1]
abbrev veZ : Obj := .cells #[.int .i64 0, .slice none 0 0] 41
/-- The box of the graph and that of the answer. -/
structure Vb (W : World) (nv rv : Value) (w : World) : Prop where
  g : w.heap[W.heap.size]? = some (.cells #[nv, rv] 25)
  r : w.heap[W.heap.size + 1]? = some veZ
  b : Below W.heap.size W w
theorem Vb.new (W : World) (nv rv : Value) : Vb W nv rv ((W.alloc (.cells #[nv, rv] 25)).alloc veZ) := by
  have h1 := heap_alloc_new (W.alloc (.cells #[nv, rv] 25)) veZ
  rw [show (W.alloc (.cells #[nv, rv] 25)).heap.size = W.heap.size + 1 by simp] at h1
  exact ⟨(Below.heap_alloc _ _ _ (by simp)).trans (heap_alloc_new W _), h1, (below_alloc W _).alloc (by simp) _⟩
theorem Vb.next {W w w' : World} {nv rv : Value} (h : Vb W nv rv w) (hb : Below w.heap.size w w') : Vb W nv rv w' :=
  ⟨(hb.block _ (lt_of_block h.g)).trans h.g, (hb.block _ (lt_of_block h.r)).trans h.r, Below.next h.b hb⟩
theorem Vb.fin {W w : World} {nv rv : Value} (h : Vb W nv rv w) (u0 u1 : Value) : ((w.setCell ⟨W.heap.size + 1, 0, none⟩ u0).setCell ⟨W.heap.size + 1, 1, none⟩ u1).heap[W.heap.size + 1]? = some (.cells #[u0, u1] 41) ∧ Below W.heap.size W ((w.setCell ⟨W.heap.size + 1, 0, none⟩ u0).setCell ⟨W.heap.size + 1, 1, none⟩ u1) :=
  ⟨blk2_set h.r, (h.b.setCell (p := ⟨W.heap.size + 1, 0, none⟩) (Nat.le_succ _) _).setCell (p := ⟨W.heap.size + 1, 1, none⟩) (Nat.le_succ _) _⟩
theorem er_keepV {w : World} {q : Nat} {u0 u1 : Value} (hq : w.heap[q]? = some veZ) : ∀ {fs : Fs} {ev : Value}, Er w ev fs → Er ((w.setCell ⟨q, 0, none⟩ u0).setCell ⟨q, 1, none⟩ u1) ev fs
  | [], _, h => h
  | _ :: _, _, ⟨h0, b, ev, he, hb, hr⟩ => ⟨h0, b, ev, he, by
      have hne : b ≠ q := fun e => by
        subst e
        rw [hq] at hb
        injection hb with hb
        injection hb with _ hb
        exact absurd hb (by decide)
      rw [Below.heap_setCell _ _ _ _ hne, Below.heap_setCell _ _ _ _ hne]
      exact hb, er_keepV hq hr⟩
set_option maxRecDepth 100000 in
set_option maxHeartbeats 4000000 in
theorem verdict_bad {W : World} {nv rv pv : Value} {g : Gf} {ps : List (Int × Int)} (hG : Gr W nv rv g) (hS : Sized g) (hP : Rp W pv ps) (hl : ps.length ≤ 5000) (hc : chkS g ps ≠ []) :
    Calls Try.prog 15 #[.agg #[nv, rv], pv] W fun e w' => (∃ ev, e = .returned (.tuple #[.agg #[.int .i64 0, .slice none 0 0], ev]) ∧ Er w' ev (chkS g ps)) ∧ Below W.heap.size W w' := by
  obtain ⟨na, nc, rfl, _⟩ := hG.1
  obtain ⟨ra, rc, rfl, _⟩ := hG.2
  have hB := Vb.new W (.slice na g.nodes.length nc) (.slice ra g.roots.length rc)
  have hck := checked_any (hG.below hB.b) hS (hP.below hB.b) hl
  have hnil : Hid (∀ (w1 : World) (ev : Value), Er w1 ev (chkS g ps) → ∃ b, ev = .iface 75 (.pointer (some ⟨b, 0, none⟩))) := fun w1 ev h => by
    rcases h.isNil with ⟨h1, _⟩ | ⟨_, h2⟩
    · exact absurd h1 hc
    · exact h2
  have HB := hid hB
  clear hG hP hS hc hB
  go_enter Try.func15, Try.ntmps15
  go_wp2_with (go_at_call 34; go_must (refine hck.mono ?_; clear hck; rintro e w1 ⟨⟨ev, rfl, hev⟩, hb1⟩; obtain ⟨fb, rfl⟩ := hnil.out w1 ev hev; have HB1 := hid (HB.out.next hb1); have hE1 := hid hev; have hr1 := HB1.out.r; have zr1 := lt_of_block hr1; obtain ⟨⟨s0, s1⟩, s2, s3⟩ := blk2y hr1; clear hev hb1 hr1))
  obtain ⟨g1, g2⟩ := HB1.out.fin (.int .i64 0) (.slice none 0 0)
  exact bodyPost_ret (ret_ve Try.results15 (by rfl) (by rfl) g1) rfl ⟨⟨_, rfl, er_keepV HB1.out.r hE1.out⟩, g2⟩
set_option maxRecDepth 100000 in
set_option maxHeartbeats 4000000 in
theorem verdict_no {W : World} {nv rv pv : Value} {g : Gf} {ps : List (Int × Int)} (hG : Gr W nv rv g) (hS : Sized g) (hP : Rp W pv ps) (hl : ps.length ≤ 5000) (hc : chkS g ps = []) (hn : NoSol g.nodes (ps.map natP)) :
    Calls Try.prog 15 #[.agg #[nv, rv], pv] W fun e w' => e = .returned (.tuple #[.agg #[.int .i64 1, .slice none 0 0], .nilIface]) ∧ Below W.heap.size W w' := by
  obtain ⟨hg, hpg⟩ := chkS_good hc
  have hA := goodA_of hg
  obtain ⟨na, nc, rfl, _⟩ := hG.1
  obtain ⟨ra, rc, rfl, _⟩ := hG.2
  have hB := Vb.new W (.slice na g.nodes.length nc) (.slice ra g.roots.length rc)
  have hck := checked_any (hG.below hB.b) hS (hP.below hB.b) hl
  rw [hc] at hck
  have hN : g.nodes.length ≤ 10000 := by have := hg.nodes; omega
  have hap := hid (fun w1 (hb : Below W.heap.size W w1) => apart_any (w := w1) (hG.below hb).1 hN)
  have hal : Hid (∀ (w1 w2 : World) (mb : Nat) (lv : Value) (L : List Nat), Below W.heap.size W w1 → Mg w1 w2 mb (.slice na g.nodes.length nc) lv g.nodes L → Ld L id → Calls Try.prog 36 #[.pointer (some ⟨mb, 0, none⟩), pv] w2 fun e w' => e = .returned (.bool false) ∧ Below w1.heap.size w1 w') := fun w1 w2 mb lv L hb hm hl' => by
    refine (all_any hm hl' hA hN (Un.init _) (hP.below hb) hpg hl).mono ?_
    rintro e w' (⟨rfl, E, hU, _⟩ | ⟨rfl, _, hb', _⟩)
    · obtain ⟨h1, h2, _⟩ := hU.done
      exact absurd (hn _ h1 h2) (fun h => h)
    · exact ⟨rfl, hb'⟩
  have HB := hid hB
  clear hG hP hS hc hB hg hpg hA hn
  go_enter Try.func15, Try.ntmps15
  go_wp2_with (first
    | (go_at_call 34; go_must (refine hck.mono ?_; clear hck; rintro e w1 ⟨⟨ev, rfl, hev⟩, hb1⟩; have hev1 : ev = .nilIface := hev; subst hev1; have HB1 := hid (HB.out.next hb1); have hg1 := HB1.out.g; have zg1 := lt_of_block hg1; obtain ⟨⟨s0, s1⟩, _⟩ := blk2y hg1; clear hev hb1 hg1))
    | (go_at_call 35; go_must (refine (hap.out _ HB1.out.b).mono ?_; rintro e w2 ⟨mb, lv, L, rfl, hm, hld⟩; have hcall := hid (hal.out w1 w2 mb lv L HB1.out.b hm hld); clear hm hld))
    | (go_at_call 36; go_must (refine hcall.out.mono ?_; rintro e w3 ⟨rfl, hb3⟩; have HB3 := hid (HB1.out.next hb3); have hr3 := HB3.out.r; have zr3 := lt_of_block hr3; obtain ⟨⟨t0, t1⟩, t2, t3⟩ := blk2y hr3; clear hr3 hb3)))
  obtain ⟨g1, g2⟩ := HB3.out.fin (.int .i64 1) (.slice none 0 0)
  exact bodyPost_ret (ret_ve Try.results15 (by rfl) (by rfl) g1) rfl ⟨rfl, g2⟩
set_option maxRecDepth 100000 in
set_option maxHeartbeats 4000000 in
theorem verdict_yes {W : World} {nv rv pv : Value} {g : Gf} {ps : List (Int × Int)} (hG : Gr W nv rv g) (hS : Sized g) (hP : Rp W pv ps) (hl : ps.length ≤ 5000) (hc : chkS g ps = []) (hn : ¬ NoSol g.nodes (ps.map natP)) :
    Calls Try.prog 15 #[.agg #[nv, rv], pv] W fun e w' => (∃ E ao c, Un g.nodes (ps.map natP) E [] ∧ e = .returned (.tuple #[.agg #[.int .i64 (if (hangF g.nodes E g.nodes.length).length = 0 then 2 else 3), .slice ao (hangF g.nodes E g.nodes.length).length c], .nilIface]) ∧ w'.ownsRow W.heap.size 3 1 (.slice ao (hangF g.nodes E g.nodes.length).length c) (hangF g.nodes E g.nodes.length).length ((ints (hangF g.nodes E g.nodes.length)).map (Value.int .i64))) ∧ Below W.heap.size W w' := by
  obtain ⟨hg, hpg⟩ := chkS_good hc
  have hA := goodA_of hg
  obtain ⟨na, nc, rfl, _⟩ := hG.1
  obtain ⟨ra, rc, rfl, _⟩ := hG.2
  have hB := Vb.new W (.slice na g.nodes.length nc) (.slice ra g.roots.length rc)
  have hck := checked_any (hG.below hB.b) hS (hP.below hB.b) hl
  rw [hc] at hck
  have hN : g.nodes.length ≤ 10000 := by have := hg.nodes; omega
  have hap := hid (fun w1 (hb : Below W.heap.size W w1) => apart_any (w := w1) (hG.below hb).1 hN)
  have hal : Hid (∀ (w1 w2 : World) (mb : Nat) (lv : Value) (L : List Nat), Below W.heap.size W w1 → Mg w1 w2 mb (.slice na g.nodes.length nc) lv g.nodes L → Ld L id → Calls Try.prog 36 #[.pointer (some ⟨mb, 0, none⟩), pv] w2 fun e w' => e = .returned (.bool true) ∧ Below w1.heap.size w1 w' ∧ ∃ E, Un g.nodes (ps.map natP) E [] ∧ ∃ L, Mg w1 w' mb (.slice na g.nodes.length nc) lv g.nodes L ∧ Ld L E) := fun w1 w2 mb lv L hb hm hl' => by
    refine (all_any hm hl' hA hN (Un.init _) (hP.below hb) hpg hl).mono ?_
    rintro e w' (⟨rfl, E, hU, hL⟩ | ⟨rfl, h1, _, _⟩)
    · obtain ⟨L2, h3, h4⟩ := hL.mg
      exact ⟨rfl, h3.bel, E, hU, L2, h3, h4⟩
    · exact absurd h1 hn
  have hhg : Hid (∀ (w1 w2 : World) (mb : Nat) (lv : Value) (L : List Nat) (E : Nat → Nat), Mg w1 w2 mb (.slice na g.nodes.length nc) lv g.nodes L → Ld L E → Calls Try.prog 44 #[.pointer (some ⟨mb, 0, none⟩)] w2 fun e w' => (∃ ao c, e = .returned (.slice ao (hangF g.nodes E g.nodes.length).length c) ∧ w'.ownsRow w2.heap.size 3 1 (.slice ao (hangF g.nodes E g.nodes.length).length c) (hangF g.nodes E g.nodes.length).length ((ints (hangF g.nodes E g.nodes.length)).map (Value.int .i64))) ∧ Below w1.heap.size w1 w') := fun w1 w2 mb lv L E hm hl' => (shang_any hm hl' hN).mono (fun e w' ⟨h1, h2⟩ => ⟨h1, h2.bel⟩)
  have HB := hid hB
  clear hG hP hS hc hB hg hpg hA hn
  go_enter Try.func15, Try.ntmps15
  have hsplit : Hid (∀ (w3 : World) (E : Nat → Nat) (H : List Nat), H = hangF g.nodes E g.nodes.length → (H = [] ∨ ¬ ((H.length : Int) = 0))) := fun _ _ H _ => by
    cases H with
    | nil => exact Or.inl rfl
    | cons a r => exact Or.inr (by simp; omega)
  go_wp2_with (first
    | (go_at_call 34; go_must (refine hck.mono ?_; clear hck; rintro e w1 ⟨⟨ev, rfl, hev⟩, hb1⟩; have hev1 : ev = .nilIface := hev; subst hev1; have HB1 := hid (HB.out.next hb1); have hg1 := HB1.out.g; have zg1 := lt_of_block hg1; obtain ⟨⟨s0, s1⟩, _⟩ := blk2y hg1; clear hev hb1 hg1))
    | (go_at_call 35; go_must (refine (hap.out _ HB1.out.b).mono ?_; rintro e w2 ⟨mb, lv, L, rfl, hm, hld⟩; have hcall := hid (hal.out w1 w2 mb lv L HB1.out.b hm hld); clear hm hld))
    | (go_at_call 36; go_must (refine hcall.out.mono ?_; rintro e w3 ⟨rfl, hb3, E, hU, L3, hm3, hl3⟩; have HB3 := hid (HB1.out.next hb3); have hU3 := hid hU; have hch := hid (hhg.out w1 w3 mb lv L3 E hm3 hl3); have hs3 := hid (lt_of_block HB3.out.r); clear hb3 hU hm3 hl3))
    | (go_at_call 44; go_must (refine hch.out.mono ?_; rintro e w4 ⟨⟨ao, c, rfl, hrow⟩, hb4⟩; have HB4 := hid (HB1.out.next hb4); have hrow' := hid hrow; have hr4 := HB4.out.r; have zr4 := lt_of_block hr4; obtain ⟨⟨t0, t1⟩, t2, t3⟩ := blk2y hr4; clear hrow hb4 hr4; have hU3' := hid hU3.out; clear hU3; generalize hH : hangF g.nodes E g.nodes.length = H at *; have hHs := hsplit.out w4 E H hH.symm; clear hsplit)))
  · rename_i hz
    have hH0 : H = [] := by
      rcases hHs with h | h
      · exact h
      · exact absurd (by simpa using hz) h
    obtain ⟨g1, g2⟩ := HB4.out.fin (.int .i64 2) (.slice none 0 0)
    exact bodyPost_ret (ret_ve Try.results15 (by rfl) (by rfl) g1) rfl ⟨⟨E, none, 0, hU3'.out, by rw [hH, hH0]; rfl, by rw [hH, hH0]; exact World.ownsRow_nil _ _ _ _⟩, g2⟩
  · rename_i hz
    have hH0 : ¬ H.length = 0 := fun h => by rw [h] at hz; exact absurd hz (by decide)
    obtain ⟨g1, g2⟩ := HB4.out.fin (.int .i64 3) (.slice ao H.length c)
    have hrow4 : ((w4.setCell ⟨W.heap.size + 1, 0, none⟩ (.int .i64 3)).setCell ⟨W.heap.size + 1, 1, none⟩ (.slice ao H.length c)).ownsRow W.heap.size 3 1 (.slice ao H.length c) H.length ((ints H).map (Value.int .i64)) := by
      have h3 := hs3.out
      refine own_base (B := w3.heap.size) (row_keep (w := w4) hrow'.out (fun k hk => ?_)) (by omega)
      have h4 := (hrow'.out.lt k hk).1
      rw [Below.heap_setCell _ _ _ _ (by show k ≠ W.heap.size + 1; omega), Below.heap_setCell _ _ _ _ (by show k ≠ W.heap.size + 1; omega)]
    exact bodyPost_ret (ret_ve Try.results15 (by rfl) (by rfl) g1) rfl ⟨⟨E, ao, c, hU3'.out, by rw [hH, if_neg hH0]; rfl, by rw [hH]; exact hrow4⟩, g2⟩
end Go.Proofs.Ytjenkpgoggmboaa

/- with of package tendrillaw10. -/
namespace Go.Proofs.Ytjenkpgoggmboaa
open Go.RowKit

/-- The roots, and both of each pair behind them. -/
def withR (rs : List Int) : List (Int × Int) → List Int
  | [] => rs
  | p :: r => withR (rs ++ [p.1, p.2]) r
theorem withR_snoc : ∀ (rs : List Int) (ps : List (Int × Int)) (p : Int × Int), withR rs (ps ++ [p]) = withR rs ps ++ [p.1, p.2]
  | _, [], _ => rfl
  | rs, q :: r, p => withR_snoc (rs ++ [q.1, q.2]) r p
theorem withR_len : ∀ (rs : List Int) (ps : List (Int × Int)), (withR rs ps).length = rs.length + 2 * ps.length
  | rs, [] => by simp [withR]
  | rs, q :: r => by
    unfold withR
    rw [withR_len]
    simp
    omega
set_option maxRecDepth 100000 in
/-- Numbers, or none, are appended. -/
theorem iapp {w : World} {B : Nat} {ao : Option Addr} {n c : Nat} {xs : List Value} (hown : w.ownsRow B 3 1 (.slice ao n c) n xs) (hB : B ≤ w.heap.size) {v : Value} {l : List Int} (h : Ri w v l) (hn : n ≤ 100000) (hl : l.length ≤ 100000) :
    ∃ ao' c' w', (∀ ty, (Builtin.append_ #[23, 23] ty #[.slice ao n c, v]).run Try.prog w = .ok (.slice ao' (n + l.length) c') w') ∧ w'.ownsRow B 3 1 (.slice ao' (n + l.length) c') (n + l.length) (xs ++ l.map (Value.int .i64)) ∧ w.grownBy w' (Value.slice ao n c).ownBlock := by
  obtain ⟨i0, hi, hz0, hz1, hz2⟩ := info_parts infoI
  obtain ⟨ra, rc, rfl, hc⟩ := h
  by_cases h0 : 0 < l.length
  · obtain ⟨b, o, rfl, _⟩ := hc 0 h0
    obtain ⟨g, cap, w', hr, ho, hg, _⟩ := run_append_lies (P := Try.prog) w 23 0 B 3 i0 (.int .i64 0) 1 8 Try.underlying23 hi hz0 hz1 hz2 rfl (by decide) _ n xs hown ⟨b, o, none⟩ l.length rc (l.map (Value.int .i64)) (by simp) (fun j u hu => by
      have hj : j < l.length := by have := (List.getElem?_eq_some_iff.1 hu).1; simpa using this
      obtain ⟨b', o', e, h6⟩ := hc j hj
      injection e with e
      injection e with e1 e2
      subst e1 e2
      rw [Addr.add_lit, h6, ← hu]
      simp [List.getD, hj]) (fun u hu => by
      obtain ⟨x, _, rfl⟩ := List.mem_map.1 hu
      rfl) h0 (by unfold maxLen; omega) (by omega) hB _ rfl
    exact ⟨_, _, w', fun ty => hr, ho, hg⟩
  · have el : l = [] := List.eq_nil_of_length_eq_zero (by omega)
    subst el
    have hr := run_app_empty (P := Try.prog) B 23 0 3 i0 1 Try.underlying23 hi _ n xs hown ra rc
    refine ⟨ao, c, w, fun ty => hr, ?_, ⟨rfl, rfl, rfl, Nat.le_refl _, fun _ _ _ => rfl⟩⟩
    simpa using hown
set_option maxRecDepth 100000 in
set_option maxHeartbeats 8000000 in
theorem with_any {W : World} {nv rv pv : Value} {g : Gf} {ps : List (Int × Int)} (hG : Gr W nv rv g) (hP : Rp W pv ps) (hr : g.roots.length ≤ 5000) (hl : ps.length ≤ 5000) :
    Calls Try.prog 23 #[.agg #[nv, rv], pv] W fun e w' => (∃ ao c, e = .returned (.agg #[nv, .slice ao (withR g.roots ps).length c]) ∧ Ri w' (.slice ao (withR g.roots ps).length c) (withR g.roots ps)) ∧ Below W.heap.size W w' := by
  obtain ⟨i0, hi, hz0, hz1, hz2⟩ := info_parts infoI
  have HP := hid hP
  have HG := hid hG
  obtain ⟨na, nc, rfl, _⟩ := hG.1
  obtain ⟨ra, rc, rfl, _⟩ := hG.2
  obtain ⟨pa, pc, rfl, _⟩ := hP
  have hB := Sb.new W (.slice na g.nodes.length nc) (.slice ra g.roots.length rc)
  have hlit := World.ownsRow_lit (base := W.heap.size + 1 + 1) (e := 3) (size := 1) ((W.alloc (.cells #[.slice na g.nodes.length nc, .slice ra g.roots.length rc] 25)).alloc grZ) #[] 0 (by simp) (by unfold maxLen; omega) (by simp)
  have hB2 := hB.next (below_alloc _ (.cells #[] 3))
  obtain ⟨a1, c1, w1, hrun, ho1, hg1⟩ := iapp hlit (by simp) (hG.below hB2.b).2 (by omega) (by omega)
  have hb1 : Hid (Sb W (.slice na g.nodes.length nc) (.slice ra g.roots.length rc) w1) := hB.next (((Below.refl _ _).alloc (Nat.le_refl _) _).grown hg1 (by simp) (fun k hk => by
    have := (hlit.lt k hk).1
    simp
    omega))
  rw [Nat.zero_add, List.nil_append] at ho1
  rw [Nat.zero_add] at hrun
  have hrow0 : Hid (w1.ownsRow (W.heap.size + 1 + 1) 3 1 (.slice a1 (withR g.roots (ps.take 0)).length c1) (withR g.roots (ps.take 0)).length ((withR g.roots (ps.take 0)).map (Value.int .i64))) := ho1
  have hlen0 : (withR g.roots (ps.take 0)).length = g.roots.length := rfl
  clear hG hB hB2 hlit hg1 ho1
  have hsz2 : ((W.alloc (.cells #[.slice na g.nodes.length nc, .slice ra g.roots.length rc] 25)).alloc grZ).heap.size = W.heap.size + 1 + 1 := by simp
  rw [hsz2] at hrun
  go_enter Try.func23, Try.ntmps23
  go_wp2_with (at_builtin; refine Lib.wpList_append_run _ rfl _ _ _ _ rfl _ _ rfl rfl _ _ (hrun _) ?_)
  clear hrun hsz2 hlen0
  go_loopw [5, 14] (fun x i wr => ∃ (j : Nat) (ao : Option Addr) (c : Nat), j ≤ ps.length ∧ i = .int .i64 (j : Int) ∧ x = .slice ao (withR g.roots (ps.take j)).length c ∧ Hid (Sb W (.slice na g.nodes.length nc) (.slice ra g.roots.length rc) wr) ∧ Hid (wr.ownsRow (W.heap.size + 1 + 1) 3 1 (.slice ao (withR g.roots (ps.take j)).length c) (withR g.roots (ps.take j)).length ((withR g.roots (ps.take j)).map (Value.int .i64)))) (fun _ i _ => ps.length - (intOf i).toNat)
  case atStart => exact ⟨0, a1, c1, Nat.zero_le _, rfl, rfl, hb1, hrow0⟩
  case round =>
    clear hb1 hrow0
    obtain ⟨j, ao, c, hj, rfl, rfl, hS, hO⟩ := hrel
    by_cases hlt : j < ps.length
    · have hji : (j : Int) < (ps.length : Int) := by omega
      obtain ⟨pa', pc', e, hpc⟩ := HP.out.below hS.out.b
      injection e with e1 _ e3
      subst e1 e3
      obtain ⟨b, o, rfl, p0, p1⟩ := hpc j hlt
      have zb := lt_of_cell p0
      have hst : Hid (withR g.roots (ps.take (j + 1)) = withR g.roots (ps.take j) ++ [(ps.getD j (0, 0)).1, (ps.getD j (0, 0)).2]) := show _ = _ by
        rw [List.take_add_one, ← withR_snoc]
        simp [List.getD, hlt]
      have hlj : (withR g.roots (ps.take j)).length ≤ 20000 := by rw [withR_len, List.length_take]; omega
      generalize ps.getD j (0, 0) = pr at *
      obtain ⟨x, y⟩ := pr
      dsimp only at p0 p1 hst
      have hS1 := hid (hS.out.next (below_alloc wr (.cells #[.int .i64 x, .int .i64 y] 52)))
      have hO1 := World.ownsRow.alloc (World.ownsRow.alloc hO.out (.cells #[.int .i64 x, .int .i64 y] 52)) (.cells #[.int .i64 x, .int .i64 y] 3)
      have hszr : W.heap.size + 1 + 1 ≤ wr.heap.size := by have := lt_of_block hS.out.r; omega
      have hlo : Hid (∀ k, (Value.slice ao (withR g.roots (ps.take j)).length c).ownBlock = some k → W.heap.size + 1 + 1 ≤ k) := fun k hk => (hO.out.lt k hk).1
      clear hpc hO hS
      generalize withR g.roots (ps.take j) = R at *
      go_wp2_with (at_builtin; go_must (refine wpList_append_lies _ rfl _ _ 23 rfl (W.heap.size + 1 + 1) 3 i0 (.int .i64 0) 1 8 Try.underlying23 hi hz0 hz1 hz2 rfl (by decide) _ R.length _ rfl hO1 ⟨wr.heap.size + 1, 0, none⟩ 2 2 [.int .i64 x, .int .i64 y] rfl rfl (World.news_of_block (cs := #[.int .i64 x, .int .i64 y]) (t := 3) (fr := (0, 0)) (by have h9 := heap_alloc_new (wr.alloc (.cells #[.int .i64 x, .int .i64 y] 52)) (.cells #[.int .i64 x, .int .i64 y] 3); simpa using h9)) (by simp [Value.oneCell']) (by decide) (by unfold maxLen; omega) (by omega) (by simp; omega) _ rfl ?_; intro g6 cap w6 hown6 hg6 hat6 hlt6))
      have hS6 : Hid (Sb W (.slice na g.nodes.length nc) (.slice ra g.roots.length rc) w6) := by
        have h1 := hS1.out
        have hb6 : Below (W.heap.size + 1 + 1) (wr.alloc (.cells #[.int .i64 x, .int .i64 y] 52)) w6 := ((Below.refl _ _).alloc (by simp; omega) _).grown hg6 (by simp; omega) (fun k hk => hlo.out k hk)
        exact ⟨(hb6.block _ (by omega)).trans h1.g, (hb6.block _ (by omega)).trans h1.r, h1.b.trans (hb6.mono (by omega))⟩
      go_roundw
      case rel => exact ⟨j + 1, some ⟨g6, 0, none⟩, cap, by omega, by go_num, by rw [hst.out, List.length_append]; rfl, hS6, (show World.ownsRow _ _ _ _ _ _ _ by rw [hst.out, List.length_append, List.map_append]; exact hown6)⟩
      case measure => simp [intOf]; omega
    · obtain rfl : j = ps.length := by omega
      have hO9 := hid hO.out
      rw [List.take_length] at hO9 ⊢
      have hgx := hS.out.g
      have hrx := hS.out.r
      have zg := lt_of_block hgx
      have zr := lt_of_block hrx
      obtain ⟨⟨g0, g1⟩, _⟩ := blk2y hgx
      obtain ⟨⟨t0, t1⟩, t2, t3⟩ := blk2y hrx
      have hS9 := hid hS.out
      clear hgx hrx hO hS
      go_wp2
      obtain ⟨f1, f2⟩ := hS9.out.fin (.slice na g.nodes.length nc) (.slice ao (withR g.roots ps).length c)
      have hrow9 := row_keep (w' := ((wr.setCell ⟨W.heap.size + 1, 0, none⟩ (.slice na g.nodes.length nc)).setCell ⟨W.heap.size + 1, 1, none⟩ (.slice ao (withR g.roots ps).length c))) hO9.out (fun k hk => by
        have h4 := (hO9.out.lt k hk).1
        rw [Below.heap_setCell _ _ _ _ (by show k ≠ W.heap.size + 1; omega), Below.heap_setCell _ _ _ _ (by show k ≠ W.heap.size + 1; omega)])
      exact bodyPost_ret (ret_sgr Try.results23 (by rfl) f1) rfl ⟨⟨ao, c, rfl, Ri.ofOwn hrow9⟩, f2⟩
end Go.Proofs.Ytjenkpgoggmboaa

/- The size of graphs: Small of package tendrilhand. -/
namespace Go.Proofs.Ytjenkpgoggmboaa
open Go.RowKit

/-- Is a graph small? -/
def smallK (K : Nat) (g : Gf) : Bool := decide (g.nodes.length ≤ K) && decide (g.roots.length ≤ K) && g.nodes.all (fun n => decide (n.args.length ≤ 40))
theorem smallK_fits {K : Nat} {g : Gf} (h : smallK K g = true) : (∀ n ∈ g.nodes, n.args.length ≤ 40) ∧ g.nodes.length ≤ K ∧ g.roots.length ≤ K := by
  simp only [smallK, Bool.and_eq_true, decide_eq_true_eq, List.all_eq_true] at h
  obtain ⟨⟨h1, h2⟩, h3⟩ := h
  exact ⟨fun n hn => h3 n hn, h1, h2⟩
set_option maxRecDepth 100000 in
set_option maxHeartbeats 2000000 in
theorem smallK_any {K : Nat} (hK : K ≤ 5000) {W : World} {nv rv : Value} {g : Gf} (hG : Gr W nv rv g) :
    Calls Try.prog 22 #[.agg #[nv, rv], .int .i64 (K : Int)] W fun e w' => e = .returned (.bool (smallK K g)) ∧ Below W.heap.size W w' := by
  obtain ⟨l, lr⟩ := g
  obtain ⟨ua, uc, rfl, hu⟩ := hG.1
  obtain ⟨ra, rc, rfl, _⟩ := hG.2
  dsimp only at hu ⊢
  have hE := hid (show smallK K ⟨l, lr⟩ = (decide (l.length ≤ K) && decide (lr.length ≤ K) && l.all (fun n => decide (n.args.length ≤ 40))) from rfl)
  generalize smallK K ⟨l, lr⟩ = R at hE ⊢
  by_cases h1 : K < l.length
  · have h1' : (K : Int) < (l.length : Int) := by omega
    have hR := hid (show R = false by rw [hE.out, decide_eq_false (by omega : ¬ l.length ≤ K)]; rfl)
    clear hE hu hG
    go_enter Try.func22, Try.ntmps22
    go_wp2
    go_ret
    exact ⟨ret_bool hR.out.symm, below_alloc _ _⟩
  · by_cases h2 : K < lr.length
    · have h1' : ¬ (K : Int) < (l.length : Int) := by omega
      have h2' : (K : Int) < (lr.length : Int) := by omega
      have hR := hid (show R = false by rw [hE.out, decide_eq_false (by omega : ¬ lr.length ≤ K)]; simp)
      clear hE hu hG
      go_enter Try.func22, Try.ntmps22
      go_wp2
      go_ret
      exact ⟨ret_bool hR.out.symm, below_alloc _ _⟩
    · have h1' : ¬ (K : Int) < (l.length : Int) := by omega
      have h2' : ¬ (K : Int) < (lr.length : Int) := by omega
      go_enter Try.func22, Try.ntmps22
      go_wp2
      go_loopw [22] (fun i wr => ∃ k : Nat, k ≤ l.length ∧ i = .int .i64 k ∧ Hid (Below W.heap.size W wr) ∧ Hid (∀ j, j < k → (l.getD j nd0).args.length ≤ 40)) (fun i _ => l.length - (intOf i).toNat)
      case atStart => exact ⟨0, Nat.zero_le _, rfl, below_alloc _ _, fun j hj => absurd hj (Nat.not_lt_zero _)⟩
      case round =>
        obtain ⟨k, hk, rfl, hb, hp⟩ := hrel
        by_cases hlt : k < l.length
        · obtain ⟨ub, uo, uav, rfl, hcu⟩ := hu k hlt
          obtain ⟨p0, p1, p2, p3, hA⟩ := hcu.below hb.out
          obtain ⟨aa, ac, rfl, _⟩ := hA
          have hin : l.getD k nd0 ∈ l := by simp [List.getD, hlt]
          have hlp := lt_of_cell p0
          by_cases h40 : 40 < (l.getD k nd0).args.length
          · have hR := hid (show R = false by
              rw [hE.out]
              have : l.all (fun n => decide (n.args.length ≤ 40)) = false := List.all_eq_false.2 ⟨_, hin, by simpa using h40⟩
              rw [this]
              simp)
            clear hin hcu hu hp hE hG
            generalize l.getD k nd0 = x at p0 p1 p2 p3 h40
            obtain ⟨xk, xs, xn, xl⟩ := x
            dsimp only at p0 p1 p2 p3 h40
            have h40' : (40 : Int) < (xl.length : Int) := by omega
            go_wp2
            go_ret
            exact ⟨ret_bool hR.out.symm, hb.out.alloc hb.out.size _⟩
          · have hp' : Hid (∀ j, j < k + 1 → (l.getD j nd0).args.length ≤ 40) := fun j hj => by
              rcases Nat.lt_or_eq_of_le (Nat.le_of_lt_succ hj) with h | h
              · exact hp.out j h
              · subst h; omega
            clear hin hcu hu hp hE hG
            generalize l.getD k nd0 = x at p0 p1 p2 p3 h40
            obtain ⟨xk, xs, xn, xl⟩ := x
            dsimp only at p0 p1 p2 p3 h40
            have h40' : ¬ (40 : Int) < (xl.length : Int) := by omega
            go_wp2
            go_roundw
            case rel => exact ⟨k + 1, by omega, congrArg (Value.int .i64) (by omega), hb.out.alloc hb.out.size _, hp'⟩
            case measure => simp [intOf]; omega
        · have hR := hid (show R = true by
            rw [hE.out, decide_eq_true (by omega : l.length ≤ K), decide_eq_true (by omega : lr.length ≤ K)]
            simp only [Bool.true_and, List.all_eq_true, decide_eq_true_eq]
            intro n hn
            obtain ⟨i, hi, rfl⟩ := List.getElem_of_mem hn
            have := hp.out i (by omega)
            simpa [List.getD, hi] using this)
          clear hE hu hG hp
          go_wp2
          go_ret
          exact ⟨ret_bool hR.out.symm, hb.out⟩
end Go.Proofs.Ytjenkpgoggmboaa
