/- The fixed fact of layer 10. -/
import Derived.Test.YtfddipbdlkodaaaSBZ
import Derived.Test.YtfddipbdlkodaaaSCZ
import Derived.Test.YtfddipbdlkodaaaGrSmall
namespace Go.Proofs.Ytfddipbdlkodaaa
open Go.RowKit

abbrev fS : ByteArray := ⟨#[102]⟩
abbrev aS : ByteArray := ⟨#[97]⟩
/-- The graph that is asked, and what it becomes. -/
def g0S : Gf := ⟨[⟨1, ⟨#[]⟩, 0, []⟩, ⟨4, fS, 0, [0]⟩, ⟨2, aS, 0, []⟩], [0]⟩
def g1S : Gf := ⟨[⟨1, ⟨#[]⟩, 0, []⟩, ⟨4, fS, 0, [1]⟩, ⟨2, aS, 0, []⟩], [1]⟩
theorem g0_good : Good g0S := by
  have hf : goodS fS = true := by decide
  have ha : goodS aS = true := by decide
  refine ⟨by decide, by decide, fun n hn => ?_, fun x hx => ?_⟩
  · have h : n = ⟨1, ⟨#[]⟩, 0, []⟩ ∨ n = ⟨4, fS, 0, [0]⟩ ∨ n = ⟨2, aS, 0, []⟩ := by simpa [g0S] using hn
    rcases h with rfl | rfl | rfl
    · simp [goodNd, ByteArray.toList_eq]
    · simp [goodNd, hf, strange, g0S]
    · simp [goodNd, ha]
  · have h : x = 0 := by simpa [g0S] using hx
    subst h
    decide
theorem chk0 : chkS g0S [(0, 1)] = [] := by
  unfold chkS
  rw [if_pos (chk_of_good g0_good)]
  simp [ixOf, badP, strange, g0S]
theorem chk1 : chkS g0S [(1, 2)] = [] := by
  unfold chkS
  rw [if_pos (chk_of_good g0_good)]
  simp [ixOf, badP, strange, g0S]
theorem nd_0 : ndN g0S.nodes 0 = ⟨1, ⟨#[]⟩, 0, []⟩ := rfl
theorem nd_1 : ndN g0S.nodes 1 = ⟨4, fS, 0, [0]⟩ := rfl
theorem nd_2 : ndN g0S.nodes 2 = ⟨2, aS, 0, []⟩ := rfl
theorem no1 : NoSol g0S.nodes ([((1 : Int), (2 : Int))].map natP) := fun R hR hp => by
  have h := hp (1, 2) (by simp [natP])
  have := (hR.lab 1 2 (by decide) (by decide) h (by rw [nd_1]; decide) (by rw [nd_2]; decide)).1.1
  rw [nd_1, nd_2] at this
  exact absurd this (by decide)
theorem yes0 : ¬ NoSol g0S.nodes ([((0 : Int), (1 : Int))].map natP) := fun hn => by
  refine hn (fun x y => x = y ∨ (x ≤ 1 ∧ y ≤ 1)) ⟨⟨fun x => Or.inl rfl, fun x y h => ?_, fun x y z h k => ?_⟩, fun x y hx hy h hkx hky => ?_⟩ (fun p hp => ?_)
  · rcases h with e | e
    · exact Or.inl e.symm
    · exact Or.inr ⟨e.2, e.1⟩
  · rcases h with e | e
    · subst e; exact k
    · rcases k with f | f
      · subst f; exact Or.inr e
      · exact Or.inr ⟨e.1, f.2⟩
  · have e : x = y := by
      rcases h with e | ⟨e1, e2⟩
      · exact e
      · have hx1 : x ≠ 0 := fun e => hkx (by rw [e, nd_0])
        have hy1 : y ≠ 0 := fun e => hky (by rw [e, nd_0])
        omega
    subst e
    exact ⟨labS.refl _, fun k _ => Or.inl rfl⟩
  · have e : p = (0, 1) := by simpa [natP] using hp
    subst e
    exact Or.inr ⟨by decide, by decide⟩
theorem g1_no (x y : Nat) (hx : x < 3) (hy : y < 3) (hne : x ≠ y) : ¬ Al g1S (x : Int) (y : Int) := fun h => by
  obtain ⟨_, _, ⟨h1, _, _, _, h5⟩, _⟩ := al_sim g1S _ _ h
  have ex : x = 0 ∨ x = 1 ∨ x = 2 := by omega
  have ey : y = 0 ∨ y = 1 ∨ y = 2 := by omega
  rcases ex with rfl | rfl | rfl <;> rcases ey with rfl | rfl | rfl <;> first | exact absurd rfl hne | exact absurd h1 (by decide) | exact absurd (h5 rfl) (by decide)
theorem g1_trim {e : Nat → Nat → Bool} (he : ∀ x y : Nat, (e x y = true ↔ Al g1S (x : Int) (y : Int))) : trimF (quoF e g1S) = ⟨[⟨4, fS, 0, [0]⟩], [0]⟩ := by
  have hf : ∀ x y : Nat, x < 3 → y < 3 → x ≠ y → e x y = false := fun x y hx hy hne => by
    cases h : e x y
    · rfl
    · exact absurd ((he x y).1 h) (g1_no x y hx hy hne)
  have h1 := hf 1 0 (by omega) (by omega) (by omega)
  have h2 := hf 2 0 (by omega) (by omega) (by omega)
  have h3 := hf 2 1 (by omega) (by omega) (by omega)
  have hc : csF e 3 = [0, 1, 2] ∧ lsF e 3 = [0, 1, 2] := by simp [csF, lsF, numF, fnd, h1, h2, h3]
  have c1 : clsI e 3 1 = 1 := by simp [clsI, hc.1, ints]
  have hq : quoF e g1S = g1S := by simp [quoF, g1S, hc.2, renum, c1]
  rw [hq]
  have hm : metF g1S = [1] := by simp [metF, g1S, meetF, Gf.argsOf]
  unfold trimF
  rw [hm]
  simp [g1S, renum, posF, pos]
theorem least0 {t : Gf} (h : LeastS g0S [(0, 1)] t) : t = ⟨[⟨4, fS, 0, [0]⟩], [0]⟩ := by
  obtain ⟨E, ee, hU, hd, rfl⟩ := h
  obtain ⟨_, hp, _⟩ := hU.done
  have e01 : E 0 = E 1 := hp (0, 1) (by simp [natP])
  obtain ⟨h1, h2, _⟩ := hU.rep 1 (by decide) (by rw [nd_1]; decide)
  have hr := hU.rng 1 (by decide)
  have hr3 : E 1 < 3 := hr
  have e1 : E 1 = 1 := by
    have hc : E 1 = 0 ∨ E 1 = 1 ∨ E 1 = 2 := by omega
    rcases hc with h | h | h
    · rw [h, nd_0] at h1; exact absurd rfl h1
    · exact h
    · have := h2.1
      rw [h, nd_1, nd_2] at this
      exact absurd this (by decide)
  have hg : gE g0S.nodes g0S.roots E = g1S := by
    simp [gE, g0S, g1S, renum, EI, e01, e1]
  rw [hg] at hd ⊢
  exact g1_trim hd
end Go.Proofs.Ytfddipbdlkodaaa

/- The fixed fact of layer 10: its walk. -/
namespace Go.Proofs.Ytfddipbdlkodaaa
open Go.RowKit

abbrev oA : Obj := .cells #[.int .i64 0] 3
abbrev oB (q : Nat) : Obj := .cells #[.int .i64 1, .string ⟨#[]⟩, .int .i64 0, .slice none 0 0, .int .i64 4, .string fS, .int .i64 0, .slice (some ⟨q, 0, none⟩) 1 1, .int .i64 2, .string aS, .int .i64 0, .slice none 0 0] 61
theorem gr_lit {w : World} {a b c : Nat} (ha : w.heap[a]? = some oA) (hb : w.heap[b]? = some (oB a)) (hc : w.heap[c]? = some oA) : Gr w (.slice (some ⟨b, 0, none⟩) 3 3) (.slice (some ⟨c, 0, none⟩) 1 1) g0S := by
  have hri : ∀ q, w.heap[q]? = some oA → Ri w (.slice (some ⟨q, 0, none⟩) 1 1) [0] := fun q hq => ⟨some ⟨q, 0, none⟩, 1, rfl, fun j hj => by
    have e : j = 0 := by simpa using hj
    subst e
    exact ⟨q, 0, rfl, by simp [World.cell?, hq]⟩⟩
  refine ⟨⟨some ⟨b, 0, none⟩, 3, rfl, fun j hj => ?_⟩, hri c hc⟩
  have hj3 : j = 0 ∨ j = 1 ∨ j = 2 := by
    have : j < 3 := hj
    omega
  rcases hj3 with rfl | rfl | rfl
  · exact ⟨b, 0, .slice none 0 0, rfl, by simp [World.cell?, hb, g0S], by simp [World.cell?, hb, g0S], by simp [World.cell?, hb, g0S], by simp [World.cell?, hb], Ri.nil _⟩
  · exact ⟨b, 0, .slice (some ⟨a, 0, none⟩) 1 1, rfl, by simp [World.cell?, hb, g0S], by simp [World.cell?, hb, g0S], by simp [World.cell?, hb, g0S], by simp [World.cell?, hb], hri a ha⟩
  · exact ⟨b, 0, .slice none 0 0, rfl, by simp [World.cell?, hb, g0S], by simp [World.cell?, hb, g0S], by simp [World.cell?, hb, g0S], by simp [World.cell?, hb], Ri.nil _⟩
theorem rp_lit {w : World} {q : Nat} {x y : Int} (h : w.heap[q]? = some (.cells #[.int .i64 x, .int .i64 y] 52)) : Rp w (.slice (some ⟨q, 0, none⟩) 1 1) [(x, y)] := ⟨some ⟨q, 0, none⟩, 1, rfl, fun j hj => by
  have e : j = 0 := by simpa using hj
  subst e
  exact ⟨q, 0, rfl, by simp [World.cell?, h], by simp [World.cell?, h]⟩⟩
abbrev oD (b c : Nat) : Obj := .cells #[.slice (some ⟨b, 0, none⟩) 3 3, .slice (some ⟨c, 0, none⟩) 1 1] 25
/-- The world behind the literal. -/
abbrev litW (w : World) : World := (((w.alloc oA).alloc (oB w.heap.size)).alloc oA).alloc (oD (w.heap.size + 1) (w.heap.size + 1 + 1))
structure Lt (w w' : World) : Prop where
  a : w'.heap[w.heap.size]? = some oA
  b : w'.heap[w.heap.size + 1]? = some (oB w.heap.size)
  c : w'.heap[w.heap.size + 1 + 1]? = some oA
  d : w'.heap[w.heap.size + 1 + 1 + 1]? = some (oD (w.heap.size + 1) (w.heap.size + 1 + 1))
  bel : Below w.heap.size w w'
theorem Lt.new (w : World) : Lt w (litW w) := by
  have s1 : (w.alloc oA).heap.size = w.heap.size + 1 := by simp
  have s2 : ((w.alloc oA).alloc (oB w.heap.size)).heap.size = w.heap.size + 1 + 1 := by simp
  have s3 : (((w.alloc oA).alloc (oB w.heap.size)).alloc oA).heap.size = w.heap.size + 1 + 1 + 1 := by simp
  have h1 := heap_alloc_new w oA
  have h2 := heap_alloc_new (w.alloc oA) (oB w.heap.size)
  have h3 := heap_alloc_new ((w.alloc oA).alloc (oB w.heap.size)) oA
  have h4 := heap_alloc_new (((w.alloc oA).alloc (oB w.heap.size)).alloc oA) (oD (w.heap.size + 1) (w.heap.size + 1 + 1))
  rw [s1] at h2
  rw [s2] at h3
  rw [s3] at h4
  refine ⟨?_, ?_, ?_, h4, ?_⟩
  · exact (Below.heap_alloc _ _ _ (by rw [s3]; omega)).trans ((Below.heap_alloc _ _ _ (by rw [s2]; omega)).trans ((Below.heap_alloc _ _ _ (by rw [s1]; omega)).trans h1))
  · exact (Below.heap_alloc _ _ _ (by rw [s3]; omega)).trans ((Below.heap_alloc _ _ _ (by rw [s2]; omega)).trans h2)
  · exact (Below.heap_alloc _ _ _ (by rw [s3]; omega)).trans h3
  · exact (((below_alloc w oA).alloc (by rw [s1]; omega) _).alloc (by rw [s2]; omega) _).alloc (by rw [s3]; omega) _
theorem Lt.next {w w' w'' : World} (h : Lt w w') (hb : Below w'.heap.size w' w'') : Lt w w'' :=
  ⟨(hb.block _ (lt_of_block h.a)).trans h.a, (hb.block _ (lt_of_block h.b)).trans h.b, (hb.block _ (lt_of_block h.c)).trans h.c, (hb.block _ (lt_of_block h.d)).trans h.d, Below.next h.bel hb⟩
set_option maxRecDepth 100000 in
set_option maxHeartbeats 4000000 in
theorem slives_any (w : World) : Calls Try.prog 9 #[] w fun e w' => e = .returned (.bool true) ∧ Below w.heap.size w w' := by
  have hL0 := hid (Lt.new w)
  have hs1 : Hid (∀ (w1 : World) (n : Nat), n = w1.heap.size → Lt w w1 → Calls Try.prog 11 #[.agg #[.slice (some ⟨w.heap.size + 1, 0, none⟩) 3 3, .slice (some ⟨w.heap.size + 1 + 1, 0, none⟩) 1 1], .slice (some ⟨n, 0, none⟩) 1 1] (w1.alloc (.cells #[.int .i64 0, .int .i64 1] 52)) fun e w' => Lt w w' ∧ ∃ nb no nc ra rc aa ac, e = .returned (.tuple #[.agg #[.slice (some ⟨nb, no, none⟩) 1 nc, .slice ra 1 rc], .bool true, .nilIface]) ∧ w'.cell? ⟨nb, no + 3, none⟩ = some (.slice aa 1 ac)) := fun w1 n en h1 => by
    subst en
    have hb := below_alloc w1 (.cells #[.int .i64 0, .int .i64 1] 52)
    have h2 := h1.next hb
    refine (solve_yes (ps := [(0, 1)]) (gr_lit h2.a h2.b h2.c) (good_sized g0_good) (rp_lit (heap_alloc_new w1 _)) (by simp) chk0 yes0).mono ?_
    rintro e w' ⟨⟨t, na, nc, ra, rc, avs, rfl, hLS, hO⟩, hb'⟩
    have ht := least0 hLS
    subst ht
    obtain ⟨ao, c, e1, hn⟩ := hO.gr.1
    injection e1 with e2 _ _
    subst e2
    obtain ⟨nb, no, av, rfl, _, _, _, h3, hri⟩ := hn 0 (by simp)
    obtain ⟨aa, ac, rfl, _⟩ := hri
    simp only [Nat.zero_mul, Nat.add_zero] at h3
    exact ⟨h2.next hb', nb, no, nc, ra, rc, aa, ac, rfl, h3⟩
  have hs2 : Hid (∀ (w1 : World) (n : Nat), n = w1.heap.size → Lt w w1 → Calls Try.prog 11 #[.agg #[.slice (some ⟨w.heap.size + 1, 0, none⟩) 3 3, .slice (some ⟨w.heap.size + 1 + 1, 0, none⟩) 1 1], .slice (some ⟨n, 0, none⟩) 1 1] (w1.alloc (.cells #[.int .i64 1, .int .i64 2] 52)) fun e w' => e = .returned (.tuple #[.agg #[.slice none 0 0, .slice none 0 0], .bool false, .nilIface]) ∧ Below w.heap.size w w') := fun w1 n en h1 => by
    subst en
    have hb := below_alloc w1 (.cells #[.int .i64 1, .int .i64 2] 52)
    have h2 := h1.next hb
    refine (solve_no (ps := [(1, 2)]) (gr_lit h2.a h2.b h2.c) (good_sized g0_good) (rp_lit (heap_alloc_new w1 _)) (by simp) chk1 no1).mono ?_
    rintro e w' ⟨rfl, hb'⟩
    exact ⟨rfl, (h2.next ⟨hb'.os, hb'.tape, hb'.output, hb'.size, hb'.block⟩).bel⟩
  have m1 : True := trivial
  go_enter Try.func9, Try.ntmps9
  go_wp2_with (first
    | (have _m := m1; go_at_call 11; go_must (refine (hs1.out (litW w) (w.heap.size + 1 + 1 + 1 + 1) (by simp) hL0.out).mono ?_; clear m1 _m hs1; rintro e w1 ⟨hL1, nb, no, nc, ra, rc, aa, ac, rfl, h3⟩; have z3 := lt_of_cell h3; have HL1 := hid (hL1.next (below_alloc w1 (.cells #[.slice (some ⟨nb, no, none⟩) 1 nc, .slice ra 1 rc] 25))); have hd1 := HL1.out.d; have zd := lt_of_block hd1; obtain ⟨⟨d0, d1⟩, _⟩ := blk2y hd1; have zw := lt_of_block hL1.d; clear hL1 hd1))
    | (go_at_call 11; go_must (refine (hs2.out (w1.alloc (.cells #[.slice (some ⟨nb, no, none⟩) 1 nc, .slice ra 1 rc] 25)) (w1.heap.size + 1) (by simp) HL1.out).mono ?_; rintro e w2 ⟨rfl, hb2⟩)))
  go_ret
  exact ⟨rfl, hb2⟩
end Go.Proofs.Ytfddipbdlkodaaa

/- SolveLaws, walked. -/
namespace Go.Proofs.Ytfddipbdlkodaaa
open Go.RowKit

/-- Three boxes, kept. -/
structure Tb (W : World) (n1 r1 n2 r2 n3 r3 : Value) (w : World) : Prop where
  b : Below W.heap.size W w
  x : w.heap[W.heap.size]? = some (.cells #[n1, r1] 25)
  y : w.heap[W.heap.size + 1]? = some (.cells #[n2, r2] 25)
  z : w.heap[W.heap.size + 1 + 1]? = some (.cells #[n3, r3] 25)
theorem Tb.start (W : World) (n1 r1 n2 r2 n3 r3 : Value) : Tb W n1 r1 n2 r2 n3 r3 (((W.alloc (.cells #[n1, r1] 25)).alloc (.cells #[n2, r2] 25)).alloc (.cells #[n3, r3] 25)) := by
  refine ⟨((below_alloc W _).alloc (by simp) _).alloc (by simp; omega) _, ?_, ?_, ?_⟩
  · rw [Below.heap_alloc _ _ _ (by simp; omega), Below.heap_alloc _ _ _ (by simp)]
    exact heap_alloc_new W _
  · rw [Below.heap_alloc _ _ _ (by simp)]
    have := heap_alloc_new (W.alloc (.cells #[n1, r1] 25)) (.cells #[n2, r2] 25)
    simpa using this
  · have := heap_alloc_new ((W.alloc (.cells #[n1, r1] 25)).alloc (.cells #[n2, r2] 25)) (.cells #[n3, r3] 25)
    simpa using this
theorem Tb.next {W w w' : World} {n1 r1 n2 r2 n3 r3 : Value} (h : Tb W n1 r1 n2 r2 n3 r3 w) (hb : Below w.heap.size w w') : Tb W n1 r1 n2 r2 n3 r3 w' :=
  ⟨h.b.trans (hb.mono h.b.size), (hb.block _ (lt_of_block h.x)).trans h.x, (hb.block _ (lt_of_block h.y)).trans h.y, (hb.block _ (lt_of_block h.z)).trans h.z⟩
theorem Tb.cells {W w : World} {n1 r1 n2 r2 n3 r3 : Value} (h : Tb W n1 r1 n2 r2 n3 r3 w) : ((w.cell? ⟨W.heap.size, 0, none⟩ = some n1 ∧ w.cell? ⟨W.heap.size, 1, none⟩ = some r1) ∧ (w.cell? ⟨W.heap.size + 1, 0, none⟩ = some n2 ∧ w.cell? ⟨W.heap.size + 1, 1, none⟩ = some r2) ∧ (w.cell? ⟨W.heap.size + 1 + 1, 0, none⟩ = some n3 ∧ w.cell? ⟨W.heap.size + 1 + 1, 1, none⟩ = some r3)) ∧ W.heap.size < w.heap.size ∧ W.heap.size + 1 < w.heap.size ∧ W.heap.size + 1 + 1 < w.heap.size := by
  obtain ⟨a, _⟩ := blk2y h.x
  obtain ⟨b, _⟩ := blk2y h.y
  obtain ⟨c, _⟩ := blk2y h.z
  exact ⟨⟨a, b, c⟩, lt_of_block h.x, lt_of_block h.y, lt_of_block h.z⟩
set_option maxRecDepth 100000 in
set_option maxHeartbeats 8000000 in
theorem slaws_short0 {W : World} {n1 r1 n2 r2 n3 r3 : Value} (hsm : ∀ w, Below W.heap.size W w → ∀ u b, ((u = .agg #[n1, r1] ∧ b = false) ∨ (u = .agg #[n1, r1] ∧ b = false) ∨ (u = .agg #[n1, r1] ∧ b = false)) → Calls Try.prog 22 #[u, .int .i64 80] w fun e w' => e = .returned (.bool b) ∧ Below w.heap.size w w') (s0 : ∃ a n c, n1 = .slice a n c) (s1 : ∃ a n c, r1 = .slice a n c) (s2 : ∃ a n c, n2 = .slice a n c) (s3 : ∃ a n c, r2 = .slice a n c) (s4 : ∃ a n c, n3 = .slice a n c) (s5 : ∃ a n c, r3 = .slice a n c) :
    Calls Try.prog 8 #[.agg #[n1, r1], .agg #[n2, r2], .agg #[n3, r3]] W fun e w' => e = .returned (.bool true) ∧ Below W.heap.size W w' := by
  obtain ⟨a0, m0, c0, rfl⟩ := s0
  obtain ⟨a1, m1, c1, rfl⟩ := s1
  obtain ⟨a2, m2, c2, rfl⟩ := s2
  obtain ⟨a3, m3, c3, rfl⟩ := s3
  obtain ⟨a4, m4, c4, rfl⟩ := s4
  obtain ⟨a5, m5, c5, rfl⟩ := s5
  have HB := hid (Tb.start W (.slice a0 m0 c0) (.slice a1 m1 c1) (.slice a2 m2 c2) (.slice a3 m3 c3) (.slice a4 m4 c4) (.slice a5 m5 c5))
  have Hsm := hid hsm
  clear hsm
  go_enter Try.func8, Try.ntmps8
  go_wp2_with (first
    | (go_at_call 9; refine (slives_any _).mono ?_; rintro e w1 ⟨rfl, hb1⟩; replace HB := hid (HB.out.next hb1); clear hb1; obtain ⟨⟨⟨x0, x1⟩, ⟨x2, x3⟩, x4, x5⟩, x6, x7, x8⟩ := HB.out.cells)
    | (go_at_call 22; refine (Hsm.out _ HB.out.b _ _ (by first | exact Or.inl ⟨rfl, rfl⟩ | exact Or.inr (Or.inl ⟨rfl, rfl⟩) | exact Or.inr (Or.inr ⟨rfl, rfl⟩))).mono ?_; rintro e w1 ⟨rfl, hb1⟩; replace HB := hid (HB.out.next hb1); clear hb1; obtain ⟨⟨⟨x0, x1⟩, ⟨x2, x3⟩, x4, x5⟩, x6, x7, x8⟩ := HB.out.cells))
  go_ret
  exact ⟨rfl, HB.out.b⟩
set_option maxRecDepth 100000 in
set_option maxHeartbeats 8000000 in
theorem slaws_short1 {W : World} {n1 r1 n2 r2 n3 r3 : Value} (hsm : ∀ w, Below W.heap.size W w → ∀ u b, ((u = .agg #[n1, r1] ∧ b = true) ∨ (u = .agg #[n2, r2] ∧ b = false) ∨ (u = .agg #[n2, r2] ∧ b = false)) → Calls Try.prog 22 #[u, .int .i64 80] w fun e w' => e = .returned (.bool b) ∧ Below w.heap.size w w') (s0 : ∃ a n c, n1 = .slice a n c) (s1 : ∃ a n c, r1 = .slice a n c) (s2 : ∃ a n c, n2 = .slice a n c) (s3 : ∃ a n c, r2 = .slice a n c) (s4 : ∃ a n c, n3 = .slice a n c) (s5 : ∃ a n c, r3 = .slice a n c) :
    Calls Try.prog 8 #[.agg #[n1, r1], .agg #[n2, r2], .agg #[n3, r3]] W fun e w' => e = .returned (.bool true) ∧ Below W.heap.size W w' := by
  obtain ⟨a0, m0, c0, rfl⟩ := s0
  obtain ⟨a1, m1, c1, rfl⟩ := s1
  obtain ⟨a2, m2, c2, rfl⟩ := s2
  obtain ⟨a3, m3, c3, rfl⟩ := s3
  obtain ⟨a4, m4, c4, rfl⟩ := s4
  obtain ⟨a5, m5, c5, rfl⟩ := s5
  have HB := hid (Tb.start W (.slice a0 m0 c0) (.slice a1 m1 c1) (.slice a2 m2 c2) (.slice a3 m3 c3) (.slice a4 m4 c4) (.slice a5 m5 c5))
  have Hsm := hid hsm
  clear hsm
  go_enter Try.func8, Try.ntmps8
  go_wp2_with (first
    | (go_at_call 9; refine (slives_any _).mono ?_; rintro e w1 ⟨rfl, hb1⟩; replace HB := hid (HB.out.next hb1); clear hb1; obtain ⟨⟨⟨x0, x1⟩, ⟨x2, x3⟩, x4, x5⟩, x6, x7, x8⟩ := HB.out.cells)
    | (go_at_call 22; refine (Hsm.out _ HB.out.b _ _ (by first | exact Or.inl ⟨rfl, rfl⟩ | exact Or.inr (Or.inl ⟨rfl, rfl⟩) | exact Or.inr (Or.inr ⟨rfl, rfl⟩))).mono ?_; rintro e w1 ⟨rfl, hb1⟩; replace HB := hid (HB.out.next hb1); clear hb1; obtain ⟨⟨⟨x0, x1⟩, ⟨x2, x3⟩, x4, x5⟩, x6, x7, x8⟩ := HB.out.cells))
  go_ret
  exact ⟨rfl, HB.out.b⟩
set_option maxRecDepth 100000 in
set_option maxHeartbeats 8000000 in
theorem slaws_short2 {W : World} {n1 r1 n2 r2 n3 r3 : Value} (hsm : ∀ w, Below W.heap.size W w → ∀ u b, ((u = .agg #[n1, r1] ∧ b = true) ∨ (u = .agg #[n2, r2] ∧ b = true) ∨ (u = .agg #[n3, r3] ∧ b = false)) → Calls Try.prog 22 #[u, .int .i64 80] w fun e w' => e = .returned (.bool b) ∧ Below w.heap.size w w') (s0 : ∃ a n c, n1 = .slice a n c) (s1 : ∃ a n c, r1 = .slice a n c) (s2 : ∃ a n c, n2 = .slice a n c) (s3 : ∃ a n c, r2 = .slice a n c) (s4 : ∃ a n c, n3 = .slice a n c) (s5 : ∃ a n c, r3 = .slice a n c) :
    Calls Try.prog 8 #[.agg #[n1, r1], .agg #[n2, r2], .agg #[n3, r3]] W fun e w' => e = .returned (.bool true) ∧ Below W.heap.size W w' := by
  obtain ⟨a0, m0, c0, rfl⟩ := s0
  obtain ⟨a1, m1, c1, rfl⟩ := s1
  obtain ⟨a2, m2, c2, rfl⟩ := s2
  obtain ⟨a3, m3, c3, rfl⟩ := s3
  obtain ⟨a4, m4, c4, rfl⟩ := s4
  obtain ⟨a5, m5, c5, rfl⟩ := s5
  have HB := hid (Tb.start W (.slice a0 m0 c0) (.slice a1 m1 c1) (.slice a2 m2 c2) (.slice a3 m3 c3) (.slice a4 m4 c4) (.slice a5 m5 c5))
  have Hsm := hid hsm
  clear hsm
  go_enter Try.func8, Try.ntmps8
  go_wp2_with (first
    | (go_at_call 9; refine (slives_any _).mono ?_; rintro e w1 ⟨rfl, hb1⟩; replace HB := hid (HB.out.next hb1); clear hb1; obtain ⟨⟨⟨x0, x1⟩, ⟨x2, x3⟩, x4, x5⟩, x6, x7, x8⟩ := HB.out.cells)
    | (go_at_call 22; refine (Hsm.out _ HB.out.b _ _ (by first | exact Or.inl ⟨rfl, rfl⟩ | exact Or.inr (Or.inl ⟨rfl, rfl⟩) | exact Or.inr (Or.inr ⟨rfl, rfl⟩))).mono ?_; rintro e w1 ⟨rfl, hb1⟩; replace HB := hid (HB.out.next hb1); clear hb1; obtain ⟨⟨⟨x0, x1⟩, ⟨x2, x3⟩, x4, x5⟩, x6, x7, x8⟩ := HB.out.cells))
  go_ret
  exact ⟨rfl, HB.out.b⟩
set_option maxRecDepth 100000 in
set_option maxHeartbeats 8000000 in
theorem slaws_short3 {W : World} {n1 r1 n2 r2 n3 r3 : Value} (hsm : ∀ w, Below W.heap.size W w → ∀ u b, ((u = .agg #[n1, r1] ∧ b = true) ∨ (u = .agg #[n2, r2] ∧ b = true) ∨ (u = .agg #[n3, r3] ∧ b = true)) → Calls Try.prog 22 #[u, .int .i64 80] w fun e w' => e = .returned (.bool b) ∧ Below w.heap.size w w') (hcb : ∀ w, Below W.heap.size W w → Calls Try.prog 25 #[.agg #[n1, r1]] w fun e w' => (∃ b, e = .returned (.iface 72 (.pointer (some ⟨b, 0, none⟩)))) ∧ Below w.heap.size w w') (s0 : ∃ a n c, n1 = .slice a n c) (s1 : ∃ a n c, r1 = .slice a n c) (s2 : ∃ a n c, n2 = .slice a n c) (s3 : ∃ a n c, r2 = .slice a n c) (s4 : ∃ a n c, n3 = .slice a n c) (s5 : ∃ a n c, r3 = .slice a n c) :
    Calls Try.prog 8 #[.agg #[n1, r1], .agg #[n2, r2], .agg #[n3, r3]] W fun e w' => e = .returned (.bool true) ∧ Below W.heap.size W w' := by
  obtain ⟨a0, m0, c0, rfl⟩ := s0
  obtain ⟨a1, m1, c1, rfl⟩ := s1
  obtain ⟨a2, m2, c2, rfl⟩ := s2
  obtain ⟨a3, m3, c3, rfl⟩ := s3
  obtain ⟨a4, m4, c4, rfl⟩ := s4
  obtain ⟨a5, m5, c5, rfl⟩ := s5
  have HB := hid (Tb.start W (.slice a0 m0 c0) (.slice a1 m1 c1) (.slice a2 m2 c2) (.slice a3 m3 c3) (.slice a4 m4 c4) (.slice a5 m5 c5))
  have Hsm := hid hsm
  have Hcb := hid hcb
  clear hsm hcb
  go_enter Try.func8, Try.ntmps8
  go_wp2_with (first
    | (go_at_call 9; refine (slives_any _).mono ?_; rintro e w1 ⟨rfl, hb1⟩; replace HB := hid (HB.out.next hb1); clear hb1; obtain ⟨⟨⟨x0, x1⟩, ⟨x2, x3⟩, x4, x5⟩, x6, x7, x8⟩ := HB.out.cells)
    | (go_at_call 22; refine (Hsm.out _ HB.out.b _ _ (by first | exact Or.inl ⟨rfl, rfl⟩ | exact Or.inr (Or.inl ⟨rfl, rfl⟩) | exact Or.inr (Or.inr ⟨rfl, rfl⟩))).mono ?_; rintro e w1 ⟨rfl, hb1⟩; replace HB := hid (HB.out.next hb1); clear hb1; obtain ⟨⟨⟨x0, x1⟩, ⟨x2, x3⟩, x4, x5⟩, x6, x7, x8⟩ := HB.out.cells)
    | (go_at_call 25; refine (Hcb.out _ HB.out.b).mono ?_; rintro e w1 ⟨⟨q, rfl⟩, hb1⟩; replace HB := hid (HB.out.next hb1); clear hb1; obtain ⟨⟨⟨x0, x1⟩, ⟨x2, x3⟩, x4, x5⟩, x6, x7, x8⟩ := HB.out.cells))
  go_ret
  exact ⟨rfl, HB.out.b⟩
set_option maxRecDepth 100000 in
set_option maxHeartbeats 8000000 in
theorem slaws_short4 {W : World} {n1 r1 n2 r2 n3 r3 : Value} (hsm : ∀ w, Below W.heap.size W w → ∀ u b, ((u = .agg #[n1, r1] ∧ b = true) ∨ (u = .agg #[n2, r2] ∧ b = true) ∨ (u = .agg #[n3, r3] ∧ b = true)) → Calls Try.prog 22 #[u, .int .i64 80] w fun e w' => e = .returned (.bool b) ∧ Below w.heap.size w w') (hck : ∀ w, Below W.heap.size W w → ∀ u, (u = .agg #[n1, r1] ∨ u = .agg #[n1, r1] ∨ u = .agg #[n1, r1]) → Calls Try.prog 25 #[u] w fun e w' => e = .returned .nilIface ∧ Below w.heap.size w w') (hcb : ∀ w, Below W.heap.size W w → Calls Try.prog 25 #[.agg #[n2, r2]] w fun e w' => (∃ b, e = .returned (.iface 72 (.pointer (some ⟨b, 0, none⟩)))) ∧ Below w.heap.size w w') (s0 : ∃ a n c, n1 = .slice a n c) (s1 : ∃ a n c, r1 = .slice a n c) (s2 : ∃ a n c, n2 = .slice a n c) (s3 : ∃ a n c, r2 = .slice a n c) (s4 : ∃ a n c, n3 = .slice a n c) (s5 : ∃ a n c, r3 = .slice a n c) :
    Calls Try.prog 8 #[.agg #[n1, r1], .agg #[n2, r2], .agg #[n3, r3]] W fun e w' => e = .returned (.bool true) ∧ Below W.heap.size W w' := by
  obtain ⟨a0, m0, c0, rfl⟩ := s0
  obtain ⟨a1, m1, c1, rfl⟩ := s1
  obtain ⟨a2, m2, c2, rfl⟩ := s2
  obtain ⟨a3, m3, c3, rfl⟩ := s3
  obtain ⟨a4, m4, c4, rfl⟩ := s4
  obtain ⟨a5, m5, c5, rfl⟩ := s5
  have HB := hid (Tb.start W (.slice a0 m0 c0) (.slice a1 m1 c1) (.slice a2 m2 c2) (.slice a3 m3 c3) (.slice a4 m4 c4) (.slice a5 m5 c5))
  have Hsm := hid hsm
  have Hck := hid hck
  have Hcb := hid hcb
  clear hsm hck hcb
  go_enter Try.func8, Try.ntmps8
  go_wp2_with (first
    | (go_at_call 9; refine (slives_any _).mono ?_; rintro e w1 ⟨rfl, hb1⟩; replace HB := hid (HB.out.next hb1); clear hb1; obtain ⟨⟨⟨x0, x1⟩, ⟨x2, x3⟩, x4, x5⟩, x6, x7, x8⟩ := HB.out.cells)
    | (go_at_call 22; refine (Hsm.out _ HB.out.b _ _ (by first | exact Or.inl ⟨rfl, rfl⟩ | exact Or.inr (Or.inl ⟨rfl, rfl⟩) | exact Or.inr (Or.inr ⟨rfl, rfl⟩))).mono ?_; rintro e w1 ⟨rfl, hb1⟩; replace HB := hid (HB.out.next hb1); clear hb1; obtain ⟨⟨⟨x0, x1⟩, ⟨x2, x3⟩, x4, x5⟩, x6, x7, x8⟩ := HB.out.cells)
    | (go_at_call 25; refine (Hck.out _ HB.out.b _ (by first | exact Or.inl rfl | exact Or.inr (Or.inl rfl) | exact Or.inr (Or.inr rfl))).mono ?_; rintro e w1 ⟨rfl, hb1⟩; replace HB := hid (HB.out.next hb1); clear hb1; obtain ⟨⟨⟨x0, x1⟩, ⟨x2, x3⟩, x4, x5⟩, x6, x7, x8⟩ := HB.out.cells)
    | (go_at_call 25; refine (Hcb.out _ HB.out.b).mono ?_; rintro e w1 ⟨⟨q, rfl⟩, hb1⟩; replace HB := hid (HB.out.next hb1); clear hb1; obtain ⟨⟨⟨x0, x1⟩, ⟨x2, x3⟩, x4, x5⟩, x6, x7, x8⟩ := HB.out.cells))
  go_ret
  exact ⟨rfl, HB.out.b⟩
set_option maxRecDepth 100000 in
set_option maxHeartbeats 8000000 in
theorem slaws_short5 {W : World} {n1 r1 n2 r2 n3 r3 : Value} (hsm : ∀ w, Below W.heap.size W w → ∀ u b, ((u = .agg #[n1, r1] ∧ b = true) ∨ (u = .agg #[n2, r2] ∧ b = true) ∨ (u = .agg #[n3, r3] ∧ b = true)) → Calls Try.prog 22 #[u, .int .i64 80] w fun e w' => e = .returned (.bool b) ∧ Below w.heap.size w w') (hck : ∀ w, Below W.heap.size W w → ∀ u, (u = .agg #[n1, r1] ∨ u = .agg #[n2, r2] ∨ u = .agg #[n2, r2]) → Calls Try.prog 25 #[u] w fun e w' => e = .returned .nilIface ∧ Below w.heap.size w w') (hcb : ∀ w, Below W.heap.size W w → Calls Try.prog 25 #[.agg #[n3, r3]] w fun e w' => (∃ b, e = .returned (.iface 72 (.pointer (some ⟨b, 0, none⟩)))) ∧ Below w.heap.size w w') (s0 : ∃ a n c, n1 = .slice a n c) (s1 : ∃ a n c, r1 = .slice a n c) (s2 : ∃ a n c, n2 = .slice a n c) (s3 : ∃ a n c, r2 = .slice a n c) (s4 : ∃ a n c, n3 = .slice a n c) (s5 : ∃ a n c, r3 = .slice a n c) :
    Calls Try.prog 8 #[.agg #[n1, r1], .agg #[n2, r2], .agg #[n3, r3]] W fun e w' => e = .returned (.bool true) ∧ Below W.heap.size W w' := by
  obtain ⟨a0, m0, c0, rfl⟩ := s0
  obtain ⟨a1, m1, c1, rfl⟩ := s1
  obtain ⟨a2, m2, c2, rfl⟩ := s2
  obtain ⟨a3, m3, c3, rfl⟩ := s3
  obtain ⟨a4, m4, c4, rfl⟩ := s4
  obtain ⟨a5, m5, c5, rfl⟩ := s5
  have HB := hid (Tb.start W (.slice a0 m0 c0) (.slice a1 m1 c1) (.slice a2 m2 c2) (.slice a3 m3 c3) (.slice a4 m4 c4) (.slice a5 m5 c5))
  have Hsm := hid hsm
  have Hck := hid hck
  have Hcb := hid hcb
  clear hsm hck hcb
  go_enter Try.func8, Try.ntmps8
  go_wp2_with (first
    | (go_at_call 9; refine (slives_any _).mono ?_; rintro e w1 ⟨rfl, hb1⟩; replace HB := hid (HB.out.next hb1); clear hb1; obtain ⟨⟨⟨x0, x1⟩, ⟨x2, x3⟩, x4, x5⟩, x6, x7, x8⟩ := HB.out.cells)
    | (go_at_call 22; refine (Hsm.out _ HB.out.b _ _ (by first | exact Or.inl ⟨rfl, rfl⟩ | exact Or.inr (Or.inl ⟨rfl, rfl⟩) | exact Or.inr (Or.inr ⟨rfl, rfl⟩))).mono ?_; rintro e w1 ⟨rfl, hb1⟩; replace HB := hid (HB.out.next hb1); clear hb1; obtain ⟨⟨⟨x0, x1⟩, ⟨x2, x3⟩, x4, x5⟩, x6, x7, x8⟩ := HB.out.cells)
    | (go_at_call 25; refine (Hck.out _ HB.out.b _ (by first | exact Or.inl rfl | exact Or.inr (Or.inl rfl) | exact Or.inr (Or.inr rfl))).mono ?_; rintro e w1 ⟨rfl, hb1⟩; replace HB := hid (HB.out.next hb1); clear hb1; obtain ⟨⟨⟨x0, x1⟩, ⟨x2, x3⟩, x4, x5⟩, x6, x7, x8⟩ := HB.out.cells)
    | (go_at_call 25; refine (Hcb.out _ HB.out.b).mono ?_; rintro e w1 ⟨⟨q, rfl⟩, hb1⟩; replace HB := hid (HB.out.next hb1); clear hb1; obtain ⟨⟨⟨x0, x1⟩, ⟨x2, x3⟩, x4, x5⟩, x6, x7, x8⟩ := HB.out.cells))
  go_ret
  exact ⟨rfl, HB.out.b⟩
end Go.Proofs.Ytfddipbdlkodaaa
