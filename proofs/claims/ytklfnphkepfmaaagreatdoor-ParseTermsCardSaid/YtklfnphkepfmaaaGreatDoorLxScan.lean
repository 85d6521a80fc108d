/- Scan of package lex, at every source. -/
import Derived.Test.YtklfnphkepfmaaaGreatDoorLxEach
import Derived.Test.YtklfnphkepfmaaaGreatDoorLxRow
namespace Go.Proofs.YtklfnphkepfmaaaGreatDoor
open Go.RowKit Go.Shelf

attribute [local go_sem] Oper.semAt_some

/-- The two cells of Scan's results. -/
abbrev resObj (v : Value) : Obj := .cells #[v] 72
abbrev errObj (v : Value) : Obj := .cells #[v] 29
abbrev intObj (n : Int) : Obj := .cells #[.int .i64 n] 3
theorem one_cell {w : World} {b : Nat} {v : Value} {T : TypeId} (h : w.heap[b]? = some (.cells #[v] T)) : w.cell? ⟨b, 0, none⟩ = some v ∧ w.frozen? ⟨b, 0, none⟩ = false := by simp [World.cell?, World.frozen?, h]
theorem one_set {w : World} {b : Nat} {v : Value} {T : TypeId} (u : Value) (h : w.heap[b]? = some (.cells #[v] T)) : (w.setCell ⟨b, 0, none⟩ u).heap[b]? = some (.cells #[u] T) := heap_setCell_same w b 0 _ _ u h
theorem one_far {w : World} {b k : Nat} {u : Value} {o : Obj} (h : w.heap[k]? = some o) (hne : k ≠ b) : (w.setCell ⟨b, 0, none⟩ u).heap[k]? = some o := (Below.heap_setCell w ⟨b, 0, none⟩ u k hne).trans h
theorem Err.set {w : World} {e : Value} {c a : Int} {q : Nat} {v u : Value} {T : TypeId} (h : Err w e c a) (hq : w.heap[q]? = some (.cells #[v] T)) : Err (w.setCell ⟨q, 0, none⟩ u) e c a := by
  rcases h with h | ⟨hc, b, rfl, hb⟩
  · exact Or.inl h
  · refine Or.inr ⟨hc, b, rfl, ?_⟩
    have hne : b ≠ q := fun e => by
      subst e
      rw [hb] at hq
      simp [faultAtObj] at hq
    exact (Below.heap_setCell w ⟨q, 0, none⟩ u b hne).trans hb
/-- What Scan answers. -/
def ScAns (w : World) (s : ByteArray) (e : Ending) (w' : World) : Prop :=
  ∃ v ev, e = .returned (.tuple #[v, ev]) ∧ Err w' ev (someC s) (someP s) ∧ (someC s = 0 → Tr w' w.heap.size v (someT s)) ∧ (someC s ≠ 0 → v = .slice none 0 0) ∧ Below w.heap.size w w'
/-- The first loop's state. -/
structure I1 (s : ByteArray) (w : World) (pre : List (Tk × Value)) (W : World) : Prop where
  b0 : W.heap[w.heap.size]? = some (resObj (.slice none 0 0))
  b1 : W.heap[w.heap.size + 1]? = some (errObj .nilIface)
  b2 : W.heap[w.heap.size + 2]? = some (intObj (pre.length : Int))
  b3 : W.heap[w.heap.size + 3]? = some (srcObj s)
  below : Below w.heap.size w W
  calm : calm pre
  len : pre.length ≤ (someT s).length
/-- Where it was left. -/
structure I1x (s : ByteArray) (w : World) (W : World) : Prop where
  b0 : W.heap[w.heap.size]? = some (resObj (.slice none 0 0))
  b1 : ∃ ev, W.heap[w.heap.size + 1]? = some (errObj ev) ∧ Err W ev (someC s) (someP s)
  bad : someC s ≠ 0
  below : Below w.heap.size w W
theorem I1.nb {s : ByteArray} {w : World} {B : Nat} {pre : List (Tk × Value)} {A A' : World} (h : I1 s w pre A) (hB : w.heap.size + 4 ≤ B) (hn : Nb B A A') : I1 s w pre A' :=
  ⟨hn.block _ _ h.b0 (Or.inl (by omega)), hn.block _ _ h.b1 (Or.inl (by omega)), hn.block _ _ h.b2 (Or.inl (by omega)), hn.block _ _ h.b3 (Or.inl (by omega)), hn.below h.below (by omega) (Nat.le_refl _), h.calm, h.len⟩
theorem I1x.nb {s : ByteArray} {w : World} {B : Nat} {A A' : World} (h : I1x s w A) (hB : w.heap.size + 4 ≤ B) (hn : Nb B A A') : I1x s w A' := by
  obtain ⟨ev, h1, h2⟩ := h.b1
  exact ⟨hn.block _ _ h.b0 (Or.inl (by omega)), ⟨ev, hn.block _ _ h1 (Or.inl (by omega)), h2.nb hn⟩, h.bad, hn.below h.below (by omega) (Nat.le_refl _)⟩
theorem someT_le (s : ByteArray) : (someT s).length ≤ 4194305 := by
  unfold someT
  split
  · have := allT_le (s := s) (a := 0) (Nat.zero_le _)
    omega
  · simp
theorem nextT_len {s : ByteArray} {pre : List (Tk × Value)} {x : Tk × Value} {W : World} (h : nextT s pre x W) (hx : x.2 = .nilIface) : pre.length + 1 ≤ (someT s).length ∧ calm (pre ++ [x]) := by
  rcases h.2 with ⟨r, h1, _⟩ | ⟨_, h2, _, h4⟩
  · have := congrArg List.length h1
    refine ⟨by simp at this; omega, ?_⟩
    obtain ⟨t, e⟩ := x
    simp only at hx
    subst hx
    exact calm_snoc h.1
  · exact absurd hx (h4.some_ne h2)
/-- A return behind loops: what the mark's block has turned into. -/
theorem Nb.mark {B D : Nat} {A : World} (hD : B ≤ D) (h : A.heap[D]? = some (.deferred (some []))) : Nb B A (A.putObj D (.deferred none)) := Nb.put _ hD h rfl
theorem own_nb {B B0 : Nat} {A A' : World} {e : TypeId} {z : Nat} {v : Value} {n : Nat} {xs : List Value} (h : A.ownsRow B0 e z v n xs) (hn : Nb B A A') : A'.ownsRow B0 e z v n xs := by
  refine ⟨h.1, ?_⟩
  rcases h.2 with h0 | ⟨g, cap, cur, rfl, hb, hg, rest⟩
  · exact Or.inl h0
  · exact Or.inr ⟨g, cap, cur, rfl, hb, hn.block g _ hg (Or.inr rfl), rest⟩
/-- The second loop's state. -/
structure I2 (s : ByteArray) (w : World) (D L g : Nat) (pre : List (Tk × Value)) (W : World) : Prop where
  b0 : W.heap[w.heap.size]? = some (resObj (.slice none 0 0))
  b1 : W.heap[w.heap.size + 1]? = some (errObj .nilIface)
  bL : W.heap[L]? = some (resObj (.slice (some ⟨g, 0, none⟩) pre.length (someT s).length))
  row : W.ownsRow w.heap.size 77 5 (.slice (some ⟨g, 0, none⟩) pre.length (someT s).length) pre.length (tcells (pre.map Prod.fst))
  bs : W.heap[L + 1]? = some (srcObj s)
  mark : W.heap[D]? = some (.deferred (some []))
  below : Below w.heap.size w W
theorem I2.nb {s : ByteArray} {w : World} {B D L g : Nat} {pre : List (Tk × Value)} {A A' : World} (h : I2 s w D L g pre A) (hB : L + 2 ≤ B) (hD : D < B) (hw : w.heap.size + 2 ≤ B) (hn : Nb B A A') : I2 s w D L g pre A' :=
  ⟨hn.block _ _ h.b0 (Or.inl (by omega)), hn.block _ _ h.b1 (Or.inl (by omega)), hn.block _ _ h.bL (Or.inl (by omega)), own_nb h.row hn, hn.block _ _ h.bs (Or.inl (by omega)), hn.block _ _ h.mark (Or.inl hD), hn.below h.below (by omega) (Nat.le_refl _)⟩
/-- One token more. -/
theorem I2.snoc {s : ByteArray} {w W' w6 : World} {D L g : Nat} {pre : List (Tk × Value)} {x : Tk × Value} {o : Obj} (h : I2 s w D L g pre W') (hg0 : w.heap.size + 2 ≤ g) (hgL : g < L) (hDg : D ≠ g) (hDL : D ≠ L) (hgr : (W'.alloc o).grownBy w6 (some g))
    (hown : w6.ownsRow w.heap.size 77 5 (.slice (some ⟨g, 0, none⟩) (pre.length + 1) (someT s).length) (pre.length + 1) (tcells (pre.map Prod.fst) ++ tcell x.1)) (B : Nat) (hB : L + 2 ≤ B) :
    I2 s w D L g (pre ++ [x]) (w6.setCell ⟨L, 0, none⟩ (.slice (some ⟨g, 0, none⟩) (pre.length + 1) (someT s).length)) ∧ Kept B (L + 1) W' (w6.setCell ⟨L, 0, none⟩ (.slice (some ⟨g, 0, none⟩) (pre.length + 1) (someT s).length)) := by
  have keep : ∀ {k : Nat} {u : Obj}, W'.heap[k]? = some u → k ≠ g → w6.heap[k]? = some u := fun {k u} hk hne => by
    have := lt_heap hk
    rw [hgr.block k (by simp; omega) (fun e => hne (Option.some.inj e)), Below.heap_alloc _ _ _ this]
    exact hk
  have hz : W'.heap.size ≤ w6.heap.size := by
    have := hgr.size
    simp at this
    omega
  have hlL := lt_heap h.bL
  refine ⟨⟨one_far (keep h.b0 (by omega)) (by omega), one_far (keep h.b1 (by omega)) (by omega), ?_, ?_, one_far (keep h.bs (by omega)) (by omega), one_far (keep h.mark hDg) hDL, ?_⟩, ?_, ?_⟩
  · have := one_set (.slice (some ⟨g, 0, none⟩) (pre.length + 1) (someT s).length) (keep h.bL (by omega))
    simpa using this
  · have h1 : (w6.setCell ⟨L, 0, none⟩ (.slice (some ⟨g, 0, none⟩) (pre.length + 1) (someT s).length)).ownsRow w.heap.size 77 5 (.slice (some ⟨g, 0, none⟩) (pre.length + 1) (someT s).length) (pre.length + 1) (tcells (pre.map Prod.fst) ++ tcell x.1) :=
      own_keep hown fun k hk => Below.heap_setCell _ ⟨L, 0, none⟩ _ k (by
        have : k = g := by simpa [Value.ownBlock] using hk.symm
        show k ≠ L
        omega)
    rw [List.map_append, List.length_append]
    show World.ownsRow _ _ _ _ _ _ (tcells (pre.map Prod.fst ++ [x.1]))
    rw [tcells_snoc]
    exact h1
  · have hb1 : Below w.heap.size w (W'.alloc o) := h.below.alloc h.below.size o
    have hb2 : Below w.heap.size w w6 := hb1.grown hgr (by have := h.below.size; simp; omega) (fun k e => by cases e; omega)
    exact hb2.setCell (p := ⟨L, 0, none⟩) (by show w.heap.size ≤ L; omega) _
  · simpa using hz
  · intro k hk hkl
    have hk1 : k ≠ g := by omega
    have hk2 : k ≠ L := by omega
    rw [Below.heap_setCell _ ⟨L, 0, none⟩ _ k hk2, hgr.block k (by simp; omega) (fun e => hk1 (Option.some.inj e)), Below.heap_alloc _ _ _ hkl]

set_option maxRecDepth 100000 in
set_option maxHeartbeats 4000000 in
theorem scan_in (s : ByteArray) (w : World) :
    CallsIn Fence.wide 4 Tryz.prog 97 #[.string s] w (ScAns w s) := by
  have f25 : Fence.wide.fn 137 := trivial
  have f15 : Fence.wide.fn 119 := trivial
  have hea := fun W => callsIn_wide (n := 3) |>.2 (each_any s W)
  have hml := someT_le s
  refine callsIn_of_wp_marks Tryz.func97 rfl trivial ?_ rfl
  simp only [Tryz.ntmps97, List.size_toArray, List.length_cons, List.length_nil, Nat.reduceAdd, Nat.reduceSub, Array.replicate_succ, Array.replicate_zero, List.push_toArray, List.append_toArray, List.nil_append, List.cons_append]
  gi_wp2_with (gi_at_call 119; go_must (refine (hea _).mono ?_; rintro e w' ⟨rfl, rfl⟩))
  simp only [Nat.add_assoc, Nat.reduceAdd]
  obtain ⟨W0, hW0⟩ : ∃ W0, ((((w.alloc (resObj (.slice none 0 0))).alloc (errObj .nilIface)).alloc (intObj 0)).alloc (srcObj s)) = W0 := ⟨_, rfl⟩
  have z0 : W0.heap.size = w.heap.size + 4 := by rw [← hW0]; simp
  have hI0 : I1 s w [] W0 := by
    rw [← hW0]
    refine ⟨?_, ?_, ?_, ?_, ((((Below.refl _ w).alloc (Nat.le_refl _) _).alloc (by simp) _).alloc (by simp; omega) _).alloc (by simp; omega) _, fun y hy => by simp at hy, by simp⟩
    · rw [Below.heap_alloc _ _ _ (by simp; omega), Below.heap_alloc _ _ _ (by first | (simp; done) | (simp; omega)), Below.heap_alloc _ _ _ (by simp)]
      exact heap_alloc_new w _
    · rw [Below.heap_alloc _ _ _ (by first | (simp; done) | (simp; omega)), Below.heap_alloc _ _ _ (by simp)]
      have := heap_alloc_new (w.alloc (resObj (.slice none 0 0))) (errObj .nilIface)
      simpa using this
    · rw [Below.heap_alloc _ _ _ (by simp)]
      have := heap_alloc_new ((w.alloc (resObj (.slice none 0 0))).alloc (errObj .nilIface)) (intObj 0)
      simpa using this
    · have := heap_alloc_new (((w.alloc (resObj (.slice none 0 0))).alloc (errObj .nilIface)).alloc (intObj 0)) (srcObj s)
      simpa using this
  rw [hW0]
  clear hW0
  refine range_told (Bs := w.heap.size + 3) (encs := encT) rfl (enters_of Tryz.func137 (by kernel_rfl) rfl) (fun _ => rfl) (by omega) (by omega) (each_tells s 3 _ (w.heap.size + 3) W0 (by omega) hI0.b3)
    (I := I1 s w) (Ix := fun c _ W => c = .ret ∧ I1x s w W) (fun pre A A' h hn => h.nb (by omega) hn) (fun c pre A A' h hn => ⟨h.1, h.2.nb (by omega) hn⟩) (fun pre x A A' h hn => nextT_nb pre x A A' h hn) hI0
    (Ax := fun x a' _ => a' = { tmps := #[.string s, undef, .pointer (some ⟨w.heap.size, 0, none⟩), .pointer (some ⟨w.heap.size + 1, 0, none⟩), .pointer (some ⟨w.heap.size + 2, 0, none⟩), undef, x.2, undef, undef, .string s, .func (.func 137) #[] #[.pointer (some ⟨w.heap.size + 3, 0, none⟩)], tokV x.1, x.2, undef, undef, undef, undef, undef, undef, undef, undef, undef, undef, undef, undef, undef, undef, undef, undef], defers := [] }) (fun _ _ _ _ h _ => h) ?assign ?body ?done ?stop
  case assign =>
    intro l x W K _ hK
    gi_wp2
    exact hK _ _ (Below.refl _ _) rfl
  case body =>
    rintro l pre x a' W hi ht rfl
    by_cases hx : x.2 = .nilIface
    · obtain ⟨hl1, hc1⟩ := nextT_len ht hx
      obtain ⟨c2, f2⟩ := one_cell hi.b2
      obtain ⟨xt, xe⟩ := x
      simp only at hx
      subst hx
      gi_wp2
      have hz := hi.below.size
      have k2 := lt_heap hi.b3
      refine ⟨⟨by simp, fun k hk hkl => Below.heap_setCell W ⟨w.heap.size + 2, 0, none⟩ _ k (by simp; omega)⟩, ⟨one_far hi.b0 (by omega), one_far hi.b1 (by omega), ?_, one_far hi.b3 (by omega), hi.below.setCell (by simp) _, hc1, by simp; omega⟩⟩
      have h := one_set (.int .i64 ((pre.length : Int) + 1)) hi.b2
      simpa using h
    · obtain ⟨r, h1, h2⟩ | ⟨h1, h2, h3, h4⟩ := ht.2
      · exact absurd h2 hx
      · obtain ⟨fb, hfb⟩ := h4.shape h2
        obtain ⟨xt, xe⟩ := x
        simp only at hfb h4 h3
        subst hfb
        obtain ⟨c0, f0⟩ := one_cell hi.b0
        obtain ⟨c1, f1⟩ := one_cell hi.b1
        gi_wp2
        have k2 := lt_heap hi.b3
        have s0 := one_set (.slice none 0 0) hi.b0
        have s1 := one_far (b := w.heap.size) (u := .slice none 0 0) hi.b1 (by omega)
        have hW1 := one_set (.iface 82 (.pointer (some ⟨fb, 0, none⟩))) s1
        exact ⟨⟨by simp, fun k hk hkl => (Below.heap_setCell _ ⟨w.heap.size + 1, 0, none⟩ _ k (by show k ≠ w.heap.size + 1; omega)).trans (Below.heap_setCell _ ⟨w.heap.size, 0, none⟩ _ k (by show k ≠ w.heap.size; omega))⟩, rfl, ⟨one_far s0 (by omega), ⟨_, hW1, (h4.set hi.b0).set s1⟩, h2, (hi.below.setCell (p := ⟨w.heap.size, 0, none⟩) (Nat.le_refl _) _).setCell (p := ⟨w.heap.size + 1, 0, none⟩) (by show w.heap.size ≤ w.heap.size + 1; omega) _⟩⟩
  case done =>
    rintro D xs W hD hS hi hK
    have hC : someC s = 0 ∧ xs.map Prod.fst = someT s := by
      rcases hS with ⟨h1, h2, _⟩ | ⟨_, ys, ev, rfl, _, _, hne⟩
      · exact ⟨h1, h2⟩
      · exact absurd (hi.calm (tk0, ev) (by simp)) hne
    have hlen : xs.length = (someT s).length := by rw [← hC.2]; simp
    have hb2 := hi.b2
    rw [hlen] at hb2
    obtain ⟨c2, f2⟩ := one_cell hb2
    obtain ⟨i0, hi0, hz0, hz1, hz2⟩ := info_parts infoT
    have hzw := hi.below.size
    have HI := hid hi
    have HK := hid hK
    have HC := hid hC
    clear hS hi hlen hb2 hC hK
    gi_wp2_with (first
      | (gi_at_make; go_must (refine wpListIn_make_own _ rfl _ _ 72 rfl w.heap.size 77 i0 (tokV tk0) 5 Tryz.underlying72 hi0 hz0 hz1 .i64 .i64 _ (someT s).length rfl rfl rfl (by rw [hz2]; omega) (by unfold maxLen; omega) hzw ?_; intro w4 hown4 hg4))
      | (gi_at_call 119; go_must (refine (hea _).mono ?_; rintro e w' ⟨rfl, rfl⟩)))
    have hgl := (hown4.lt W.heap.size rfl).2
    have hb4 : Below W.heap.size W w4 := ⟨hg4.os, hg4.tape, hg4.output, hg4.size, fun k hk => hg4.block k hk (fun e => by cases e)⟩
    obtain ⟨W5, hW5⟩ : ∃ W5, (w4.alloc (resObj (.slice (some ⟨W.heap.size, 0, none⟩) 0 (someT s).length))).alloc (srcObj s) = W5 := ⟨_, rfl⟩
    have hb5 : Below w4.heap.size w4 W5 := by
      rw [← hW5]
      exact ((Below.refl _ w4).alloc (Nat.le_refl _) _).alloc (by simp) _
    have z5 : W5.heap.size = w4.heap.size + 2 := by rw [← hW5]; simp
    have hbW : Below W.heap.size W W5 := Below.next hb4 hb5
    have hlD := lt_heap HK.out
    have hl3 := lt_heap HI.out.b3
    have hI5 : I2 s w D w4.heap.size W.heap.size [] W5 := by
      refine ⟨keep_q HI.out.b0 hbW, keep_q HI.out.b1 hbW, ?_, own_below hown4 hb5, ?_, keep_q HK.out hbW, Below.next HI.out.below hbW⟩
      · rw [← hW5, Below.heap_alloc _ _ _ (by simp)]
        exact heap_alloc_new w4 _
      · rw [← hW5]
        have := heap_alloc_new (w4.alloc (resObj (.slice (some ⟨W.heap.size, 0, none⟩) 0 (someT s).length))) (srcObj s)
        simpa using this
    rw [hW5]
    clear hW5
    refine range_told (Bs := w4.heap.size + 1) (encs := encT) rfl (enters_of Tryz.func137 (by kernel_rfl) rfl) (fun _ => rfl) (by omega) (by omega) (each_tells s 3 _ (w4.heap.size + 1) W5 (by omega) hI5.bs)
      (I := I2 s w D w4.heap.size W.heap.size) (Ix := fun _ _ _ => False) (fun pre A A' h hn => h.nb (by omega) (by omega) (by omega) hn) (fun c pre A A' h hn => h) (fun pre x A A' h hn => nextT_nb pre x A A' h hn) hI5
      (Ax := fun x a' W' => ∃ Bx, W'.heap[Bx]? = some (tokObj x.1) ∧ a' = { tmps := #[.string s, undef, .pointer (some ⟨w.heap.size, 0, none⟩), .pointer (some ⟨w.heap.size + 1, 0, none⟩), .pointer (some ⟨w.heap.size + 2, 0, none⟩), undef, undef, .pointer (some ⟨w4.heap.size, 0, none⟩), .pointer (some ⟨Bx, 0, none⟩), .string s, .func (.func 137) #[] #[.pointer (some ⟨w.heap.size + 3, 0, none⟩)], undef, undef, undef, undef, undef, undef, undef, .int .i64 ((someT s).length : Int), .slice (some ⟨W.heap.size, 0, none⟩) 0 (someT s).length, .string s, .func (.func 137) #[] #[.pointer (some ⟨w4.heap.size + 1, 0, none⟩)], tokV x.1, x.2, undef, undef, undef, undef, undef], defers := [] }) (fun x a' A A' h hn => by obtain ⟨Bx, h1, h2⟩ := h; exact ⟨Bx, hn.block _ _ h1 (Or.inr rfl), h2⟩) ?assign2 ?body2 ?done2 ?stop2
    case assign2 =>
      intro l x W' K hzl hK
      gi_wp2
      exact hK _ _ (below_alloc W' _) ⟨W'.heap.size, heap_alloc_new W' _, rfl⟩
    case body2 =>
      rintro l pre x a' W' hi ht ⟨Bx, hBx, rfl⟩
      obtain ⟨r, h1, h2⟩ | ⟨h1, h2, h3, h4⟩ := ht.2
      · have hlen : pre.length + 1 ≤ (someT s).length := by
          have := congrArg List.length h1
          simp at this
          omega
        obtain ⟨cL, fL⟩ := one_cell hi.bL
        obtain ⟨⟨q0, q1, q2, q3, q4⟩, _⟩ := tok_facts hBx
        have hz' := hi.below.size
        have hzL := lt_heap hi.bL
        gi_wp2_with (gi_at_builtin; go_must (refine wpListIn_append_fits _ rfl _ _ 72 rfl w.heap.size 77 i0 5 Tryz.underlying72 hi0 hz1 W.heap.size pre.length (someT s).length (tcells (pre.map Prod.fst)) rfl (hi.row.alloc _) ⟨W'.heap.size, 0, none⟩ 1 1 (tcell x.1) rfl rfl (World.news_of_block (cs := (tcell x.1).toArray) (t := 77) (fr := (0, 0)) (heap_alloc_new W' _)) (by simp [Value.oneCell', tcell]) (by omega) ?_; intro w6 hown6 hg6; have hL6 : w6.heap[w4.heap.size]? = some (resObj (.slice (some ⟨W.heap.size, 0, none⟩) pre.length (someT s).length)) := (by rw [hg6.block _ (by simp; omega) (fun e => by have := Option.some.inj e; omega), Below.heap_alloc _ _ _ hzL]; exact hi.bL); obtain ⟨cL6, fL6⟩ := one_cell hL6))
        obtain ⟨j1, j2⟩ := hi.snoc (x := x) (by omega) hgl (by omega) (by omega) hg6 hown6 W5.heap.size (by omega)
        exact ⟨j2, j1⟩
      · exact absurd HC.out.1 h2
    case done2 =>
      rintro D2 ys W7 hD2 hS2 hi hK2
      have hY : ys.map Prod.fst = someT s := by
        rcases hS2 with ⟨_, h2, _⟩ | ⟨h1, _⟩
        · exact h2
        · exact absurd HC.out.1 h1
      obtain ⟨cL, fL⟩ := one_cell hi.bL
      obtain ⟨c0, f0⟩ := one_cell hi.b0
      obtain ⟨c1, f1⟩ := one_cell hi.b1
      gi_wp2
      obtain ⟨V, hV⟩ : ∃ V, V = Value.slice (some ⟨W.heap.size, 0, none⟩) ys.length (someT s).length := ⟨_, rfl⟩
      have hrow := hi.row
      rw [← hV] at hrow ⊢
      have hgb : V.ownBlock = some W.heap.size := by rw [hV]; rfl
      have hyl : ys.length = (someT s).length := by rw [← hY]; simp
      have a0 := one_set V hi.b0
      have a1 := one_far (b := w.heap.size) (u := V) hi.b1 (by omega)
      have b1 := one_set .nilIface a1
      have b0 := one_far (b := w.heap.size + 1) (u := .nilIface) a0 (by omega)
      have m2 := one_far (b := w.heap.size + 1) (u := .nilIface) (one_far (b := w.heap.size) (u := V) hK2 (by omega)) (by omega)
      have m1 := one_far (b := w.heap.size + 1) (u := .nilIface) (one_far (b := w.heap.size) (u := V) hi.mark (by omega)) (by omega)
      have hr8 : ((W7.setCell ⟨w.heap.size, 0, none⟩ V).setCell ⟨w.heap.size + 1, 0, none⟩ .nilIface).ownsRow w.heap.size 77 5 V ys.length (tcells (ys.map Prod.fst)) :=
        own_keep hrow fun k hk => by
          have : k = W.heap.size := by rw [hgb] at hk; exact (Option.some.inj hk).symm
          rw [Below.heap_setCell _ ⟨w.heap.size + 1, 0, none⟩ _ k (by show k ≠ w.heap.size + 1; omega), Below.heap_setCell _ ⟨w.heap.size, 0, none⟩ _ k (by show k ≠ w.heap.size; omega)]
      have hB8 : Below w.heap.size w ((W7.setCell ⟨w.heap.size, 0, none⟩ V).setCell ⟨w.heap.size + 1, 0, none⟩ .nilIface) := (hi.below.setCell (p := ⟨w.heap.size, 0, none⟩) (Nat.le_refl _) _).setCell (p := ⟨w.heap.size + 1, 0, none⟩) (by show w.heap.size ≤ w.heap.size + 1; omega) _
      generalize (W7.setCell ⟨w.heap.size, 0, none⟩ V).setCell ⟨w.heap.size + 1, 0, none⟩ .nilIface = W8 at *
      have n9 := Nb.mark (B := w.heap.size + 4) (by omega) m2
      have m9 : (W8.putObj D2 (.deferred none)).heap[D]? = some (.deferred (some [])) := (World.putObj_heap_other (by omega)).trans m1
      have n10 := Nb.mark (B := w.heap.size + 4) (by omega) m9
      have e0 := n10.block _ _ (n9.block _ _ b0 (Or.inl (by omega))) (Or.inl (by omega))
      have e1 := n10.block _ _ (n9.block _ _ b1 (Or.inl (by omega))) (Or.inl (by omega))
      have e2 := own_nb (own_nb hr8 n9) n10
      have e3 := n10.below (n9.below hB8 (by omega) (Nat.le_refl _)) (by omega) (Nat.le_refl _)
      rw [hY, hyl] at e2
      obtain ⟨d0, _⟩ := one_cell e0
      obtain ⟨d1, _⟩ := one_cell e1
      refine ⟨by simp, .inl ⟨_, _, rfl, run_takeDeferred m2, ⟨by simp, .inl ⟨_, _, rfl, run_takeDeferred m9, ?_⟩⟩⟩⟩
      refine ⟨.tuple #[V, .nilIface], ?_, V, .nilIface, rfl, Or.inl ⟨HC.out.1, rfl⟩, fun _ => e2, fun h => absurd HC.out.1 h, e3⟩
      simp [results, Tryz.results97, go_sem, d0, d1]
    case stop2 =>
      rintro D2 c pre W7 _ h _
      exact h.elim
  case stop =>
    rintro D c pre W hD ⟨rfl, hi⟩ hK
    obtain ⟨ev, h1, h2⟩ := hi.b1
    have hn := Nb.mark (B := w.heap.size + 4) (by omega) hK
    have hi' := hi.nb (Nat.le_refl _) hn
    have h1' := hn.block _ _ h1 (Or.inl (by omega))
    have h2' := h2.nb hn
    obtain ⟨c0, _⟩ := one_cell hi'.b0
    obtain ⟨c1, _⟩ := one_cell h1'
    gi_wp2
    refine ⟨by simp, .inl ⟨_, _, rfl, run_takeDeferred hK, ?_⟩⟩
    refine ⟨.tuple #[.slice none 0 0, ev], ?_, _, _, rfl, h2', fun h => absurd h hi.bad, fun _ => rfl, hi'.below⟩
    simp [results, Tryz.results97, go_sem, c0, c1]
/-- Scan of package lex, at every source. -/
theorem scan_any (s : ByteArray) (w : World) : Calls Tryz.prog 97 #[.string s] w (ScAns w s) := callsIn_wide.1 (scan_in s w)
end Go.Proofs.YtklfnphkepfmaaaGreatDoor
