/- Quotient of package bisim, at every good graph. -/
import Derived.Shelf.Strconv.Clone
import Derived.Maps.OwnSet
import Derived.Deep.AppendLies
import Derived.Deep.RegionHeld3
import Derived.StillTailTactics
import Derived.Test.Ytjkcffcedbcjmaata24Z
import Derived.Test.Ytjkcffcedbcjmaata13Z
import Derived.Test.Ytjkcffcedbcjmaata02Z
namespace Go.Proofs.Ytjkcffcedbcjmaa
set_option maxRecDepth 100000
open Go.RowKit
structure Tq (w3 w : World) (rv : Value) (ns : List Nd) (ao : Option Addr) (c : Nat) (avs : List Value) : Prop where
  b : Below w3.heap.size w3 w
  out : w.heap[w3.heap.size]? = some (.cells #[.slice ao ns.length c, rv] 29 (0, 0))
  on : On w (w3.heap.size + 1) (.slice ao ns.length c) avs ns
theorem Tq.step {w3 wr w4 w5 : World} {rv : Value} {NS : List Nd} {n : Nd} {F : Int → Int} {ao aa : Option Addr} {c ac j g cap : Nat} {avs : List Value} (hT : Tq w3 wr rv NS ao c avs) (hL : NS.length = j) (hb : Below wr.heap.size wr w4)
    (ha : w4.ownsRow wr.heap.size 3 1 (.slice aa n.args.length ac) n.args.length ((n.args.map F).map (Value.int .i64))) (o : Obj)
    (hg : (w4.alloc o).grownBy w5 (Value.ownBlock (.slice ao j c))) (hown : w5.ownsRow (w3.heap.size + 1) 63 4 (.slice (some ⟨g, 0, none⟩) (j + 1) cap) (j + 1) (ncells NS avs ++ [.int .i64 n.kind, .string n.name, .int .i64 n.num, .slice aa n.args.length ac]))
    (hat : Value.ownBlock (.slice ao j c) = some g ∨ g = w4.heap.size + 1) :
    Tq w3 (w5.setCell ⟨w3.heap.size, 0, none⟩ (.slice (some ⟨g, 0, none⟩) (j + 1) cap)) rv (NS ++ [renum F n]) (some ⟨g, 0, none⟩) cap (avs ++ [.slice aa n.args.length ac]) := by
  subst hL
  have hl : (renum F n).args.length = n.args.length := by simp [renum]
  have hz := lt_of_block hT.out
  have hz4 := hb.size
  have hnv : ∀ k, Value.ownBlock (.slice ao NS.length c) = some k → w3.heap.size + 1 ≤ k := fun k e => (hT.on.n.lt k e).1
  have hP : On w5 (w3.heap.size + 1) (.slice (some ⟨g, 0, none⟩) (NS.length + 1) cap) (avs ++ [.slice aa n.args.length ac]) (NS ++ [renum F n]) := by
    have hP := On.push (n := renum F n) (ao := aa) (c := ac) (g := g) (cap := cap) hT.on (hb.alloc hz4 o) (by rw [hl]; exact ha.alloc o) (by omega) hg (by rw [hl]; exact hown) (by
      rcases hat with e | e
      · exact Or.inl e
      · exact Or.inr (by simp; omega))
    rw [hl] at hP
    exact hP
  have hgb : w3.heap.size < g := by
    rcases hat with e | e
    · have := hnv g e
      omega
    · omega
  have h5 : w5.heap[w3.heap.size]? = some (.cells #[.slice ao NS.length c, rv] 29) := by
    rw [hg.block _ (by simp; omega) (fun e => by have := hnv _ e.symm; omega), Below.heap_alloc _ _ _ (by omega), hb.block _ hz]
    exact hT.out
  refine ⟨?_, ?_, ?_⟩
  · have h1 : Below w3.heap.size w3 (w4.alloc o) := (Below.next hT.b hb).alloc (by have := hT.b.size; omega) o
    exact (h1.grown hg (by simp; omega) (fun k e => by have := hnv k e; omega)).setCell (Nat.le_refl _) _
  · rw [blk2_set0 h5]
    simp
  · rw [List.length_append, List.length_singleton]
    exact hP.keep (fun k hk => Below.heap_setCell _ _ _ _ (by have := (hP.lt k hk).1; show k ≠ w3.heap.size; omega))
theorem og_far {w : World} {B q i : Nat} {nv rv v : Value} {avs : List Value} {g : Gf} (h : Og w B nv rv avs g) (hq : q < B) : Og (w.setCell ⟨q, i, none⟩ v) B nv rv avs g := by
  have hk : ∀ k, B ≤ k → (w.setCell ⟨q, i, none⟩ v).heap[k]? = w.heap[k]? := fun k hk => Below.heap_setCell _ _ _ _ (by show k ≠ q; omega)
  obtain ⟨ao, c, e, ho⟩ := h.r
  exact ⟨h.on.keep (fun k hk' => hk k (h.on.lt k hk').1), h.nsl, ⟨ao, c, e, own_block ho (fun k ek => hk k (ho.lt k ek).1)⟩, h.ap⟩
theorem og_base {w : World} {B B' : Nat} {nv rv : Value} {avs : List Value} {g : Gf} (h : Og w B nv rv avs g) (hB : B' ≤ B) : Og w B' nv rv avs g := by
  obtain ⟨ao, c, e, ho⟩ := h.r
  exact ⟨⟨own_base h.on.n hB, h.on.len, fun j hj => by
    obtain ⟨a, b, e1, e2⟩ := h.on.a j hj
    exact ⟨a, b, e1, own_base e2 hB⟩, h.on.nd⟩, h.nsl, ⟨ao, c, e, own_base ho hB⟩, h.ap⟩
theorem good_sized {g : Gf} (hg : Good g) : Sized g := fun n hn => by
  have := good_name (hg.node n hn)
  omega
theorem ansC0 (e : Nat → Nat → Bool) (N : Nat) : ansC e N 0 = ints (csF e N) := rfl
theorem ansC1 (e : Nat → Nat → Bool) (N : Nat) : ansC e N 1 = ints (lsF e N) := rfl
theorem Fm.two {w : World} {B : Nat} {t2 t3 : Value} {e : Nat → Nat → Bool} {N : Nat} (h : Fm w B [t2, t3] (ansC e N)) : Ri w t2 (ints (csF e N)) ∧ Ri w t3 (ints (lsF e N)) := by
  have h0 := h.own 0 (by simp)
  have h1 := h.own 1 (by simp)
  rw [ansC0] at h0
  rw [ansC1] at h1
  obtain ⟨a0, c0, e0⟩ := own_sl h0
  obtain ⟨a1, c1, e1⟩ := own_sl h1
  have e0' : t2 = .slice a0 (ints (csF e N)).length c0 := e0
  have e1' : t3 = .slice a1 (ints (lsF e N)).length c1 := e1
  subst e0' e1'
  exact ⟨Ri.ofOwn h0, Ri.ofOwn h1⟩
set_option maxHeartbeats 8000000 in
theorem quot_good {W : World} {nv rv : Value} {g : Gf} (hG : Gr W nv rv g) (hS : Sized g) (hb : one (chk g) = []) (ee : Nat → Nat → Bool) (he : ∀ x y : Nat, (ee x y = true ↔ Al g (x : Int) (y : Int))) :
    Calls Try.prog 20 #[.agg #[nv, rv]] W fun r w' => (∃ nv' rv' avs, r = .returned (.tuple #[.agg #[nv', rv'], .nilIface]) ∧ Og w' W.heap.size nv' rv' avs (trimF (quoF ee g))) ∧ Below W.heap.size W w' := by
  obtain ⟨i1, hi1, hy0, hy1, hy2⟩ := info_parts infoN
  have hg := chk_good hb
  have hev := al_eqv hg he
  have hq := quo_good hg hev
  have hgn := hg.nodes
  have hgr := hg.roots
  have hll := lsF_le ee g.nodes.length
  have hllt := lsF_lt ee g.nodes.length
  have hcl := csF_len ee g.nodes.length
  have hb2 : Below W.heap.size W ((W.alloc (.cells #[nv, rv] 29)).alloc (.cells #[.slice none 0 0, .slice none 0 0] 29)) := (below_alloc W _).alloc (by simp) _
  have hal := alike_good (hG.below hb2) hS hb ee (fun x y _ _ => he x y)
  obtain ⟨na, nc, rfl, hNc⟩ := hG.1
  obtain ⟨ra, rc, rfl, _⟩ := hG.2
  have hC : ∀ w1 : World, Below ((W.alloc (.cells #[.slice na g.nodes.length nc, .slice ra g.roots.length rc] 29)).alloc (.cells #[.slice none 0 0, .slice none 0 0] 29)).heap.size ((W.alloc (.cells #[.slice na g.nodes.length nc, .slice ra g.roots.length rc] 29)).alloc (.cells #[.slice none 0 0, .slice none 0 0] 29)) w1 →
      w1.heap[W.heap.size + 1]? = some (.cells #[.slice none 0 0, .slice none 0 0] 29) ∧ w1.heap[W.heap.size]? = some (.cells #[.slice na g.nodes.length nc, .slice ra g.roots.length rc] 29) ∧ W.heap.size + 1 < w1.heap.size := fun w1 hb => by
    refine ⟨?_, ?_, ?_⟩
    · rw [hb.block _ (by simp)]
      simpa using heap_alloc_new (W.alloc (.cells #[.slice na g.nodes.length nc, .slice ra g.roots.length rc] 29)) (.cells #[.slice none 0 0, .slice none 0 0] 29)
    · rw [hb.block _ (by simp <;> omega), Below.heap_alloc _ _ _ (by simp)]
      exact heap_alloc_new W _
    · have := hb.size
      simp at this
      omega
  have hcr : Hid (∀ (w1 : World) (t2 : Value), Below W.heap.size W w1 → Ri w1 t2 (ints (csF ee g.nodes.length)) → Calls Try.prog 43 #[.slice ra g.roots.length rc, t2] w1 fun e w' => (∃ ao c, e = .returned (.slice ao g.roots.length c) ∧ w'.ownsRow w1.heap.size 3 1 (.slice ao g.roots.length c) g.roots.length ((g.roots.map (clsI ee g.nodes.length)).map (Value.int .i64))) ∧ Below w1.heap.size w1 w') := fun w1 t2 h1 h2 => classesOf_any (hG.2.below h1) h2 (fun x hx => by rw [ints_len, hcl]; exact hg.root x hx) (by omega)
  have hHG := hid hG
  clear hG
  go_enter Try.func20, Try.ntmps20
  have hlL := ints_len (lsF ee g.nodes.length)
  obtain ⟨L, hLd⟩ : ∃ L, L = (lsF ee g.nodes.length).length := ⟨_, rfl⟩
  rw [← hLd] at hlL hll
  have HLd := hid hLd
  clear hLd
  go_wp2_with (first
    | (go_at_call 42; refine hal.mono ?_; rintro e w1 ⟨⟨t2, t3, rfl, hF⟩, hb1⟩; obtain ⟨k1, k0, k2⟩ := hC w1 hb1; obtain ⟨⟨c0, c1⟩, _⟩ := blk2 k0; have hbw := Below.next hb2 hb1; obtain ⟨hR2, la, lc, rfl, hR3⟩ := hF.two; rw [hlL] at hR3 ⊢; clear hal hC hF)
    | (go_at_call 43; refine (hcr.out w1 t2 hbw hR2).mono ?_; rintro e w2 ⟨⟨ro, rcc, rfl, hro⟩, hb3⟩; clear c0 c1))
  have hT0 : Hid (Tq w2 (w2.alloc (.cells #[.slice none 0 0, .slice ro g.roots.length rcc] 29)) (.slice ro g.roots.length rcc) [] none 0 []) := ⟨below_alloc _ _, heap_alloc_new w2 _, On.nil _ _⟩
  have hbW2 := Below.next hbw hb3
  have hz2 := hb3.size
  have k0' : w2.heap[W.heap.size]? = some (.cells #[.slice na g.nodes.length nc, .slice ra g.roots.length rc] 29) := by rw [hb3.block _ (by omega)]; exact k0
  have k1' : w2.heap[W.heap.size + 1]? = some (.cells #[.slice none 0 0, .slice none 0 0] 29) := by rw [hb3.block _ k2]; exact k1
  have hHR2 := hid (hR2.below hb3)
  have hHR3 : Hid (∀ j, j < L → ∃ b o, la = some ⟨b, o, none⟩ ∧ w2.cell? ⟨b, o + j, none⟩ = some (.int .i64 ((ints (lsF ee g.nodes.length)).getD j 0))) := fun j hj => by
    obtain ⟨b, o, h1, h2⟩ := hR3 j hj
    exact ⟨b, o, h1, by rw [hb3.cell (p := ⟨b, o + j, none⟩) (lt_of_cell h2)]; exact h2⟩
  have Hro := hid hro
  have hHN := hid hNc
  clear hcr hR2 hR3 hro k0 k1 hb2 hNc
  go_wp2
  go_loopw [28] (fun i wr => ∃ (k : Nat) (ao : Option Addr) (c : Nat) (avs : List Value), k ≤ L ∧ i = .int .i64 k ∧ Hid (Tq w2 wr (.slice ro g.roots.length rcc) (((lsF ee g.nodes.length).take k).map (fun n => renum (clsI ee g.nodes.length) (g.nodes.getD n nd0))) ao c avs)) (fun i _ => L - (intOf i).toNat)
  case atStart => exact ⟨0, none, 0, [], Nat.zero_le _, rfl, by simpa [Hid] using hT0⟩
  case round =>
    clear hT0
    obtain ⟨j, ao, c, avs, hj, rfl, hT⟩ := hrel
    by_cases hjl : j < L
    · have hjl' : j < (lsF ee g.nodes.length).length := by rw [← HLd.out]; exact hjl
      have hts := ntake_snoc hjl'
      have hnN := hllt _ (nget_mem hjl')
      obtain ⟨lb, lo, hla, hlc⟩ := hHR3.out j hjl
      subst hla
      rw [ints_get hjl'] at hlc
      have hlc' : wr.cell? ⟨lb, lo + j, none⟩ = some (.int .i64 (((lsF ee g.nodes.length).getD j 0 : Nat) : Int)) := by rw [hT.out.b.cell (p := ⟨lb, lo + j, none⟩) (lt_of_cell hlc)]; exact hlc
      generalize (lsF ee g.nodes.length).getD j 0 = n at hts hnN hlc'
      have hbe := Below.next hbW2 hT.out.b
      obtain ⟨nb, no, av, rfl, hnd⟩ := hHN.out n hnN
      obtain ⟨n0, n1, n2, n3, hA⟩ := hnd.below hbe
      have hga := good_args (hg.node (g.nodes.getD n nd0) (by simp [List.getD, hnN]))
      have hNS : Hid (((lsF ee g.nodes.length).take (j + 1)).map (fun n => renum (clsI ee g.nodes.length) (g.nodes.getD n nd0)) = ((lsF ee g.nodes.length).take j).map (fun n => renum (clsI ee g.nodes.length) (g.nodes.getD n nd0)) ++ [renum (clsI ee g.nodes.length) (g.nodes.getD n nd0)]) := by
        show _ = _
        rw [hts]
        simp
      have hL : (((lsF ee g.nodes.length).take j).map (fun n => renum (clsI ee g.nodes.length) (g.nodes.getD n nd0))).length = j := by simp; omega
      generalize ((lsF ee g.nodes.length).take j).map (fun n => renum (clsI ee g.nodes.length) (g.nodes.getD n nd0)) = NS at hT hNS hL
      have hcp : ∀ w : World, Below wr.heap.size wr w → Calls Try.prog 43 #[av, t2] w fun e w' => (∃ ao c, e = .returned (.slice ao (g.nodes.getD n nd0).args.length c) ∧ w'.ownsRow w.heap.size 3 1 (.slice ao (g.nodes.getD n nd0).args.length c) (g.nodes.getD n nd0).args.length (((g.nodes.getD n nd0).args.map (clsI ee g.nodes.length)).map (Value.int .i64))) ∧ Below w.heap.size w w' := fun w hb => classesOf_any (hA.below hb) (hHR2.out.below (Below.next hT.out.b hb)) (fun x hx => by rw [ints_len, hcl]; exact hga.1 x hx) (by omega)
      have e0 : wr.heap[W.heap.size]? = some (.cells #[.slice (some ⟨nb, no, none⟩) g.nodes.length nc, .slice ra g.roots.length rc] 29) := by rw [hT.out.b.block _ (by omega)]; exact k0'
      obtain ⟨⟨c0, _⟩, _⟩ := blk2 e0
      have hon := hT.out.on
      rw [hL] at hon
      have honn := hon.n
      rw [hL] at honn
      have hz4 := hT.out.b.size
      have hzo := lt_of_block hT.out.out
      have hout := hT.out.out
      rw [hL] at hout
      have hnv : ∀ k, Value.ownBlock (.slice ao j c) = some k → w2.heap.size + 1 ≤ k := fun k e => (hon.n.lt k e).1
      have hstep := hid (fun (w4 w5 : World) (aa : Option Addr) (ac gg cap : Nat) => Tq.step (w4 := w4) (w5 := w5) (aa := aa) (ac := ac) (g := gg) (cap := cap) (F := clsI ee g.nodes.length) (n := g.nodes.getD n nd0) hT.out hL)
      have hal := hga.2
      generalize g.nodes.getD n nd0 = x at n0 n1 n2 n3 hcp hNS hstep hA hal
      obtain ⟨kind, name, num, args⟩ := x
      dsimp only at n0 n1 n2 n3 hcp hstep hA hal
      obtain ⟨aa0, ac0, rfl, _⟩ := hA
      have hbd : Below wr.heap.size wr (wr.alloc (.cells #[.int .i64 kind, .string name, .int .i64 num, .slice aa0 args.length ac0] 63)) := below_alloc wr _
      have hnw := heap_alloc_new wr (.cells #[.int .i64 kind, .string name, .int .i64 num, .slice aa0 args.length ac0] 63)
      have hcall := hcp _ hbd
      have hzd := lt_of_block hnw
      have hfacts := hid (fun (w4 : World) (aa : Option Addr) (ac : Nat) (hb4 : Below (wr.alloc (.cells #[.int .i64 kind, .string name, .int .i64 num, .slice aa0 args.length ac0] 63)).heap.size (wr.alloc (.cells #[.int .i64 kind, .string name, .int .i64 num, .slice aa0 args.length ac0] 63)) w4) (hao : w4.ownsRow (wr.alloc (.cells #[.int .i64 kind, .string name, .int .i64 num, .slice aa0 args.length ac0] 63)).heap.size 3 1 (.slice aa args.length ac) args.length ((args.map (clsI ee g.nodes.length)).map (Value.int .i64))) => (show (w4.heap[wr.heap.size]? = some (.cells #[.int .i64 kind, .string name, .int .i64 num, .slice aa0 args.length ac0] 63)) ∧ Below wr.heap.size wr (w4.setCell ⟨wr.heap.size, 3, none⟩ (.slice aa args.length ac)) ∧ (w4.setCell ⟨wr.heap.size, 3, none⟩ (.slice aa args.length ac)).ownsRow wr.heap.size 3 1 (.slice aa args.length ac) args.length ((args.map (clsI ee g.nodes.length)).map (Value.int .i64)) from
        ⟨by rw [hb4.block _ hzd]; exact hnw, (Below.next hbd hb4).setCell (Nat.le_refl _) _, own_base (own_block hao (fun k e => Below.heap_setCell _ _ _ _ (by have := (hao.lt k e).1; simp at this; show k ≠ wr.heap.size; omega))) (by simp)⟩))
      clear hcp hnd hga hT hlc hts e0 k0' k1' k2
      go_wp2_with (first
        | (go_at_call 43; refine hcall.mono ?_; rintro e w4 ⟨⟨aa, ac, rfl, hao⟩, hb4⟩; obtain ⟨f0, hb4s, haos⟩ := hfacts.out w4 aa ac hb4 hao; obtain ⟨⟨f1, f2, f3, f4⟩, f5, f6, f7, f8⟩ := blk4 f0; have hon4 := World.ownsRow.alloc (own_below honn hb4s) (.cells #[.int .i64 kind, .string name, .int .i64 num, .slice aa args.length ac] 63); have d4 : (w4.setCell ⟨wr.heap.size, 3, none⟩ (.slice aa args.length ac)).heap[w2.heap.size]? = some (.cells #[.slice ao j c, .slice ro g.roots.length rcc] 29) := (by rw [hb4s.block _ hzo]; exact hout); obtain ⟨⟨g0, _⟩, g1, _⟩ := blk2 d4; obtain ⟨⟨gg0, _⟩, gg1, _⟩ := blk2 (((Below.next hbd hb4).block _ hzo).trans hout); have hsz4 : (w4.setCell ⟨wr.heap.size, 3, none⟩ (.slice aa args.length ac)).heap.size = w4.heap.size := (by simp); have hz5 := hb4s.size; rw [hsz4] at hz5; have hnews := heap_alloc_new (w4.setCell ⟨wr.heap.size, 3, none⟩ (.slice aa args.length ac)) (.cells #[.int .i64 kind, .string name, .int .i64 num, .slice aa args.length ac] 63); rw [hsz4] at hnews; clear hao hb4 hfacts hcall)
        | (at_builtin; refine wpList_append_lies _ rfl _ _ _ rfl (w2.heap.size + 1) 63 i1 (.agg #[.int .i64 0, .string ⟨#[]⟩, .int .i64 0, .slice none 0 0]) 4 56 Try.underlying26 hi1 hy0 hy1 hy2 rfl (by omega) _ j (ncells NS avs) rfl hon4 ⟨w4.heap.size, 0, none⟩ 1 1 [.int .i64 kind, .string name, .int .i64 num, .slice aa args.length ac] rfl rfl (World.news_of_block (cs := #[.int .i64 kind, .string name, .int .i64 num, .slice aa args.length ac]) (t := 63) (fr := (0, 0)) hnews) (by simp [Value.oneCell']) (by omega) (by unfold maxLen; omega) (by omega) (by simp; omega) (w4.heap.size + 1) (by simp) ?_; intro gg cap w5 hown5 hgr5 hat hlt5; have d5 : w5.heap[w2.heap.size]? = some (.cells #[.slice ao j c, .slice ro g.roots.length rcc] 29) := (by rw [hgr5.block _ (by simp; omega) (fun e => by have := hnv _ e.symm; omega), Below.heap_alloc _ _ _ (by simp; omega)]; exact d4); obtain ⟨⟨d0', _⟩, d1', _⟩ := blk2 d5))
      go_roundw
      case rel =>
        refine ⟨j + 1, some ⟨gg, 0, none⟩, cap, avs ++ [.slice aa args.length ac], by omega, congrArg (Value.int .i64) (by omega), ?_⟩
        show Tq _ _ _ _ _ _ _
        rw [hNS.out]
        exact hstep.out _ w5 aa ac gg cap hb4s haos _ hgr5 hown5 (by rw [hsz4]; exact hat)
      case measure => simp [intOf]; omega
    · have hTe : Hid (Tq w2 wr (.slice ro g.roots.length rcc) ((lsF ee g.nodes.length).map (fun n => renum (clsI ee g.nodes.length) (g.nodes.getD n nd0))) ao c avs) := by
        have := hT.out
        rw [List.take_of_length_le (by rw [← HLd.out]; omega)] at this
        exact this
      clear hT
      have hOut := hTe.out.out
      have hlm : ((lsF ee g.nodes.length).map (fun n => renum (clsI ee g.nodes.length) (g.nodes.getD n nd0))).length = L := by rw [List.length_map]; exact HLd.out.symm
      have hOn := hTe.out.on
      rw [hlm] at hOut
      obtain ⟨⟨o0, o1⟩, _⟩ := blk2 hOut
      have hGq : Gr wr (.slice ao L c) (.slice ro g.roots.length rcc) (quoF ee g) := by
        refine ⟨?_, ?_⟩
        · have := hOn.rn
          rw [hlm] at this
          exact this
        · have h1 := Ri.ofOwn (l := g.roots.map (clsI ee g.nodes.length)) (by rw [List.length_map]; exact Hro.out)
          rw [List.length_map] at h1
          exact h1.below hTe.out.b
      have htr := trim_good hGq (good_sized hq) (chk_of_good hq)
      have hbe := Below.next hbW2 hTe.out.b
      have e1 : wr.heap[W.heap.size + 1]? = some (.cells #[.slice none 0 0, .slice none 0 0] 29) := by rw [hTe.out.b.block _ (by omega)]; exact k1'
      have hze := lt_of_block e1
      have hF : Hid (∀ w5 : World, Below wr.heap.size wr w5 → w5.heap[W.heap.size + 1]? = some (.cells #[.slice none 0 0, .slice none 0 0] 29)) := fun w5 hb => by rw [hb.block _ hze]; exact e1
      clear hGq hOn hOut e1 k0' k1' hTe
      go_wp2_with (go_at_call 44; refine htr.mono ?_; rintro e w5 ⟨⟨nv5, rv5, avs5, rfl, hO5⟩, hb5⟩; obtain ⟨n5a, n5c, rfl⟩ := hO5.nsl; obtain ⟨r5a, r5c, rfl, _⟩ := hO5.r; have j1 := hF.out w5 hb5; obtain ⟨⟨r0, r1⟩, s0, s1⟩ := blk2 j1)
      refine bodyPost_ret (ret_gr Try.results20 (by rfl) (by rfl) (blk2_set j1)) rfl ⟨⟨_, _, avs5, rfl, ?_⟩, ?_⟩
      · exact og_base (og_far (og_far hO5 (by omega)) (by omega)) (by omega)
      · exact ((Below.next hbe hb5).setCell (by simp) _).setCell (by simp) _
end Go.Proofs.Ytjkcffcedbcjmaa

namespace Go.Proofs.Ytjkcffcedbcjmaa
set_option maxRecDepth 100000
open Go.RowKit Go.Shelf
def scRen : Go.Shelf.Ren := ⟨fun _ => 75, fun n => if n = 37 then 151 else if n = 127 then 152 else n, fun n => n⟩
theorem scLays : LaysM.n316 Try.prog scRen := by
  constructor
  constructor
  all_goals (first | kernel_rfl | (intro _; kernel_rfl))
theorem tclone0_any (s : ByteArray) (w : World) (hs : s.size ≤ 281474976710656) :
    Calls Try.prog 75 #[.string s] w fun e w' => e = .returned (.string s) ∧ Below w.heap.size w w' := Any.stringslite_Clone scLays s w hs
set_option maxHeartbeats 400000 in
theorem tclone_any (s : ByteArray) (w : World) (hs : s.size ≤ 281474976710656) :
    Calls Try.prog 49 #[.string s] w fun e w' => e = .returned (.string s) ∧ Below w.heap.size w w' := by
  have h := tclone0_any s w hs
  go_enter Try.func49, Try.ntmps49
  go_wp2_with (go_at_call 75; refine h.mono ?_; rintro e w1 ⟨rfl, hb1⟩)
  go_ret
  exact ⟨rfl, hb1⟩
def Ef (w : World) (e : Value) (c a : Int) (s : ByteArray) : Prop := ∃ b, e = .iface 85 (.pointer (some ⟨b, 0, none⟩)) ∧ w.heap[b]? = some (.cells #[.int .i64 c, .int .i64 a, .string s, .nilIface] 88)
theorem Ef.next {w w' : World} {e : Value} {c a : Int} {s : ByteArray} (h : Ef w e c a s) (hb : Below w.heap.size w w') : Ef w' e c a s := by
  obtain ⟨b, he, h⟩ := h
  exact ⟨b, he, (hb.block b (lt_of_block h)).trans h⟩
set_option maxHeartbeats 1000000 in
theorem tfault_any (c a : Int) (s : ByteArray) (w : World) (hs : s.size ≤ 281474976710656) :
    Calls Try.prog 29 #[.int .i64 c, .int .i64 a, .string s] w fun e w' => (∃ ev, e = .returned ev ∧ Ef w' ev c a s) ∧ Below w.heap.size w w' := by
  have h := tclone_any s w hs
  go_enter Try.func29, Try.ntmps29
  go_wp2_with (go_at_call 49; refine h.mono ?_; rintro e w1 ⟨rfl, hb1⟩)
  go_ret
  exact ⟨⟨_, rfl, _, rfl, heap_alloc_new w1 _⟩, Below.next hb1 (below_alloc w1 _)⟩
end Go.Proofs.Ytjkcffcedbcjmaa

namespace Go.Proofs.Ytjkcffcedbcjmaa
set_option maxRecDepth 100000
open Go.RowKit
def isU (s : ByteArray) : Bool := decide (s.toList = [95])
def inN (l : List ByteArray) (s : ByteArray) : Bool := l.any (fun x => decide (x = s))
theorem inN_iff {l : List ByteArray} {s : ByteArray} : inN l s = true ↔ s ∈ l := by simp [inN]
theorem inN_snoc (l : List ByteArray) (s x : ByteArray) : inN (l ++ [s]) x = (inN l x || decide (s = x)) := by simp [inN]
def ixN : List ByteArray → ByteArray → Nat
  | [], _ => 0
  | x :: r, s => if x = s then 0 else ixN r s + 1
theorem ixN_new : ∀ {l : List ByteArray} {s : ByteArray}, inN l s = false → ixN (l ++ [s]) s = l.length
  | [], s, _ => by simp [ixN]
  | x :: r, s, h => by
    simp only [inN, List.any_cons, Bool.or_eq_false_iff, decide_eq_false_iff_not] at h
    simp only [List.cons_append, ixN, if_neg h.1, List.length_cons]
    rw [ixN_new (l := r) (s := s) h.2]
theorem ixN_old : ∀ {l : List ByteArray} {s x : ByteArray}, inN l x = true → ixN (l ++ [s]) x = ixN l x
  | [], s, x, h => by simp [inN] at h
  | y :: r, s, x, h => by
    by_cases e : y = x
    · simp [ixN, e]
    · simp only [inN, List.any_cons, e, decide_false, Bool.false_or] at h
      simp only [List.cons_append, ixN, if_neg e]
      rw [ixN_old (l := r) (s := s) (x := x) h]
theorem ixN_lt : ∀ {l : List ByteArray} {s : ByteArray}, inN l s = true → ixN l s < l.length
  | [], s, h => by simp [inN] at h
  | y :: r, s, h => by
    by_cases e : y = s
    · simp [ixN, e]
    · simp only [inN, List.any_cons, e, decide_false, Bool.false_or] at h
      have := ixN_lt (l := r) (s := s) h
      simp only [ixN, if_neg e, List.length_cons]
      omega
theorem ixN_at : ∀ {l : List ByteArray} {s : ByteArray}, inN l s = true → l.getD (ixN l s) ⟨#[]⟩ = s
  | [], s, h => by simp [inN] at h
  | y :: r, s, h => by
    by_cases e : y = s
    · simp [ixN, e]
    · simp only [inN, List.any_cons, e, decide_false, Bool.false_or] at h
      have := ixN_at (l := r) (s := s) h
      simp only [ixN, if_neg e]
      simpa using this
theorem skey_ne {s s' : ByteArray} (h : s' ≠ s) : Lit.string s'.data.toList ≠ Lit.string s.data.toList := fun e => h (by
  have e' : s'.data.toList = s.data.toList := by injection e
  exact ByteArray.ext (Array.toList_inj.1 e'))
theorem skey_is (s : ByteArray) : WideAt.IsKeyLit (.string s.data.toList) := trivial
def chkQ (n : Nat) : List ByteArray → List (ByteArray × Ex) → Nat → Int × Int × ByteArray
  | _, [], _ => (0, 0, ⟨#[]⟩)
  | ahead, q :: r, i =>
    if isW q.1 4 = false ∨ isU q.1 = true then (83, i, q.1)
    else if inN ahead q.1 = true then (84, i, q.1)
    else if goodX 0 q.2 = false then (81, n + i, ⟨#[]⟩)
    else chkQ n (ahead ++ [q.1]) r (i + 1)
def chkT (xs : List Ex) (qs : List (ByteArray × Ex)) : Int × Int × ByteArray :=
  if 4096 < xs.length then (80, xs.length, ⟨#[]⟩)
  else if 4096 < qs.length then (82, qs.length, ⟨#[]⟩)
  else if 0 ≤ ixOf (fun x => !goodX 0 x) xs then (81, ixOf (fun x => !goodX 0 x) xs, ⟨#[]⟩)
  else chkQ xs.length [] qs 0
def nmX : Ex → Bool
  | .mk k n _ _ => decide (k = 1) && !isU n
def putS (l : List ByteArray) (s : ByteArray) : List ByteArray := if inN l s = true then l else l ++ [s]
mutual
def namX : List ByteArray → Ex → List ByteArray
  | l, .mk k n _ xs => namXs (if (decide (k = 1) && !isU n) = true then putS l n else l) xs
def namXs : List ByteArray → List Ex → List ByteArray
  | l, [] => l
  | l, x :: r => namXs (namX l x) r
end
mutual
def othX : Ex → Nat
  | .mk k n _ xs => (if (decide (k = 1) && !isU n) = true then 0 else 1) + othXs xs
def othXs : List Ex → Nat
  | [] => 0
  | x :: r => othX x + othXs r
end
def namQ : List ByteArray → List (ByteArray × Ex) → List ByteArray
  | l, [] => l
  | l, q :: r => namQ (namX (putS l q.1) q.2) r
def othQ : List (ByteArray × Ex) → Nat
  | [] => 0
  | q :: r => othX q.2 + othQ r
def namA (xs : List Ex) (qs : List (ByteArray × Ex)) : List ByteArray := namQ (namXs [] xs) qs
def othA (xs : List Ex) (qs : List (ByteArray × Ex)) : Nat := othXs xs + othQ qs
abbrev varN : Nd := ⟨1, ⟨#[]⟩, 0, []⟩
def setA (st : List Nd) (n : Nat) (al : List Int) : List Nd := st.set n { (st.getD n nd0) with args := al }
mutual
def layX (ns : List ByteArray) : List Nd → Ex → Nat × List Nd
  | st, .mk k n m xs =>
    if (decide (k = 1) && !isU n) = true then (ixN ns n, st)
    else if k = 1 then (st.length, st ++ [varN])
    else (st.length, setA (layXs ns (st ++ [⟨k, n, m, []⟩]) xs).2 st.length (layXs ns (st ++ [⟨k, n, m, []⟩]) xs).1)
def layXs (ns : List ByteArray) : List Nd → List Ex → List Int × List Nd
  | st, [] => ([], st)
  | st, x :: r => (((layX ns st x).1 : Int) :: (layXs ns (layX ns st x).2 r).1, (layXs ns (layX ns st x).2 r).2)
end
def layQ (ns : List ByteArray) : List Nd → List (ByteArray × Ex) → List (Nat × Nat) × List Nd
  | st, [] => ([], st)
  | st, q :: r => ((ixN ns q.1, (layX ns st q.2).1) :: (layQ ns (layX ns st q.2).2 r).1, (layQ ns (layX ns st q.2).2 r).2)
end Go.Proofs.Ytjkcffcedbcjmaa

namespace Go.Proofs.Ytjkcffcedbcjmaa
set_option maxRecDepth 100000
open Go.RowKit Go.Maps
theorem mapI_keep {w w' : World} {k : TypeId} {q n : Nat} {D : DataW Unit} (h : w.ownsMap Try.prog k (plainElem Try.prog 3) q n D) (hm : w'.heap[q]? = w.heap[q]?) : w'.ownsMap Try.prog k (plainElem Try.prog 3) q n D := by
  obtain ⟨es, clock, hb, rest⟩ := h
  exact ⟨es, clock, by rw [hm]; exact hb, rest⟩
theorem obj_map {w : World} {k j n : Nat} {c : Array Value} {e t : TypeId} {x : Nat × Nat} {R : Value → Option (DataW Unit × List MemPlace)} {D : DataW Unit} (h : w.heap[k]? = some (.cells c e x)) (h' : w.ownsMap Try.prog t R j n D) : k ≠ j := fun ek => by
  subst ek
  obtain ⟨es, clock, hb, _⟩ := h'
  rw [h] at hb
  cases hb
def MapN (l : List ByteArray) (D : DataW Unit) : Prop :=
  Maps.IsMap D ∧ (∀ s : ByteArray, Maps.has D (.string s.data.toList) = inN l s) ∧ ∀ s : ByteArray, inN l s = true → D.atKey (.string s.data.toList) (.lit (.int .i64 0)) = .lit (.int .i64 (ixN l s : Int))
theorem MapN.nil : MapN [] (.map []) := ⟨⟨[], rfl⟩, fun s => by simp [Maps.has, inN], fun s h => by simp [inN] at h⟩
theorem MapN.put {l : List ByteArray} {s : ByteArray} {D : DataW Unit} (h : MapN l D) (hD : Maps.IsMap (D.put (.string s.data.toList) (.lit (.int .i64 (l.length : Int))))) (hs : inN l s = false) : MapN (l ++ [s]) (D.put (.string s.data.toList) (.lit (.int .i64 (l.length : Int)))) := by
  refine ⟨hD, fun x => ?_, fun x hx => ?_⟩
  · rw [inN_snoc]
    by_cases e : x = s
    · subst e
      rw [Maps.has_put_same h.1 (skey_is x)]
      simp
    · rw [Maps.has_put_other (skey_ne e), h.2.1, decide_eq_false (fun h : s = x => e h.symm), Bool.or_false]
  · by_cases e : x = s
    · subst e
      rw [Maps.atKey_put_same h.1 (skey_is x), ixN_new hs]
    · rw [inN_snoc, decide_eq_false (fun h : s = x => e h.symm), Bool.or_false] at hx
      rw [Maps.atKey_put_other (skey_ne e), h.2.2 x hx, ixN_old hx]
structure Cs (w : World) (B cb : Nat) (v : Value) (q : Nat) (l : List ByteArray) (oth : Nat) : Prop where
  blk : w.heap[cb]? = some (.cells #[v, .map (some q), .int .i64 (oth : Int)] 71)
  base : B ≤ cb
  mb : B ≤ q
  own : w.ownsRow B 9 1 v l.length (l.map Value.string)
  map : ∃ D, w.ownsMap Try.prog 9 (plainElem Try.prog 3) q l.length D ∧ MapN l D
section
variable {w w' : World} {B cb q oth : Nat} {v : Value} {l : List ByteArray}
def CsF (cb : Nat) (v : Value) (q : Nat) : Nat → Prop := fun k => k = cb ∨ k = q ∨ v.ownBlock = some k
theorem Cs.lt (h : Cs w B cb v q l oth) {k : Nat} (hk : CsF cb v q k) : B ≤ k ∧ k < w.heap.size := by
  rcases hk with rfl | rfl | hk
  · exact ⟨h.base, lt_of_block h.blk⟩
  · obtain ⟨D, hD, _⟩ := h.map
    exact ⟨h.mb, hD.lt⟩
  · exact h.own.lt k hk
theorem Cs.keep (h : Cs w B cb v q l oth) (hm : ∀ k, CsF cb v q k → w'.heap[k]? = w.heap[k]?) : Cs w' B cb v q l oth := by
  obtain ⟨D, hD, hM⟩ := h.map
  exact ⟨(hm cb (Or.inl rfl)).trans h.blk, h.base, h.mb, row_keep h.own (fun k hk => hm k (Or.inr (Or.inr hk))), D, mapI_keep hD (hm q (Or.inr (Or.inl rfl))), hM⟩
theorem Cs.next (h : Cs w B cb v q l oth) (hb : Below w.heap.size w w') : Cs w' B cb v q l oth := h.keep fun k hk => hb.block k (h.lt hk).2
theorem Cs.cells (h : Cs w B cb v q l oth) : (w.cell? ⟨cb, 0, none⟩ = some v ∧ w.cell? ⟨cb, 1, none⟩ = some (.map (some q)) ∧ w.cell? ⟨cb, 2, none⟩ = some (.int .i64 (oth : Int))) ∧ w.frozen? ⟨cb, 0, none⟩ = false ∧ w.frozen? ⟨cb, 1, none⟩ = false ∧ w.frozen? ⟨cb, 2, none⟩ = false := by
  have := h.blk
  refine ⟨⟨?_, ?_, ?_⟩, ?_, ?_, ?_⟩ <;> simp [World.cell?, World.frozen?, this]
theorem Cs.ne (h : Cs w B cb v q l oth) : cb ≠ q ∧ (∀ k, v.ownBlock = some k → k ≠ cb ∧ k ≠ q) := by
  obtain ⟨D, hD, _⟩ := h.map
  refine ⟨obj_map h.blk hD, fun k hk => ?_⟩
  obtain ⟨cur, hc⟩ := row_obj h.own hk
  exact ⟨obj_ne hc h.blk (by decide), obj_map hc hD⟩
end
def Nx (w : World) (v v' : Value) : Prop := ∀ k, v'.ownBlock = some k → v.ownBlock = some k ∨ w.heap.size ≤ k
theorem Nx.refl (w : World) (v : Value) : Nx w v v := fun _ h => Or.inl h
theorem Nx.trans {w w1 : World} {v v1 v2 : Value} (h : Nx w v v1) (k : Nx w1 v1 v2) (hs : w.heap.size ≤ w1.heap.size) : Nx w v v2 := fun x hx => by
  rcases k x hx with h1 | h1
  · exact h x h1
  · exact Or.inr (Nat.le_trans hs h1)
def CsU (w w' : World) (B cb q : Nat) (v : Value) (l : List ByteArray) (oth : Nat) : Prop := ∃ v', Cs w' B cb v' q l oth ∧ Mo (CsF cb v q) w w' ∧ Nx w v v'
theorem CsU.trans {w w1 w2 : World} {B cb q : Nat} {v v1 : Value} {l' : List ByteArray} {oth' : Nat} (h1 : Mo (CsF cb v q) w w1) (hn : Nx w v v1) (h : CsU w1 w2 B cb q v1 l' oth') : CsU w w2 B cb q v l' oth' := by
  obtain ⟨v2, hc, hm, hn2⟩ := h
  refine ⟨v2, hc, h1.trans hm (fun x hx => ?_), hn.trans hn2 h1.size⟩
  rcases hx with e | e | e
  · exact Or.inl (Or.inl e)
  · exact Or.inl (Or.inr (Or.inl e))
  · rcases hn x e with h2 | h2
    · exact Or.inl (Or.inr (Or.inr h2))
    · exact Or.inr h2
end Go.Proofs.Ytjkcffcedbcjmaa
