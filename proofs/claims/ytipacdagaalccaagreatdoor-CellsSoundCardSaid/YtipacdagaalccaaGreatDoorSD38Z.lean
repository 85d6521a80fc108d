/- Quotient of package bisim, at every good graph. -/
import Derived.Deep.CutRange
import Derived.Test.YtipacdagaalccaaGreatDoorSD31Z
import Derived.Test.YtipacdagaalccaaGreatDoorSD37Z
import Derived.Test.YtipacdagaalccaaGreatDoorSD25Z
import Derived.Test.YtipacdagaalccaaGreatDoorSD29Z
import Derived.Test.YtipacdagaalccaaGreatDoorSD28Z
namespace Go.Proofs.YtipacdagaalccaaGreatDoor
set_option maxRecDepth 100000
open Go.RowKit
structure Tq (w3 w : World) (rv : Value) (ns : List Nd) (ao : Option Addr) (c : Nat) (avs : List Value) : Prop where
  b : Below w3.heap.size w3 w
  out : w.heap[w3.heap.size]? = some (.cells #[.slice ao ns.length c, rv] 30 (0, 0))
  on : On w (w3.heap.size + 1) (.slice ao ns.length c) avs ns
theorem Tq.step {w3 wr w4 w5 : World} {rv : Value} {NS : List Nd} {n : Nd} {F : Int → Int} {ao aa : Option Addr} {c ac j g cap : Nat} {avs : List Value} (hT : Tq w3 wr rv NS ao c avs) (hL : NS.length = j) (hb : Below wr.heap.size wr w4)
    (ha : w4.ownsRow wr.heap.size 3 1 (.slice aa n.args.length ac) n.args.length ((n.args.map F).map (Value.int .i64))) (o : Obj)
    (hg : (w4.alloc o).grownBy w5 (Value.ownBlock (.slice ao j c))) (hown : w5.ownsRow (w3.heap.size + 1) 96 4 (.slice (some ⟨g, 0, none⟩) (j + 1) cap) (j + 1) (ncells NS avs ++ [.int .i64 n.kind, .string n.name, .int .i64 n.num, .slice aa n.args.length ac]))
    (hat : Value.ownBlock (.slice ao j c) = some g ∨ g = w4.heap.size + 1) :
    Tq w3 (w5.setCell ⟨w3.heap.size, 0, none⟩ (.slice (some ⟨g, 0, none⟩) (j + 1) cap)) rv (NS ++ [renum F n]) (some ⟨g, 0, none⟩) cap (avs ++ [.slice aa n.args.length ac]) := by
  subst hL
  have hl : (renum F n).args.length = n.args.length := by simp [renum]
  have hz := lt_of_block hT.out
  have hz4 := hb.size
  have hnv : ∀ k, Value.ownBlock (.slice ao NS.length c) = some k → w3.heap.size + 1 ≤ k := fun k e => (hT.on.n.lt k e).1
  have hP : On w5 (w3.heap.size + 1) (.slice (some ⟨g, 0, none⟩) (NS.length + 1) cap) (avs ++ [.slice aa n.args.length ac]) (NS ++ [renum F n]) := by
    have hP := On.push (n := renum F n) (ao := aa) (c := ac) (g := g) (cap := cap) hT.on (hb.alloc hz4 o) (by rw [hl]; exact ha.alloc o) (by omega) hg (by rw [hl]; exact hown) (by
      rcases hat with e | e
      · exact Or.inl e
      · exact Or.inr (by simp; omega))
    rw [hl] at hP
    exact hP
  have hgb : w3.heap.size < g := by
    rcases hat with e | e
    · have := hnv g e
      omega
    · omega
  have h5 : w5.heap[w3.heap.size]? = some (.cells #[.slice ao NS.length c, rv] 30) := by
    rw [hg.block _ (by simp; omega) (fun e => by have := hnv _ e.symm; omega), Below.heap_alloc _ _ _ (by omega), hb.block _ hz]
    exact hT.out
  refine ⟨?_, ?_, ?_⟩
  · have h1 : Below w3.heap.size w3 (w4.alloc o) := (Below.next hT.b hb).alloc (by have := hT.b.size; omega) o
    exact (h1.grown hg (by simp; omega) (fun k e => by have := hnv k e; omega)).setCell (Nat.le_refl _) _
  · rw [blk2_set0 h5]
    simp
  · rw [List.length_append, List.length_singleton]
    exact hP.keep (fun k hk => Below.heap_setCell _ _ _ _ (by have := (hP.lt k hk).1; show k ≠ w3.heap.size; omega))
theorem og_far {w : World} {B q i : Nat} {nv rv v : Value} {avs : List Value} {g : Gf} (h : Og w B nv rv avs g) (hq : q < B) : Og (w.setCell ⟨q, i, none⟩ v) B nv rv avs g := by
  have hk : ∀ k, B ≤ k → (w.setCell ⟨q, i, none⟩ v).heap[k]? = w.heap[k]? := fun k hk => Below.heap_setCell _ _ _ _ (by show k ≠ q; omega)
  obtain ⟨ao, c, e, ho⟩ := h.r
  exact ⟨h.on.keep (fun k hk' => hk k (h.on.lt k hk').1), h.nsl, ⟨ao, c, e, own_block ho (fun k ek => hk k (ho.lt k ek).1)⟩, h.ap⟩
theorem og_base {w : World} {B B' : Nat} {nv rv : Value} {avs : List Value} {g : Gf} (h : Og w B nv rv avs g) (hB : B' ≤ B) : Og w B' nv rv avs g := by
  obtain ⟨ao, c, e, ho⟩ := h.r
  exact ⟨⟨own_base h.on.n hB, h.on.len, fun j hj => by
    obtain ⟨a, b, e1, e2⟩ := h.on.a j hj
    exact ⟨a, b, e1, own_base e2 hB⟩, h.on.nd⟩, h.nsl, ⟨ao, c, e, own_base ho hB⟩, h.ap⟩
theorem good_sized {g : Gf} (hg : Good g) : Sized g := fun n hn => by
  have := good_name (hg.node n hn)
  omega
theorem ansC0 (e : Nat → Nat → Bool) (N : Nat) : ansC e N 0 = ints (csF e N) := rfl
theorem ansC1 (e : Nat → Nat → Bool) (N : Nat) : ansC e N 1 = ints (lsF e N) := rfl
theorem Fm.two {w : World} {B : Nat} {t2 t3 : Value} {e : Nat → Nat → Bool} {N : Nat} (h : Fm w B [t2, t3] (ansC e N)) : Ri w t2 (ints (csF e N)) ∧ Ri w t3 (ints (lsF e N)) := by
  have h0 := h.own 0 (by simp)
  have h1 := h.own 1 (by simp)
  rw [ansC0] at h0
  rw [ansC1] at h1
  obtain ⟨a0, c0, e0⟩ := own_sl h0
  obtain ⟨a1, c1, e1⟩ := own_sl h1
  have e0' : t2 = .slice a0 (ints (csF e N)).length c0 := e0
  have e1' : t3 = .slice a1 (ints (lsF e N)).length c1 := e1
  subst e0' e1'
  exact ⟨Ri.ofOwn h0, Ri.ofOwn h1⟩
set_option maxHeartbeats 8000000 in
theorem quot_good {W : World} {nv rv : Value} {g : Gf} (hG : Gr W nv rv g) (hS : Sized g) (hb : one (chk g) = []) (ee : Nat → Nat → Bool) (he : ∀ x y : Nat, (ee x y = true ↔ Al g (x : Int) (y : Int))) :
    Calls Tryz.prog 48 #[.agg #[nv, rv]] W fun r w' => (∃ nv' rv' avs, r = .returned (.tuple #[.agg #[nv', rv'], .nilIface]) ∧ Og w' W.heap.size nv' rv' avs (trimF (quoF ee g))) ∧ Below W.heap.size W w' := by
  obtain ⟨i1, hi1, hy0, hy1, hy2⟩ := info_parts infoN
  have hg := chk_good hb
  have hev := al_eqv hg he
  have hq := quo_good hg hev
  have hgn := hg.nodes
  have hgr := hg.roots
  have hll := lsF_le ee g.nodes.length
  have hllt := lsF_lt ee g.nodes.length
  have hcl := csF_len ee g.nodes.length
  have hb2 : Below W.heap.size W ((W.alloc (.cells #[nv, rv] 30)).alloc (.cells #[.slice none 0 0, .slice none 0 0] 30)) := (below_alloc W _).alloc (by simp) _
  have hal := alike_good (hG.below hb2) hS hb ee (fun x y _ _ => he x y)
  obtain ⟨na, nc, rfl, hNc⟩ := hG.1
  obtain ⟨ra, rc, rfl, _⟩ := hG.2
  have hC : ∀ w1 : World, Below ((W.alloc (.cells #[.slice na g.nodes.length nc, .slice ra g.roots.length rc] 30)).alloc (.cells #[.slice none 0 0, .slice none 0 0] 30)).heap.size ((W.alloc (.cells #[.slice na g.nodes.length nc, .slice ra g.roots.length rc] 30)).alloc (.cells #[.slice none 0 0, .slice none 0 0] 30)) w1 →
      w1.heap[W.heap.size + 1]? = some (.cells #[.slice none 0 0, .slice none 0 0] 30) ∧ w1.heap[W.heap.size]? = some (.cells #[.slice na g.nodes.length nc, .slice ra g.roots.length rc] 30) ∧ W.heap.size + 1 < w1.heap.size := fun w1 hb => by
    refine ⟨?_, ?_, ?_⟩
    · rw [hb.block _ (by simp)]
      simpa using heap_alloc_new (W.alloc (.cells #[.slice na g.nodes.length nc, .slice ra g.roots.length rc] 30)) (.cells #[.slice none 0 0, .slice none 0 0] 30)
    · rw [hb.block _ (by simp <;> omega), Below.heap_alloc _ _ _ (by simp)]
      exact heap_alloc_new W _
    · have := hb.size
      simp at this
      omega
  have hcr : Hid (∀ (w1 : World) (t2 : Value), Below W.heap.size W w1 → Ri w1 t2 (ints (csF ee g.nodes.length)) → Calls Tryz.prog 78 #[.slice ra g.roots.length rc, t2] w1 fun e w' => (∃ ao c, e = .returned (.slice ao g.roots.length c) ∧ w'.ownsRow w1.heap.size 3 1 (.slice ao g.roots.length c) g.roots.length ((g.roots.map (clsI ee g.nodes.length)).map (Value.int .i64))) ∧ Below w1.heap.size w1 w') := fun w1 t2 h1 h2 => classesOf_any (hG.2.below h1) h2 (fun x hx => by rw [ints_len, hcl]; exact hg.root x hx) (by omega)
  have hHG := hid hG
  clear hG
  go_enter Tryz.func48, Tryz.ntmps48
  have hlL := ints_len (lsF ee g.nodes.length)
  obtain ⟨L, hLd⟩ : ∃ L, L = (lsF ee g.nodes.length).length := ⟨_, rfl⟩
  rw [← hLd] at hlL hll
  have HLd := hid hLd
  clear hLd
  go_wp2_with (first
    | (go_at_call 77; refine hal.mono ?_; rintro e w1 ⟨⟨t2, t3, rfl, hF⟩, hb1⟩; obtain ⟨k1, k0, k2⟩ := hC w1 hb1; obtain ⟨⟨c0, c1⟩, _⟩ := blk2 k0; have hbw := Below.next hb2 hb1; obtain ⟨hR2, la, lc, rfl, hR3⟩ := hF.two; rw [hlL] at hR3 ⊢; clear hal hC hF)
    | (go_at_call 78; refine (hcr.out w1 t2 hbw hR2).mono ?_; rintro e w2 ⟨⟨ro, rcc, rfl, hro⟩, hb3⟩; clear c0 c1))
  have hT0 : Hid (Tq w2 (w2.alloc (.cells #[.slice none 0 0, .slice ro g.roots.length rcc] 30)) (.slice ro g.roots.length rcc) [] none 0 []) := ⟨below_alloc _ _, heap_alloc_new w2 _, On.nil _ _⟩
  have hbW2 := Below.next hbw hb3
  have hz2 := hb3.size
  have k0' : w2.heap[W.heap.size]? = some (.cells #[.slice na g.nodes.length nc, .slice ra g.roots.length rc] 30) := by rw [hb3.block _ (by omega)]; exact k0
  have k1' : w2.heap[W.heap.size + 1]? = some (.cells #[.slice none 0 0, .slice none 0 0] 30) := by rw [hb3.block _ k2]; exact k1
  have hHR2 := hid (hR2.below hb3)
  have hHR3 : Hid (∀ j, j < L → ∃ b o, la = some ⟨b, o, none⟩ ∧ w2.cell? ⟨b, o + j, none⟩ = some (.int .i64 ((ints (lsF ee g.nodes.length)).getD j 0))) := fun j hj => by
    obtain ⟨b, o, h1, h2⟩ := hR3 j hj
    exact ⟨b, o, h1, by rw [hb3.cell (p := ⟨b, o + j, none⟩) (lt_of_cell h2)]; exact h2⟩
  have Hro := hid hro
  have hHN := hid hNc
  clear hcr hR2 hR3 hro k0 k1 hb2 hNc
  go_wp2
  go_loopw [28] (fun i wr => ∃ (k : Nat) (ao : Option Addr) (c : Nat) (avs : List Value), k ≤ L ∧ i = .int .i64 k ∧ Hid (Tq w2 wr (.slice ro g.roots.length rcc) (((lsF ee g.nodes.length).take k).map (fun n => renum (clsI ee g.nodes.length) (g.nodes.getD n nd0))) ao c avs)) (fun i _ => L - (intOf i).toNat)
  case atStart => exact ⟨0, none, 0, [], Nat.zero_le _, rfl, by simpa [Hid] using hT0⟩
  case round =>
    clear hT0
    obtain ⟨j, ao, c, avs, hj, rfl, hT⟩ := hrel
    by_cases hjl : j < L
    · have hjl' : j < (lsF ee g.nodes.length).length := by rw [← HLd.out]; exact hjl
      have hts := ntake_snoc hjl'
      have hnN := hllt _ (nget_mem hjl')
      obtain ⟨lb, lo, hla, hlc⟩ := hHR3.out j hjl
      subst hla
      rw [ints_get hjl'] at hlc
      have hlc' : wr.cell? ⟨lb, lo + j, none⟩ = some (.int .i64 (((lsF ee g.nodes.length).getD j 0 : Nat) : Int)) := by rw [hT.out.b.cell (p := ⟨lb, lo + j, none⟩) (lt_of_cell hlc)]; exact hlc
      generalize (lsF ee g.nodes.length).getD j 0 = n at hts hnN hlc'
      have hbe := Below.next hbW2 hT.out.b
      obtain ⟨nb, no, av, rfl, hnd⟩ := hHN.out n hnN
      obtain ⟨n0, n1, n2, n3, hA⟩ := hnd.below hbe
      have hga := good_args (hg.node (g.nodes.getD n nd0) (by simp [List.getD, hnN]))
      have hNS : Hid (((lsF ee g.nodes.length).take (j + 1)).map (fun n => renum (clsI ee g.nodes.length) (g.nodes.getD n nd0)) = ((lsF ee g.nodes.length).take j).map (fun n => renum (clsI ee g.nodes.length) (g.nodes.getD n nd0)) ++ [renum (clsI ee g.nodes.length) (g.nodes.getD n nd0)]) := by
        show _ = _
        rw [hts]
        simp
      have hL : (((lsF ee g.nodes.length).take j).map (fun n => renum (clsI ee g.nodes.length) (g.nodes.getD n nd0))).length = j := by simp; omega
      generalize ((lsF ee g.nodes.length).take j).map (fun n => renum (clsI ee g.nodes.length) (g.nodes.getD n nd0)) = NS at hT hNS hL
      have hcp : ∀ w : World, Below wr.heap.size wr w → Calls Tryz.prog 78 #[av, t2] w fun e w' => (∃ ao c, e = .returned (.slice ao (g.nodes.getD n nd0).args.length c) ∧ w'.ownsRow w.heap.size 3 1 (.slice ao (g.nodes.getD n nd0).args.length c) (g.nodes.getD n nd0).args.length (((g.nodes.getD n nd0).args.map (clsI ee g.nodes.length)).map (Value.int .i64))) ∧ Below w.heap.size w w' := fun w hb => classesOf_any (hA.below hb) (hHR2.out.below (Below.next hT.out.b hb)) (fun x hx => by rw [ints_len, hcl]; exact hga.1 x hx) (by omega)
      have e0 : wr.heap[W.heap.size]? = some (.cells #[.slice (some ⟨nb, no, none⟩) g.nodes.length nc, .slice ra g.roots.length rc] 30) := by rw [hT.out.b.block _ (by omega)]; exact k0'
      obtain ⟨⟨c0, _⟩, _⟩ := blk2 e0
      have hon := hT.out.on
      rw [hL] at hon
      have honn := hon.n
      rw [hL] at honn
      have hz4 := hT.out.b.size
      have hzo := lt_of_block hT.out.out
      have hout := hT.out.out
      rw [hL] at hout
      have hnv : ∀ k, Value.ownBlock (.slice ao j c) = some k → w2.heap.size + 1 ≤ k := fun k e => (hon.n.lt k e).1
      have hstep := hid (fun (w4 w5 : World) (aa : Option Addr) (ac gg cap : Nat) => Tq.step (w4 := w4) (w5 := w5) (aa := aa) (ac := ac) (g := gg) (cap := cap) (F := clsI ee g.nodes.length) (n := g.nodes.getD n nd0) hT.out hL)
      have hal := hga.2
      generalize g.nodes.getD n nd0 = x at n0 n1 n2 n3 hcp hNS hstep hA hal
      obtain ⟨kind, name, num, args⟩ := x
      dsimp only at n0 n1 n2 n3 hcp hstep hA hal
      obtain ⟨aa0, ac0, rfl, _⟩ := hA
      have hbd : Below wr.heap.size wr (wr.alloc (.cells #[.int .i64 kind, .string name, .int .i64 num, .slice aa0 args.length ac0] 96)) := below_alloc wr _
      have hnw := heap_alloc_new wr (.cells #[.int .i64 kind, .string name, .int .i64 num, .slice aa0 args.length ac0] 96)
      have hcall := hcp _ hbd
      have hzd := lt_of_block hnw
      have hfacts := hid (fun (w4 : World) (aa : Option Addr) (ac : Nat) (hb4 : Below (wr.alloc (.cells #[.int .i64 kind, .string name, .int .i64 num, .slice aa0 args.length ac0] 96)).heap.size (wr.alloc (.cells #[.int .i64 kind, .string name, .int .i64 num, .slice aa0 args.length ac0] 96)) w4) (hao : w4.ownsRow (wr.alloc (.cells #[.int .i64 kind, .string name, .int .i64 num, .slice aa0 args.length ac0] 96)).heap.size 3 1 (.slice aa args.length ac) args.length ((args.map (clsI ee g.nodes.length)).map (Value.int .i64))) => (show (w4.heap[wr.heap.size]? = some (.cells #[.int .i64 kind, .string name, .int .i64 num, .slice aa0 args.length ac0] 96)) ∧ Below wr.heap.size wr (w4.setCell ⟨wr.heap.size, 3, none⟩ (.slice aa args.length ac)) ∧ (w4.setCell ⟨wr.heap.size, 3, none⟩ (.slice aa args.length ac)).ownsRow wr.heap.size 3 1 (.slice aa args.length ac) args.length ((args.map (clsI ee g.nodes.length)).map (Value.int .i64)) from
        ⟨by rw [hb4.block _ hzd]; exact hnw, (Below.next hbd hb4).setCell (Nat.le_refl _) _, own_base (own_block hao (fun k e => Below.heap_setCell _ _ _ _ (by have := (hao.lt k e).1; simp at this; show k ≠ wr.heap.size; omega))) (by simp)⟩))
      clear hcp hnd hga hT hlc hts e0 k0' k1' k2
      go_wp2_with (first
        | (go_at_call 78; refine hcall.mono ?_; rintro e w4 ⟨⟨aa, ac, rfl, hao⟩, hb4⟩; obtain ⟨f0, hb4s, haos⟩ := hfacts.out w4 aa ac hb4 hao; obtain ⟨⟨f1, f2, f3, f4⟩, f5, f6, f7, f8⟩ := blk4 f0; have hon4 := World.ownsRow.alloc (own_below honn hb4s) (.cells #[.int .i64 kind, .string name, .int .i64 num, .slice aa args.length ac] 96); have d4 : (w4.setCell ⟨wr.heap.size, 3, none⟩ (.slice aa args.length ac)).heap[w2.heap.size]? = some (.cells #[.slice ao j c, .slice ro g.roots.length rcc] 30) := (by rw [hb4s.block _ hzo]; exact hout); obtain ⟨⟨g0, _⟩, g1, _⟩ := blk2 d4; obtain ⟨⟨gg0, _⟩, gg1, _⟩ := blk2 (((Below.next hbd hb4).block _ hzo).trans hout); have hsz4 : (w4.setCell ⟨wr.heap.size, 3, none⟩ (.slice aa args.length ac)).heap.size = w4.heap.size := (by simp); have hz5 := hb4s.size; rw [hsz4] at hz5; have hnews := heap_alloc_new (w4.setCell ⟨wr.heap.size, 3, none⟩ (.slice aa args.length ac)) (.cells #[.int .i64 kind, .string name, .int .i64 num, .slice aa args.length ac] 96); rw [hsz4] at hnews; clear hao hb4 hfacts hcall)
        | (at_builtin; refine wpList_append_lies _ rfl _ _ _ rfl (w2.heap.size + 1) 96 i1 (.agg #[.int .i64 0, .string ⟨#[]⟩, .int .i64 0, .slice none 0 0]) 4 56 Tryz.underlying27 hi1 hy0 hy1 hy2 rfl (by omega) _ j (ncells NS avs) rfl hon4 ⟨w4.heap.size, 0, none⟩ 1 1 [.int .i64 kind, .string name, .int .i64 num, .slice aa args.length ac] rfl rfl (World.news_of_block (cs := #[.int .i64 kind, .string name, .int .i64 num, .slice aa args.length ac]) (t := 96) (fr := (0, 0)) hnews) (by simp [Value.oneCell']) (by omega) (by unfold maxLen; omega) (by omega) (by simp; omega) (w4.heap.size + 1) (by simp) ?_; intro gg cap w5 hown5 hgr5 hat hlt5; have d5 : w5.heap[w2.heap.size]? = some (.cells #[.slice ao j c, .slice ro g.roots.length rcc] 30) := (by rw [hgr5.block _ (by simp; omega) (fun e => by have := hnv _ e.symm; omega), Below.heap_alloc _ _ _ (by simp; omega)]; exact d4); obtain ⟨⟨d0', _⟩, d1', _⟩ := blk2 d5))
      go_roundw
      case rel =>
        refine ⟨j + 1, some ⟨gg, 0, none⟩, cap, avs ++ [.slice aa args.length ac], by omega, congrArg (Value.int .i64) (by omega), ?_⟩
        show Tq _ _ _ _ _ _ _
        rw [hNS.out]
        exact hstep.out _ w5 aa ac gg cap hb4s haos _ hgr5 hown5 (by rw [hsz4]; exact hat)
      case measure => simp [intOf]; omega
    · have hTe : Hid (Tq w2 wr (.slice ro g.roots.length rcc) ((lsF ee g.nodes.length).map (fun n => renum (clsI ee g.nodes.length) (g.nodes.getD n nd0))) ao c avs) := by
        have := hT.out
        rw [List.take_of_length_le (by rw [← HLd.out]; omega)] at this
        exact this
      clear hT
      have hOut := hTe.out.out
      have hlm : ((lsF ee g.nodes.length).map (fun n => renum (clsI ee g.nodes.length) (g.nodes.getD n nd0))).length = L := by rw [List.length_map]; exact HLd.out.symm
      have hOn := hTe.out.on
      rw [hlm] at hOut
      obtain ⟨⟨o0, o1⟩, _⟩ := blk2 hOut
      have hGq : Gr wr (.slice ao L c) (.slice ro g.roots.length rcc) (quoF ee g) := by
        refine ⟨?_, ?_⟩
        · have := hOn.rn
          rw [hlm] at this
          exact this
        · have h1 := Ri.ofOwn (l := g.roots.map (clsI ee g.nodes.length)) (by rw [List.length_map]; exact Hro.out)
          rw [List.length_map] at h1
          exact h1.below hTe.out.b
      have htr := trim_good hGq (good_sized hq) (chk_of_good hq)
      have hbe := Below.next hbW2 hTe.out.b
      have e1 : wr.heap[W.heap.size + 1]? = some (.cells #[.slice none 0 0, .slice none 0 0] 30) := by rw [hTe.out.b.block _ (by omega)]; exact k1'
      have hze := lt_of_block e1
      have hF : Hid (∀ w5 : World, Below wr.heap.size wr w5 → w5.heap[W.heap.size + 1]? = some (.cells #[.slice none 0 0, .slice none 0 0] 30)) := fun w5 hb => by rw [hb.block _ hze]; exact e1
      clear hGq hOn hOut e1 k0' k1' hTe
      go_wp2_with (go_at_call 79; refine htr.mono ?_; rintro e w5 ⟨⟨nv5, rv5, avs5, rfl, hO5⟩, hb5⟩; obtain ⟨n5a, n5c, rfl⟩ := hO5.nsl; obtain ⟨r5a, r5c, rfl, _⟩ := hO5.r; have j1 := hF.out w5 hb5; obtain ⟨⟨r0, r1⟩, s0, s1⟩ := blk2 j1)
      refine bodyPost_ret (ret_gr Tryz.results48 (by rfl) (by rfl) (blk2_set j1)) rfl ⟨⟨_, _, avs5, rfl, ?_⟩, ?_⟩
      · exact og_base (og_far (og_far hO5 (by omega)) (by omega)) (by omega)
      · exact ((Below.next hbe hb5).setCell (by simp) _).setCell (by simp) _
end Go.Proofs.YtipacdagaalccaaGreatDoor

namespace Go.Proofs.YtipacdagaalccaaGreatDoor
set_option maxRecDepth 100000
open Go.RowKit
section
variable {l : List Int} {ns : List ByteArray} {cs TS : List Int} {V : Nat → Bool}
theorem trm_int (h : Snd l V) (hl : l.length ≤ 65536) {k : Nat} (hk : k < l.length) (h2 : trmW l k % 8 = 2) : -1125899906842624 ≤ valOf (trmW l k) ∧ valOf (trmW l k) ≤ 1125899906842624 := by
  obtain ⟨j, hj, e, e2⟩ := trm_ends h _ k hk (Nat.le_refl _)
  rw [e2] at h2 ⊢
  unfold endW at h2 ⊢
  split at h2
  · obtain ⟨s1, _⟩ := word_str (j := j) (by omega)
    omega
  · rename_i h4
    rw [if_neg h4]
    have hg := h.good j hj
    unfold goodB at hg
    rw [h2] at hg
    simp [fitsB] at hg
    exact hg
theorem posF_in {x : Int} (h : x ∈ TS) : 0 ≤ posF TS x ∧ posF TS x < (TS.length : Int) := by
  unfold posF
  rw [if_pos h]
  have := pos_lt h
  omega
theorem rd_nodes (_h : Rfi l cs TS) : (rdG l ns cs TS).nodes.length = TS.length := by simp [rdG, rdN]
theorem rd_good (hs : Snd l V) (hn : NsB l ns.length) (hl : l.length ≤ 65536) (hg : ∀ s ∈ ns, n_goodS s = true) (h : Rfi l cs TS) (h1 : TS.length ≤ 4096) (h2 : cs.length ≤ 4096) : Good (rdG l ns cs TS) := by
  refine ⟨by rw [rd_nodes h]; exact h1, by simp [rdG]; exact h2, fun nd hnd => ?_, fun x hx => ?_⟩
  · rw [rd_nodes h]
    have hnd' : nd ∈ (TS.take TS.length).map (ndT l ns TS) := hnd
    rw [List.take_length] at hnd'
    obtain ⟨t, ht, rfl⟩ := List.mem_map.1 hnd'
    obtain ⟨k, hk, hte⟩ := h.inT t ht
    have hTw : Tw l ns t := by rw [hte]; exact trm_tw hs hn hl hk
    have hcl : ∀ c ∈ tdL l t, tmC l c ∈ TS := by
      obtain ⟨i, hi, rfl⟩ := list_mem_getD ht
      exact h.cl i hi
    have hgD : ∀ i, i < ns.length → goodS (ns.getD i ⟨#[]⟩) = true := fun i hi => hg _ (by simp [List.getD, hi])
    have he : (⟨#[]⟩ : ByteArray).toList = [] := by rw [ByteArray.toList_eq]
    unfold goodNd ndT
    dsimp only
    rcases hTw.tag with e | e | e | e
    · have k1 : tdK t = 1 := by simp [tdK, e]
      rw [if_pos k1]
      simp [tdS, tdN, tdL, e, he]
    · have k1 : tdK t = 2 := by simp [tdK, e]
      rw [if_neg (by omega), if_pos k1]
      have hs1 : tdS l ns t = ns.getD (valOf t).toNat ⟨#[]⟩ := by simp [tdS, e]
      rw [hs1, hgD _ (hTw.atom e).2]
      simp [tdN, tdL, e]
    · have k1 : tdK t = 3 := by simp [tdK, e]
      rw [if_neg (by omega), if_neg (by omega), if_pos k1]
      have hi := trm_int hs hl hk (by rw [← hte]; exact e)
      rw [← hte] at hi
      simp [tdS, tdN, tdL, e, he, hi]
    · have k1 : tdK t = 4 := by simp [tdK, e]
      rw [if_neg (by omega), if_neg (by omega), if_neg (by omega), if_pos k1]
      obtain ⟨_, hy, h4, hgw, hnm⟩ := hTw.str e
      have hs1 : tdS l ns t = ns.getD (valOf (wdN l (valOf t).toNat) / 16).toNat ⟨#[]⟩ := by simp [tdS, e]
      rw [hs1, hgD _ hnm]
      have h4' : wdN l (valOf t).toNat % 8 = 4 := h4
      have hfv := fun_val (wdN l (valOf t).toNat) hgw h4'
      have hln : (tdL l t).length = (valOf (wdN l (valOf t).toNat) % 16).toNat := by
        unfold tdL rchL
        rw [if_pos e, if_neg (by omega), if_pos h4']
        simp
      have hst : ((tdL l t).map (fun c => posF TS (tmC l c))).any (strange TS.length) = false := by
        rw [List.any_eq_false]
        intro x hx
        obtain ⟨c, hc, rfl⟩ := List.mem_map.1 hx
        have := posF_in (hcl c hc)
        simp [strange]
        omega
      rw [hst, List.length_map, hln]
      have hn0 : tdN t = 0 := by simp [tdN, e]
      rw [hn0]
      simp
      omega
  · rw [rd_nodes h]
    have hx' : x ∈ cs.map (fun c => posF TS (tmC l c)) := hx
    obtain ⟨c, hc, rfl⟩ := List.mem_map.1 hx'
    exact posF_in (h.root c hc)
end
end Go.Proofs.YtipacdagaalccaaGreatDoor

namespace Go.Proofs.YtipacdagaalccaaGreatDoor
set_option maxRecDepth 100000
open Go.RowKit
abbrev fSC : ByteArray := ⟨#[102]⟩
def gL : Gf := ⟨[⟨4, fSC, 0, [0, 1]⟩, ⟨1, ⟨#[]⟩, 0, []⟩], [0]⟩
theorem gL_good : Good gL := by
  have hf : goodS fSC = true := by decide
  refine ⟨by decide, by decide, fun n hn => ?_, fun x hx => ?_⟩
  · have h : n = ⟨4, fSC, 0, [0, 1]⟩ ∨ n = ⟨1, ⟨#[]⟩, 0, []⟩ := by simpa [gL] using hn
    rcases h with rfl | rfl
    · simp [goodNd, hf, strange, gL]
    · simp [goodNd, ByteArray.toList_eq]
  · have h : x = 0 := by simpa [gL] using hx
    subst h
    decide
theorem gL_met : metF gL = [0, 1] := by simp [metF, gL, meetF, Gf.argsOf]
theorem gL_ns : wthJ [] gL (metF gL) (metF gL).length = [fSC] := by
  rw [gL_met]
  decide
theorem gL_want : wantJ gL (metF gL) (metF gL).length = 5 := by
  rw [gL_met]
  decide
abbrev lL1 : List Int := [11, 20, 11, 32, 32]
abbrev lL2 : List Int := [11, 20, 11, 32, 11]
theorem gL_w : putW [fSC] gL (metF gL) 0 = lL1 := by
  rw [gL_met]
  decide
theorem gL_pm : PmC (wthJ [] gL (metF gL) (metF gL).length) gL (metF gL) 0 := pmc_of gL_good (by rw [gL_met]; decide) (by rw [gL_want]; decide)
theorem sndL0 : Snd [] (fun _ => false) := ⟨fun _ h => absurd h (Nat.not_lt_zero _), (fun _ h => by cases h), fun _ h => absurd h (Nat.not_lt_zero _), fun _ h => absurd h (Nat.not_lt_zero _), fun _ h => absurd h (Nat.not_lt_zero _), fun _ h => absurd h (Nat.not_lt_zero _), fun _ h => absurd h (Nat.not_lt_zero _)⟩
abbrev vL : Nat → Bool := vrP gL (metF gL) 0 (fun _ => false)
theorem sndL1 : Snd lL1 vL := by
  have h := put_snd (l := []) sndL0 gL_pm
  rw [gL_ns] at h
  rw [show ([] : List Int).length = 0 from rfl, gL_w] at h
  exact h
theorem vL4 : vL 4 = true := by
  show vrP gL (metF gL) 0 (fun _ => false) 4 = true
  rw [gL_met]
  decide
theorem trL14 : trmW lL1 4 = 32 := by decide +kernel
theorem trL10 : trmW lL1 0 = 11 := by decide +kernel
theorem trL23 : trmW lL2 3 = 11 := by decide +kernel
theorem trL22 : trmW lL2 2 = 11 := by decide +kernel
theorem trL20 : trmW lL2 0 = 11 := by decide +kernel
theorem sndL2 : Snd lL2 vL := snd_bind (l := lL1) (j := 4) (x := 11) sndL1 (by decide) vL4 (by decide) (by decide +kernel) (by decide +kernel) (fun e => absurd e (by decide +kernel)) (fun _ => ⟨by decide +kernel, Or.inl (by decide +kernel)⟩)
theorem five {P : Nat → Prop} (h0 : P 0) (h1 : P 1) (h2 : P 2) (h3 : P 3) (h4 : P 4) : ∀ k, k < 5 → P k := fun k hk => by
  have : k = 0 ∨ k = 1 ∨ k = 2 ∨ k = 3 ∨ k = 4 := by omega
  rcases this with rfl | rfl | rfl | rfl | rfl <;> assumption
theorem nsL2 : NsB lL2 ([fSC] : List ByteArray).length := ⟨five (by decide +kernel) (by decide +kernel) (by decide +kernel) (by decide +kernel) (by decide +kernel), five (by decide +kernel) (by decide +kernel) (by decide +kernel) (by decide +kernel) (by decide +kernel)⟩
theorem tdL2 : tdL lL2 11 = [2, 3] := by decide +kernel
theorem oneL {TS : List Int} (h : Rfi lL2 [0] TS) : TS = [11] := by
  have h1 : ∀ t ∈ TS, t = 11 := h.mn (fun t => t = 11) (fun c hc => by
    have e : c = 0 := by simpa using hc
    subst e
    exact trL20) (fun t ht c hc => by
    subst ht
    rw [tdL2] at hc
    have e : c = 2 ∨ c = 3 := by simpa using hc
    rcases e with rfl | rfl
    · exact trL22
    · exact trL23)
  have h2 := h.root 0 (by simp)
  have h3 := h.nodup
  match TS, h1, h2, h3 with
  | [], _, h2, _ => cases h2
  | [x], h1, _, _ => rw [h1 x (by simp)]
  | x :: y :: r, h1, _, h3 =>
    have ex := h1 x (by simp)
    have ey := h1 y (by simp)
    subst ex
    rw [List.nodup_cons] at h3
    exact absurd (by rw [ey]; simp) h3.1
theorem lenL {TS : List Int} (h : Rfi lL2 [0] TS) {ns : List ByteArray} (hg : Good (rdG lL2 ns [0] TS)) {ee : Nat → Nat → Bool} (he : ∀ x y : Nat, (ee x y = true ↔ Al (rdG lL2 ns [0] TS) (x : Int) (y : Int))) : (trimF (quoF ee (rdG lL2 ns [0] TS))).nodes.length = 1 := by
  have hev := al_eqv hg he
  have hq := quo_good hg hev
  have hl := trim_len hq
  have h1 := (met_ok hq).le
  rw [quo_len] at h1
  have h2 := lsF_le ee (rdG lL2 ns [0] TS).nodes.length
  rw [rd_nodes h, oneL h] at h2
  rw [rd_nodes h, oneL h] at h1
  have h3 : 1 ≤ (metF (quoF ee (rdG lL2 ns [0] TS))).length := by
    have hr : (quoF ee (rdG lL2 ns [0] TS)).roots.length = 1 := by simp [quoF, rdG]
    have := met_root hq _ (getD_mem (l := (quoF ee (rdG lL2 ns [0] TS)).roots) (k := 0) (by omega))
    exact List.length_pos_of_mem this
  have h4 : ([11] : List Int).length = 1 := rfl
  rw [oneL h] at *
  omega
end Go.Proofs.YtipacdagaalccaaGreatDoor

namespace Go.Proofs.YtipacdagaalccaaGreatDoor
set_option maxRecDepth 100000
open Go.RowKit
structure Wb (w1 wc : World) (B bx tb : Nat) (tv : Value) (tq : Nat) (ns' : List ByteArray) (tb' : Nat) (tv' : Value) (tq' : Nat) : Prop where
  b : Below w1.heap.size w1 wc
  x : wc.heap[bx]? = some (.cells #[.pointer (some ⟨tb', 0, none⟩)] 68)
  f : w1.heap.size ≤ bx
  t : Tb wc B tb' tv' tq' ns'
  o : (tb' = tb ∧ tv' = tv ∧ tq' = tq) ∨ ∀ k ∈ n_foot tb' tv' tq', w1.heap.size ≤ k
theorem tb_foot {w : World} {B p q : Nat} {v : Value} {l : List ByteArray} (h : Tb w B p v q l) : ∀ k ∈ n_foot p v q, B ≤ k := fun k hk => by
  rcases n_mem_foot.1 hk with rfl | rfl | hk
  · exact h.base
  · exact h.mbase
  · exact (h.row hk).1
theorem with_tb {w1 wq w3 : World} {B p q p' q' : Nat} {v v' : Value} {ns ns' : List ByteArray} (hT : Tb w1 B p v q ns) (hB : B ≤ w1.heap.size) (hb : Below w1.heap.size w1 wq) (hb3 : Below wq.heap.size wq w3) (h : (p' = p ∧ v' = v ∧ q' = q ∧ ns' = ns) ∨ Tb w3 wq.heap.size p' v' q' ns') : Tb w3 B p' v' q' ns' ∧ ((p' = p ∧ v' = v ∧ q' = q) ∨ ∀ k ∈ n_foot p' v' q', wq.heap.size ≤ k) := by
  rcases h with ⟨rfl, rfl, rfl, rfl⟩ | h
  · exact ⟨hT.below (Below.next hb hb3), Or.inl ⟨rfl, rfl, rfl⟩⟩
  · exact ⟨tb_base h (Nat.le_trans hB hb.size), Or.inr (tb_foot h)⟩
theorem wb_call {w1 wq w3 : World} {B p q p' q' : Nat} {v v' : Value} {ns ns' : List ByteArray} (hT : Tb w1 B p v q ns) (hB : B ≤ w1.heap.size) (hb : Below w1.heap.size w1 wq) (hb3 : Below wq.heap.size wq w3) (h : (p' = p ∧ v' = v ∧ q' = q ∧ ns' = ns) ∨ Tb w3 wq.heap.size p' v' q' ns') : Wb w1 (w3.alloc (.cells #[.pointer (some ⟨p', 0, none⟩)] 68)) B w3.heap.size p v q ns' p' v' q' := by
  obtain ⟨h1, h2⟩ := with_tb hT hB hb hb3 h
  have hz := hb.size
  have hz3 := hb3.size
  refine ⟨Below.next (Below.next hb hb3) (below_alloc _ _), heap_alloc_new _ _, by omega, h1.below (below_alloc _ _), ?_⟩
  rcases h2 with h2 | h2
  · exact Or.inl h2
  · exact Or.inr (fun k hk => Nat.le_trans hz (h2 k hk))
theorem wb_box {w1 wq w3 : World} {B p q p' q' bx : Nat} {v v' : Value} {ns ns' : List ByteArray} {u : Value} (hT : Tb w1 B p v q ns) (hB : B ≤ w1.heap.size) (hb : Below w1.heap.size w1 wq) (hx : wq.heap[bx]? = some (.cells #[u] 68)) (hf : w1.heap.size ≤ bx) (hb3 : Below wq.heap.size wq w3) (h : (p' = p ∧ v' = v ∧ q' = q ∧ ns' = ns) ∨ Tb w3 wq.heap.size p' v' q' ns') : Wb w1 (w3.setCell ⟨bx, 0, none⟩ (.pointer (some ⟨p', 0, none⟩))) B bx p v q ns' p' v' q' := by
  obtain ⟨h1, h2⟩ := with_tb hT hB hb hb3 h
  have hz := hb.size
  have hx3 := (hb3.block _ (lt_of_block hx)).trans hx
  refine ⟨(Below.next hb hb3).setCell (p := ⟨bx, 0, none⟩) hf _, heap_setCell_same w3 bx 0 _ _ _ hx3, hf, h1.keep (ks := [bx]) ((n_Mod.refl _ w3).setCell (p := ⟨bx, 0, none⟩) (Or.inl (by simp)) _) (fun k hk hf2 => ?_), ?_⟩
  · have e : k = bx := by simpa using hk
    subst e
    have hlt := lt_of_block hx
    rcases h2 with ⟨rfl, rfl, rfl⟩ | h2
    · rcases n_mem_foot.1 hf2 with e | e | e
      · have := hT.lt
        omega
      · have := hT.mlt
        omega
      · have := (hT.row e).2.1
        omega
    · have := h2 k hf2
      omega
  · rcases h2 with h2 | h2
    · exact Or.inl h2
    · exact Or.inr (fun k hk => Nat.le_trans hz (h2 k hk))
theorem set_far (w : World) (v : Value) {q i k o : Nat} (h : k ≠ q) : (w.setCell ⟨q, i, none⟩ v).cell? ⟨k, o, none⟩ = w.cell? ⟨k, o, none⟩ := World.cell?_of_block (w := w) (a := ⟨k, o, none⟩) (Below.heap_setCell _ _ _ _ h)
theorem box_cell {w1 w3 : World} (h : Below (w1.alloc (.cells #[.pointer none] 68)).drew.heap.size (w1.alloc (.cells #[.pointer none] 68)).drew w3) : w3.heap[w1.heap.size]? = some (.cells #[.pointer none] 68) ∧ w3.cell? ⟨w1.heap.size, 0, none⟩ = some (.pointer none) ∧ w3.frozen? ⟨w1.heap.size, 0, none⟩ = false := by
  have h0 : w3.heap[w1.heap.size]? = some (.cells #[.pointer none] 68) := (h.block _ (show w1.heap.size < (w1.alloc _).heap.size by simp)).trans (heap_alloc_new w1 _)
  exact ⟨h0, by simp [World.cell?, h0], by simp [World.frozen?, h0]⟩
theorem met_none {g : Gf} (h : g.roots = []) : metF g = [] := by
  unfold metF
  rw [h]
  cases g.nodes.length <;> rfl
section
variable {w1 wc w4 w5 : World} {B hb ab tb bx tb' tq' : Nat} {m : Int} {av av' : Value} {l l' : List Int} {tv tv' : Value} {tq : Nat} {ns ns' : List ByteArray} {trv ptv : Value} {n : Int}
theorem put_lay {W w1 wc w4 w5 : World} {B hb ab tb tb' : Nat} {m : Int} {av av' : Value} {l : List Int} {tv tv' : Value} {tq tq' : Nat} {ns NS : List ByteArray} {trv ptv : Value} {n : Int} {nv rv : Value} {g : Gf} {avs : Nat → Value} {MT : List Int} {CT mc : Nat} {mo : Option Addr}
    (HH : Hp W B hb ab tb m av l tv tq ns trv ptv n) (HGk : ∀ w', a_Mod (hb :: a_foot ab av) W w' → Gra w' nv rv g avs) (Hbw : Below W.heap.size W wc) (Hb4 : Below wc.heap.size wc w4) (HU : a_Upd 111 w4 w5 B ab m av (l ++ frsh l.length CT) av')
    (HP : Hp (w5.setCell ⟨hb, 1, none⟩ (.pointer (some ⟨tb', 0, none⟩))) B hb ab tb' m av' (l ++ frsh l.length CT) tv' tq' NS trv ptv n) {B1 : Nat} (Ho1 : w1.ownsRow B1 3 1 (.slice mo MT.length mc) MT.length (MT.map (Value.int .i64))) (Hb1 : Below W.heap.size W w1) (Hb2 : Below w1.heap.size w1 wc) (hB1 : W.heap.size ≤ B1)
    (Hg : Good g) (Hok : Ok g.nodes.length MT) (Hro : ∀ x ∈ g.roots, x ∈ MT) (Har : ∀ x ∈ MT, ∀ y ∈ g.argsOf x, y ∈ MT) (hTl : (putW NS g MT l.length).length = CT)
    (HTr : ∀ c, c < (putW NS g MT l.length).length → 0 ≤ (putW NS g MT l.length).getD c 0 ∧ (putW NS g MT l.length).getD c 0 ≤ 18446744073709551615 ∧ mayB ((putW NS g MT l.length).getD c 0) (l.length + (putW NS g MT l.length).length) = true) :
    Calls Tryz.prog 40 #[.pointer (some ⟨hb, 0, none⟩), .agg #[nv, rv], .slice mo MT.length mc, .int .i64 (l.length : Int)] (w5.setCell ⟨hb, 1, none⟩ (.pointer (some ⟨tb', 0, none⟩))) fun e w' => ∃ ao c, e = .returned (.slice ao g.roots.length c) ∧ w'.ownsRow W.heap.size 3 1 (.slice ao g.roots.length c) g.roots.length (((List.range g.roots.length).map (fun i => ((l.length + i : Nat) : Int))).map (Value.int .i64)) ∧ Hp w' B hb ab tb' m av' (l ++ putW NS g MT l.length) tv' tq' NS trv ptv n ∧ a_Mod (hb :: a_foot ab av) W w' ∧ a_Nx W av av' := by
  obtain ⟨z0, z1, z2⟩ := HH.ltz
  have hz1 := Hb1.size
  have hz2 := Hb2.size
  have hz4 := Hb4.size
  have hnx : a_Nx W av av' := fun k hk => by
    rcases HU.nx k hk with h | h
    · exact Or.inl h
    · exact Or.inr (by omega)
  have hm5 : a_Mod (hb :: a_foot ab av) W w5 := (a_Mod.ofBelow (Below.next Hbw Hb4)).trans HU.mod (fun x hx => Or.inl (List.mem_cons_of_mem _ hx))
  have hm6 : a_Mod (hb :: a_foot ab av) W (w5.setCell ⟨hb, 1, none⟩ (.pointer (some ⟨tb', 0, none⟩))) := hm5.setCell (p := ⟨hb, 1, none⟩) (Or.inl (by simp)) _
  have hm65 : a_Mod (hb :: a_foot ab av) w4 (w5.setCell ⟨hb, 1, none⟩ (.pointer (some ⟨tb', 0, none⟩))) := (HU.mod.ofMem _ (fun x hx => Or.inl (List.mem_cons_of_mem _ hx))).setCell (p := ⟨hb, 1, none⟩) (Or.inl (by simp)) _
  generalize w5.setCell ⟨hb, 1, none⟩ (.pointer (some ⟨tb', 0, none⟩)) = w6 at *
  have hfo : ∀ x ∈ a_foot ab av', x ∈ hb :: a_foot ab av ∨ w4.heap.size ≤ x := fun x hx => by
    rcases a_mem_foot.1 hx with rfl | hx
    · exact Or.inl (List.mem_cons_of_mem _ (a_mem_foot.2 (Or.inl rfl)))
    · rcases HU.nx x hx with h | h
      · exact Or.inl (List.mem_cons_of_mem _ (a_mem_foot.2 (Or.inr h)))
      · exact Or.inr h
  have hH6 : Hp w6 B hb ab tb' m av' (l ++ mixW (putW NS g MT l.length) l.length 0) tv' tq' NS trv ptv n := by
    rw [mix_zero, hTl]
    exact HP
  have hlw : ∀ w', a_Mod (a_foot ab av') w6 w' → a_Mod (hb :: a_foot ab av) w4 w' := fun w' h => hm65.trans h hfo
  have hal : ∀ w', a_Mod (a_foot ab av') w6 w' → a_Mod (hb :: a_foot ab av) W w' := fun w' h => hm6.trans h (fun x hx => by
    rcases hfo x hx with h1 | h1
    · exact Or.inl h1
    · exact Or.inr (by omega))
  have hri4 : ∀ w', a_Mod (hb :: a_foot ab av) w4 w' → Ri w' (.slice mo MT.length mc) MT := fun w' h => by
    have ho4 := row_keep Ho1 (fun k hk => (Below.next Hb2 Hb4).block k (Ho1.lt k hk).2)
    refine ri_own (row_keep ho4 (fun k hk => h.block k (ho4.lt k hk).2 (fun hx => ?_)))
    have h1 := (Ho1.lt k hk).1
    rcases List.mem_cons.1 hx with rfl | hx
    · omega
    · have := z1 _ hx
      omega
  refine (lay_ok (putW NS g MT l.length) hH6 (fun w' h => HGk w' (hal w' h)) (fun w' h => hri4 w' (hlw w' h)) Hg Hok.rng Hok.nodup Hro Har rfl HTr).mono ?_
  rintro e w7 ⟨⟨ao, c, rfl, ho⟩, hp, hm⟩
  exact ⟨ao, c, rfl, own_base ho (by have := hm6.size; omega), hp, hal _ hm, hnx⟩
theorem hp_named (H : Hp w1 B hb ab tb m av l tv tq ns trv ptv n) (hW : Wb w1 wc B bx tb tv tq ns' tb' tv' tq') (hb4 : Below wc.heap.size wc w4) (hu : a_Upd 111 w4 w5 B ab m av l' av') :
    Hp (w5.setCell ⟨hb, 1, none⟩ (.pointer (some ⟨tb', 0, none⟩))) B hb ab tb' m av' l' tv' tq' ns' trv ptv n ∧ w5.cell? ⟨bx, 0, none⟩ = some (.pointer (some ⟨tb', 0, none⟩)) ∧ w5.cell? ⟨hb, 1, none⟩ = some (.pointer (some ⟨tb, 0, none⟩)) ∧ w5.frozen? ⟨hb, 1, none⟩ = false ∧ bx < w5.heap.size := by
  have hb14 := Below.next hW.b hb4
  have H4 := H.below hb14
  obtain ⟨z0, z1, z2⟩ := H.ltz
  have h5 := H4.words hu
  have hbx4 := (hb4.block _ (lt_of_block hW.x)).trans hW.x
  have hbx : w5.heap[bx]? = some (.cells #[.pointer (some ⟨tb', 0, none⟩)] 68) := (hu.mod.block _ (lt_of_block hbx4) (fun hx => by have := z1 _ hx; have := hW.f; omega)).trans hbx4
  have hof : ∀ k ∈ n_foot tb' tv' tq', k ≠ hb ∧ k ∉ a_foot ab av := fun k hk => by
    rcases hW.o with ⟨rfl, rfl, rfl⟩ | h
    · exact ⟨fun e => H.self.2 (e ▸ hk), fun hx => (H.apart hx).2 hk⟩
    · have := h k hk
      exact ⟨by omega, fun hx => by have := z1 _ hx; omega⟩
  have hT5 : Tb w5 B tb' tv' tq' ns' := (hW.t.below hb4).keep (mod_an hu.mod) (fun k hk hf => (hof k hf).2 hk)
  have hm : a_Mod [hb] w5 (w5.setCell ⟨hb, 1, none⟩ (.pointer (some ⟨tb', 0, none⟩))) := (a_Mod.refl [hb] w5).setCell (p := ⟨hb, 1, none⟩) (Or.inl (by simp)) _
  refine ⟨⟨heap_setCell_same w5 hb 1 _ _ _ h5.blk, h5.base, h5.ar.keep hm (fun k hk => by
    have e : k = hb := by simpa using hk
    rw [e]; exact h5.self.1), hT5.keep (mod_an hm) (fun k hk hf => by
    have e : k = hb := by simpa using hk
    exact (hof k hf).1 e)⟩, by simp [World.cell?, hbx], h5.cells.1.2.1, by simp [World.frozen?, h5.blk], lt_of_block hbx⟩
end
section
variable {W : World} {B hb ab tb : Nat} {m : Int} {av : Value} {l : List Int} {tv : Value} {tq : Nat} {ns : List ByteArray} {trv ptv : Value} {n : Int}
set_option maxHeartbeats 16000000 in
theorem put_okG {nv rv : Value} {g : Gf} (hH : Hp W B hb ab tb m av l tv tq ns trv ptv n) (hB : B ≤ W.heap.size) {avs : Nat → Value}
    (hGk : ∀ w', a_Mod (hb :: a_foot ab av) W w' → Gra w' nv rv g avs) (hS : Sized g) (hck : one (chk g) = [])
    (hro : (l.length + wantJ g (metF g) (metF g).length : Int) ≤ m) (hna : (wthJ ns g (metF g) (metF g).length).length ≤ 1024)
    (hTr : ∀ c, c < (putW (wthJ ns g (metF g) (metF g).length) g (metF g) l.length).length → 0 ≤ (putW (wthJ ns g (metF g) (metF g).length) g (metF g) l.length).getD c 0 ∧ (putW (wthJ ns g (metF g) (metF g).length) g (metF g) l.length).getD c 0 ≤ 18446744073709551615 ∧ mayB ((putW (wthJ ns g (metF g) (metF g).length) g (metF g) l.length).getD c 0) (l.length + (putW (wthJ ns g (metF g) (metF g).length) g (metF g) l.length).length) = true) :
    Calls Tryz.prog 13 #[.pointer (some ⟨hb, 0, none⟩), .agg #[nv, rv]] W fun e w' => ∃ ao c av' tb' tv' tq', e = .returned (.tuple #[.slice ao g.roots.length c, .nilIface]) ∧ w'.ownsRow W.heap.size 3 1 (.slice ao g.roots.length c) g.roots.length (((List.range g.roots.length).map (fun i => ((l.length + i : Nat) : Int))).map (Value.int .i64)) ∧ Hp w' B hb ab tb' m av' (l ++ putW (wthJ ns g (metF g) (metF g).length) g (metF g) l.length) tv' tq' (wthJ ns g (metF g) (metF g).length) trv ptv n ∧ a_Mod (hb :: a_foot ab av) W w' ∧ a_Nx W av av' ∧ ((tb' = tb ∧ tv' = tv ∧ tq' = tq) ∨ ∀ k ∈ n_foot tb' tv' tq', W.heap.size ≤ k) := by
  have hg := chk_good hck
  have hok := met_ok hg
  have hml := hok.le
  have hN : g.nodes.length ≤ 4096 := hg.nodes
  have hGr : ∀ w', a_Mod (hb :: a_foot ab av) W w' → Gr w' nv rv g := fun w' h => (hGk w' h).gr
  have hb0 := below_alloc W (.cells #[nv, rv] 30)
  have hre := hid (reach_good (hGr _ (a_Mod.ofBelow hb0)) hS hck)
  have HGk := hid hGk
  have HGr := hid hGr
  have HH := hid hH
  have Hg := hid hg
  have Hro := hid (met_root hg)
  have Har := hid (met_arg hg)
  have Hok := hid hok
  have HTr := hid hTr
  obtain ⟨na, nc, rfl, _⟩ := (hGk W (a_Mod.refl _ _)).1
  obtain ⟨ra, rc, rfl, _⟩ := (hGk W (a_Mod.refl _ _)).2
  have hx0 := hid (heap_alloc_new W (.cells #[.slice na g.nodes.length nc, .slice ra g.roots.length rc] 30))
  have Hb0 := hid hb0
  obtain ⟨MT, hMT⟩ : ∃ MT, MT = metF g := ⟨_, rfl⟩
  rw [← hMT] at hre Hro Har Hok HTr hml hna hro
  rw [← hMT]
  obtain ⟨NS, hNS⟩ : ∃ NS, NS = wthJ ns g MT MT.length := ⟨_, rfl⟩
  rw [← hNS] at HTr
  rw [← hNS]
  replace hNS := hid hNS
  replace hMT := hid hMT
  clear hg hok hGr hGk hH hTr hb0 hS hck
  go_enter Tryz.func13, Tryz.ntmps13
  go_wp2_with (go_at_call 36; refine hre.out.mono ?_; rintro e w1 ⟨⟨mo, mc, rfl, ho1⟩, hb1⟩; have Hb1 := hid (Below.next Hb0.out hb1); have Ho1 := hid ho1; have Hx1 := hid ((hb1.block _ (by simp)).trans hx0.out); clear ho1 hb1)
  obtain ⟨⟨x0, x1⟩, _⟩ := cblk2 Hx1.out
  have HH1 := hid (HH.out.below Hb1.out)
  obtain ⟨⟨h0, h1, _⟩, zh⟩ := HH1.out.cells
  have zx := lt_of_block Hx1.out
  have hri : Hid (Ri w1 (.slice mo MT.length mc) MT) := ri_own Ho1.out
  have hwi := hid (fun wq (hbq : Below w1.heap.size w1 wq) => with_okG (HH1.out.tb.below hbq) (by have := Hb1.out.size; have := hbq.size; omega) (HGr.out wq (a_Mod.ofBelow (Below.next Hb1.out hbq))) Hg.out (hri.out.below hbq) Hok.out.rng (by omega) hna)
  rw [← hNS.out] at hwi
  have hBz : B ≤ w1.heap.size := by have := Hb1.out.size; omega
  go_cut [8, 7] from 24 to 32 (fun s8 s7 wc => ∃ bx tb' tv' tq', s8 = .pointer (some ⟨bx, 0, none⟩) ∧ s7 = .nilIface ∧ Hid (Wb w1 wc B bx tb tv tq NS tb' tv' tq'))
  case first =>
    go_region_held3 (fun w' => w'.cell? ⟨hb, 1, none⟩ = some (.pointer (some ⟨tb, 0, none⟩)) ∧ w'.cell? ⟨W.heap.size, 0, none⟩ = some (.slice na g.nodes.length nc) ∧ w'.cell? ⟨W.heap.size, 1, none⟩ = some (.slice ra g.roots.length rc)) (first | exact ⟨h1, x0, x1⟩ | exact ⟨(set_far _ _ (by omega)).trans h1, (set_far _ _ (by omega)).trans x0, (set_far _ _ (by omega)).trans x1⟩ | go_keep)
      (first
        | (go_at_call 37; refine (hwi.out _ ?_).mono ?_; exact (Below.refl _ _).drew; rintro e w3 ⟨⟨tb', tv', tq', rfl, ht⟩, hb3⟩; have HE := hid (wb_call HH1.out.tb hBz (Below.refl _ _).drew hb3 ht); have HB5 := hid (Below.next (Below.refl _ _).drew hb3); clear ht; replace h1 := (HB5.out.cell (p := ⟨hb, 1, none⟩) zh).trans h1; replace x0 := (HB5.out.cell (p := ⟨W.heap.size, 0, none⟩) zx).trans x0; replace x1 := (HB5.out.cell (p := ⟨W.heap.size, 1, none⟩) zx).trans x1; clear hb3)
        | (go_at_call 37; refine (hwi.out _ ?_).mono ?_; exact (below_alloc w1 _).drew; rintro e w3 ⟨⟨tb', tv', tq', rfl, ht⟩, hb3⟩; have HE := hid (wb_box HH1.out.tb hBz (below_alloc w1 _).drew (heap_alloc_new w1 _) (Nat.le_refl _) hb3 ht); obtain ⟨bx3, bx4, bx5⟩ := box_cell hb3; have HB5 := hid (Below.next (below_alloc w1 _).drew hb3); clear ht; replace h1 := (HB5.out.cell (p := ⟨hb, 1, none⟩) zh).trans h1; replace x0 := (HB5.out.cell (p := ⟨W.heap.size, 0, none⟩) zx).trans x0; replace x1 := (HB5.out.cell (p := ⟨W.heap.size, 1, none⟩) zx).trans x1; clear hb3))
    all_goals go_wp2_with fail
    all_goals go_meet
    all_goals exact ⟨_, tb', tv', tq', rfl, rfl, HE⟩
  case rest =>
    obtain ⟨bx, tb', tv', tq', rfl, rfl, hW⟩ := hcut
    have Hbw := hid (Below.next Hb1.out hW.out.b)
    obtain ⟨⟨y0, y1⟩, _⟩ := cblk2 ((hW.out.b.block _ zx).trans Hx1.out)
    have zy := lt_of_block ((hW.out.b.block _ zx).trans Hx1.out)
    obtain ⟨⟨k0, _⟩, zk⟩ := (HH1.out.below hW.out.b).cells
    have hric := hid (hri.out.below hW.out.b)
    have hwa := hid (wanted_any (HGr.out wc (a_Mod.ofBelow Hbw.out)) Hg.out hric.out Hok.out.rng (by omega))
    have hwle := want_le Hg.out (met := MT) MT.length
    have hrr := want_root (g := g) (met := MT) MT.length
    have hrl : g.roots.length ≤ 4096 := Hg.out.roots
    have HHc := hid (HH1.out.below hW.out.b)
    have hTl : Hid ((putW NS g MT l.length).length = wantJ g MT MT.length) := putW_len
    by_cases hc0 : wantJ g MT MT.length = 0
    · have hr0 : g.roots.length = 0 := by omega
      have hT0 : putW NS g MT l.length = [] := List.eq_nil_of_length_eq_zero (by rw [hTl.out]; exact hc0)
      have hM0 : NS = ns := by
        rw [hNS.out, hMT.out, met_none (List.eq_nil_of_length_eq_zero hr0)]
        rfl
      have HF : Hid (Hp wc B hb ab tb m av (l ++ putW NS g MT l.length) tv tq NS trv ptv n) := show Hp _ _ _ _ _ _ _ _ _ _ _ _ _ _ by
        rw [hT0, hM0, List.append_nil]
        exact HHc.out
      rw [hc0] at hwa
      have Hr0 := hid hr0
      clear hro hna hwle hrr hr0 hT0 hM0 hTl hc0
      go_wp2_with (go_at_call 38; refine hwa.out.mono ?_; rintro e w4 ⟨rfl, hb4⟩; have Hb4 := hid hb4; clear hb4)
      go_ret2
      exact ⟨none, 0, av, tb, tv, tq, by rw [Hr0.out]; rfl, by rw [Hr0.out]; exact World.ownsRow_nil _ _ _ _, HF.out.below Hb4.out, a_Mod.ofBelow (Below.next Hbw.out Hb4.out), a_Nx.refl _ _, Or.inl ⟨rfl, rfl, rfl⟩⟩
    · obtain ⟨CT, hCT⟩ : ∃ CT, CT = wantJ g MT MT.length := ⟨_, rfl⟩
      rw [← hCT] at hwa hc0 hro hwle hrr hTl
      have hci : ¬ (CT : Int) = 0 := by omega
      have hal := hid (fun w4 (hb4 : Below wc.heap.size wc w4) => alloc_ok (HHc.out.below hb4).ar (by have := hb4.size; have := hW.out.b.size; omega) CT (by omega) (by omega))
      clear hro hna hCT
      have d0 : ((CT : Int) == 0) = false := by simpa using hci
      have ne0 : W.heap.size ≠ hb := by have := HH.out.ltz.1; omega
      have ne1 : hb ≠ W.heap.size := by omega
      have ne2 : bx ≠ hb := by have := HH.out.ltz.1; have := hW.out.f; have := Hb1.out.size; omega
      go_wp2_with (first
        | (go_at_call 38; refine hwa.out.mono ?_; rintro e w4 ⟨rfl, hb4⟩; have Hb4 := hid hb4; obtain ⟨⟨j0, _⟩, zj⟩ := (HHc.out.below hb4).cells; clear hb4)
        | (go_at_call 39; refine (hal.out _ Hb4.out).mono ?_; rintro e w5 ⟨av', rfl, hu⟩; have HU := hid hu; obtain ⟨HP6, bc5, j1, jf, jz⟩ := hp_named HH1.out hW.out Hb4.out hu; have HP := hid HP6; have HX5 := hid ((hu.mod.block _ (Nat.lt_of_lt_of_le zy Hb4.out.size) (fun hx => by have := HH.out.ltz.2.1 _ hx; omega)).trans ((Hb4.out.block _ zy).trans ((hW.out.b.block _ zx).trans Hx1.out))); obtain ⟨⟨q0, q1⟩, _⟩ := cblk2 HX5.out; have zq := lt_of_block HX5.out; clear hu HP6))
      have hlay := hid (put_lay HH.out HGk.out Hbw.out Hb4.out HU.out HP.out Ho1.out Hb1.out hW.out.b (by simp) Hg.out Hok.out Hro.out Har.out hTl.out HTr.out)
      go_wp2_with (go_at_call 40; refine hlay.out.mono ?_; rintro e w7 ⟨ro, rc', rfl, hro7, hp7, hm7, hn7⟩; have H7 := hid (And.intro hro7 (And.intro hp7 (And.intro hm7 hn7))); clear hro7 hp7 hm7 hn7)
      go_ret2
      refine ⟨ro, rc', av', tb', tv', tq', rfl, H7.out.1, H7.out.2.1, H7.out.2.2.1, H7.out.2.2.2, ?_⟩
      rcases hW.out.o with h | h
      · exact Or.inl h
      · exact Or.inr (fun k hk => Nat.le_trans Hb1.out.size (h k hk))
theorem put_ok {nv rv : Value} {g : Gf} (hH : Hp W B hb ab tb m av l tv tq ns trv ptv n) (hB : B ≤ W.heap.size) {avs : Nat → Value}
    (hGk : ∀ w', a_Mod (hb :: a_foot ab av) W w' → Gra w' nv rv g avs) (hS : Sized g) (hck : one (chk g) = [])
    (hro : (l.length + wantJ g (metF g) (metF g).length : Int) ≤ m) (hna : ns.length + (metF g).length ≤ 1024)
    (hTr : ∀ c, c < (putW (wthJ ns g (metF g) (metF g).length) g (metF g) l.length).length → 0 ≤ (putW (wthJ ns g (metF g) (metF g).length) g (metF g) l.length).getD c 0 ∧ (putW (wthJ ns g (metF g) (metF g).length) g (metF g) l.length).getD c 0 ≤ 18446744073709551615 ∧ mayB ((putW (wthJ ns g (metF g) (metF g).length) g (metF g) l.length).getD c 0) (l.length + (putW (wthJ ns g (metF g) (metF g).length) g (metF g) l.length).length) = true) :
    Calls Tryz.prog 13 #[.pointer (some ⟨hb, 0, none⟩), .agg #[nv, rv]] W fun e w' => ∃ ao c av' tb' tv' tq', e = .returned (.tuple #[.slice ao g.roots.length c, .nilIface]) ∧ w'.ownsRow W.heap.size 3 1 (.slice ao g.roots.length c) g.roots.length (((List.range g.roots.length).map (fun i => ((l.length + i : Nat) : Int))).map (Value.int .i64)) ∧ Hp w' B hb ab tb' m av' (l ++ putW (wthJ ns g (metF g) (metF g).length) g (metF g) l.length) tv' tq' (wthJ ns g (metF g) (metF g).length) trv ptv n ∧ a_Mod (hb :: a_foot ab av) W w' ∧ a_Nx W av av' ∧ ((tb' = tb ∧ tv' = tv ∧ tq' = tq) ∨ ∀ k ∈ n_foot tb' tv' tq', W.heap.size ≤ k) :=
  put_okG hH hB hGk hS hck hro (Nat.le_trans (wthJ_len ns g (metF g) (metF g).length) hna) hTr
end
end Go.Proofs.YtipacdagaalccaaGreatDoor
