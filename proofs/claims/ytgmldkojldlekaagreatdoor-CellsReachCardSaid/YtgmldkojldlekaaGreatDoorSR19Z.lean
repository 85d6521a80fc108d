/- Package cells: the function literal of reachable. -/
import Derived.Test.YtgmldkojldlekaaGreatDoorSR18Z
import Derived.Test.YtgmldkojldlekaaGreatDoorSR11Z
import Derived.Test.YtgmldkojldlekaaGreatDoorSR02Z
import Derived.Test.YtgmldkojldlekaaGreatDoorSR14Z
namespace Go.Proofs.YtgmldkojldlekaaGreatDoor
set_option maxRecDepth 100000
open Go.RowKit
theorem crm_eg : ∀ args w, (callFunc 70 args).run Tryz.prog w = .ok (.enter 70 args) w := enters_of Tryz.func70 (by kernel_rfl) rfl
structure Sr (W w : World) (N sr sv mv : Nat) (m : List Int) (ao : Option Addr) (c : Nat) : Prop where
  b : Below W.heap.size W w
  sc : w.cell? ⟨sv, 0, none⟩ = some (.slice (some ⟨sr, 0, none⟩) N N)
  row : w.heap[sr]? = some (.cells (seenArr N m) 4 (0, 0))
  met : w.heap[mv]? = some (.cells #[.slice ao m.length c] 28 (0, 0))
  own : w.ownsRow W.heap.size 3 1 (.slice ao m.length c) m.length (m.map (Value.int .i64))
  far : ∀ k, Value.ownBlock (.slice ao m.length c) = some k → k ∉ [sr, sv, mv]
structure Bk3 (W : World) (sr sv mv : Nat) : Prop where
  nd : [sr, sv, mv].Nodup
  ge : ∀ k ∈ [sr, sv, mv], W.heap.size ≤ k
section
variable {W w w' w2 : World} {N sr sv mv : Nat} {m : List Int} {ao : Option Addr} {c : Nat}
theorem Sr.next (h : Sr W w N sr sv mv m ao c) (hb : Below w.heap.size w w') : Sr W w' N sr sv mv m ao c :=
  ⟨Below.next h.b hb, (hb.cell (p := ⟨sv, 0, none⟩) (lt_of_cell h.sc)).trans h.sc, (hb.block _ (lt_of_block h.row)).trans h.row, (hb.block _ (lt_of_block h.met)).trans h.met, own_block h.own (fun k e => hb.block k (h.own.lt k e).2), h.far⟩
theorem Sr.drew (h : Sr W w N sr sv mv m ao c) : Sr W w.drew N sr sv mv m ao c := h.next (Below.refl _ w).drew
theorem Sr.lt (h : Sr W w N sr sv mv m ao c) : ∀ k ∈ [sr, sv, mv], k < w.heap.size := fun k hk => by
  simp at hk
  rcases hk with rfl | rfl | rfl
  · exact lt_of_block h.row
  · exact lt_of_cell h.sc
  · exact lt_of_block h.met
theorem Sr.mark {n : Nat} (hB : Bk3 W sr sv mv) (h : Sr W w N sr sv mv m ao c) (o : Obj) :
    (w.setCell ⟨sr, n, none⟩ (.bool true)).cell? ⟨mv, 0, none⟩ = some (.slice ao m.length c) ∧ ((w.setCell ⟨sr, n, none⟩ (.bool true)).alloc o).ownsRow W.heap.size 3 1 (.slice ao m.length c) m.length (m.map (Value.int .i64)) := by
  have hnd := hB.nd
  simp only [List.nodup_cons, List.mem_cons, List.not_mem_nil, or_false, not_or, List.nodup_nil, and_true, not_false_eq_true] at hnd
  refine ⟨?_, own_block h.own (fun k e => ?_)⟩
  · rw [World.cell?_of_block (a := ⟨mv, 0, none⟩) (Below.heap_setCell w ⟨sr, n, none⟩ _ mv (fun e => hnd.1.2 e.symm))]
    exact cell_of_one h.met
  · have hlt := (h.own.lt k e).2
    rw [Below.heap_alloc _ _ _ (by simpa using hlt), Below.heap_setCell _ _ _ _ (fun e' => h.far k e (by rw [e']; simp))]
theorem Sr.push {n : Nat} {o : Obj} {g cap : Nat} (hB : Bk3 W sr sv mv) (h : Sr W w N sr sv mv m ao c)
    (hg : ((w.setCell ⟨sr, n, none⟩ (.bool true)).alloc o).grownBy w2 (Value.ownBlock (.slice ao m.length c)))
    (hown : w2.ownsRow W.heap.size 3 1 (.slice (some ⟨g, 0, none⟩) (m.length + 1) cap) (m.length + 1) (m.map (Value.int .i64) ++ [.int .i64 (n : Int)]))
    (hat : Value.ownBlock (.slice ao m.length c) = some g ∨ g = w.heap.size + 1) :
    Sr W (w2.setCell ⟨mv, 0, none⟩ (.slice (some ⟨g, 0, none⟩) (m.length + 1) cap)) N sr sv mv (m ++ [(n : Int)]) (some ⟨g, 0, none⟩) cap := by
  have hnd := hB.nd
  simp only [List.nodup_cons, List.mem_cons, List.not_mem_nil, or_false, not_or, List.nodup_nil, and_true, not_false_eq_true] at hnd
  obtain ⟨⟨a1, a2⟩, a3⟩ := hnd
  have hlt := h.lt
  have hsz : ((w.setCell ⟨sr, n, none⟩ (.bool true)).alloc o).heap.size = w.heap.size + 1 := by simp
  have h1 : ∀ k ∈ [sr, sv, mv], w2.heap[k]? = (w.setCell ⟨sr, n, none⟩ (.bool true)).heap[k]? := fun k hk' => by
    rw [hg.block k (by have := hlt k hk'; omega) (fun e => h.far k e.symm hk'), Below.heap_alloc _ _ _ (by simpa using hlt k hk')]
  have hgk : g ∉ [sr, sv, mv] := by
    rcases hat with e | e
    · exact h.far g e
    · intro hx
      have := hlt g hx
      omega
  have hmv := h1 mv (by simp)
  rw [Below.heap_setCell _ _ _ _ (fun e => a2 e.symm), h.met] at hmv
  have hb1 : Below W.heap.size W ((w.setCell ⟨sr, n, none⟩ (.bool true)).alloc o) := (h.b.setCell (hB.ge sr (by simp)) _).alloc (by simpa using h.b.size) _
  refine ⟨?_, ?_, ?_, ?_, ?_, ?_⟩
  · exact (hb1.grown hg hb1.size (fun k e => (h.own.lt k e).1)).setCell (hB.ge mv (by simp)) _
  · refine (World.cell?_of_block (a := ⟨sv, 0, none⟩) ?_).trans h.sc
    rw [Below.heap_setCell _ _ _ _ a3, h1 sv (by simp), Below.heap_setCell _ _ _ _ (fun e => a1 e.symm)]
  · rw [Below.heap_setCell _ _ _ _ a2, h1 sr (by simp), heap_setCell_same w sr n _ _ _ h.row, seen_set]
  · have := one_setCell (u := .slice (some ⟨g, 0, none⟩) (m.length + 1) cap) hmv
    simpa using this
  · have h3 : (w2.setCell ⟨mv, 0, none⟩ (.slice (some ⟨g, 0, none⟩) (m.length + 1) cap)).ownsRow W.heap.size 3 1 (.slice (some ⟨g, 0, none⟩) (m.length + 1) cap) (m.length + 1) (m.map (Value.int .i64) ++ [.int .i64 (n : Int)]) :=
      own_block hown (fun k e => Below.heap_setCell _ _ _ _ (fun e' => hgk (by
        have : g = k := by simpa [Value.ownBlock] using e
        rw [this, e']
        simp)))
    simpa using h3
  · intro k e
    have : g = k := by simpa [Value.ownBlock] using e
    rw [← this]
    exact hgk
def srS (sr mv : Nat) (u : Value) (k : Nat) : Prop := k = sr ∨ k = mv ∨ u.ownBlock = some k
theorem mo_push {W0 : World} {u0 u : Value} {n : Nat} {o : Obj} {v' : Value} (hM : Mo (srS sr mv u0) W0 w) (hu : ∀ q, u.ownBlock = some q → u0.ownBlock = some q ∨ W0.heap.size ≤ q) (hg : ((w.setCell ⟨sr, n, none⟩ (.bool true)).alloc o).grownBy w2 u.ownBlock) : Mo (srS sr mv u0) W0 (w2.setCell ⟨mv, 0, none⟩ v') := by
  have h1 : Mo (srS sr mv u0) W0 ((w.setCell ⟨sr, n, none⟩ (.bool true)).alloc o) := (hM.setCell (p := ⟨sr, n, none⟩) (Or.inl (Or.inl rfl)) _).alloc o
  have h2 : Mo (srS sr mv u0) W0 w2 := h1.grown hg (fun k e => by
    rcases hu k e with h | h
    · exact Or.inl (Or.inr (Or.inr h))
    · exact Or.inr h)
  exact h2.setCell (p := ⟨mv, 0, none⟩) (Or.inl (Or.inr (Or.inl rfl))) _
end
theorem far_3 {w w2 : World} {row : Option Nat} {mv sr n : Nat} {v : Value} {o : Obj} {T : TypeId} (hm : w.heap[mv]? = some (.cells #[v] T (0, 0))) (hs : mv ≠ sr) (hg : ((w.setCell ⟨sr, n, none⟩ (.bool true)).alloc o).grownBy w2 row) (hr : some mv ≠ row) :
    w2.cell? ⟨mv, 0, none⟩ = some v ∧ w2.frozen? ⟨mv, 0, none⟩ = false := far_one hm hs hg hr
def Sm (W w0 w : World) (N sr sv mv : Nat) (u0 : Value) (m : List Int) : Prop := ∃ ao c, Sr W w N sr sv mv m ao c ∧ Mo (srS sr mv u0) w0 w ∧ ∀ q, Value.ownBlock (.slice ao m.length c) = some q → u0.ownBlock = some q ∨ w0.heap.size ≤ q
set_option maxHeartbeats 4000000 in
theorem mt_any {W : World} {N sr sv mv : Nat} (hB : Bk3 W sr sv mv) (l m : List Int) (va : Option Addr) (vc : Nat) (ao : Option Addr) (c : Nat) (w : World)
    (hv : ∀ j, j < l.length → ∃ b o, va = some ⟨b, o, none⟩ ∧ w.cell? ⟨b, o + j, none⟩ = some (.int .i64 (l.getD j 0)) ∧ ¬ srS sr mv (.slice ao m.length c) b)
    (hl : ∀ x ∈ l, 0 ≤ x ∧ x < (N : Int)) (hlen : l.length ≤ 5000) (hN : N ≤ 5000) (hok : Ok N m) (hst : Sr W w N sr sv mv m ao c) :
    Calls Tryz.prog 70 #[.slice va l.length vc, .pointer (some ⟨sv, 0, none⟩), .pointer (some ⟨mv, 0, none⟩)] w fun e w' => e = .returned (.tuple #[]) ∧ ∃ ao' c', Sr W w' N sr sv mv (mtL l m) ao' c' := by
  obtain ⟨i0, hi, hz0, hz1, hz2⟩ := info_parts infoI
  have hS0 : Hid (Sm W w w N sr sv mv (.slice ao m.length c) m) := ⟨ao, c, hst, Mo.refl _ _, fun q e => Or.inl e⟩
  go_enter Tryz.func70, Tryz.ntmps70
  go_wp2
  go_loopw [8] (fun i wr => ∃ k : Nat, k ≤ l.length ∧ i = .int .i64 (k : Int) ∧ Hid (Sm W w wr N sr sv mv (.slice ao m.length c) (mtL (l.take k) m))) (fun i _ => l.length - (intOf i).toNat)
  case atStart => exact ⟨0, Nat.zero_le _, rfl, by simpa [Hid, mtL] using hS0⟩
  case round =>
    obtain ⟨k, hk, rfl, hS⟩ := hrel
    by_cases hlt : k < l.length
    · obtain ⟨lb, lo, rfl, hlc, hnS⟩ := hv k hlt
      have hx := hl _ (getD_mem hlt)
      obtain ⟨n, hn⟩ : ∃ n : Nat, l.getD k 0 = (n : Int) := ⟨(l.getD k 0).toNat, by omega⟩
      have hM := (mtL_ok (l.take k) m (fun x hx => hl x (List.mem_of_mem_take hx)) hok).1
      have hMs : mtL (l.take (k + 1)) m = if (n : Int) ∈ mtL (l.take k) m then mtL (l.take k) m else mtL (l.take k) m ++ [(n : Int)] := by rw [take_snoc hlt, hn, mtL_snoc]
      obtain ⟨ao', c', hS1, hM1, hQ1⟩ := hS.out
      have hlc' : wr.cell? ⟨lb, lo + k, none⟩ = some (.int .i64 (n : Int)) := by
        rw [World.cell?_of_block (w := w) (a := ⟨lb, lo + k, none⟩) (hM1.block lb (lt_of_cell hlc) hnS), hlc, hn]
      rw [hn] at hx
      have hnN : n < N := by omega
      generalize mtL (l.take k) m = M at hS1 hM1 hQ1 hM hMs
      have s0 := hS1.sc
      have s1 : wr.cell? ⟨sr, n, none⟩ = some (.bool (decide ((n : Int) ∈ M))) := by
        rw [cell_of_row wr sr n _ _ _ hS1.row]
        exact seen_at hnN
      by_cases hin : (n : Int) ∈ M
      · rw [decide_eq_true hin] at s1
        rw [if_pos hin] at hMs
        have hS' : Hid (Sm W w wr N sr sv mv (.slice ao m.length c) (mtL (l.take (k + 1)) m)) := by rw [hMs]; exact ⟨ao', c', hS1, hM1, hQ1⟩
        clear hin hMs hM hS hS1 hM1 hQ1 hlc hv hl hn hst hS0
        go_wp2
        go_roundw
        case rel => exact ⟨k + 1, by omega, congrArg (Value.int .i64) (by omega), hS'⟩
        case measure => simp [intOf]; omega
      · rw [decide_eq_false hin] at s1
        rw [if_neg hin] at hMs
        have hML := (ok_snoc hM hin hx.1 hx.2).le
        simp at hML
        have hS' : Hid (∀ (w2 : World) (gg cap : Nat), ((wr.setCell ⟨sr, n, none⟩ (.bool true)).alloc (.cells #[.int .i64 (n : Int)] 3)).grownBy w2 (Value.ownBlock (.slice ao' M.length c')) → w2.ownsRow W.heap.size 3 1 (.slice (some ⟨gg, 0, none⟩) (M.length + 1) cap) (M.length + 1) (M.map (Value.int .i64) ++ [.int .i64 (n : Int)]) → (Value.ownBlock (.slice ao' M.length c') = some gg ∨ gg = wr.heap.size + 1) → Sm W w (w2.setCell ⟨mv, 0, none⟩ (.slice (some ⟨gg, 0, none⟩) (M.length + 1) cap)) N sr sv mv (.slice ao m.length c) (mtL (l.take (k + 1)) m)) := fun w2 gg cap hg ho hat => by
          rw [hMs]
          refine ⟨_, _, Sr.push hB hS1 hg ho hat, mo_push hM1 hQ1 hg, fun q e => ?_⟩
          have eq : gg = q := by simpa [Value.ownBlock] using e
          subst eq
          rcases hat with h | h
          · exact hQ1 _ h
          · exact Or.inr (by have := hM1.size; omega)
        obtain ⟨hm3, hm4⟩ := Sr.mark (n := n) hB hS1 (.cells #[.int .i64 (n : Int)] 3)
        have hm0 := hS1.met
        have z1 : wr.frozen? ⟨sr, n, none⟩ = false := by simp [World.frozen?, hS1.row]
        have hms : mv ≠ sr := fun e => by
          have := hB.nd
          simp [e] at this
        have hsz := hS1.b.size
        have hrm : some mv ≠ Value.ownBlock (.slice ao' M.length c') := fun e => hS1.far mv e.symm (by simp)
        clear hMs hM hlc hv hl hn hst hS hS0 hS1 hM1 hQ1
        go_wp2_with (at_builtin; refine wpList_append_lies _ rfl _ _ _ rfl W.heap.size 3 i0 (.int .i64 0) 1 8 Tryz.underlying28 hi hz0 hz1 hz2 rfl (by decide) _ M.length (M.map (Value.int .i64)) rfl hm4 ⟨wr.heap.size, 0, none⟩ 1 1 [.int .i64 (n : Int)] rfl rfl (World.news_of_block (cs := #[.int .i64 (n : Int)]) (t := 3) (fr := (0, 0)) (by simpa using heap_alloc_new (wr.setCell ⟨sr, n, none⟩ (.bool true)) (.cells #[.int .i64 (n : Int)] 3))) (by simp [Value.oneCell']) (by omega) (by unfold maxLen; omega) (by omega) (by simp; omega) (wr.heap.size + 1) (by simp) ?_; intro gg cap w2 hown2 hgr hat hltg; obtain ⟨d0, d1⟩ := far_3 hm0 hms hgr hrm)
        have hS3 := hid (hS'.out w2 gg cap hgr hown2 hat)
        clear hgr hown2 hat d0 d1 hm0 hm3 hm4 hrm hltg s0 s1 z1 hS'
        try go_wp2
        go_roundw
        case rel => exact ⟨k + 1, by omega, congrArg (Value.int .i64) (by omega), hS3⟩
        case measure => simp [intOf]; omega
    · have hS' : Hid (Sm W w wr N sr sv mv (.slice ao m.length c) (mtL l m)) := by
        have := hS
        rw [List.take_of_length_le (by omega)] at this
        exact this
      clear hv hl hst hS0 hS
      go_wp2
      go_end0
      obtain ⟨ao', c', h1, _⟩ := hS'.out
      exact ⟨rfl, ao', c', h1⟩
end Go.Proofs.YtgmldkojldlekaaGreatDoor

namespace Go.Proofs.YtgmldkojldlekaaGreatDoor
set_option maxRecDepth 100000
open Go.RowKit
theorem Pd.rf {g : Gf} (hg : Good g) {S S' : Ps} {D d : Nat} {F : List (Int → Prop)} {T : Int → Prop} {ms : List Nat} (h : Rf g (fun x => S.cl x.toNat) S.C D F T d) (hD : D ≤ S.C) (hT : ∀ n, n < g.nodes.length → (T (n : Int) ↔ n ∈ ms)) (hms : ∀ m ∈ ms, m < g.nodes.length)
    (k : Pd g.nodes.length S S' (ms.flatMap (fun a : Nat => usrF g.nodes d (a : Int) g.nodes.length))) : Rf g (fun x => S'.cl x.toNat) S'.C D F T (d + 1) := by
  have hN : ∀ x : Int, isN g x → x.toNat < g.nodes.length ∧ ((x.toNat : Nat) : Int) = x := fun x hx => ⟨by have := hx.1; have := hx.2; omega, by have := hx.1; omega⟩
  have hL : ∀ x : Int, isN g x → (x.toNat ∈ ms.flatMap (fun a : Nat => usrF g.nodes d (a : Int) g.nodes.length) ↔ (d < (g.nd x).args.length ∧ T (g.arg x d))) := fun x hx => by
    obtain ⟨h1, h2⟩ := hN x hx
    rw [List.mem_flatMap]
    have hnd : g.nd x = g.nodes.getD x.toNat nd0 := rfl
    constructor
    · rintro ⟨a, ha, hm⟩
      obtain ⟨_, h3, h4⟩ := usrF_mem.1 hm
      refine ⟨by rw [hnd]; exact h3, ?_⟩
      unfold Gf.arg
      rw [hnd, h4]
      exact (hT a (hms a ha)).2 ha
    · rintro ⟨h3, h4⟩
      have h5 := arg_isN hg hx h3
      obtain ⟨h6, h7⟩ := hN _ h5
      refine ⟨(g.arg x d).toNat, (hT _ h6).1 (by rw [h7]; exact h4), usrF_mem.2 ⟨h1, by rw [hnd] at h3; exact h3, ?_⟩⟩
      rw [h7]
      rfl
  refine h.split hD (fun x hx => k.iv.cls _ (hN x hx).1) (fun x hx => k.new _ (hN x hx).1) (fun x y hx hy e => k.fine _ _ (hN x hx).1 (hN y hy).1 e) (fun x y hx hy e => ?_)
  have := k.same _ _ (hN x hx).1 (hN y hy).1 e
  rw [hL x hx, hL y hy] at this
  exact this
theorem Rf.start8 {g : Gf} {cls : Int → Nat} {C : Nat} (hlt : ∀ x, isN g x → cls x < C) (hl : ∀ x y, isN g x → isN g y → (cls x = cls y ↔ labE g x y)) : Rf g cls C 0 [] (fun _ => True) 8 := by
  have h := Rf.start hlt hl
  exact ⟨h.lt, h.lab, h.al, h.old, fun _ _ _ _ _ _ _ _ => Iff.rfl, h.cl, h.sep⟩
def msF (S : Ps) (c : Nat) : List Nat := (List.range (S.be c - S.fi c)).map (fun j => S.nd (S.fi c + j))
theorem msF_len (S : Ps) (c : Nat) : (msF S c).length = S.be c - S.fi c := by simp [msF]
theorem msF_get {S : Ps} {c j : Nat} (h : j < S.be c - S.fi c) : (msF S c).getD j 0 = S.nd (S.fi c + j) := by simp [msF, List.getD, h]
theorem msF_mem {N : Nat} {S : Ps} (h : Iv N S) {c : Nat} (hc : c < S.C) {n : Nat} : n ∈ msF S c ↔ n < N ∧ S.cl n = c := by
  obtain ⟨h1, h2, _⟩ := h.rng c hc
  unfold msF
  rw [List.mem_map]
  constructor
  · rintro ⟨j, hj, rfl⟩
    have hj' := List.mem_range.1 hj
    have h3 := h.np (S.fi c + j) (by omega)
    refine ⟨h3.1, (h.mem _ c h3.1 hc).2 ?_⟩
    rw [h3.2]
    omega
  · rintro ⟨hn, e⟩
    have h3 := (h.mem n c hn hc).1 e
    refine ⟨S.pl n - S.fi c, List.mem_range.2 (by omega), ?_⟩
    have e2 : S.fi c + (S.pl n - S.fi c) = S.pl n := by omega
    rw [e2]
    exact (h.pn n hn).2
theorem msF_nodup {N : Nat} {S : Ps} (h : Iv N S) {c : Nat} (hc : c < S.C) : (msF S c).Nodup := by
  obtain ⟨h1, h2, _⟩ := h.rng c hc
  unfold msF
  rw [List.nodup_iff_pairwise_ne, List.pairwise_map]
  refine List.Pairwise.imp_of_mem (R := fun a b => a < b) ?_ List.pairwise_lt_range
  intro a b ha hb hab e
  have ha' := List.mem_range.1 ha
  have hb' := List.mem_range.1 hb
  have h3 := (h.np (S.fi c + a) (by omega)).2
  have h4 := (h.np (S.fi c + b) (by omega)).2
  rw [e] at h3
  omega
theorem users_nodup (l : List Nd) (k N : Nat) : ∀ ms : List Nat, ms.Nodup → (ms.flatMap (fun a : Nat => usrF l k (a : Int) N)).Nodup
  | [], _ => by simp
  | m :: r, h => by
    have h1 := List.nodup_cons.1 h
    rw [List.flatMap_cons]
    refine List.nodup_append.2 ⟨usrF_nodup l k m N, users_nodup l k N r h1.2, fun a ha b hb e => ?_⟩
    subst e
    obtain ⟨m', hm', hb'⟩ := List.mem_flatMap.1 hb
    have h2 := (usrF_mem.1 ha).2.2
    have h3 := (usrF_mem.1 hb').2.2
    have h4 : m = m' := by omega
    exact h1.1 (by rw [h4]; exact hm')
theorem users_lt {l : List Nd} {k N : Nat} {ms : List Nat} : ∀ n ∈ ms.flatMap (fun a : Nat => usrF l k (a : Int) N), n < N := fun n hn => by
  obtain ⟨_, _, h⟩ := List.mem_flatMap.1 hn
  exact (usrF_mem.1 h).1
theorem Ub.ru {w2 w' : World} {B ub N k : Nat} {b : Nat → Nat} {vs : Nat → Nat → Value} {F : Nat → Nat → List Nat} (h : Ub w2 B ub N b vs F) (hk : k < 8) (hreg : ∀ q, B ≤ q → q < w2.heap.size → w'.heap[q]? = w2.heap[q]?) : Ru w' (b k) N (vs k) (F k) ∧ w'.cell? ⟨ub, k, none⟩ = some (.slice (some ⟨b k, 0, none⟩) N N) := by
  have hr : w'.heap[b k]? = some (.cells (rowV N (vs k)) 28 (0, 0)) := by
    rw [hreg _ (h.ge.2 k hk) (lt_of_block (h.row k hk))]
    exact h.row k hk
  have ht : w'.heap[ub]? = some (.cells (rowV 8 (fun k => .slice (some ⟨b k, 0, none⟩) N N)) 217 (0, 0)) := by
    rw [hreg _ h.ge.1 (lt_of_block h.top)]
    exact h.top
  refine ⟨fun a ha => ⟨?_, ?_⟩, ?_⟩
  · rw [cell_of_row w' _ a _ _ _ hr]
    exact rowV_at _ ha
  · exact own_read (B := B) (ints_len _) (own_block (h.own k a hk ha) (fun q e => hreg q ((h.own k a hk ha).lt q e).1 ((h.own k a hk ha).lt q e).2))
  · rw [cell_of_row w' _ k _ _ _ ht]
    exact rowV_at _ hk
structure Rq (W w1 w2 wr : World) (pb N : Nat) (v0 v1 v2 v3 v4 v5 : Value) (S : Ps) : Prop where
  pt : Pt wr W.heap.size pb v0 v1 v2 v3 v4 v5 (S.rows N)
  iv : Iv N S
  mq0 : ∀ c, c < S.C → S.mq c = 0
  reg : ∀ q, w1.heap.size ≤ q → q < w2.heap.size → wr.heap[q]? = w2.heap[q]?
  far : ∀ k ∈ pb :: blocks [v0, v1, v2, v3, v4, v5], k < w1.heap.size ∨ w2.heap.size ≤ k
  sz : w2.heap.size ≤ wr.heap.size
  b : Below W.heap.size W wr
theorem Rq.below {W w1 w2 wr wr' : World} {pb N : Nat} {v0 v1 v2 v3 v4 v5 : Value} {S : Ps} (h : Rq W w1 w2 wr pb N v0 v1 v2 v3 v4 v5 S) (hb : Below wr.heap.size wr wr') : Rq W w1 w2 wr' pb N v0 v1 v2 v3 v4 v5 S :=
  ⟨h.pt.below hb, h.iv, h.mq0, fun q h1 h2 => (hb.block q (by have := h.sz; omega)).trans (h.reg q h1 h2), h.far, Nat.le_trans h.sz hb.size, Below.next h.b hb⟩
theorem Ch.reg {w w' : World} {K : List Nat} {a b : Nat} (h : Ch K w w') (hK : ∀ k ∈ K, k < a ∨ b ≤ k) (hb : b ≤ w.heap.size) : ∀ q, a ≤ q → q < b → w'.heap[q]? = w.heap[q]? := fun q h1 h2 => h.far q (by omega) (fun hm => by
  have := hK q hm
  omega)
theorem away_six {pb a b H : Nat} {v0 v1 v2 v3 v4 v5 u3 u4 u5 : Value} (h : ∀ k ∈ pb :: blocks [v0, v1, v2, v3, v4, v5], k < a ∨ b ≤ k) (hH : b ≤ H) (hk : ∀ k ∈ blocks [u3, u4, u5], k ∈ blocks [v0, v1, v2, v3, v4, v5] ∨ H ≤ k) : ∀ k ∈ pb :: blocks [v0, v1, v2, u3, u4, u5], k < a ∨ b ≤ k := fun k hm => by
  rcases List.mem_cons.1 hm with h1 | h1
  · exact h k (by rw [h1]; simp)
  · refine blocks_six (v3 := v3) (v4 := v4) (v5 := v5) (P := fun k => k < a ∨ b ≤ k) h1 (fun k h2 => h k (List.mem_cons_of_mem _ h2)) (fun k h2 => ?_)
    rcases hk k h2 with h3 | h3
    · exact h k (List.mem_cons_of_mem _ h3)
    · exact Or.inr (by omega)
theorem Rq.next {W w1 w2 wr wr' : World} {pb N : Nat} {v0 v1 v2 v3 v4 v5 u3 u4 u5 : Value} {S S' : Ps} {L : List Nat} (h : Rq W w1 w2 wr pb N v0 v1 v2 v3 v4 v5 S) (hP : Pt wr' W.heap.size pb v0 v1 v2 u3 u4 u5 (S'.rows N)) (hd : Pd N S S' L) (hC : Ch (pb :: blocks [v0, v1, v2, v3, v4, v5]) wr wr') (hk : ∀ k ∈ blocks [u3, u4, u5], k ∈ blocks [v0, v1, v2, v3, v4, v5] ∨ wr.heap.size ≤ k) : Rq W w1 w2 wr' pb N v0 v1 v2 u3 u4 u5 S' :=
  ⟨hP, hd.iv, hd.mk0, fun q h1 h2 => (hC.reg h.far h.sz q h1 h2).trans (h.reg q h1 h2), away_six h.far h.sz hk, Nat.le_trans h.sz hC.size, Ch.below h.b hC (fun k hk' => by
    rcases List.mem_cons.1 hk' with h1 | h1
    · rw [h1]
      exact h.pt.ge
    · exact (h.pt.fm.lt k h1).1)⟩
end Go.Proofs.YtgmldkojldlekaaGreatDoor

namespace Go.Proofs.YtgmldkojldlekaaGreatDoor
set_option maxRecDepth 100000
open Go.RowKit
set_option maxHeartbeats 2000000 in
theorem hnew_ok (m : Int) (w : World) (B : Nat) (hB : B ≤ w.heap.size) (h1 : 1 ≤ m) (h2 : m ≤ 65536) :
    Calls Tryz.prog 20 #[.int .i64 m] w fun e w' => (∃ hb ab tb tq, e = .returned (.tuple #[.pointer (some ⟨hb, 0, none⟩), .nilIface]) ∧ Hp w' B hb ab tb m (.slice none 0 0) [] (.slice none 0 0) tq [] (.slice none 0 0) (.slice none 0 0) 0 ∧ w.heap.size ≤ hb ∧ w.heap.size ≤ ab ∧ w.heap.size ≤ tb ∧ w.heap.size ≤ tq) ∧ Below w.heap.size w w' := by
  have hnw := hid (new_ok m w B hB h1 h2)
  go_enter Tryz.func20, Tryz.ntmps20
  go_wp2_with (first
    | (go_at_call 45; refine hnw.out.mono ?_; rintro e w1 ⟨rfl, hA1, hb1⟩; have HA1 := hid hA1; have Hb1 := hid hb1; clear hA1 hb1)
    | (go_at_call 47; refine (new_any w1 B (Nat.le_trans hB Hb1.out.size)).mono ?_; rintro e w2 ⟨rfl, hT2, hb2⟩; have HT2 := hid hT2; have Hb2 := hid hb2; clear hT2 hb2))
  go_ret2
  have hz1 := Hb1.out.size
  have hz2 := Hb2.out.size
  have hb3 := below_alloc w2 (.cells #[.pointer (some ⟨w.heap.size, 0, none⟩), .pointer (some ⟨w1.heap.size + 1, 0, none⟩), .slice none 0 0, .slice none 0 0, .int .i64 0] 83)
  refine ⟨⟨w2.heap.size, w.heap.size, w1.heap.size + 1, w1.heap.size, rfl, ⟨heap_alloc_new w2 _, by omega, (HA1.out.below Hb2.out).below hb3, HT2.out.below hb3⟩, by omega, Nat.le_refl _, by omega, by omega⟩, Below.next (Below.next Hb1.out Hb2.out) hb3⟩
end Go.Proofs.YtgmldkojldlekaaGreatDoor
