/- Package cells: a heap between calls, and what a call makes of it. -/
import Derived.Test.YtgmldkojldlekaaGreatDoorSR32Z
import Derived.Test.YtgmldkojldlekaaGreatDoorSR37Z
import Derived.Test.YtgmldkojldlekaaGreatDoorSR41Z
import Derived.Test.YtgmldkojldlekaaGreatDoorSR39Z
import Derived.Test.YtgmldkojldlekaaGreatDoorSR33Z
import Derived.Test.YtgmldkojldlekaaGreatDoorSR38Z
import Derived.Test.YtgmldkojldlekaaGreatDoorSR02Z
import Derived.Test.YtgmldkojldlekaaGreatDoorSR36Z
import Derived.Test.YtgmldkojldlekaaGreatDoorSR06Z
import Derived.Test.YtgmldkojldlekaaGreatDoorSR11Z
namespace Go.Proofs.YtgmldkojldlekaaGreatDoor
set_option maxRecDepth 100000
open Go.RowKit
structure Hst where
  l : List Int
  ns : List ByteArray
  tr : List Te
  pt : List Pe
  n : Int
def Hs (w : World) (B hb : Nat) (m : Int) (F : Nat → Prop) (s : Hst) : Prop :=
  ∃ ab tb av tv tq trv ptv, Hq w B hb ab tb m av s.l tv tq s.ns trv s.tr ptv s.pt s.n ∧ ∀ k, k ∈ qfoot hb ab av trv ptv → F k
theorem Hs.below {w w' : World} {B hb : Nat} {m : Int} {F : Nat → Prop} {s : Hst} (h : Hs w B hb m F s) (hb' : Below w.heap.size w w') : Hs w' B hb m F s := by
  obtain ⟨ab, tb, av, tv, tq, trv, ptv, h, hf⟩ := h
  exact ⟨ab, tb, av, tv, tq, trv, ptv, h.below hb', hf⟩
theorem Hs.weak {w : World} {B hb : Nat} {m : Int} {F F' : Nat → Prop} {s : Hst} (h : Hs w B hb m F s) (hF : ∀ k, F k → F' k) : Hs w B hb m F' s := by
  obtain ⟨ab, tb, av, tv, tq, trv, ptv, h, hf⟩ := h
  exact ⟨ab, tb, av, tv, tq, trv, ptv, h, fun k hk => hF k (hf k hk)⟩
structure Sj (s : Hst) (j : Nat) : Prop where
  si : SI s.l s.ns.length s.tr s.pt
  n0 : 0 ≤ s.n
  n1 : s.n ≤ j
  t1 : s.tr.length ≤ j
  p1 : s.pt.length ≤ j
theorem Sj.more {s : Hst} {j k : Nat} (h : Sj s j) (hk : j ≤ k) : Sj s k := ⟨h.si, h.n0, Int.le_trans h.n1 (by omega), Nat.le_trans h.t1 hk, Nat.le_trans h.p1 hk⟩
inductive Stp (kd a : Int) (s : Hst) : Hst → Prop
  | same : Stp kd a s s
  | write (k : Nat) (x : Int) (hk : k < s.l.length) (h : SndN (s.l.set k x) s.ns.length) : Stp kd a s ⟨s.l.set k x, s.ns, trW s.l s.tr s.pt k, s.pt, s.n + 1⟩
  | put (m : List Int) (ns' : List ByteArray) (h1 : s.ns.length ≤ ns'.length) (h : SndN (s.l ++ m) ns'.length) : Stp kd a s ⟨s.l ++ m, ns', s.tr, s.pt, s.n⟩
  | point : Stp kd a s ⟨s.l, s.ns, s.tr, s.pt ++ [(s.tr.length, s.l.length)], s.n⟩
  | release (j : Nat) (hj : j < s.pt.length) (hk : kd = 7) (ha : a = (j : Int)) : Stp kd a s ⟨s.l, s.ns, s.tr, s.pt.take j, s.n⟩
  | undo (j : Nat) (hj : j < s.pt.length) (hk : kd = 6) (ha : a = (j : Int)) : Stp kd a s ⟨atP s.l s.tr s.pt[j], s.ns, s.tr.take s.pt[j].1, s.pt.take (j + 1), s.n⟩
theorem trW_len (l : List Int) (tr : List Te) (pt : List Pe) (k : Nat) : (trW l tr pt k).length ≤ tr.length + 1 := by
  unfold trW
  split <;> simp
theorem Stp.sj {kd a : Int} {s s' : Hst} {j : Nat} (h : Stp kd a s s') (hs : Sj s j) : Sj s' (j + 1) := by
  have hn := hs.n1
  have h0 := hs.n0
  have ht := hs.t1
  have hp := hs.p1
  cases h with
  | same => exact hs.more (by omega)
  | write k x hk h =>
    have := trW_len s.l s.tr s.pt k
    exact ⟨hs.si.write hk h, by show 0 ≤ s.n + 1; omega, by show s.n + 1 ≤ _; omega, by show (trW s.l s.tr s.pt k).length ≤ _; omega, by show s.pt.length ≤ _; omega⟩
  | put m ns' h1 h => exact ⟨hs.si.put h1 h, h0, by show s.n ≤ _; omega, by show s.tr.length ≤ _; omega, by show s.pt.length ≤ _; omega⟩
  | point => exact ⟨hs.si.point, h0, by show s.n ≤ _; omega, by show s.tr.length ≤ _; omega, by show (s.pt ++ [_]).length ≤ _; simp; omega⟩
  | release i hj hk ha => exact ⟨hs.si.release i, h0, by show s.n ≤ _; omega, by show s.tr.length ≤ _; omega, by show (s.pt.take i).length ≤ _; simp; omega⟩
  | undo i hj hk ha => exact ⟨hs.si.undo i hj, h0, by show s.n ≤ _; omega, by show (s.tr.take _).length ≤ _; simp; omega, by show (s.pt.take _).length ≤ _; simp; omega⟩
section
variable {w w' : World} {B hb ab tb : Nat} {m : Int} {av : Value} {l : List Int} {tv : Value} {tq : Nat} {ns : List ByteArray} {trv : Value} {tr : List Te} {ptv : Value} {pt : List Pe} {n : Int} {F : Nat → Prop}
theorem mo_of {ks : List Nat} (h : a_Mod ks w w') (hk : ∀ k ∈ ks, F k) : Mo F w w' := ⟨h.os, h.tape, h.output, h.size, fun k hk' hn => h.block k hk' (fun hx => hn (hk k hx))⟩
theorem foot_new {av' trv' ptv' : Value} (hf : ∀ k, k ∈ qfoot hb ab av trv ptv → F k) (h1 : a_Nx w av av') (h2 : a_Nx w trv trv') (h3 : a_Nx w ptv ptv') : ∀ k, k ∈ qfoot hb ab av' trv' ptv' → F k ∨ w.heap.size ≤ k := fun k hk => by
  rcases mem_qfoot.1 hk with rfl | hk | hk | hk
  · exact Or.inl (hf _ (mem_qfoot.2 (Or.inl rfl)))
  · rcases a_mem_foot.1 hk with rfl | hk
    · exact Or.inl (hf _ (mem_qfoot.2 (Or.inr (Or.inl (a_mem_foot.2 (Or.inl rfl))))))
    · rcases h1 k hk with h | h
      · exact Or.inl (hf _ (mem_qfoot.2 (Or.inr (Or.inl (a_mem_foot.2 (Or.inr h))))))
      · exact Or.inr h
  · rcases h2 k hk with h | h
    · exact Or.inl (hf _ (mem_qfoot.2 (Or.inr (Or.inr (Or.inl h)))))
    · exact Or.inr h
  · rcases h3 k hk with h | h
    · exact Or.inl (hf _ (mem_qfoot.2 (Or.inr (Or.inr (Or.inr h)))))
    · exact Or.inr h
end
def Lv (w w' : World) (B hb : Nat) (m : Int) (F : Nat → Prop) (kd a : Int) (s : Hst) : Prop := ∃ s', Stp kd a s s' ∧ Hs w' B hb m (fun k => F k ∨ w.heap.size ≤ k) s' ∧ Mo F w w'
section
variable {w : World} {B hb : Nat} {m : Int} {F : Nat → Prop} {s : Hst}
theorem Lv.same {w' : World} {kd a : Int} (h : Hs w B hb m F s) (hb' : Below w.heap.size w w') : Lv w w' B hb m F kd a s := ⟨s, .same, (h.below hb').weak (fun _ => Or.inl), Mo.ofBelow hb'⟩
theorem act_lv {w' : World} {ab tb : Nat} {av tv : Value} {tq : Nat} {trv ptv : Value} {kd a : Int} (h : Hs w B hb m F s) (hf : ∀ k, k ∈ qfoot hb ab av trv ptv → F k) (ha : Act1 w w' B hb ab tb m av s.l tv tq s.ns trv s.tr ptv s.pt s.n) : Lv w w' B hb m F kd a s := by
  rcases ha with ha | ⟨k, x, hk, hs, trv', hq, hm, hx⟩
  · exact Lv.same h ha
  · exact ⟨_, .write k x hk hs, ⟨ab, tb, av, tv, tq, trv', ptv, hq, foot_new hf (a_Nx.refl _ _) hx (a_Nx.refl _ _)⟩, mo_of hm hf⟩
theorem bind_lv (h : Hs w B hb m F s) (hB : B ≤ w.heap.size) {j : Nat} (hs : Sj s j) (hj : j ≤ 1000) (kd a x y : Int) :
    Calls Tryz.prog 24 #[.pointer (some ⟨hb, 0, none⟩), .int .i64 x, .int .i64 y] w fun e w' => (∃ ev, e = .returned ev) ∧ Lv w w' B hb m F kd a s := by
  obtain ⟨ab, tb, av, tv, tq, trv, ptv, hq, hf⟩ := h
  have h1 := hs.n1
  have h2 := hs.t1
  have h3 := hs.p1
  exact (bind_act hq hB hs.si.now hs.n0 (by omega) (by omega) (by omega) x y).mono fun e w' ⟨e1, e2⟩ => ⟨e1, act_lv ⟨ab, tb, av, tv, tq, trv, ptv, hq, hf⟩ hf e2⟩
theorem merge_lv (h : Hs w B hb m F s) (hB : B ≤ w.heap.size) {j : Nat} (hs : Sj s j) (hj : j ≤ 1000) (kd a x y : Int) :
    Calls Tryz.prog 28 #[.pointer (some ⟨hb, 0, none⟩), .int .i64 x, .int .i64 y] w fun e w' => (∃ ev, e = .returned ev) ∧ Lv w w' B hb m F kd a s := by
  obtain ⟨ab, tb, av, tv, tq, trv, ptv, hq, hf⟩ := h
  have h1 := hs.n1
  have h2 := hs.t1
  have h3 := hs.p1
  exact (merge_act hq hB hs.si.now hs.n0 (by omega) (by omega) (by omega) x y).mono fun e w' ⟨e1, e2⟩ => ⟨e1, act_lv ⟨ab, tb, av, tv, tq, trv, ptv, hq, hf⟩ hf e2⟩
theorem point_lv (h : Hs w B hb m F s) (hB : B ≤ w.heap.size) {j : Nat} (hs : Sj s j) (hj : j ≤ 1000) :
    Calls Tryz.prog 9 #[.pointer (some ⟨hb, 0, none⟩)] w fun e w' => e = .returned (.tuple #[.int .i64 (s.pt.length : Int), .nilIface]) ∧ Hs w' B hb m (fun k => F k ∨ w.heap.size ≤ k) ⟨s.l, s.ns, s.tr, s.pt ++ [(s.tr.length, s.l.length)], s.n⟩ ∧ Mo F w w' := by
  obtain ⟨ab, tb, av, tv, tq, trv, ptv, hq, hf⟩ := h
  have h3 := hs.p1
  exact (point_any hq hB (by omega)).mono fun e w' ⟨e1, ptv', e2, e3, e4⟩ => ⟨e1, ⟨ab, tb, av, tv, tq, trv, ptv', e2, foot_new hf (a_Nx.refl _ _) (a_Nx.refl _ _) e4⟩, mo_of e3 hf⟩
theorem undo_lv (h : Hs w B hb m F s) {j : Nat} (hs : Sj s j) (hj : j ≤ 1000) (i : Nat) (hi : i < s.pt.length) :
    Calls Tryz.prog 11 #[.pointer (some ⟨hb, 0, none⟩), .int .i64 (i : Int)] w fun e w' => e = .returned .nilIface ∧ Hs w' B hb m (fun k => F k ∨ w.heap.size ≤ k) ⟨atP s.l s.tr s.pt[i], s.ns, s.tr.take s.pt[i].1, s.pt.take (i + 1), s.n⟩ ∧ Mo F w w' := by
  obtain ⟨ab, tb, av, tv, tq, trv, ptv, hq, hf⟩ := h
  have h2 := hs.t1
  have h3 := hs.p1
  have hl := hs.si.len _ (List.getElem_mem hi)
  exact (undo_yes hq i hi s.pt[i].1 s.pt[i].2 (by simp [List.getD, hi]) hl.1 hl.2 (by omega) (by omega) hs.si.ent).mono fun e w' ⟨e1, av', trv', ptv', e2, e3, e4, e5, e6⟩ => ⟨e1, ⟨ab, tb, av', tv, tq, trv', ptv', e2, foot_new hf e4 e5 e6⟩, mo_of e3 hf⟩
theorem undo_any (h : Hs w B hb m F s) {j : Nat} (hs : Sj s j) (hj : j ≤ 1000) (a : Int) :
    Calls Tryz.prog 11 #[.pointer (some ⟨hb, 0, none⟩), .int .i64 a] w fun e w' => (∃ ev, e = .returned ev) ∧ Lv w w' B hb m F 6 a s := by
  by_cases ha : 0 ≤ a ∧ a < (s.pt.length : Int)
  · obtain ⟨i, rfl⟩ : ∃ i : Nat, a = (i : Int) := ⟨a.toNat, by omega⟩
    exact (undo_lv h hs hj i (by omega)).mono fun e w' ⟨e1, e2, e3⟩ => ⟨⟨_, e1⟩, _, .undo i (by omega) rfl rfl, e2, e3⟩
  · obtain ⟨ab, tb, av, tv, tq, trv, ptv, hq, hf⟩ := h
    exact (undo_no hq a (by omega)).mono fun e w' ⟨⟨_, e1, _⟩, e2⟩ => ⟨⟨_, e1⟩, Lv.same ⟨ab, tb, av, tv, tq, trv, ptv, hq, hf⟩ e2⟩
theorem release_any (h : Hs w B hb m F s) (a : Int) :
    Calls Tryz.prog 29 #[.pointer (some ⟨hb, 0, none⟩), .int .i64 a] w fun e w' => (∃ ev, e = .returned ev) ∧ Lv w w' B hb m F 7 a s := by
  obtain ⟨ab, tb, av, tv, tq, trv, ptv, hq, hf⟩ := h
  by_cases ha : 0 ≤ a ∧ a < (s.pt.length : Int)
  · obtain ⟨i, rfl⟩ : ∃ i : Nat, a = (i : Int) := ⟨a.toNat, by omega⟩
    exact (release_yes hq i (by omega)).mono fun e w' ⟨e1, ptv', e2, e3, e4⟩ => ⟨⟨_, e1⟩, _, .release i (by omega) rfl rfl, ⟨ab, tb, av, tv, tq, trv, ptv', e2, foot_new hf (a_Nx.refl _ _) (a_Nx.refl _ _) e4⟩, mo_of e3 hf⟩
  · exact (release_no hq a (by omega)).mono fun e w' ⟨⟨_, e1, _⟩, e2⟩ => ⟨⟨_, e1⟩, Lv.same ⟨ab, tb, av, tv, tq, trv, ptv, hq, hf⟩ e2⟩
theorem put_lv {W0 : World} (hE : ErrC w) (h : Hs w B hb m F s) (hB : B ≤ w.heap.size) (hF : ∀ k, F k → B ≤ k) {j : Nat} (hs : Sj s j) (kd a : Int) {nv rv : Value} {g : Gf} (hW : Below W0.heap.size W0 w) (hWB : W0.heap.size ≤ B) (hG : Gr W0 nv rv g) (hS : Sized g) :
    Calls Tryz.prog 21 #[.pointer (some ⟨hb, 0, none⟩), .agg #[nv, rv]] w fun e w' => (∃ ev, e = .returned ev) ∧ Lv w w' B hb m F kd a s := by
  have h0 := h
  obtain ⟨ab, tb, av, tv, tq, trv, ptv, hq, hf⟩ := h
  have hGw := hG.below hW
  by_cases hck : one (chk g) = []
  · by_cases hna : (wthJ s.ns g (metF g) (metF g).length).length ≤ 1024
    · by_cases hro : (s.l.length + wantJ g (metF g) (metF g).length : Int) ≤ m
      · have hg := chk_good hck
        have hm2 := hq.hp.ar.m2
        have hpm := pmc_ofG (ns := s.ns) (b := s.l.length) hg hna (by omega)
        obtain ⟨avs, hA⟩ := gra_of hG
        have hfa : ∀ k ∈ hb :: a_foot ab av, F k := fun k hk => by
          rcases List.mem_cons.1 hk with rfl | hk
          · exact hf _ (mem_qfoot.2 (Or.inl rfl))
          · exact hf _ (mem_qfoot.2 (Or.inr (Or.inl hk)))
        have hGk : ∀ w', a_Mod (hb :: a_foot ab av) w w' → Gra w' nv rv g avs := fun w' hm => hA.below (hW.trans ((hm.below (fun k hk => hF k (hfa k hk)) hB).mono hWB))
        obtain ⟨V, hV⟩ := hs.si.now.1
        refine (put_okG hq.hp hB hGk hS hck hro hna (fun c hc => hpm.may hc)).mono ?_
        rintro e w' ⟨ao, c, av', tb', tv', tq', rfl, ho, hp, hm, hx, ht⟩
        obtain ⟨r1, r2⟩ := hq.rows hm (fun k hk hx => by
          have := hq.apart hx
          rcases List.mem_cons.1 hk with rfl | hk
          · exact this.1 rfl
          · exact this.2.1 hk)
        exact ⟨⟨_, rfl⟩, _, .put _ _ (wthJ_ge _ _ _ _) ⟨⟨_, put_snd hV hpm⟩, put_nsb hs.si.now.2 (wthJ_ge _ _ _ _) hpm⟩, ⟨ab, tb', av', tv', tq', trv, ptv, ⟨hp, r1, r2⟩, foot_new hf hx (a_Nx.refl _ _) (a_Nx.refl _ _)⟩, mo_of hm hfa⟩
      · exact (hput_full hE hq.hp hB hGw hS hck (by omega) hna).mono fun e w' ⟨⟨_, e1⟩, e2⟩ => ⟨⟨_, e1⟩, Lv.same h0 e2⟩
    · exact (put_names hE hq.hp hB hGw hS hck (by omega)).mono fun e w' ⟨⟨_, e1⟩, e2⟩ => ⟨⟨_, e1⟩, Lv.same h0 e2⟩
  · exact (hput_bad hb hE hGw hS hck).mono fun e w' ⟨⟨_, e1⟩, e2⟩ => ⟨⟨_, e1⟩, Lv.same h0 e2⟩
theorem get_lv (h : Hs w B hb m F s) {j : Nat} (hs : Sj s j) (hm : m ≤ 4096) (kd a : Int) {cv : Value} {cs : List Int} (hC : Ri w cv cs) (hl : cs.length ≤ 4096) :
    Calls Tryz.prog 26 #[.pointer (some ⟨hb, 0, none⟩), cv] w fun e w' => (∃ ev, e = .returned ev) ∧ Lv w w' B hb m F kd a s := by
  have h0 := h
  obtain ⟨ab, tb, av, tv, tq, trv, ptv, hq, hf⟩ := h
  obtain ⟨V, hV⟩ := hs.si.now.1
  have := hq.hp.ar.len
  exact (get_any hq.hp hV hs.si.now.2 (by omega) hC hl).mono fun e w' ⟨e1, e2⟩ => ⟨e1, Lv.same h0 e2⟩
theorem look_lv (h : Hs w B hb m F s) {j : Nat} (hs : Sj s j) (kd a x : Int) :
    Calls Tryz.prog 25 #[.pointer (some ⟨hb, 0, none⟩), .int .i64 x] w fun e w' => (∃ ev, e = .returned ev) ∧ Lv w w' B hb m F kd a s := by
  have h0 := h
  obtain ⟨ab, tb, av, tv, tq, trv, ptv, hq, hf⟩ := h
  obtain ⟨V, hV⟩ := hs.si.now.1
  exact (look_any hq.hp hV hs.si.now.2 x).mono fun e w' ⟨e1, e2⟩ => ⟨e1, Lv.same h0 e2⟩
end
end Go.Proofs.YtgmldkojldlekaaGreatDoor

namespace Go.Proofs.YtgmldkojldlekaaGreatDoor
set_option maxRecDepth 100000
open Go.RowKit
theorem Lv.from {w w1 w' : World} {B hb : Nat} {m : Int} {F : Nat → Prop} {kd a : Int} {s : Hst} (hb1 : Below w.heap.size w w1) (h : Lv w1 w' B hb m F kd a s) : Lv w w' B hb m F kd a s := by
  obtain ⟨s', h1, h2, h3⟩ := h
  refine ⟨s', h1, h2.weak (fun k hk => ?_), (Mo.ofBelow hb1).trans h3 (fun x hx => Or.inl hx)⟩
  rcases hk with hk | hk
  · exact Or.inl hk
  · exact Or.inr (Nat.le_trans hb1.size hk)
theorem reach_lv {w : World} {B hb : Nat} {m : Int} {F : Nat → Prop} {s : Hst} (h : Hs w B hb m F s) {j : Nat} (hs : Sj s j) (hm : m ≤ 4096) (kd a : Int) {cv : Value} {cs : List Int} (hC : Ri w cv cs) (hl : cs.length ≤ 5000) :
    Calls Tryz.prog 14 #[.pointer (some ⟨hb, 0, none⟩), cv] w fun e w' => (∃ ev, e = .returned ev) ∧ Lv w w' B hb m F kd a s := by
  have h0 := h
  obtain ⟨ab, tb, av, tv, tq, trv, ptv, hq, hf⟩ := h
  obtain ⟨V, hV⟩ := hs.si.now.1
  have := hq.hp.ar.len
  exact (hreach_any hq.hp hV (by omega) hC hl).mono fun e w' ⟨e1, e2⟩ => ⟨e1, Lv.same h0 e2⟩
structure PlH (w W0 : World) (B hb : Nat) (F : Nat → Prop) (s : Hst) (j : Nat) (nv rv : Value) (g : Gf) : Prop where
  hE : ErrC w
  h : Hs w B hb 400 F s
  hB : B ≤ w.heap.size
  hF : ∀ k, F k → B ≤ k
  hs : Sj s j
  hj : j ≤ 1000
  hW : Below W0.heap.size W0 w
  hWB : W0.heap.size ≤ B
  hG : Gr W0 nv rv g
  hS : Sized g
section
variable {w W0 : World} {B hb : Nat} {F : Nat → Prop} {s : Hst} {j : Nat} {nv rv : Value} {g : Gf}
set_option maxHeartbeats 2000000 in
theorem play_0 (H : PlH w W0 B hb F s j nv rv g) (a b : Int) :
    Calls Tryz.prog 8 #[.pointer (some ⟨hb, 0, none⟩), opV 0 nv rv a b] w fun e w' => e = .returned (.tuple #[]) ∧ Lv w w' B hb 400 F 0 a s := by
  obtain ⟨hE, h, hB, hF, hs, hj, hW, hWB, hG, hS⟩ := H
  have hb0 := below_alloc w (.cells #[.int .i64 0, nv, rv, .int .i64 a, .int .i64 b] 32)
  have hB0 := Nat.le_trans hB hb0.size
  have hc := hid (put_lv (hE.below hb0) (h.below hb0) hB0 hF hs 0 a (Below.next hW hb0) hWB hG hS)
  have Hb0 := hid hb0
  have HH := hid h
  obtain ⟨na, nc, rfl, _⟩ := hG.1
  obtain ⟨ra, rc, rfl, _⟩ := hG.2
  clear hE h hB hF hs hj hW hWB hG hS hb0 hB0
  go_enter Tryz.func8, Tryz.ntmps8
  go_wp2_with (go_at_call 21; refine hc.out.mono ?_; rintro e w1 ⟨⟨ev, rfl⟩, hL⟩; have HL := hid hL; clear hL)
  go_end0
  exact ⟨rfl, HL.out.from Hb0.out⟩
set_option maxHeartbeats 2000000 in
theorem play_2 (H : PlH w W0 B hb F s j nv rv g) (a b : Int) :
    Calls Tryz.prog 8 #[.pointer (some ⟨hb, 0, none⟩), opV 2 nv rv a b] w fun e w' => e = .returned (.tuple #[]) ∧ Lv w w' B hb 400 F 2 a s := by
  obtain ⟨hE, h, hB, hF, hs, hj, hW, hWB, hG, hS⟩ := H
  have hb0 := below_alloc w (.cells #[.int .i64 2, nv, rv, .int .i64 a, .int .i64 b] 32)
  have hB0 := Nat.le_trans hB hb0.size
  have hc := hid (look_lv (h.below hb0) hs 2 a a)
  have Hb0 := hid hb0
  have HH := hid h
  obtain ⟨na, nc, rfl, _⟩ := hG.1
  obtain ⟨ra, rc, rfl, _⟩ := hG.2
  clear hE h hB hF hs hj hW hWB hG hS hb0 hB0
  go_enter Tryz.func8, Tryz.ntmps8
  go_wp2_with (go_at_call 25; refine hc.out.mono ?_; rintro e w1 ⟨⟨ev, rfl⟩, hL⟩; have HL := hid hL; clear hL)
  go_end0
  exact ⟨rfl, HL.out.from Hb0.out⟩
set_option maxHeartbeats 2000000 in
theorem play_3 (H : PlH w W0 B hb F s j nv rv g) (a b : Int) :
    Calls Tryz.prog 8 #[.pointer (some ⟨hb, 0, none⟩), opV 3 nv rv a b] w fun e w' => e = .returned (.tuple #[]) ∧ Lv w w' B hb 400 F 3 a s := by
  obtain ⟨hE, h, hB, hF, hs, hj, hW, hWB, hG, hS⟩ := H
  have hb0 := below_alloc w (.cells #[.int .i64 3, nv, rv, .int .i64 a, .int .i64 b] 32)
  have hB0 := Nat.le_trans hB hb0.size
  have hc := hid (bind_lv (h.below hb0) hB0 hs hj 3 a a b)
  have Hb0 := hid hb0
  have HH := hid h
  obtain ⟨na, nc, rfl, _⟩ := hG.1
  obtain ⟨ra, rc, rfl, _⟩ := hG.2
  clear hE h hB hF hs hj hW hWB hG hS hb0 hB0
  go_enter Tryz.func8, Tryz.ntmps8
  go_wp2_with (go_at_call 24; refine hc.out.mono ?_; rintro e w1 ⟨⟨ev, rfl⟩, hL⟩; have HL := hid hL; clear hL)
  go_end0
  exact ⟨rfl, HL.out.from Hb0.out⟩
set_option maxHeartbeats 2000000 in
theorem play_4 (H : PlH w W0 B hb F s j nv rv g) (a b : Int) :
    Calls Tryz.prog 8 #[.pointer (some ⟨hb, 0, none⟩), opV 4 nv rv a b] w fun e w' => e = .returned (.tuple #[]) ∧ Lv w w' B hb 400 F 4 a s := by
  obtain ⟨hE, h, hB, hF, hs, hj, hW, hWB, hG, hS⟩ := H
  have hb0 := below_alloc w (.cells #[.int .i64 4, nv, rv, .int .i64 a, .int .i64 b] 32)
  have hB0 := Nat.le_trans hB hb0.size
  have hc := hid (merge_lv (h.below hb0) hB0 hs hj 4 a a b)
  have Hb0 := hid hb0
  have HH := hid h
  obtain ⟨na, nc, rfl, _⟩ := hG.1
  obtain ⟨ra, rc, rfl, _⟩ := hG.2
  clear hE h hB hF hs hj hW hWB hG hS hb0 hB0
  go_enter Tryz.func8, Tryz.ntmps8
  go_wp2_with (go_at_call 28; refine hc.out.mono ?_; rintro e w1 ⟨⟨ev, rfl⟩, hL⟩; have HL := hid hL; clear hL)
  go_end0
  exact ⟨rfl, HL.out.from Hb0.out⟩
set_option maxHeartbeats 2000000 in
theorem play_5 (H : PlH w W0 B hb F s j nv rv g) (a b : Int) :
    Calls Tryz.prog 8 #[.pointer (some ⟨hb, 0, none⟩), opV 5 nv rv a b] w fun e w' => e = .returned (.tuple #[]) ∧ Lv w w' B hb 400 F 5 a s := by
  obtain ⟨hE, h, hB, hF, hs, hj, hW, hWB, hG, hS⟩ := H
  have hb0 := below_alloc w (.cells #[.int .i64 5, nv, rv, .int .i64 a, .int .i64 b] 32)
  have hB0 := Nat.le_trans hB hb0.size
  have hc := hid (point_lv (h.below hb0) hB0 hs hj)
  have Hb0 := hid hb0
  have HH := hid h
  obtain ⟨na, nc, rfl, _⟩ := hG.1
  obtain ⟨ra, rc, rfl, _⟩ := hG.2
  clear hE h hB hF hs hj hW hWB hG hS hb0 hB0
  go_enter Tryz.func8, Tryz.ntmps8
  go_wp2_with (go_at_call 9; refine hc.out.mono ?_; rintro e w1 ⟨rfl, hL⟩; have HL := hid hL; clear hL)
  go_end0
  exact ⟨rfl, Lv.from Hb0.out ⟨_, .point, HL.out.1, HL.out.2⟩⟩
set_option maxHeartbeats 2000000 in
theorem play_6 (H : PlH w W0 B hb F s j nv rv g) (a b : Int) :
    Calls Tryz.prog 8 #[.pointer (some ⟨hb, 0, none⟩), opV 6 nv rv a b] w fun e w' => e = .returned (.tuple #[]) ∧ Lv w w' B hb 400 F 6 a s := by
  obtain ⟨hE, h, hB, hF, hs, hj, hW, hWB, hG, hS⟩ := H
  have hb0 := below_alloc w (.cells #[.int .i64 6, nv, rv, .int .i64 a, .int .i64 b] 32)
  have hB0 := Nat.le_trans hB hb0.size
  have hc := hid (undo_any (h.below hb0) hs hj a)
  have Hb0 := hid hb0
  have HH := hid h
  obtain ⟨na, nc, rfl, _⟩ := hG.1
  obtain ⟨ra, rc, rfl, _⟩ := hG.2
  clear hE h hB hF hs hj hW hWB hG hS hb0 hB0
  go_enter Tryz.func8, Tryz.ntmps8
  go_wp2_with (go_at_call 11; refine hc.out.mono ?_; rintro e w1 ⟨⟨ev, rfl⟩, hL⟩; have HL := hid hL; clear hL)
  go_end0
  exact ⟨rfl, HL.out.from Hb0.out⟩
set_option maxHeartbeats 2000000 in
theorem play_7 (H : PlH w W0 B hb F s j nv rv g) (a b : Int) :
    Calls Tryz.prog 8 #[.pointer (some ⟨hb, 0, none⟩), opV 7 nv rv a b] w fun e w' => e = .returned (.tuple #[]) ∧ Lv w w' B hb 400 F 7 a s := by
  obtain ⟨hE, h, hB, hF, hs, hj, hW, hWB, hG, hS⟩ := H
  have hb0 := below_alloc w (.cells #[.int .i64 7, nv, rv, .int .i64 a, .int .i64 b] 32)
  have hB0 := Nat.le_trans hB hb0.size
  have hc := hid (release_any (h.below hb0) a)
  have Hb0 := hid hb0
  have HH := hid h
  obtain ⟨na, nc, rfl, _⟩ := hG.1
  obtain ⟨ra, rc, rfl, _⟩ := hG.2
  clear hE h hB hF hs hj hW hWB hG hS hb0 hB0
  go_enter Tryz.func8, Tryz.ntmps8
  go_wp2_with (go_at_call 29; refine hc.out.mono ?_; rintro e w1 ⟨⟨ev, rfl⟩, hL⟩; have HL := hid hL; clear hL)
  go_end0
  exact ⟨rfl, HL.out.from Hb0.out⟩
set_option maxHeartbeats 2000000 in
theorem play_1 (H : PlH w W0 B hb F s j nv rv g) (a b : Int) :
    Calls Tryz.prog 8 #[.pointer (some ⟨hb, 0, none⟩), opV 1 nv rv a b] w fun e w' => e = .returned (.tuple #[]) ∧ Lv w w' B hb 400 F 1 a s := by
  obtain ⟨hE, h, hB, hF, hs, hj, hW, hWB, hG, hS⟩ := H
  have hb0 := below_alloc w (.cells #[.int .i64 1, nv, rv, .int .i64 a, .int .i64 b] 32)
  have hB0 := Nat.le_trans hB hb0.size
  have hb1 := Below.next hb0 (below_alloc (w.alloc (.cells #[.int .i64 1, nv, rv, .int .i64 a, .int .i64 b] 32)) (.cells #[.int .i64 a, .int .i64 b] 3))
  have hri := ri_lit2 (heap_alloc_new (w.alloc (.cells #[.int .i64 1, nv, rv, .int .i64 a, .int .i64 b] 32)) (.cells #[.int .i64 a, .int .i64 b] 3))
  rw [World.size_alloc] at hri
  have hc := hid (get_lv (h.below hb1) hs (by omega) 1 a hri (by simp))
  have Hb1 := hid hb1
  clear hri hb1
  have Hb0 := hid hb0
  have HH := hid h
  obtain ⟨na, nc, rfl, _⟩ := hG.1
  obtain ⟨ra, rc, rfl, _⟩ := hG.2
  clear hE h hB hF hs hj hW hWB hG hS hb0 hB0
  go_enter Tryz.func8, Tryz.ntmps8
  go_wp2_with (go_at_call 26; refine hc.out.mono ?_; rintro e w1 ⟨⟨ev, rfl⟩, hL⟩; have HL := hid hL; clear hL)
  go_end0
  exact ⟨rfl, HL.out.from Hb1.out⟩
set_option maxHeartbeats 2000000 in
theorem play_8 (H : PlH w W0 B hb F s j nv rv g) (a b : Int) :
    Calls Tryz.prog 8 #[.pointer (some ⟨hb, 0, none⟩), opV 8 nv rv a b] w fun e w' => e = .returned (.tuple #[]) ∧ Lv w w' B hb 400 F 8 a s := by
  obtain ⟨hE, h, hB, hF, hs, hj, hW, hWB, hG, hS⟩ := H
  have hb0 := below_alloc w (.cells #[.int .i64 8, nv, rv, .int .i64 a, .int .i64 b] 32)
  have hB0 := Nat.le_trans hB hb0.size
  have hb1 := Below.next hb0 (below_alloc (w.alloc (.cells #[.int .i64 8, nv, rv, .int .i64 a, .int .i64 b] 32)) (.cells #[.int .i64 a] 3))
  have hri := ri_lit1 (heap_alloc_new (w.alloc (.cells #[.int .i64 8, nv, rv, .int .i64 a, .int .i64 b] 32)) (.cells #[.int .i64 a] 3))
  rw [World.size_alloc] at hri
  have hc := hid (reach_lv (h.below hb1) hs (by omega) 8 a hri (by simp))
  have Hb1 := hid hb1
  clear hri hb1
  have Hb0 := hid hb0
  have HH := hid h
  obtain ⟨na, nc, rfl, _⟩ := hG.1
  obtain ⟨ra, rc, rfl, _⟩ := hG.2
  clear hE h hB hF hs hj hW hWB hG hS hb0 hB0
  go_enter Tryz.func8, Tryz.ntmps8
  go_wp2_with (go_at_call 14; refine hc.out.mono ?_; rintro e w1 ⟨⟨ev, rfl⟩, hL⟩; have HL := hid hL; clear hL)
  go_end0
  exact ⟨rfl, HL.out.from Hb1.out⟩
set_option maxHeartbeats 2000000 in
theorem play_no (H : PlH w W0 B hb F s j nv rv g) (a b : Int) (kd : Int) (hk0 : kd ≠ 0) (hk1 : kd ≠ 1) (hk2 : kd ≠ 2) (hk3 : kd ≠ 3) (hk4 : kd ≠ 4) (hk5 : kd ≠ 5) (hk6 : kd ≠ 6) (hk7 : kd ≠ 7) (hk8 : kd ≠ 8) :
    Calls Tryz.prog 8 #[.pointer (some ⟨hb, 0, none⟩), opV kd nv rv a b] w fun e w' => e = .returned (.tuple #[]) ∧ Lv w w' B hb 400 F kd a s := by
  obtain ⟨hE, h, hB, hF, hs, hj, hW, hWB, hG, hS⟩ := H
  have hb0 := below_alloc w (.cells #[.int .i64 kd, nv, rv, .int .i64 a, .int .i64 b] 32)
  have hB0 := Nat.le_trans hB hb0.size
  have k0 : (kd == 0) = false := by simpa using hk0
  have k1 : (kd == 1) = false := by simpa using hk1
  have k2 : (kd == 2) = false := by simpa using hk2
  have k3 : (kd == 3) = false := by simpa using hk3
  have k4 : (kd == 4) = false := by simpa using hk4
  have k5 : (kd == 5) = false := by simpa using hk5
  have k6 : (kd == 6) = false := by simpa using hk6
  have k7 : (kd == 7) = false := by simpa using hk7
  have k8 : (kd == 8) = false := by simpa using hk8
  have Hb0 := hid hb0
  have HH := hid h
  obtain ⟨na, nc, rfl, _⟩ := hG.1
  obtain ⟨ra, rc, rfl, _⟩ := hG.2
  clear hE h hB hF hs hj hW hWB hG hS hb0 hB0
  go_enter Tryz.func8, Tryz.ntmps8
  go_wp2_with (fail)
  go_end0
  exact ⟨rfl, Lv.same HH.out Hb0.out⟩
theorem play_any (H : PlH w W0 B hb F s j nv rv g) (kd a b : Int) :
    Calls Tryz.prog 8 #[.pointer (some ⟨hb, 0, none⟩), opV kd nv rv a b] w fun e w' => e = .returned (.tuple #[]) ∧ Lv w w' B hb 400 F kd a s := by
  by_cases h0 : kd = 0
  · subst h0; exact play_0 H a b
  by_cases h1 : kd = 1
  · subst h1; exact play_1 H a b
  by_cases h2 : kd = 2
  · subst h2; exact play_2 H a b
  by_cases h3 : kd = 3
  · subst h3; exact play_3 H a b
  by_cases h4 : kd = 4
  · subst h4; exact play_4 H a b
  by_cases h5 : kd = 5
  · subst h5; exact play_5 H a b
  by_cases h6 : kd = 6
  · subst h6; exact play_6 H a b
  by_cases h7 : kd = 7
  · subst h7; exact play_7 H a b
  by_cases h8 : kd = 8
  · subst h8; exact play_8 H a b
  exact play_no H a b kd h0 h1 h2 h3 h4 h5 h6 h7 h8
end
end Go.Proofs.YtgmldkojldlekaaGreatDoor
