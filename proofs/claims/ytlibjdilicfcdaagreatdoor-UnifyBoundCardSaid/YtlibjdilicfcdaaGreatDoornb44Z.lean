/- The law's long: is a script too long to be asked? Its fresh: a heap of 400 words. -/
import Derived.Deep.LoopGhost
import Derived.Deep.RegionHeld3
import Derived.WalkKit
import Derived.RangeFuncBox
import Derived.RangeFuncNested
import Derived.RangeFuncCalls
import Derived.RangeFuncLeaves
import Derived.Shelf.Abstract
import Derived.OwnWalkIn
import Derived.TacticsInMore
import Derived.LoopNIn
import Derived.LoopIn
import Derived.Deep.DeepCutAuto
import Derived.Test.YtlibjdilicfcdaaGreatDoornb03Z
import Derived.Test.YtlibjdilicfcdaaGreatDoornb08Z
import Derived.Test.YtlibjdilicfcdaaGreatDoornb21Z
import Derived.Test.YtlibjdilicfcdaaGreatDoornb42Z
import Derived.Test.YtlibjdilicfcdaaGreatDoornb37Z
import Derived.Test.YtlibjdilicfcdaaGreatDoornb40Z
import Derived.Test.YtlibjdilicfcdaaGreatDoornb20Z
import Derived.Test.YtlibjdilicfcdaaGreatDoornb36Z
import Derived.Test.YtlibjdilicfcdaaGreatDoornb06Z
import Derived.Test.YtlibjdilicfcdaaGreatDoornb02Z
import Derived.Test.YtlibjdilicfcdaaGreatDoornb04Z
import Derived.Test.YtlibjdilicfcdaaGreatDoornb00Z
import Derived.Test.YtlibjdilicfcdaaGreatDoornb38Z
import Derived.Test.YtlibjdilicfcdaaGreatDoornb13Z
import Derived.Test.YtlibjdilicfcdaaGreatDoornb41Z
import Derived.Test.YtlibjdilicfcdaaGreatDoornb05Z
import Derived.Test.YtlibjdilicfcdaaGreatDoornb07Z
import Derived.Test.YtlibjdilicfcdaaGreatDoornb30Z
import Derived.Test.YtlibjdilicfcdaaGreatDoornb17Z
import Derived.Test.YtlibjdilicfcdaaGreatDoornb11Z
namespace Go.Proofs.YtlibjdilicfcdaaGreatDoor
set_option maxRecDepth 100000
open Go.RowKit
def hs0 : Hst := ⟨[], [], [], [], 0⟩
theorem sndN_nil (N : Nat) : SndN [] N := ⟨⟨fun _ => false, ⟨fun k hk => absurd hk (Nat.not_lt_zero _), fun x hx => (by cases hx), fun k hk => absurd hk (Nat.not_lt_zero _), fun k hk => absurd hk (Nat.not_lt_zero _), fun k hk => absurd hk (Nat.not_lt_zero _), fun k hk => absurd hk (Nat.not_lt_zero _), fun k hk => absurd hk (Nat.not_lt_zero _)⟩⟩, ⟨fun k hk => absurd hk (Nat.not_lt_zero _), fun k hk => absurd hk (Nat.not_lt_zero _)⟩⟩
theorem sj0 : Sj hs0 0 := ⟨⟨sndN_nil _, fun e he => (by cases he), fun p hp => (by cases hp), fun p hp => (by cases hp), fun p hp => (by cases hp), List.Pairwise.nil⟩, Int.le_refl _, Int.le_refl _, Nat.le_refl _, Nat.le_refl _⟩
end Go.Proofs.YtlibjdilicfcdaaGreatDoor

namespace Go.Proofs.YtlibjdilicfcdaaGreatDoor
set_option maxRecDepth 100000
open Go.RowKit
section
variable {w : World} {B hb : Nat} {m : Int} {F : Nat → Prop} {s : Hst} {j : Nat}
def PutC (s : Hst) (g : Gf) (m : Int) : Prop := one (chk g) = [] ∧ (nsP s.ns g).length ≤ 1024 ∧ (s.l.length + wantJ g (metF g) (metF g).length : Int) ≤ m
def putHs (s : Hst) (g : Gf) : Hst := ⟨wdP s.l s.ns g, nsP s.ns g, s.tr, s.pt, s.n⟩
theorem putc_yes (h : Hs w B hb m F s) (hB : B ≤ w.heap.size) (hs : Sj s j) {nv rv : Value} {g : Gf} {avs : Nat → Value} (hGk : ∀ w', Mo F w w' → Gra w' nv rv g avs) (hS : Sized g) (hc : PutC s g m) :
    Calls Tryz.prog 27 #[.pointer (some ⟨hb, 0, none⟩), .agg #[nv, rv]] w fun e w' => ∃ ao c, e = .returned (.tuple #[.slice ao g.roots.length c, .nilIface]) ∧ w'.ownsRow w.heap.size 3 1 (.slice ao g.roots.length c) g.roots.length ((csL s.l.length g.roots.length).map (Value.int .i64)) ∧ PmC (nsP s.ns g) g (metF g) s.l.length ∧ Sj (putHs s g) (j + 1) ∧ Hs w' B hb m (fun k => F k ∨ w.heap.size ≤ k) (putHs s g) ∧ Mo F w w' := by
  obtain ⟨ab, tb, av, tv, tq, trv, ptv, hq, hf⟩ := h
  obtain ⟨hck, hna, hro⟩ := hc
  have hg := chk_good hck
  have hm2 := hq.hp.ar.m2
  have hpm := pmc_ofG (ns := s.ns) (b := s.l.length) hg hna (by omega)
  have hfa : ∀ k ∈ hb :: a_foot ab av, F k := fun k hk => by
    rcases List.mem_cons.1 hk with rfl | hk
    · exact hf _ (mem_qfoot.2 (Or.inl rfl))
    · exact hf _ (mem_qfoot.2 (Or.inr (Or.inl hk)))
  obtain ⟨V, hV⟩ := hs.si.now.1
  refine (put_okG hq.hp hB (fun w' hm => hGk w' (mo_of hm hfa)) hS hck hro hna (fun c hc => hpm.may hc)).mono ?_
  rintro e w' ⟨ao, c, av', tb', tv', tq', rfl, ho, hp, hm, hx, ht⟩
  obtain ⟨r1, r2⟩ := hq.rows hm (fun k hk hx => by
    have := hq.apart hx
    rcases List.mem_cons.1 hk with rfl | hk
    · exact this.1 rfl
    · exact this.2.1 hk)
  refine ⟨ao, c, rfl, ho, hpm, ?_, ⟨ab, tb', av', tv', tq', trv, ptv, ⟨hp, r1, r2⟩, foot_new hf hx (a_Nx.refl _ _) (a_Nx.refl _ _)⟩, mo_of hm hfa⟩
  exact (Stp.put (kd := 0) (a := 0) (s := s) _ _ (wthJ_ge _ _ _ _) ⟨⟨_, put_snd hV hpm⟩, put_nsb hs.si.now.2 (wthJ_ge _ _ _ _) hpm⟩).sj hs
theorem csl_cell {l : List Int} {ns : List ByteArray} {g : Gf} (hpm : PmC (nsP ns g) g (metF g) l.length) : ∀ x ∈ csL l.length g.roots.length, cellB (wdP l ns g) x = true := fun x hx => by
  obtain ⟨i, hi, rfl⟩ := List.mem_map.1 hx
  have hi := List.mem_range.1 hi
  have hr := want_root (g := g) (met := metF g) (metF g).length
  have hpl := putW_len (ns := nsP ns g) (g := g) (met := metF g) (b := l.length)
  have e : (wdP l ns g).getD (l.length + i) 0 = cwX (nsP ns g) g (metF g) l.length (g.roots.getD i 0) := by
    have := wd_nw (l := l) (T := putW (nsP ns g) g (metF g) l.length) (k := l.length + i) (by omega)
    unfold wdN at this
    unfold wdP
    rw [this, show l.length + i - l.length = i by omega, putW_root hi]
  have ht := (hpm.cw (hpm.root _ (getD_mem hi))).tag
  have hwl : (wdP l ns g).length = l.length + wantJ g (metF g) (metF g).length := by unfold wdP; rw [List.length_append, putW_len]
  unfold cellB inB
  rw [Int.toNat_natCast, e]
  simp only [Bool.and_eq_true, decide_eq_true_eq]
  omega
end
end Go.Proofs.YtlibjdilicfcdaaGreatDoor

namespace Go.Proofs.YtlibjdilicfcdaaGreatDoor
set_option maxRecDepth 100000
open Go.RowKit
section
variable {w w' : World} {B hb : Nat} {m : Int} {F : Nat → Prop} {s : Hst}
theorem Hs.avoid (h : Hs w B hb m F s) {B0 n : Nat} {v : Value} {xs : List Value} (hr : w.ownsRow B0 3 1 v n xs) : Hs w B hb m (fun k => F k ∧ v.ownBlock ≠ some k) s := by
  obtain ⟨ab, tb, av, tv, tq, trv, ptv, hq, hf⟩ := h
  refine ⟨ab, tb, av, tv, tq, trv, ptv, hq, fun k hk => ⟨hf k hk, fun hv => ?_⟩⟩
  obtain ⟨cs, hp⟩ := row_obj hr hv
  rcases mem_qfoot.1 hk with rfl | hk | hk | hk
  · exact obj_ne hq.hp.blk hp (by decide) rfl
  · rcases a_mem_foot.1 hk with rfl | hk
    · exact obj_ne hq.hp.ar.blk hp (by decide) rfl
    · obtain ⟨cur, hc⟩ := row_obj hq.hp.ar.own hk
      exact obj_ne hc hp (by decide) rfl
  · obtain ⟨cur, hc⟩ := row_obj hq.tr hk
    exact obj_ne hc hp (by decide) rfl
  · obtain ⟨cur, hc⟩ := row_obj hq.pt hk
    exact obj_ne hc hp (by decide) rfl
end
end Go.Proofs.YtlibjdilicfcdaaGreatDoor
