/- CellsUndo: what lies in memory between its calls. -/
import Derived.Deep.LoopGhost
import Derived.Test.YtlibjdilicfcdaaGreatDoorns40Z
import Derived.Test.YtlibjdilicfcdaaGreatDoorns17Z
import Derived.Test.YtlibjdilicfcdaaGreatDoorns07Z
import Derived.Test.YtlibjdilicfcdaaGreatDoorns11Z
import Derived.Test.YtlibjdilicfcdaaGreatDoorns04Z
import Derived.Test.YtlibjdilicfcdaaGreatDoorns14Z
import Derived.Test.YtlibjdilicfcdaaGreatDoorns09Z
import Derived.Test.YtlibjdilicfcdaaGreatDoorns28Z
import Derived.Test.YtlibjdilicfcdaaGreatDoorns25Z
import Derived.Test.YtlibjdilicfcdaaGreatDoorns36Z
import Derived.Test.YtlibjdilicfcdaaGreatDoorns03Z
import Derived.Test.YtlibjdilicfcdaaGreatDoorns41Z
import Derived.Test.YtlibjdilicfcdaaGreatDoorns35Z
import Derived.Test.YtlibjdilicfcdaaGreatDoorns30Z
import Derived.Test.YtlibjdilicfcdaaGreatDoorns27Z
import Derived.Test.YtlibjdilicfcdaaGreatDoorns31Z
import Derived.Test.YtlibjdilicfcdaaGreatDoorns39Z
import Derived.Test.YtlibjdilicfcdaaGreatDoorns16Z
namespace Go.Proofs.YtlibjdilicfcdaaGreatDoor
set_option maxRecDepth 100000
open Go.RowKit
set_option maxHeartbeats 800000 in
theorem hpoints_any {w : World} {B hb : Nat} {m : Int} {F : Nat → Prop} {s : Hst} (h : Hs w B hb m F s) :
    Calls Tryz.prog 41 #[.pointer (some ⟨hb, 0, none⟩)] w fun e w' => e = .returned (.int .i64 (s.pt.length : Int)) ∧ w' = w := by
  obtain ⟨ab, tb, av, tv, tq, trv, ptv, hq, hf⟩ := h
  obtain ⟨⟨c0, c1, c2, c3, c4⟩, c5⟩ := hq.hp.cells
  obtain ⟨po, pc, rfl, _⟩ := own_slq hq.pt
  clear hq hf
  go_enter Tryz.func41, Tryz.ntmps41
  go_wp2_with (go_at_call 28; refine (self_some _ _).mono ?_; rintro e w2 ⟨rfl, hw⟩; replace hw := hw.symm; subst hw)
  go_ret
  exact ⟨rfl, rfl⟩
end Go.Proofs.YtlibjdilicfcdaaGreatDoor

namespace Go.Proofs.YtlibjdilicfcdaaGreatDoor
set_option maxRecDepth 100000
open Go.RowKit
section
variable {w : World} {B hb : Nat} {m : Int} {F : Nat → Prop} {s : Hst} {j : Nat}
def PutC (s : Hst) (g : Gf) (m : Int) : Prop := one (chk g) = [] ∧ (nsP s.ns g).length ≤ 1024 ∧ (s.l.length + wantJ g (metF g) (metF g).length : Int) ≤ m
def putHs (s : Hst) (g : Gf) : Hst := ⟨wdP s.l s.ns g, nsP s.ns g, s.tr, s.pt, s.n⟩
theorem putc_yes (h : Hs w B hb m F s) (hB : B ≤ w.heap.size) (hs : Sj s j) {nv rv : Value} {g : Gf} {avs : Nat → Value} (hGk : ∀ w', Mo F w w' → Gra w' nv rv g avs) (hS : Sized g) (hc : PutC s g m) :
    Calls Tryz.prog 27 #[.pointer (some ⟨hb, 0, none⟩), .agg #[nv, rv]] w fun e w' => ∃ ao c, e = .returned (.tuple #[.slice ao g.roots.length c, .nilIface]) ∧ w'.ownsRow w.heap.size 3 1 (.slice ao g.roots.length c) g.roots.length ((csL s.l.length g.roots.length).map (Value.int .i64)) ∧ PmC (nsP s.ns g) g (metF g) s.l.length ∧ Sj (putHs s g) (j + 1) ∧ Hs w' B hb m (fun k => F k ∨ w.heap.size ≤ k) (putHs s g) ∧ Mo F w w' := by
  obtain ⟨ab, tb, av, tv, tq, trv, ptv, hq, hf⟩ := h
  obtain ⟨hck, hna, hro⟩ := hc
  have hg := chk_good hck
  have hm2 := hq.hp.ar.m2
  have hpm := pmc_ofG (ns := s.ns) (b := s.l.length) hg hna (by omega)
  have hfa : ∀ k ∈ hb :: a_foot ab av, F k := fun k hk => by
    rcases List.mem_cons.1 hk with rfl | hk
    · exact hf _ (mem_qfoot.2 (Or.inl rfl))
    · exact hf _ (mem_qfoot.2 (Or.inr (Or.inl hk)))
  obtain ⟨V, hV⟩ := hs.si.now.1
  refine (put_okG hq.hp hB (fun w' hm => hGk w' (mo_of hm hfa)) hS hck hro hna (fun c hc => hpm.may hc)).mono ?_
  rintro e w' ⟨ao, c, av', tb', tv', tq', rfl, ho, hp, hm, hx, ht⟩
  obtain ⟨r1, r2⟩ := hq.rows hm (fun k hk hx => by
    have := hq.apart hx
    rcases List.mem_cons.1 hk with rfl | hk
    · exact this.1 rfl
    · exact this.2.1 hk)
  refine ⟨ao, c, rfl, ho, hpm, ?_, ⟨ab, tb', av', tv', tq', trv, ptv, ⟨hp, r1, r2⟩, foot_new hf hx (a_Nx.refl _ _) (a_Nx.refl _ _)⟩, mo_of hm hfa⟩
  exact (Stp.put (kd := 0) (a := 0) (s := s) _ _ (wthJ_ge _ _ _ _) ⟨⟨_, put_snd hV hpm⟩, put_nsb hs.si.now.2 (wthJ_ge _ _ _ _) hpm⟩).sj hs
end
end Go.Proofs.YtlibjdilicfcdaaGreatDoor
