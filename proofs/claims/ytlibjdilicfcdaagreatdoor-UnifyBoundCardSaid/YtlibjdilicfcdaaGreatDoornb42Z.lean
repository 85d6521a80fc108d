/- What the rows' condition on package-level variables gives package cells, and that the program's own start meets it. -/
import Derived.Test.YtlibjdilicfcdaaGreatDoorTie
import Derived.Test.YtlibjdilicfcdaaGreatDoorCards
import Derived.ProofKit
import Derived.LaidMore
import Derived.LaidHandle
import Derived.OpenShut
import Derived.Stop.Joined
import Derived.Stop.LaidErr
import Derived.Deep.RegionHeld3
import Derived.BigRegion
import Derived.Shelf.Abstract
import Derived.OwnWalkIn
import Derived.TacticsInMore
import Derived.LoopNIn
import Derived.LoopIn
import Derived.WalkKit
import Derived.RangeFuncBox
import Derived.RangeFuncNested
import Derived.RangeFuncCalls
import Derived.RangeFuncLeaves
import Derived.Sort.BigQuietIn
import Derived.Deep.DeepCutAuto
import Derived.Test.YtlibjdilicfcdaaGreatDoornb39Z
import Derived.Test.YtlibjdilicfcdaaGreatDoornb05Z
import Derived.Test.YtlibjdilicfcdaaGreatDoornb36Z
import Derived.Test.YtlibjdilicfcdaaGreatDoornb37Z
import Derived.Test.YtlibjdilicfcdaaGreatDoornb38Z
import Derived.Test.YtlibjdilicfcdaaGreatDoornb30Z
import Derived.Test.YtlibjdilicfcdaaGreatDoornb08Z
import Derived.Test.YtlibjdilicfcdaaGreatDoornb34Z
import Derived.Test.YtlibjdilicfcdaaGreatDoornb40Z
import Derived.Test.YtlibjdilicfcdaaGreatDoornb02Z
namespace Go.Proofs.YtlibjdilicfcdaaGreatDoor
set_option maxRecDepth 100000
open Go.ChangeShapes Go.WideShapes Go.ChangeAt Go.RowKit
theorem globEt : Tryz.prog.globalNamed "errors.errorType" = some 0 := by kernel_rfl
theorem rtEt : (Tryz.prog.cutTypes.find? (·.1 == "internal/reflectlite.rtype")).map (·.2) = some 214 := by kernel_rfl
theorem oneEt : ((List.range 280).filter fun t => Tryz.prog.rowNamed t [101, 114, 114, 111, 114]) = [29] := by kernel_rfl
theorem sizeEt : Tryz.prog.types.size = 280 := by kernel_rfl
theorem ready_of_laid {W : World} (h : laidMetH Tryz.prog Rows.unifyBoundRow.laid W) : ErrC W := by
  have h' : laidMet Tryz.prog [] W ∧ handlesMet Tryz.prog [("errors.errorType", Rows.laid_errors_errorType)] W := h
  obtain ⟨name, u, ty, e1, e2, e3, e4, e5⟩ := h'.2 _ (List.mem_singleton.2 rfl)
  have en : name = [101, 114, 114, 111, 114] := (Option.some.inj e1).symm
  subst en
  obtain rfl := Option.some.inj (rtEt.symm.trans e2)
  have hm : ty ∈ (List.range 280).filter fun t => Tryz.prog.rowNamed t [101, 114, 114, 111, 114] := List.mem_filter.2 ⟨List.mem_range.2 (by rw [← sizeEt]; exact e3), e4⟩
  rw [oneEt] at hm
  obtain rfl := List.mem_singleton.1 hm
  have hh : typeHandle Tryz.prog 29 = .pointer (some ⟨1, 29, none⟩) := by kernel_rfl
  rw [hh] at e5
  have := World.var?_cell globEt e5 0
  show W.cell? _ = _
  simpa using this
theorem door_met (os : Os) (args : Array Value) : laidMetH Tryz.prog Rows.unifyBoundRow.laid ((World.doorLaid Tryz.prog 16 os).forCall (fun _ _ => 0) ⟨#[], args, []⟩).memory :=
  laidMetH_of_parts3 (fuel := 8) (laidMet_of_run' 8 (by kernel_rfl) (by kernel_rfl)) (by kernel_rfl) (by kernel_rfl)
end Go.Proofs.YtlibjdilicfcdaaGreatDoor

namespace Go.Proofs.YtlibjdilicfcdaaGreatDoor
set_option maxRecDepth 100000
open Go.RowKit
def csL (b n : Nat) : List Int := (List.range n).map (fun i => ((b + i : Nat) : Int))
def nsP (ns : List ByteArray) (g : Gf) : List ByteArray := wthJ ns g (metF g) (metF g).length
def wdP (l : List Int) (ns : List ByteArray) (g : Gf) : List Int := l ++ putW (nsP ns g) g (metF g) l.length
theorem wthJ_ge (ns : List ByteArray) (g : Gf) (met : List Int) : ∀ j, ns.length ≤ (wthJ ns g met j).length
  | 0 => Nat.le_refl _
  | j + 1 => by
    have h1 := wthJ_ge ns g met j
    show _ ≤ (wth1 _ _).length
    unfold wth1
    split
    · exact h1
    · simp
      omega
end Go.Proofs.YtlibjdilicfcdaaGreatDoor

namespace Go.Proofs.YtlibjdilicfcdaaGreatDoor
set_option maxRecDepth 100000
open Go.RowKit
structure Hst where
  l : List Int
  ns : List ByteArray
  tr : List Te
  pt : List Pe
  n : Int
def Hs (w : World) (B hb : Nat) (m : Int) (F : Nat → Prop) (s : Hst) : Prop :=
  ∃ ab tb av tv tq trv ptv, Hq w B hb ab tb m av s.l tv tq s.ns trv s.tr ptv s.pt s.n ∧ ∀ k, k ∈ qfoot hb ab av trv ptv → F k
theorem Hs.below {w w' : World} {B hb : Nat} {m : Int} {F : Nat → Prop} {s : Hst} (h : Hs w B hb m F s) (hb' : Below w.heap.size w w') : Hs w' B hb m F s := by
  obtain ⟨ab, tb, av, tv, tq, trv, ptv, h, hf⟩ := h
  exact ⟨ab, tb, av, tv, tq, trv, ptv, h.below hb', hf⟩
theorem Hs.weak {w : World} {B hb : Nat} {m : Int} {F F' : Nat → Prop} {s : Hst} (h : Hs w B hb m F s) (hF : ∀ k, F k → F' k) : Hs w B hb m F' s := by
  obtain ⟨ab, tb, av, tv, tq, trv, ptv, h, hf⟩ := h
  exact ⟨ab, tb, av, tv, tq, trv, ptv, h, fun k hk => hF k (hf k hk)⟩
structure Sj (s : Hst) (j : Nat) : Prop where
  si : SI s.l s.ns.length s.tr s.pt
  n0 : 0 ≤ s.n
  n1 : s.n ≤ j
  t1 : s.tr.length ≤ j
  p1 : s.pt.length ≤ j
theorem Sj.more {s : Hst} {j k : Nat} (h : Sj s j) (hk : j ≤ k) : Sj s k := ⟨h.si, h.n0, Int.le_trans h.n1 (by omega), Nat.le_trans h.t1 hk, Nat.le_trans h.p1 hk⟩
inductive Stp (kd a : Int) (s : Hst) : Hst → Prop
  | same : Stp kd a s s
  | write (k : Nat) (x : Int) (hk : k < s.l.length) (h : SndN (s.l.set k x) s.ns.length) : Stp kd a s ⟨s.l.set k x, s.ns, trW s.l s.tr s.pt k, s.pt, s.n + 1⟩
  | put (m : List Int) (ns' : List ByteArray) (h1 : s.ns.length ≤ ns'.length) (h : SndN (s.l ++ m) ns'.length) : Stp kd a s ⟨s.l ++ m, ns', s.tr, s.pt, s.n⟩
  | point : Stp kd a s ⟨s.l, s.ns, s.tr, s.pt ++ [(s.tr.length, s.l.length)], s.n⟩
  | release (j : Nat) (hj : j < s.pt.length) (hk : kd = 7) (ha : a = (j : Int)) : Stp kd a s ⟨s.l, s.ns, s.tr, s.pt.take j, s.n⟩
  | undo (j : Nat) (hj : j < s.pt.length) (hk : kd = 6) (ha : a = (j : Int)) : Stp kd a s ⟨atP s.l s.tr s.pt[j], s.ns, s.tr.take s.pt[j].1, s.pt.take (j + 1), s.n⟩
theorem trW_len (l : List Int) (tr : List Te) (pt : List Pe) (k : Nat) : (trW l tr pt k).length ≤ tr.length + 1 := by
  unfold trW
  split <;> simp
theorem Stp.sj {kd a : Int} {s s' : Hst} {j : Nat} (h : Stp kd a s s') (hs : Sj s j) : Sj s' (j + 1) := by
  have hn := hs.n1
  have h0 := hs.n0
  have ht := hs.t1
  have hp := hs.p1
  cases h with
  | same => exact hs.more (by omega)
  | write k x hk h =>
    have := trW_len s.l s.tr s.pt k
    exact ⟨hs.si.write hk h, by show 0 ≤ s.n + 1; omega, by show s.n + 1 ≤ _; omega, by show (trW s.l s.tr s.pt k).length ≤ _; omega, by show s.pt.length ≤ _; omega⟩
  | put m ns' h1 h => exact ⟨hs.si.put h1 h, h0, by show s.n ≤ _; omega, by show s.tr.length ≤ _; omega, by show s.pt.length ≤ _; omega⟩
  | point => exact ⟨hs.si.point, h0, by show s.n ≤ _; omega, by show s.tr.length ≤ _; omega, by show (s.pt ++ [_]).length ≤ _; simp; omega⟩
  | release i hj hk ha => exact ⟨hs.si.release i, h0, by show s.n ≤ _; omega, by show s.tr.length ≤ _; omega, by show (s.pt.take i).length ≤ _; simp; omega⟩
  | undo i hj hk ha => exact ⟨hs.si.undo i hj, h0, by show s.n ≤ _; omega, by show (s.tr.take _).length ≤ _; simp; omega, by show (s.pt.take _).length ≤ _; simp; omega⟩
section
variable {w w' : World} {B hb ab tb : Nat} {m : Int} {av : Value} {l : List Int} {tv : Value} {tq : Nat} {ns : List ByteArray} {trv : Value} {tr : List Te} {ptv : Value} {pt : List Pe} {n : Int} {F : Nat → Prop}
theorem mo_of {ks : List Nat} (h : a_Mod ks w w') (hk : ∀ k ∈ ks, F k) : Mo F w w' := ⟨h.os, h.tape, h.output, h.size, fun k hk' hn => h.block k hk' (fun hx => hn (hk k hx))⟩
theorem foot_new {av' trv' ptv' : Value} (hf : ∀ k, k ∈ qfoot hb ab av trv ptv → F k) (h1 : a_Nx w av av') (h2 : a_Nx w trv trv') (h3 : a_Nx w ptv ptv') : ∀ k, k ∈ qfoot hb ab av' trv' ptv' → F k ∨ w.heap.size ≤ k := fun k hk => by
  rcases mem_qfoot.1 hk with rfl | hk | hk | hk
  · exact Or.inl (hf _ (mem_qfoot.2 (Or.inl rfl)))
  · rcases a_mem_foot.1 hk with rfl | hk
    · exact Or.inl (hf _ (mem_qfoot.2 (Or.inr (Or.inl (a_mem_foot.2 (Or.inl rfl))))))
    · rcases h1 k hk with h | h
      · exact Or.inl (hf _ (mem_qfoot.2 (Or.inr (Or.inl (a_mem_foot.2 (Or.inr h))))))
      · exact Or.inr h
  · rcases h2 k hk with h | h
    · exact Or.inl (hf _ (mem_qfoot.2 (Or.inr (Or.inr (Or.inl h)))))
    · exact Or.inr h
  · rcases h3 k hk with h | h
    · exact Or.inl (hf _ (mem_qfoot.2 (Or.inr (Or.inr (Or.inr h)))))
    · exact Or.inr h
end
end Go.Proofs.YtlibjdilicfcdaaGreatDoor
