/- Package cells: Bind at any two numbers, as a step of the heap's words, trail and points. -/
import Derived.Deep.RegionHeld3
import Derived.BigRegion
import Derived.Shelf.Abstract
import Derived.OwnWalkIn
import Derived.TacticsInMore
import Derived.LoopNIn
import Derived.LoopIn
import Derived.WalkKit
import Derived.RangeFuncBox
import Derived.RangeFuncNested
import Derived.RangeFuncCalls
import Derived.RangeFuncLeaves
import Derived.Sort.BigQuietIn
import Derived.Deep.DeepCutAuto
import Derived.Test.YtlibjdilicfcdaaGreatDoornu40Z
import Derived.Test.YtlibjdilicfcdaaGreatDoornu36Z
import Derived.Test.YtlibjdilicfcdaaGreatDoornu35Z
import Derived.Test.YtlibjdilicfcdaaGreatDoornu37Z
import Derived.Test.YtlibjdilicfcdaaGreatDoornu24Z
import Derived.Test.YtlibjdilicfcdaaGreatDoornu30Z
import Derived.Test.YtlibjdilicfcdaaGreatDoornu26Z
import Derived.Test.YtlibjdilicfcdaaGreatDoornu03Z
import Derived.Test.YtlibjdilicfcdaaGreatDoornu28Z
import Derived.Test.YtlibjdilicfcdaaGreatDoornu31Z
import Derived.Test.YtlibjdilicfcdaaGreatDoornu38Z
import Derived.Test.YtlibjdilicfcdaaGreatDoornu08Z
import Derived.Test.YtlibjdilicfcdaaGreatDoornu34Z
import Derived.Test.YtlibjdilicfcdaaGreatDoornu33Z
import Derived.Test.YtlibjdilicfcdaaGreatDoornu05Z
namespace Go.Proofs.YtlibjdilicfcdaaGreatDoor
set_option maxRecDepth 100000
open Go.RowKit
theorem may_fwdQ {i n : Nat} (h : i < n) (h6 : i < 65536) : mayB (wordOf 5 (i : Int)) (n : Int) = true := by
  have hf : fitsB 5 (i : Int) = true := by
    simp [fitsB]
    omega
  unfold mayB
  rw [Bool.and_eq_true]
  refine ⟨?_, ?_⟩
  · unfold goodB
    rw [wordOf_tag 5 (i : Int) (by omega) (by omega), wordOf_val 5 (i : Int) hf]
    exact hf
  · rw [wordOf_val 5 (i : Int) hf, Bool.or_eq_true]
    exact Or.inr (decide_eq_true (by omega))
section
variable {w w1 w' : World} {B hb ab tb : Nat} {m : Int} {av : Value} {l : List Int} {tv : Value} {tq : Nat} {ns : List ByteArray} {trv : Value} {tr : List Te} {ptv : Value} {pt : List Pe} {n : Int}
theorem write_any (h : Hq w B hb ab tb m av l tv tq ns trv tr ptv pt n) (hB : B ≤ w.heap.size) (k : Nat) (x : Int) (hk : k < l.length) (x0 : 0 ≤ x) (x1 : x ≤ 18446744073709551615) (hm : mayB x l.length = true) (n0 : 0 ≤ n) (n1 : n ≤ 4611686018427387904) (hp : pt.length ≤ 1000000) (htl : tr.length ≤ 1000000) :
    Calls Tryz.prog 140 #[.pointer (some ⟨hb, 0, none⟩), .int .i64 (k : Int), .int .u64 x] w fun e w' => e = .returned (.tuple #[]) ∧ Wrq w w' B hb ab tb m av (l.set k x) tv tq ns trv (trW l tr pt k) ptv pt (n + 1) := by
  unfold trW
  cases hs : seesB pt k with
  | false =>
    rw [if_neg (by simp)]
    exact write_not h k x hk x0 x1 hm n0 n1 hs hp
  | true =>
    rw [if_pos rfl]
    exact write_seen h hB k x hk x0 x1 hm n0 n1 hs hp htl
theorem cell_nat {l : List Int} {x : Int} (h : cellB l x = true) : ∃ k : Nat, x = (k : Int) ∧ k < l.length := by
  unfold cellB at h
  simp only [Bool.and_eq_true] at h
  have h1 : 0 ≤ x ∧ x < (l.length : Int) := by simpa [inB] using h.1.1
  exact ⟨x.toNat, by omega, by omega⟩
end
end Go.Proofs.YtlibjdilicfcdaaGreatDoor

namespace Go.Proofs.YtlibjdilicfcdaaGreatDoor
set_option maxRecDepth 100000
open Go.RowKit
structure Hst where
  l : List Int
  ns : List ByteArray
  tr : List Te
  pt : List Pe
  n : Int
def Hs (w : World) (B hb : Nat) (m : Int) (F : Nat → Prop) (s : Hst) : Prop :=
  ∃ ab tb av tv tq trv ptv, Hq w B hb ab tb m av s.l tv tq s.ns trv s.tr ptv s.pt s.n ∧ ∀ k, k ∈ qfoot hb ab av trv ptv → F k
theorem Hs.below {w w' : World} {B hb : Nat} {m : Int} {F : Nat → Prop} {s : Hst} (h : Hs w B hb m F s) (hb' : Below w.heap.size w w') : Hs w' B hb m F s := by
  obtain ⟨ab, tb, av, tv, tq, trv, ptv, h, hf⟩ := h
  exact ⟨ab, tb, av, tv, tq, trv, ptv, h.below hb', hf⟩
theorem Hs.weak {w : World} {B hb : Nat} {m : Int} {F F' : Nat → Prop} {s : Hst} (h : Hs w B hb m F s) (hF : ∀ k, F k → F' k) : Hs w B hb m F' s := by
  obtain ⟨ab, tb, av, tv, tq, trv, ptv, h, hf⟩ := h
  exact ⟨ab, tb, av, tv, tq, trv, ptv, h, fun k hk => hF k (hf k hk)⟩
structure Sj (s : Hst) (j : Nat) : Prop where
  si : SI s.l s.ns.length s.tr s.pt
  n0 : 0 ≤ s.n
  n1 : s.n ≤ j
  t1 : s.tr.length ≤ j
  p1 : s.pt.length ≤ j
theorem Sj.more {s : Hst} {j k : Nat} (h : Sj s j) (hk : j ≤ k) : Sj s k := ⟨h.si, h.n0, Int.le_trans h.n1 (by omega), Nat.le_trans h.t1 hk, Nat.le_trans h.p1 hk⟩
inductive Stp (kd a : Int) (s : Hst) : Hst → Prop
  | same : Stp kd a s s
  | write (k : Nat) (x : Int) (hk : k < s.l.length) (h : SndN (s.l.set k x) s.ns.length) : Stp kd a s ⟨s.l.set k x, s.ns, trW s.l s.tr s.pt k, s.pt, s.n + 1⟩
  | put (m : List Int) (ns' : List ByteArray) (h1 : s.ns.length ≤ ns'.length) (h : SndN (s.l ++ m) ns'.length) : Stp kd a s ⟨s.l ++ m, ns', s.tr, s.pt, s.n⟩
  | point : Stp kd a s ⟨s.l, s.ns, s.tr, s.pt ++ [(s.tr.length, s.l.length)], s.n⟩
  | release (j : Nat) (hj : j < s.pt.length) (hk : kd = 7) (ha : a = (j : Int)) : Stp kd a s ⟨s.l, s.ns, s.tr, s.pt.take j, s.n⟩
  | undo (j : Nat) (hj : j < s.pt.length) (hk : kd = 6) (ha : a = (j : Int)) : Stp kd a s ⟨atP s.l s.tr s.pt[j], s.ns, s.tr.take s.pt[j].1, s.pt.take (j + 1), s.n⟩
theorem trW_len (l : List Int) (tr : List Te) (pt : List Pe) (k : Nat) : (trW l tr pt k).length ≤ tr.length + 1 := by
  unfold trW
  split <;> simp
theorem Stp.sj {kd a : Int} {s s' : Hst} {j : Nat} (h : Stp kd a s s') (hs : Sj s j) : Sj s' (j + 1) := by
  have hn := hs.n1
  have h0 := hs.n0
  have ht := hs.t1
  have hp := hs.p1
  cases h with
  | same => exact hs.more (by omega)
  | write k x hk h =>
    have := trW_len s.l s.tr s.pt k
    exact ⟨hs.si.write hk h, by show 0 ≤ s.n + 1; omega, by show s.n + 1 ≤ _; omega, by show (trW s.l s.tr s.pt k).length ≤ _; omega, by show s.pt.length ≤ _; omega⟩
  | put m ns' h1 h => exact ⟨hs.si.put h1 h, h0, by show s.n ≤ _; omega, by show s.tr.length ≤ _; omega, by show s.pt.length ≤ _; omega⟩
  | point => exact ⟨hs.si.point, h0, by show s.n ≤ _; omega, by show s.tr.length ≤ _; omega, by show (s.pt ++ [_]).length ≤ _; simp; omega⟩
  | release i hj hk ha => exact ⟨hs.si.release i, h0, by show s.n ≤ _; omega, by show s.tr.length ≤ _; omega, by show (s.pt.take i).length ≤ _; simp; omega⟩
  | undo i hj hk ha => exact ⟨hs.si.undo i hj, h0, by show s.n ≤ _; omega, by show (s.tr.take _).length ≤ _; simp; omega, by show (s.pt.take _).length ≤ _; simp; omega⟩
section
variable {w w' : World} {B hb ab tb : Nat} {m : Int} {av : Value} {l : List Int} {tv : Value} {tq : Nat} {ns : List ByteArray} {trv : Value} {tr : List Te} {ptv : Value} {pt : List Pe} {n : Int} {F : Nat → Prop}
theorem mo_of {ks : List Nat} (h : a_Mod ks w w') (hk : ∀ k ∈ ks, F k) : Mo F w w' := ⟨h.os, h.tape, h.output, h.size, fun k hk' hn => h.block k hk' (fun hx => hn (hk k hx))⟩
theorem foot_new {av' trv' ptv' : Value} (hf : ∀ k, k ∈ qfoot hb ab av trv ptv → F k) (h1 : a_Nx w av av') (h2 : a_Nx w trv trv') (h3 : a_Nx w ptv ptv') : ∀ k, k ∈ qfoot hb ab av' trv' ptv' → F k ∨ w.heap.size ≤ k := fun k hk => by
  rcases mem_qfoot.1 hk with rfl | hk | hk | hk
  · exact Or.inl (hf _ (mem_qfoot.2 (Or.inl rfl)))
  · rcases a_mem_foot.1 hk with rfl | hk
    · exact Or.inl (hf _ (mem_qfoot.2 (Or.inr (Or.inl (a_mem_foot.2 (Or.inl rfl))))))
    · rcases h1 k hk with h | h
      · exact Or.inl (hf _ (mem_qfoot.2 (Or.inr (Or.inl (a_mem_foot.2 (Or.inr h))))))
      · exact Or.inr h
  · rcases h2 k hk with h | h
    · exact Or.inl (hf _ (mem_qfoot.2 (Or.inr (Or.inr (Or.inl h)))))
    · exact Or.inr h
  · rcases h3 k hk with h | h
    · exact Or.inl (hf _ (mem_qfoot.2 (Or.inr (Or.inr (Or.inr h)))))
    · exact Or.inr h
end
end Go.Proofs.YtlibjdilicfcdaaGreatDoor
