/- Written terms with equations as plain data: the first fault, names and parts. -/
import Derived.Maps.OwnSet
import Derived.Test.Ytncileojdighnaaow28Z
import Derived.Test.Ytncileojdighnaaow03Z
namespace Go.Proofs.Ytncileojdighnaa
set_option maxRecDepth 100000
open Go.RowKit
def isU (s : ByteArray) : Bool := decide (s.toList = [95])
def inN (l : List ByteArray) (s : ByteArray) : Bool := l.any (fun x => decide (x = s))
theorem inN_iff {l : List ByteArray} {s : ByteArray} : inN l s = true ↔ s ∈ l := by simp [inN]
theorem inN_snoc (l : List ByteArray) (s x : ByteArray) : inN (l ++ [s]) x = (inN l x || decide (s = x)) := by simp [inN]
def ixN : List ByteArray → ByteArray → Nat
  | [], _ => 0
  | x :: r, s => if x = s then 0 else ixN r s + 1
theorem ixN_new : ∀ {l : List ByteArray} {s : ByteArray}, inN l s = false → ixN (l ++ [s]) s = l.length
  | [], s, _ => by simp [ixN]
  | x :: r, s, h => by
    simp only [inN, List.any_cons, Bool.or_eq_false_iff, decide_eq_false_iff_not] at h
    simp only [List.cons_append, ixN, if_neg h.1, List.length_cons]
    rw [ixN_new (l := r) (s := s) h.2]
theorem ixN_old : ∀ {l : List ByteArray} {s x : ByteArray}, inN l x = true → ixN (l ++ [s]) x = ixN l x
  | [], s, x, h => by simp [inN] at h
  | y :: r, s, x, h => by
    by_cases e : y = x
    · simp [ixN, e]
    · simp only [inN, List.any_cons, e, decide_false, Bool.false_or] at h
      simp only [List.cons_append, ixN, if_neg e]
      rw [ixN_old (l := r) (s := s) (x := x) h]
theorem ixN_lt : ∀ {l : List ByteArray} {s : ByteArray}, inN l s = true → ixN l s < l.length
  | [], s, h => by simp [inN] at h
  | y :: r, s, h => by
    by_cases e : y = s
    · simp [ixN, e]
    · simp only [inN, List.any_cons, e, decide_false, Bool.false_or] at h
      have := ixN_lt (l := r) (s := s) h
      simp only [ixN, if_neg e, List.length_cons]
      omega
theorem ixN_at : ∀ {l : List ByteArray} {s : ByteArray}, inN l s = true → l.getD (ixN l s) ⟨#[]⟩ = s
  | [], s, h => by simp [inN] at h
  | y :: r, s, h => by
    by_cases e : y = s
    · simp [ixN, e]
    · simp only [inN, List.any_cons, e, decide_false, Bool.false_or] at h
      have := ixN_at (l := r) (s := s) h
      simp only [ixN, if_neg e]
      simpa using this
theorem skey_ne {s s' : ByteArray} (h : s' ≠ s) : Lit.string s'.data.toList ≠ Lit.string s.data.toList := fun e => h (by
  have e' : s'.data.toList = s.data.toList := by injection e
  exact ByteArray.ext (Array.toList_inj.1 e'))
theorem skey_is (s : ByteArray) : WideAt.IsKeyLit (.string s.data.toList) := trivial
def chkQ (n : Nat) : List ByteArray → List (ByteArray × Ex) → Nat → Int × Int × ByteArray
  | _, [], _ => (0, 0, ⟨#[]⟩)
  | ahead, q :: r, i =>
    if isW q.1 4 = false ∨ isU q.1 = true then (83, i, q.1)
    else if inN ahead q.1 = true then (84, i, q.1)
    else if goodX 0 q.2 = false then (81, n + i, ⟨#[]⟩)
    else chkQ n (ahead ++ [q.1]) r (i + 1)
def chkT (xs : List Ex) (qs : List (ByteArray × Ex)) : Int × Int × ByteArray :=
  if 4096 < xs.length then (80, xs.length, ⟨#[]⟩)
  else if 4096 < qs.length then (82, qs.length, ⟨#[]⟩)
  else if 0 ≤ ixOf (fun x => !goodX 0 x) xs then (81, ixOf (fun x => !goodX 0 x) xs, ⟨#[]⟩)
  else chkQ xs.length [] qs 0
def nmX : Ex → Bool
  | .mk k n _ _ => decide (k = 1) && !isU n
def putS (l : List ByteArray) (s : ByteArray) : List ByteArray := if inN l s = true then l else l ++ [s]
mutual
def namX : List ByteArray → Ex → List ByteArray
  | l, .mk k n _ xs => namXs (if (decide (k = 1) && !isU n) = true then putS l n else l) xs
def namXs : List ByteArray → List Ex → List ByteArray
  | l, [] => l
  | l, x :: r => namXs (namX l x) r
end
mutual
def othX : Ex → Nat
  | .mk k n _ xs => (if (decide (k = 1) && !isU n) = true then 0 else 1) + othXs xs
def othXs : List Ex → Nat
  | [] => 0
  | x :: r => othX x + othXs r
end
def namQ : List ByteArray → List (ByteArray × Ex) → List ByteArray
  | l, [] => l
  | l, q :: r => namQ (namX (putS l q.1) q.2) r
def othQ : List (ByteArray × Ex) → Nat
  | [] => 0
  | q :: r => othX q.2 + othQ r
def namA (xs : List Ex) (qs : List (ByteArray × Ex)) : List ByteArray := namQ (namXs [] xs) qs
def othA (xs : List Ex) (qs : List (ByteArray × Ex)) : Nat := othXs xs + othQ qs
abbrev varN : Nd := ⟨1, ⟨#[]⟩, 0, []⟩
def setA (st : List Nd) (n : Nat) (al : List Int) : List Nd := st.set n { (st.getD n nd0) with args := al }
mutual
def layX (ns : List ByteArray) : List Nd → Ex → Nat × List Nd
  | st, .mk k n m xs =>
    if (decide (k = 1) && !isU n) = true then (ixN ns n, st)
    else if k = 1 then (st.length, st ++ [varN])
    else (st.length, setA (layXs ns (st ++ [⟨k, n, m, []⟩]) xs).2 st.length (layXs ns (st ++ [⟨k, n, m, []⟩]) xs).1)
def layXs (ns : List ByteArray) : List Nd → List Ex → List Int × List Nd
  | st, [] => ([], st)
  | st, x :: r => (((layX ns st x).1 : Int) :: (layXs ns (layX ns st x).2 r).1, (layXs ns (layX ns st x).2 r).2)
end
def layQ (ns : List ByteArray) : List Nd → List (ByteArray × Ex) → List (Nat × Nat) × List Nd
  | st, [] => ([], st)
  | st, q :: r => ((ixN ns q.1, (layX ns st q.2).1) :: (layQ ns (layX ns st q.2).2 r).1, (layQ ns (layX ns st q.2).2 r).2)
end Go.Proofs.Ytncileojdighnaa

namespace Go.Proofs.Ytncileojdighnaa
set_option maxRecDepth 100000
open Go.RowKit Go.Maps
def Eo (w : World) (e : Value) (r : Int × Int × ByteArray) : Prop := (r.1 = 0 ∧ e = .nilIface) ∨ (r.1 ≠ 0 ∧ Ef w e r.1 r.2.1 r.2.2)
def Sm (D : DataW Unit) (l : List ByteArray) : Prop := ∀ s : ByteArray, Maps.has D (.string s.data.toList) = inN l s
theorem Sm.nil : Sm (.map []) [] := fun s => by simp [Maps.has, inN]
theorem Sm.put {D : DataW Unit} {l : List ByteArray} (h : Sm D l) (hD : Maps.IsMap D) (s : ByteArray) (d : DataW Unit) : Sm (D.put (.string s.data.toList) d) (l ++ [s]) := fun x => by
  rw [inN_snoc]
  by_cases e : x = s
  · subst e
    rw [Maps.has_put_same hD (skey_is x)]
    simp
  · rw [Maps.has_put_other (skey_ne e), h x, decide_eq_false (fun h : s = x => e h.symm), Bool.or_false]
def ahdQ (qs : List (ByteArray × Ex)) (i : Nat) : List ByteArray := (qs.take i).map (·.1)
theorem ahdQ_succ {qs : List (ByteArray × Ex)} {i : Nat} (h : i < qs.length) : ahdQ qs (i + 1) = ahdQ qs i ++ [(qs.getD i q0).1] := by
  unfold ahdQ
  rw [List.take_add_one, List.map_append]
  simp [h]
theorem dropQ {qs : List (ByteArray × Ex)} {i : Nat} (h : i < qs.length) : qs.drop i = qs.getD i q0 :: qs.drop (i + 1) := by
  rw [List.drop_eq_getElem_cons h]
  simp [List.getD, h]
theorem zeroU (w : World) : (zeroValue 99).run Try.prog w = .ok (.agg #[]) w := by kernel_rfl
end Go.Proofs.Ytncileojdighnaa
