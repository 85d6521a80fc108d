/- The parser as plain data: terms out of a row of tokens, with fuel. -/
import Derived.Test.YtklfnphkepfmaaaGreatDoorPsOp
import Derived.Test.YtklfnphkepfmaaaGreatDoorExM
namespace Go.Proofs.YtklfnphkepfmaaaGreatDoor
open Go.RowKit

/-- What is read and where the parser stands then, or the fault and the token at which it gave up. -/
inductive Rd1 (α : Type) where
  | ok (v : α) (i : Nat)
  | bad (c : Int) (i : Nat)
def Rd1.map {α β : Type} (f : α → β) : Rd1 α → Rd1 β
  | .ok v i => .ok (f v) i
  | .bad c i => .bad c i
/-- The empty list; an element ahead of a list; the elements ahead of what ends them. -/
def nilX : Ex := .mk 2 ⟨#[91, 93]⟩ 0 []
def consX (a b : Ex) : Ex := .mk 4 ⟨#[46]⟩ 0 [a, b]
def listX (es : List Ex) (e : Ex) : Ex := es.foldr consX e
/-- The token at a place. -/
def tkA (ts : List Tk) (i : Nat) : Tk := ts.getD i tk0
/-- A mark stands at a place. -/
def mkA (ts : List Tk) (i : Nat) (c : UInt8) : Bool := seesF (tkA ts i) 4 ⟨#[c]⟩
/-- A mark is wanted. -/
def wantF {α : Type} (ts : List Tk) (c : UInt8) : Rd1 α → Rd1 α
  | .ok v i => if mkA ts i c then .ok v (i + 1) else .bad (mustC (tkA ts i)) i
  | .bad c' i => .bad c' i
mutual
/-- The term that begins at a place and stands in so many compounds. -/
def termF (ts : List Tk) : Nat → Int → Nat → Rd1 Ex
  | 0, _, i => .bad 0 i
  | f + 1, nest, i =>
    if opensF (tkA ts i) = false then .bad (mustC (tkA ts i)) i
    else if 4096 < nest then .bad 73 i
    else if (tkA ts i).kind = 2 then .ok (.mk 1 (tkA ts i).text 0 []) (i + 1)
    else if (tkA ts i).kind = 3 then .ok (.mk 3 ⟨#[]⟩ (tkA ts i).num []) (i + 1)
    else if (tkA ts i).kind = 4 then
      if mkA ts (i + 1) 93 then .ok nilX (i + 2)
      else match elemsF ts f nest (i + 1) [] with
        | .bad c j => .bad c j
        | .ok (es, n) j => if mkA ts j 124 then wantF ts 93 ((termF ts f n (j + 1)).map (listX es)) else wantF ts 93 (.ok (listX es nilX) j)
    else if mkA ts (i + 1) 40 then (argsF ts f (nest + 1) (i + 2) []).map (fun xs => .mk 4 (tkA ts i).text 0 xs)
    else .ok (.mk 2 (tkA ts i).text 0 []) (i + 1)
/-- A compound's arguments, those ahead being read. -/
def argsF (ts : List Tk) : Nat → Int → Nat → List Ex → Rd1 (List Ex)
  | 0, _, i, _ => .bad 0 i
  | f + 1, nest, i, xs =>
    if opensF (tkA ts i) = false then .bad (mustC (tkA ts i)) i
    else if xs.length = 8 then .bad 74 i
    else match termF ts f nest i with
      | .bad c j => .bad c j
      | .ok e j => if mkA ts j 44 then argsF ts f nest (j + 1) (xs ++ [e]) else wantF ts 41 (.ok (xs ++ [e]) j)
/-- A list's elements: each stands in one compound more than the one ahead of it. -/
def elemsF (ts : List Tk) : Nat → Int → Nat → List Ex → Rd1 (List Ex × Int)
  | 0, _, i, _ => .bad 0 i
  | f + 1, nest, i, es =>
    match termF ts f (nest + 1) i with
      | .bad c j => .bad c j
      | .ok e j => if mkA ts j 44 then elemsF ts f (nest + 1) (j + 1) (es ++ [e]) else .ok (es ++ [e], nest + 1) j
end
end Go.Proofs.YtklfnphkepfmaaaGreatDoor
