/-
  NARROWER THAN 'FOR EVERY INPUT', by the rows' own cells (each row's printed sentence says how): UnifyBound: laid · UnifyStays: laid · UnifySolves: laid · UnifyNone: laid.
  DERIVED. THE GIVEN ROWS OF THIS SEAT. 4 by the template 'for every input the law returns true; each argument reads behind the call as it read before'; 0 by the template 'total and deterministic' (their statements: YtlibjdilicfcdaaGreatDoorTotals.lean).
  GIVEN WITH THE SEED: the statements are not yours to turn. If you find one false, say at which input.
  Laid BY PROGRAM, IN A SANDBOX (cutbox-rows.mjs): the forced cells as the released guide's own fill.sh prints them over the translation ed422406f134d9af… (all of the seat's roots in one cut). By AI agents, Wed Nov 11 2026. No macro, syntax, notation, axiom, sorry.
-/
import Derived.Test.YtlibjdilicfcdaaGreatDoorChecked
import GoSem.Claim
import GoSem.ClaimJoined
import GoSem.ClaimMapViews
import Derived.JoinedTies
import Derived.KernelRfl
namespace Go.Proofs.YtlibjdilicfcdaaGreatDoor
/- THE CELL 'sum', in the pinned program and in every row, IS THE sha256 OF THE DUMP (.gsa) THAT YtlibjdilicfcdaaGreatDoorProg.lean LOADS. Nothing in Lean hashes anything: it is a label: what it is worth is what the hold of that sum in a sandbox is worth. -/
noncomputable def Tryz.pinned : Pinned := { name := "ytlibjdilicfcdaagreatdoor", sum := "ed422406f134d9afbf813af2b96efc479b7c6b5673ac8abae9fde02a318c3806", checked := Tryz.checked }
namespace Rows
def none {H : Type} : Left H := { results := [], args := [] }

/- WHAT THE LISTED PACKAGE-LEVEL VARIABLES READ AS WHEN THE CALL BEGINS. Each datum BY PROGRAM (the guide's laid-datum.mjs) off the statement by which the dump's own 'gosem.cut.vars' lays the variable. In a bare row this is a premise. The card (YtlibjdilicfcdaaGreatDoorCards.lean) ties it to the program's text. -/
def laid_errors_errorType {H : Type} : DataW H := .iface "internal/reflectlite.rtype" (.agg [.ptr (.lit (.string [101, 114, 114, 111, 114]))])

/-- 'tendrillaw12.UnifyBound': WHATEVER THE INPUT: true; the input reads as it did. -/
def unifyBoundSpec : ChangeSpec := { name := "unifyBound", fn := fun _ => fun
  | [d1, d2, d3] => { results := [.lit (.bool true)], args := [d1, d2, d3] }
  | _ => none }
def unifyBoundRow : OpenClaim := { program := "ytlibjdilicfcdaagreatdoor", sum := "ed422406f134d9afbf813af2b96efc479b7c6b5673ac8abae9fde02a318c3806", func := "tendril/tendrillaw12.UnifyBound", spec := "unifyBound", inPlace := ["internal/reflectlite.ValueOf", "(internal/reflectlite.Value).Type", "(internal/reflectlite.Value).IsNil", "internal/reflectlite.TypeOf", "(internal/reflectlite.Value).Elem", "(internal/reflectlite.Value).Set", "maps.clone"], unfollowed := true, recurses := true, named := ["errors.errorType"], plainKeys := false, apart := false, laid := [("errors.errorType", laid_errors_errorType)] }
def UnifyBoundSaid : Prop := unifyBoundRow.holds Tryz.pinned (OpenSpec.ofChange unifyBoundSpec)

/-- ITS FALSE NEIGHBOUR: 'it returns false'. Refute it at one input. -/
def unifyBoundWrong : ChangeSpec := { name := "unifyBound", fn := fun _ => fun
  | [d1, d2, d3] => { results := [.lit (.bool false)], args := [d1, d2, d3] }
  | _ => none }
def UnifyBoundWrongFalsely : Prop := unifyBoundRow.holds Tryz.pinned (OpenSpec.ofChange unifyBoundWrong)

/-- 'tendrillaw12.UnifyStays': WHATEVER THE INPUT: true; the input reads as it did. -/
def unifyStaysSpec : ChangeSpec := { name := "unifyStays", fn := fun _ => fun
  | [d] => { results := [.lit (.bool true)], args := [d] }
  | _ => none }
def unifyStaysRow : OpenClaim := { program := "ytlibjdilicfcdaagreatdoor", sum := "ed422406f134d9afbf813af2b96efc479b7c6b5673ac8abae9fde02a318c3806", func := "tendril/tendrillaw12.UnifyStays", spec := "unifyStays", inPlace := ["internal/reflectlite.ValueOf", "(internal/reflectlite.Value).Type", "(internal/reflectlite.Value).IsNil", "internal/reflectlite.TypeOf", "(internal/reflectlite.Value).Elem", "(internal/reflectlite.Value).Set", "maps.clone"], unfollowed := true, recurses := true, named := ["errors.errorType"], plainKeys := false, apart := false, laid := [("errors.errorType", laid_errors_errorType)] }
def UnifyStaysSaid : Prop := unifyStaysRow.holds Tryz.pinned (OpenSpec.ofChange unifyStaysSpec)

/-- ITS FALSE NEIGHBOUR: 'it returns false'. Refute it at one input. -/
def unifyStaysWrong : ChangeSpec := { name := "unifyStays", fn := fun _ => fun
  | [d] => { results := [.lit (.bool false)], args := [d] }
  | _ => none }
def UnifyStaysWrongFalsely : Prop := unifyStaysRow.holds Tryz.pinned (OpenSpec.ofChange unifyStaysWrong)

/-- 'tendrillaw12.UnifySolves': WHATEVER THE INPUT: true; the input reads as it did. -/
def unifySolvesSpec : ChangeSpec := { name := "unifySolves", fn := fun _ => fun
  | [d1, d2, d3] => { results := [.lit (.bool true)], args := [d1, d2, d3] }
  | _ => none }
def unifySolvesRow : OpenClaim := { program := "ytlibjdilicfcdaagreatdoor", sum := "ed422406f134d9afbf813af2b96efc479b7c6b5673ac8abae9fde02a318c3806", func := "tendril/tendrillaw12.UnifySolves", spec := "unifySolves", inPlace := ["internal/reflectlite.ValueOf", "(internal/reflectlite.Value).Type", "(internal/reflectlite.Value).IsNil", "internal/reflectlite.TypeOf", "(internal/reflectlite.Value).Elem", "(internal/reflectlite.Value).Set", "maps.clone"], unfollowed := true, recurses := true, named := ["errors.errorType"], plainKeys := false, apart := false, laid := [("errors.errorType", laid_errors_errorType)] }
def UnifySolvesSaid : Prop := unifySolvesRow.holds Tryz.pinned (OpenSpec.ofChange unifySolvesSpec)

/-- ITS FALSE NEIGHBOUR: 'it returns false'. Refute it at one input. -/
def unifySolvesWrong : ChangeSpec := { name := "unifySolves", fn := fun _ => fun
  | [d1, d2, d3] => { results := [.lit (.bool false)], args := [d1, d2, d3] }
  | _ => none }
def UnifySolvesWrongFalsely : Prop := unifySolvesRow.holds Tryz.pinned (OpenSpec.ofChange unifySolvesWrong)

/-- 'tendrillaw12.UnifyNone': WHATEVER THE INPUT: true; the input reads as it did. -/
def unifyNoneSpec : ChangeSpec := { name := "unifyNone", fn := fun _ => fun
  | [d1, d2] => { results := [.lit (.bool true)], args := [d1, d2] }
  | _ => none }
def unifyNoneRow : OpenClaim := { program := "ytlibjdilicfcdaagreatdoor", sum := "ed422406f134d9afbf813af2b96efc479b7c6b5673ac8abae9fde02a318c3806", func := "tendril/tendrillaw12.UnifyNone", spec := "unifyNone", inPlace := ["internal/reflectlite.ValueOf", "(internal/reflectlite.Value).Type", "(internal/reflectlite.Value).IsNil", "internal/reflectlite.TypeOf", "(internal/reflectlite.Value).Elem", "(internal/reflectlite.Value).Set", "maps.clone"], unfollowed := true, recurses := true, named := ["errors.errorType"], plainKeys := false, apart := false, laid := [("errors.errorType", laid_errors_errorType)] }
def UnifyNoneSaid : Prop := unifyNoneRow.holds Tryz.pinned (OpenSpec.ofChange unifyNoneSpec)

/-- ITS FALSE NEIGHBOUR: 'it returns false'. Refute it at one input. -/
def unifyNoneWrong : ChangeSpec := { name := "unifyNone", fn := fun _ => fun
  | [d1, d2] => { results := [.lit (.bool false)], args := [d1, d2] }
  | _ => none }
def UnifyNoneWrongFalsely : Prop := unifyNoneRow.holds Tryz.pinned (OpenSpec.ofChange unifyNoneWrong)

/- THE SECOND FORM. 'bulk': how many values and letters a reading holds, each counted each time it is reached (what is shared counts as often as it is met; a slice's spare places count too). A statement '..UptoSaid' is the law's where the arguments, and the package variables that the reading takes, are together of bulk at most 1048576: NARROWER than '..Said'. Prove '..Said' where nothing that the law and all that it calls make is longer than what came in: it says more and counts as full. Else prove '..UptoSaid'. A law counts once. -/
mutual
def uptoBulk {H : Type} : DataW H → Nat
  | .lit (.string bytes) => bytes.length + 1
  | .lit _ => 1
  | .nil => 1
  | .ptr d => uptoBulk d + 1
  | .slice elems spare => uptoBulkAll elems + uptoBulkAll spare + 1
  | .agg parts => uptoBulkAll parts + 1
  | .iface _ d => uptoBulk d + 1
  | .map entries => uptoBulkEntries entries + 1
  | .held _ => 1
def uptoBulkAll {H : Type} : List (DataW H) → Nat
  | [] => 0
  | d :: r => uptoBulk d + uptoBulkAll r
def uptoBulkEntries {H : Type} : List (Lit × DataW H) → Nat
  | [] => 0
  | x :: r => uptoBulkEntry x + uptoBulkEntries r
def uptoBulkEntry {H : Type} : Lit × DataW H → Nat
  | (.string bytes, d) => bytes.length + uptoBulk d + 1
  | (_, d) => uptoBulk d + 1
 end
def uptoSmall : (H : Type) → List (DataW H) → Bool := fun _ ds => decide (uptoBulkAll ds ≤ 1048576)
def OpenSpec.upto (s : _root_.Go.ChangeSpec) : _root_.Go.OpenSpec := { _root_.Go.OpenSpec.ofChange s with cond := some uptoSmall }

/-- 'tendrillaw12.UnifyBound', WHERE WHAT IT READS IS OF BULK AT MOST 1048576: true; the input reads as it did. -/
def unifyBoundUptoRow : OpenClaim := { program := "ytlibjdilicfcdaagreatdoor", sum := "ed422406f134d9afbf813af2b96efc479b7c6b5673ac8abae9fde02a318c3806", func := "tendril/tendrillaw12.UnifyBound", spec := "unifyBound", inPlace := ["internal/reflectlite.ValueOf", "(internal/reflectlite.Value).Type", "(internal/reflectlite.Value).IsNil", "internal/reflectlite.TypeOf", "(internal/reflectlite.Value).Elem", "(internal/reflectlite.Value).Set", "maps.clone"], unfollowed := true, recurses := true, named := ["errors.errorType"], plainKeys := false, apart := false, laid := [("errors.errorType", laid_errors_errorType)], narrowed := true }
def UnifyBoundUptoSaid : Prop := unifyBoundUptoRow.holds Tryz.pinned (OpenSpec.upto unifyBoundSpec)

/-- 'tendrillaw12.UnifyStays', WHERE WHAT IT READS IS OF BULK AT MOST 1048576: true; the input reads as it did. -/
def unifyStaysUptoRow : OpenClaim := { program := "ytlibjdilicfcdaagreatdoor", sum := "ed422406f134d9afbf813af2b96efc479b7c6b5673ac8abae9fde02a318c3806", func := "tendril/tendrillaw12.UnifyStays", spec := "unifyStays", inPlace := ["internal/reflectlite.ValueOf", "(internal/reflectlite.Value).Type", "(internal/reflectlite.Value).IsNil", "internal/reflectlite.TypeOf", "(internal/reflectlite.Value).Elem", "(internal/reflectlite.Value).Set", "maps.clone"], unfollowed := true, recurses := true, named := ["errors.errorType"], plainKeys := false, apart := false, laid := [("errors.errorType", laid_errors_errorType)], narrowed := true }
def UnifyStaysUptoSaid : Prop := unifyStaysUptoRow.holds Tryz.pinned (OpenSpec.upto unifyStaysSpec)

/-- 'tendrillaw12.UnifySolves', WHERE WHAT IT READS IS OF BULK AT MOST 1048576: true; the input reads as it did. -/
def unifySolvesUptoRow : OpenClaim := { program := "ytlibjdilicfcdaagreatdoor", sum := "ed422406f134d9afbf813af2b96efc479b7c6b5673ac8abae9fde02a318c3806", func := "tendril/tendrillaw12.UnifySolves", spec := "unifySolves", inPlace := ["internal/reflectlite.ValueOf", "(internal/reflectlite.Value).Type", "(internal/reflectlite.Value).IsNil", "internal/reflectlite.TypeOf", "(internal/reflectlite.Value).Elem", "(internal/reflectlite.Value).Set", "maps.clone"], unfollowed := true, recurses := true, named := ["errors.errorType"], plainKeys := false, apart := false, laid := [("errors.errorType", laid_errors_errorType)], narrowed := true }
def UnifySolvesUptoSaid : Prop := unifySolvesUptoRow.holds Tryz.pinned (OpenSpec.upto unifySolvesSpec)

/-- 'tendrillaw12.UnifyNone', WHERE WHAT IT READS IS OF BULK AT MOST 1048576: true; the input reads as it did. -/
def unifyNoneUptoRow : OpenClaim := { program := "ytlibjdilicfcdaagreatdoor", sum := "ed422406f134d9afbf813af2b96efc479b7c6b5673ac8abae9fde02a318c3806", func := "tendril/tendrillaw12.UnifyNone", spec := "unifyNone", inPlace := ["internal/reflectlite.ValueOf", "(internal/reflectlite.Value).Type", "(internal/reflectlite.Value).IsNil", "internal/reflectlite.TypeOf", "(internal/reflectlite.Value).Elem", "(internal/reflectlite.Value).Set", "maps.clone"], unfollowed := true, recurses := true, named := ["errors.errorType"], plainKeys := false, apart := false, laid := [("errors.errorType", laid_errors_errorType)], narrowed := true }
def UnifyNoneUptoSaid : Prop := unifyNoneUptoRow.holds Tryz.pinned (OpenSpec.upto unifyNoneSpec)

end Rows
end Go.Proofs.YtlibjdilicfcdaaGreatDoor
