/-
  No cell of these rows narrows 'for every input' (looked for: loops, veiled, ifaces, maps, wideKeys, modest, calm, conditions, laid).
  DERIVED. THE GIVEN ROWS OF THIS SEAT. 5 by the template 'for every input the law returns true; each argument reads behind the call as it read before'; 0 by the template 'total and deterministic' (their statements: YtcgkmenlacinjaaTotals.lean).
  GIVEN WITH THE SEED: the statements are not yours to turn. If you find one false, say at which input.
  Laid BY PROGRAM, IN A SANDBOX (cutbox-rows.mjs): the forced cells as the released guide's own fill.sh prints them over the translation 9fac4410a8836846… (all of the seat's roots in one cut). By AI agents, Wed Nov 11 2026. No macro, syntax, notation, axiom, sorry.
-/
import Derived.Test.YtcgkmenlacinjaaChecked
import GoSem.Claim
import GoSem.ClaimJoined
import GoSem.ClaimMapViews
import Derived.JoinedTies
import Derived.KernelRfl
namespace Go.Proofs.Ytcgkmenlacinjaa
/- THE CELL 'sum', in the pinned program and in every row, IS THE sha256 OF THE DUMP (.gsa) THAT YtcgkmenlacinjaaProg.lean LOADS. Nothing in Lean hashes anything: it is a label: what it is worth is what the hold of that sum in a sandbox is worth. -/
noncomputable def Try.pinned : Pinned := { name := "ytcgkmenlacinjaa", sum := "9fac4410a88368463815b36a2fd818d605f50e58e0ca40885c9c36c56bc11ba9", checked := Try.checked }
namespace Rows
def none {H : Type} : Left H := { results := [], args := [] }

/-- 'tendrillaw05.BisimLeast': WHATEVER THE INPUT: true; the input reads as it did. -/
def bisimLeastSpec : ChangeSpec := { name := "bisimLeast", fn := fun _ => fun
  | [d] => { results := [.lit (.bool true)], args := [d] }
  | _ => none }
def bisimLeastRow : OpenClaim := { program := "ytcgkmenlacinjaa", sum := "9fac4410a88368463815b36a2fd818d605f50e58e0ca40885c9c36c56bc11ba9", func := "tendril/tendrillaw05.BisimLeast", spec := "bisimLeast", unfollowed := true, recurses := true, plainKeys := false, apart := false }
def BisimLeastSaid : Prop := bisimLeastRow.holds Try.pinned (OpenSpec.ofChange bisimLeastSpec)

/-- ITS FALSE NEIGHBOUR: 'it returns false'. Refute it at one input. -/
def bisimLeastWrong : ChangeSpec := { name := "bisimLeast", fn := fun _ => fun
  | [d] => { results := [.lit (.bool false)], args := [d] }
  | _ => none }
def BisimLeastWrongFalsely : Prop := bisimLeastRow.holds Try.pinned (OpenSpec.ofChange bisimLeastWrong)

/-- 'tendrillaw05.BisimAlike': WHATEVER THE INPUT: true; the input reads as it did. -/
def bisimAlikeSpec : ChangeSpec := { name := "bisimAlike", fn := fun _ => fun
  | [d1, d2] => { results := [.lit (.bool true)], args := [d1, d2] }
  | _ => none }
def bisimAlikeRow : OpenClaim := { program := "ytcgkmenlacinjaa", sum := "9fac4410a88368463815b36a2fd818d605f50e58e0ca40885c9c36c56bc11ba9", func := "tendril/tendrillaw05.BisimAlike", spec := "bisimAlike", unfollowed := true, recurses := true, plainKeys := false, apart := false }
def BisimAlikeSaid : Prop := bisimAlikeRow.holds Try.pinned (OpenSpec.ofChange bisimAlikeSpec)

/-- ITS FALSE NEIGHBOUR: 'it returns false'. Refute it at one input. -/
def bisimAlikeWrong : ChangeSpec := { name := "bisimAlike", fn := fun _ => fun
  | [d1, d2] => { results := [.lit (.bool false)], args := [d1, d2] }
  | _ => none }
def BisimAlikeWrongFalsely : Prop := bisimAlikeRow.holds Try.pinned (OpenSpec.ofChange bisimAlikeWrong)

/-- 'tendrillaw05.BisimCopies': WHATEVER THE INPUT: true; the input reads as it did. -/
def bisimCopiesSpec : ChangeSpec := { name := "bisimCopies", fn := fun _ => fun
  | [d] => { results := [.lit (.bool true)], args := [d] }
  | _ => none }
def bisimCopiesRow : OpenClaim := { program := "ytcgkmenlacinjaa", sum := "9fac4410a88368463815b36a2fd818d605f50e58e0ca40885c9c36c56bc11ba9", func := "tendril/tendrillaw05.BisimCopies", spec := "bisimCopies", unfollowed := true, recurses := true, plainKeys := false, apart := false }
def BisimCopiesSaid : Prop := bisimCopiesRow.holds Try.pinned (OpenSpec.ofChange bisimCopiesSpec)

/-- ITS FALSE NEIGHBOUR: 'it returns false'. Refute it at one input. -/
def bisimCopiesWrong : ChangeSpec := { name := "bisimCopies", fn := fun _ => fun
  | [d] => { results := [.lit (.bool false)], args := [d] }
  | _ => none }
def BisimCopiesWrongFalsely : Prop := bisimCopiesRow.holds Try.pinned (OpenSpec.ofChange bisimCopiesWrong)

/-- 'tendrillaw05.BisimSplits': WHATEVER THE INPUT: true; the input reads as it did. -/
def bisimSplitsSpec : ChangeSpec := { name := "bisimSplits", fn := fun _ => fun
  | [d1, d2] => { results := [.lit (.bool true)], args := [d1, d2] }
  | _ => none }
def bisimSplitsRow : OpenClaim := { program := "ytcgkmenlacinjaa", sum := "9fac4410a88368463815b36a2fd818d605f50e58e0ca40885c9c36c56bc11ba9", func := "tendril/tendrillaw05.BisimSplits", spec := "bisimSplits", unfollowed := true, recurses := true, plainKeys := false, apart := false }
def BisimSplitsSaid : Prop := bisimSplitsRow.holds Try.pinned (OpenSpec.ofChange bisimSplitsSpec)

/-- ITS FALSE NEIGHBOUR: 'it returns false'. Refute it at one input. -/
def bisimSplitsWrong : ChangeSpec := { name := "bisimSplits", fn := fun _ => fun
  | [d1, d2] => { results := [.lit (.bool false)], args := [d1, d2] }
  | _ => none }
def BisimSplitsWrongFalsely : Prop := bisimSplitsRow.holds Try.pinned (OpenSpec.ofChange bisimSplitsWrong)

/-- 'tendrillaw05.BisimOwns': WHATEVER THE INPUT: true; the input reads as it did. -/
def bisimOwnsSpec : ChangeSpec := { name := "bisimOwns", fn := fun _ => fun
  | [d] => { results := [.lit (.bool true)], args := [d] }
  | _ => none }
def bisimOwnsRow : OpenClaim := { program := "ytcgkmenlacinjaa", sum := "9fac4410a88368463815b36a2fd818d605f50e58e0ca40885c9c36c56bc11ba9", func := "tendril/tendrillaw05.BisimOwns", spec := "bisimOwns", unfollowed := true, recurses := true, plainKeys := false, apart := false }
def BisimOwnsSaid : Prop := bisimOwnsRow.holds Try.pinned (OpenSpec.ofChange bisimOwnsSpec)

/-- ITS FALSE NEIGHBOUR: 'it returns false'. Refute it at one input. -/
def bisimOwnsWrong : ChangeSpec := { name := "bisimOwns", fn := fun _ => fun
  | [d] => { results := [.lit (.bool false)], args := [d] }
  | _ => none }
def BisimOwnsWrongFalsely : Prop := bisimOwnsRow.holds Try.pinned (OpenSpec.ofChange bisimOwnsWrong)

/- THE SECOND FORM. 'bulk': how many values and letters a reading holds, each counted each time it is reached (what is shared counts as often as it is met; a slice's spare places count too). A statement '..UptoSaid' is the law's where the arguments, and the package variables that the reading takes, are together of bulk at most 1048576: NARROWER than '..Said'. Prove '..Said' where nothing that the law and all that it calls make is longer than what came in: it says more and counts as full. Else prove '..UptoSaid'. A law counts once. -/
mutual
def uptoBulk {H : Type} : DataW H → Nat
  | .lit (.string bytes) => bytes.length + 1
  | .lit _ => 1
  | .nil => 1
  | .ptr d => uptoBulk d + 1
  | .slice elems spare => uptoBulkAll elems + uptoBulkAll spare + 1
  | .agg parts => uptoBulkAll parts + 1
  | .iface _ d => uptoBulk d + 1
  | .map entries => uptoBulkEntries entries + 1
  | .held _ => 1
def uptoBulkAll {H : Type} : List (DataW H) → Nat
  | [] => 0
  | d :: r => uptoBulk d + uptoBulkAll r
def uptoBulkEntries {H : Type} : List (Lit × DataW H) → Nat
  | [] => 0
  | x :: r => uptoBulkEntry x + uptoBulkEntries r
def uptoBulkEntry {H : Type} : Lit × DataW H → Nat
  | (.string bytes, d) => bytes.length + uptoBulk d + 1
  | (_, d) => uptoBulk d + 1
 end
def uptoSmall : (H : Type) → List (DataW H) → Bool := fun _ ds => decide (uptoBulkAll ds ≤ 1048576)
def OpenSpec.upto (s : _root_.Go.ChangeSpec) : _root_.Go.OpenSpec := { _root_.Go.OpenSpec.ofChange s with cond := some uptoSmall }

/-- 'tendrillaw05.BisimLeast', WHERE WHAT IT READS IS OF BULK AT MOST 1048576: true; the input reads as it did. -/
def bisimLeastUptoRow : OpenClaim := { program := "ytcgkmenlacinjaa", sum := "9fac4410a88368463815b36a2fd818d605f50e58e0ca40885c9c36c56bc11ba9", func := "tendril/tendrillaw05.BisimLeast", spec := "bisimLeast", unfollowed := true, recurses := true, plainKeys := false, apart := false, narrowed := true }
def BisimLeastUptoSaid : Prop := bisimLeastUptoRow.holds Try.pinned (OpenSpec.upto bisimLeastSpec)

/-- 'tendrillaw05.BisimAlike', WHERE WHAT IT READS IS OF BULK AT MOST 1048576: true; the input reads as it did. -/
def bisimAlikeUptoRow : OpenClaim := { program := "ytcgkmenlacinjaa", sum := "9fac4410a88368463815b36a2fd818d605f50e58e0ca40885c9c36c56bc11ba9", func := "tendril/tendrillaw05.BisimAlike", spec := "bisimAlike", unfollowed := true, recurses := true, plainKeys := false, apart := false, narrowed := true }
def BisimAlikeUptoSaid : Prop := bisimAlikeUptoRow.holds Try.pinned (OpenSpec.upto bisimAlikeSpec)

/-- 'tendrillaw05.BisimCopies', WHERE WHAT IT READS IS OF BULK AT MOST 1048576: true; the input reads as it did. -/
def bisimCopiesUptoRow : OpenClaim := { program := "ytcgkmenlacinjaa", sum := "9fac4410a88368463815b36a2fd818d605f50e58e0ca40885c9c36c56bc11ba9", func := "tendril/tendrillaw05.BisimCopies", spec := "bisimCopies", unfollowed := true, recurses := true, plainKeys := false, apart := false, narrowed := true }
def BisimCopiesUptoSaid : Prop := bisimCopiesUptoRow.holds Try.pinned (OpenSpec.upto bisimCopiesSpec)

/-- 'tendrillaw05.BisimSplits', WHERE WHAT IT READS IS OF BULK AT MOST 1048576: true; the input reads as it did. -/
def bisimSplitsUptoRow : OpenClaim := { program := "ytcgkmenlacinjaa", sum := "9fac4410a88368463815b36a2fd818d605f50e58e0ca40885c9c36c56bc11ba9", func := "tendril/tendrillaw05.BisimSplits", spec := "bisimSplits", unfollowed := true, recurses := true, plainKeys := false, apart := false, narrowed := true }
def BisimSplitsUptoSaid : Prop := bisimSplitsUptoRow.holds Try.pinned (OpenSpec.upto bisimSplitsSpec)

/-- 'tendrillaw05.BisimOwns', WHERE WHAT IT READS IS OF BULK AT MOST 1048576: true; the input reads as it did. -/
def bisimOwnsUptoRow : OpenClaim := { program := "ytcgkmenlacinjaa", sum := "9fac4410a88368463815b36a2fd818d605f50e58e0ca40885c9c36c56bc11ba9", func := "tendril/tendrillaw05.BisimOwns", spec := "bisimOwns", unfollowed := true, recurses := true, plainKeys := false, apart := false, narrowed := true }
def BisimOwnsUptoSaid : Prop := bisimOwnsUptoRow.holds Try.pinned (OpenSpec.upto bisimOwnsSpec)

end Rows
end Go.Proofs.Ytcgkmenlacinjaa
