/-
  NARROWER THAN 'FOR EVERY INPUT', by the rows' own cells (each row's printed sentence says how): TieAll: loops · TieNames: loops · TieLeast: loops · TieOwns: loops.
  DERIVED. THE GIVEN ROWS OF THIS SEAT. 4 by the template 'for every input the law returns true; each argument reads behind the call as it read before'; 0 by the template 'total and deterministic' (their statements: YtjkcffcedbcjmaaTotals.lean).
  GIVEN WITH THE SEED: the statements are not yours to turn. If you find one false, say at which input.
  Laid BY PROGRAM, IN A SANDBOX (cutbox-rows.mjs): the forced cells as the released guide's own fill.sh prints them over the translation e94b8b34679b0c55… (all of the seat's roots in one cut). By AI agents, Wed Nov 11 2026. No macro, syntax, notation, axiom, sorry.
-/
import Derived.Test.YtjkcffcedbcjmaaChecked
import GoSem.Claim
import GoSem.ClaimJoined
import GoSem.ClaimMapViews
import Derived.JoinedTies
import Derived.KernelRfl
namespace Go.Proofs.Ytjkcffcedbcjmaa
/- THE CELL 'sum', in the pinned program and in every row, IS THE sha256 OF THE DUMP (.gsa) THAT YtjkcffcedbcjmaaProg.lean LOADS. Nothing in Lean hashes anything: it is a label: what it is worth is what the hold of that sum in a sandbox is worth. -/
noncomputable def Try.pinned : Pinned := { name := "ytjkcffcedbcjmaa", sum := "e94b8b34679b0c553fe0fd66a0a61c84ec6f794d3cbeec5eb25327be40fe1c55", checked := Try.checked }
namespace Rows
def none {H : Type} : Left H := { results := [], args := [] }

/-- 'tendrillaw08.TieAll': WHATEVER THE INPUT: true; the input reads as it did. -/
def tieAllSpec : ChangeSpec := { name := "tieAll", fn := fun _ => fun
  | [d1, d2] => { results := [.lit (.bool true)], args := [d1, d2] }
  | _ => none }
def tieAllRow : OpenClaim := { program := "ytjkcffcedbcjmaa", sum := "e94b8b34679b0c553fe0fd66a0a61c84ec6f794d3cbeec5eb25327be40fe1c55", func := "tendril/tendrillaw08.TieAll", spec := "tieAll", unfollowed := true, recurses := true, loops := true, plainKeys := false, apart := false }
def TieAllSaid : Prop := tieAllRow.holds Try.pinned (OpenSpec.ofChange tieAllSpec)

/-- ITS FALSE NEIGHBOUR: 'it returns false'. Refute it at one input. -/
def tieAllWrong : ChangeSpec := { name := "tieAll", fn := fun _ => fun
  | [d1, d2] => { results := [.lit (.bool false)], args := [d1, d2] }
  | _ => none }
def TieAllWrongFalsely : Prop := tieAllRow.holds Try.pinned (OpenSpec.ofChange tieAllWrong)

/-- 'tendrillaw08.TieNames': WHATEVER THE INPUT: true; the input reads as it did. -/
def tieNamesSpec : ChangeSpec := { name := "tieNames", fn := fun _ => fun
  | [d1, d2] => { results := [.lit (.bool true)], args := [d1, d2] }
  | _ => none }
def tieNamesRow : OpenClaim := { program := "ytjkcffcedbcjmaa", sum := "e94b8b34679b0c553fe0fd66a0a61c84ec6f794d3cbeec5eb25327be40fe1c55", func := "tendril/tendrillaw08.TieNames", spec := "tieNames", unfollowed := true, recurses := true, loops := true, plainKeys := false, apart := false }
def TieNamesSaid : Prop := tieNamesRow.holds Try.pinned (OpenSpec.ofChange tieNamesSpec)

/-- ITS FALSE NEIGHBOUR: 'it returns false'. Refute it at one input. -/
def tieNamesWrong : ChangeSpec := { name := "tieNames", fn := fun _ => fun
  | [d1, d2] => { results := [.lit (.bool false)], args := [d1, d2] }
  | _ => none }
def TieNamesWrongFalsely : Prop := tieNamesRow.holds Try.pinned (OpenSpec.ofChange tieNamesWrong)

/-- 'tendrillaw08.TieLeast': WHATEVER THE INPUT: true; the input reads as it did. -/
def tieLeastSpec : ChangeSpec := { name := "tieLeast", fn := fun _ => fun
  | [d1, d2] => { results := [.lit (.bool true)], args := [d1, d2] }
  | _ => none }
def tieLeastRow : OpenClaim := { program := "ytjkcffcedbcjmaa", sum := "e94b8b34679b0c553fe0fd66a0a61c84ec6f794d3cbeec5eb25327be40fe1c55", func := "tendril/tendrillaw08.TieLeast", spec := "tieLeast", unfollowed := true, recurses := true, loops := true, plainKeys := false, apart := false }
def TieLeastSaid : Prop := tieLeastRow.holds Try.pinned (OpenSpec.ofChange tieLeastSpec)

/-- ITS FALSE NEIGHBOUR: 'it returns false'. Refute it at one input. -/
def tieLeastWrong : ChangeSpec := { name := "tieLeast", fn := fun _ => fun
  | [d1, d2] => { results := [.lit (.bool false)], args := [d1, d2] }
  | _ => none }
def TieLeastWrongFalsely : Prop := tieLeastRow.holds Try.pinned (OpenSpec.ofChange tieLeastWrong)

/-- 'tendrillaw08.TieOwns': WHATEVER THE INPUT: true; the input reads as it did. -/
def tieOwnsSpec : ChangeSpec := { name := "tieOwns", fn := fun _ => fun
  | [d1, d2] => { results := [.lit (.bool true)], args := [d1, d2] }
  | _ => none }
def tieOwnsRow : OpenClaim := { program := "ytjkcffcedbcjmaa", sum := "e94b8b34679b0c553fe0fd66a0a61c84ec6f794d3cbeec5eb25327be40fe1c55", func := "tendril/tendrillaw08.TieOwns", spec := "tieOwns", unfollowed := true, recurses := true, loops := true, plainKeys := false, apart := false }
def TieOwnsSaid : Prop := tieOwnsRow.holds Try.pinned (OpenSpec.ofChange tieOwnsSpec)

/-- ITS FALSE NEIGHBOUR: 'it returns false'. Refute it at one input. -/
def tieOwnsWrong : ChangeSpec := { name := "tieOwns", fn := fun _ => fun
  | [d1, d2] => { results := [.lit (.bool false)], args := [d1, d2] }
  | _ => none }
def TieOwnsWrongFalsely : Prop := tieOwnsRow.holds Try.pinned (OpenSpec.ofChange tieOwnsWrong)

/- THE SECOND FORM. 'bulk': how many values and letters a reading holds, each counted each time it is reached (what is shared counts as often as it is met; a slice's spare places count too). A statement '..UptoSaid' is the law's where the arguments, and the package variables that the reading takes, are together of bulk at most 1048576: NARROWER than '..Said'. Prove '..Said' where nothing that the law and all that it calls make is longer than what came in: it says more and counts as full. Else prove '..UptoSaid'. A law counts once. -/
mutual
def uptoBulk {H : Type} : DataW H → Nat
  | .lit (.string bytes) => bytes.length + 1
  | .lit _ => 1
  | .nil => 1
  | .ptr d => uptoBulk d + 1
  | .slice elems spare => uptoBulkAll elems + uptoBulkAll spare + 1
  | .agg parts => uptoBulkAll parts + 1
  | .iface _ d => uptoBulk d + 1
  | .map entries => uptoBulkEntries entries + 1
  | .held _ => 1
def uptoBulkAll {H : Type} : List (DataW H) → Nat
  | [] => 0
  | d :: r => uptoBulk d + uptoBulkAll r
def uptoBulkEntries {H : Type} : List (Lit × DataW H) → Nat
  | [] => 0
  | x :: r => uptoBulkEntry x + uptoBulkEntries r
def uptoBulkEntry {H : Type} : Lit × DataW H → Nat
  | (.string bytes, d) => bytes.length + uptoBulk d + 1
  | (_, d) => uptoBulk d + 1
 end
def uptoSmall : (H : Type) → List (DataW H) → Bool := fun _ ds => decide (uptoBulkAll ds ≤ 1048576)
def OpenSpec.upto (s : _root_.Go.ChangeSpec) : _root_.Go.OpenSpec := { _root_.Go.OpenSpec.ofChange s with cond := some uptoSmall }

/-- 'tendrillaw08.TieAll', WHERE WHAT IT READS IS OF BULK AT MOST 1048576: true; the input reads as it did. -/
def tieAllUptoRow : OpenClaim := { program := "ytjkcffcedbcjmaa", sum := "e94b8b34679b0c553fe0fd66a0a61c84ec6f794d3cbeec5eb25327be40fe1c55", func := "tendril/tendrillaw08.TieAll", spec := "tieAll", unfollowed := true, recurses := true, loops := true, plainKeys := false, apart := false, narrowed := true }
def TieAllUptoSaid : Prop := tieAllUptoRow.holds Try.pinned (OpenSpec.upto tieAllSpec)

/-- 'tendrillaw08.TieNames', WHERE WHAT IT READS IS OF BULK AT MOST 1048576: true; the input reads as it did. -/
def tieNamesUptoRow : OpenClaim := { program := "ytjkcffcedbcjmaa", sum := "e94b8b34679b0c553fe0fd66a0a61c84ec6f794d3cbeec5eb25327be40fe1c55", func := "tendril/tendrillaw08.TieNames", spec := "tieNames", unfollowed := true, recurses := true, loops := true, plainKeys := false, apart := false, narrowed := true }
def TieNamesUptoSaid : Prop := tieNamesUptoRow.holds Try.pinned (OpenSpec.upto tieNamesSpec)

/-- 'tendrillaw08.TieLeast', WHERE WHAT IT READS IS OF BULK AT MOST 1048576: true; the input reads as it did. -/
def tieLeastUptoRow : OpenClaim := { program := "ytjkcffcedbcjmaa", sum := "e94b8b34679b0c553fe0fd66a0a61c84ec6f794d3cbeec5eb25327be40fe1c55", func := "tendril/tendrillaw08.TieLeast", spec := "tieLeast", unfollowed := true, recurses := true, loops := true, plainKeys := false, apart := false, narrowed := true }
def TieLeastUptoSaid : Prop := tieLeastUptoRow.holds Try.pinned (OpenSpec.upto tieLeastSpec)

/-- 'tendrillaw08.TieOwns', WHERE WHAT IT READS IS OF BULK AT MOST 1048576: true; the input reads as it did. -/
def tieOwnsUptoRow : OpenClaim := { program := "ytjkcffcedbcjmaa", sum := "e94b8b34679b0c553fe0fd66a0a61c84ec6f794d3cbeec5eb25327be40fe1c55", func := "tendril/tendrillaw08.TieOwns", spec := "tieOwns", unfollowed := true, recurses := true, loops := true, plainKeys := false, apart := false, narrowed := true }
def TieOwnsUptoSaid : Prop := tieOwnsUptoRow.holds Try.pinned (OpenSpec.upto tieOwnsSpec)

end Rows
end Go.Proofs.Ytjkcffcedbcjmaa
