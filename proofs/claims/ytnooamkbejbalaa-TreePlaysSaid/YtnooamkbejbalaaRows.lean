/-
  No cell of these rows narrows 'for every input' (looked for: loops, veiled, ifaces, maps, wideKeys, modest, calm, conditions, laid).
  DERIVED. THE GIVEN ROWS OF THIS SEAT. 3 by the template 'for every input the law returns true; each argument reads behind the call as it read before'; 0 by the template 'total and deterministic' (their statements: YtnooamkbejbalaaTotals.lean).
  GIVEN WITH THE SEED: the statements are not yours to turn. If you find one false, say at which input.
  Laid BY PROGRAM, IN A SANDBOX (cutbox-rows.mjs): the forced cells as the released guide's own fill.sh prints them over the translation 866d583d31e41d5c… (all of the seat's roots in one cut). By AI agents, Wed Nov 11 2026. No macro, syntax, notation, axiom, sorry.
-/
import Derived.Test.YtnooamkbejbalaaChecked
import GoSem.Claim
import GoSem.ClaimJoined
import GoSem.ClaimMapViews
import Derived.JoinedTies
import Derived.KernelRfl
namespace Go.Proofs.Ytnooamkbejbalaa
/- THE CELL 'sum', in the pinned program and in every row, IS THE sha256 OF THE DUMP (.gsa) THAT YtnooamkbejbalaaProg.lean LOADS. Nothing in Lean hashes anything: it is a label: what it is worth is what the hold of that sum in a sandbox is worth. -/
noncomputable def Try.pinned : Pinned := { name := "ytnooamkbejbalaa", sum := "866d583d31e41d5c8b997ec78d1c076f914935bd7ff99d911686e2cc109c8e05", checked := Try.checked }
namespace Rows
def none {H : Type} : Left H := { results := [], args := [] }

/-- 'kraallaw05.TreePlays': WHATEVER THE INPUT: true; the input reads as it did. -/
def treePlaysSpec : ChangeSpec := { name := "treePlays", fn := fun _ => fun
  | [d1, d2, d3] => { results := [.lit (.bool true)], args := [d1, d2, d3] }
  | _ => none }
def treePlaysRow : OpenClaim := { program := "ytnooamkbejbalaa", sum := "866d583d31e41d5c8b997ec78d1c076f914935bd7ff99d911686e2cc109c8e05", func := "kraal/kraallaw05.TreePlays", spec := "treePlays", unfollowed := true, recurses := true, apart := false }
def TreePlaysSaid : Prop := treePlaysRow.holds Try.pinned (OpenSpec.ofChange treePlaysSpec)

/-- ITS FALSE NEIGHBOUR: 'it returns false'. Refute it at one input. -/
def treePlaysWrong : ChangeSpec := { name := "treePlays", fn := fun _ => fun
  | [d1, d2, d3] => { results := [.lit (.bool false)], args := [d1, d2, d3] }
  | _ => none }
def TreePlaysWrongFalsely : Prop := treePlaysRow.holds Try.pinned (OpenSpec.ofChange treePlaysWrong)

/-- 'kraallaw05.TreeIntervals': WHATEVER THE INPUT: true; the input reads as it did. -/
def treeIntervalsSpec : ChangeSpec := { name := "treeIntervals", fn := fun _ => fun
  | [d] => { results := [.lit (.bool true)], args := [d] }
  | _ => none }
def treeIntervalsRow : OpenClaim := { program := "ytnooamkbejbalaa", sum := "866d583d31e41d5c8b997ec78d1c076f914935bd7ff99d911686e2cc109c8e05", func := "kraal/kraallaw05.TreeIntervals", spec := "treeIntervals", unfollowed := true, recurses := true, apart := false }
def TreeIntervalsSaid : Prop := treeIntervalsRow.holds Try.pinned (OpenSpec.ofChange treeIntervalsSpec)

/-- ITS FALSE NEIGHBOUR: 'it returns false'. Refute it at one input. -/
def treeIntervalsWrong : ChangeSpec := { name := "treeIntervals", fn := fun _ => fun
  | [d] => { results := [.lit (.bool false)], args := [d] }
  | _ => none }
def TreeIntervalsWrongFalsely : Prop := treeIntervalsRow.holds Try.pinned (OpenSpec.ofChange treeIntervalsWrong)

/-- 'kraallaw05.TreeLeaf': WHATEVER THE INPUT: true; the input reads as it did. -/
def treeLeafSpec : ChangeSpec := { name := "treeLeaf", fn := fun _ => fun
  | [d1, d2, d3] => { results := [.lit (.bool true)], args := [d1, d2, d3] }
  | _ => none }
def treeLeafRow : OpenClaim := { program := "ytnooamkbejbalaa", sum := "866d583d31e41d5c8b997ec78d1c076f914935bd7ff99d911686e2cc109c8e05", func := "kraal/kraallaw05.TreeLeaf", spec := "treeLeaf", unfollowed := true, recurses := true, apart := false }
def TreeLeafSaid : Prop := treeLeafRow.holds Try.pinned (OpenSpec.ofChange treeLeafSpec)

/-- ITS FALSE NEIGHBOUR: 'it returns false'. Refute it at one input. -/
def treeLeafWrong : ChangeSpec := { name := "treeLeaf", fn := fun _ => fun
  | [d1, d2, d3] => { results := [.lit (.bool false)], args := [d1, d2, d3] }
  | _ => none }
def TreeLeafWrongFalsely : Prop := treeLeafRow.holds Try.pinned (OpenSpec.ofChange treeLeafWrong)

/- THE SECOND FORM. 'bulk': how many values and letters a reading holds, each counted each time it is reached (what is shared counts as often as it is met; a slice's spare places count too). A statement '..UptoSaid' is the law's where the arguments, and the package variables that the reading takes, are together of bulk at most 1048576: NARROWER than '..Said'. Prove '..Said' where nothing that the law and all that it calls make is longer than what came in: it says more and counts as full. Else prove '..UptoSaid'. A law counts once. -/
mutual
def uptoBulk {H : Type} : DataW H → Nat
  | .lit (.string bytes) => bytes.length + 1
  | .lit _ => 1
  | .nil => 1
  | .ptr d => uptoBulk d + 1
  | .slice elems spare => uptoBulkAll elems + uptoBulkAll spare + 1
  | .agg parts => uptoBulkAll parts + 1
  | .iface _ d => uptoBulk d + 1
  | .map entries => uptoBulkEntries entries + 1
  | .held _ => 1
def uptoBulkAll {H : Type} : List (DataW H) → Nat
  | [] => 0
  | d :: r => uptoBulk d + uptoBulkAll r
def uptoBulkEntries {H : Type} : List (Lit × DataW H) → Nat
  | [] => 0
  | x :: r => uptoBulkEntry x + uptoBulkEntries r
def uptoBulkEntry {H : Type} : Lit × DataW H → Nat
  | (.string bytes, d) => bytes.length + uptoBulk d + 1
  | (_, d) => uptoBulk d + 1
 end
def uptoSmall : (H : Type) → List (DataW H) → Bool := fun _ ds => decide (uptoBulkAll ds ≤ 1048576)
def OpenSpec.upto (s : _root_.Go.ChangeSpec) : _root_.Go.OpenSpec := { _root_.Go.OpenSpec.ofChange s with cond := some uptoSmall }

/-- 'kraallaw05.TreePlays', WHERE WHAT IT READS IS OF BULK AT MOST 1048576: true; the input reads as it did. -/
def treePlaysUptoRow : OpenClaim := { program := "ytnooamkbejbalaa", sum := "866d583d31e41d5c8b997ec78d1c076f914935bd7ff99d911686e2cc109c8e05", func := "kraal/kraallaw05.TreePlays", spec := "treePlays", unfollowed := true, recurses := true, apart := false, narrowed := true }
def TreePlaysUptoSaid : Prop := treePlaysUptoRow.holds Try.pinned (OpenSpec.upto treePlaysSpec)

/-- 'kraallaw05.TreeIntervals', WHERE WHAT IT READS IS OF BULK AT MOST 1048576: true; the input reads as it did. -/
def treeIntervalsUptoRow : OpenClaim := { program := "ytnooamkbejbalaa", sum := "866d583d31e41d5c8b997ec78d1c076f914935bd7ff99d911686e2cc109c8e05", func := "kraal/kraallaw05.TreeIntervals", spec := "treeIntervals", unfollowed := true, recurses := true, apart := false, narrowed := true }
def TreeIntervalsUptoSaid : Prop := treeIntervalsUptoRow.holds Try.pinned (OpenSpec.upto treeIntervalsSpec)

/-- 'kraallaw05.TreeLeaf', WHERE WHAT IT READS IS OF BULK AT MOST 1048576: true; the input reads as it did. -/
def treeLeafUptoRow : OpenClaim := { program := "ytnooamkbejbalaa", sum := "866d583d31e41d5c8b997ec78d1c076f914935bd7ff99d911686e2cc109c8e05", func := "kraal/kraallaw05.TreeLeaf", spec := "treeLeaf", unfollowed := true, recurses := true, apart := false, narrowed := true }
def TreeLeafUptoSaid : Prop := treeLeafUptoRow.holds Try.pinned (OpenSpec.upto treeLeafSpec)

end Rows
end Go.Proofs.Ytnooamkbejbalaa
