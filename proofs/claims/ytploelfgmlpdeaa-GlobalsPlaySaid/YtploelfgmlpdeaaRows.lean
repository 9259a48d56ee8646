/-
  No cell of these rows narrows 'for every input' (looked for: loops, veiled, ifaces, maps, wideKeys, modest, calm, conditions, laid).
  DERIVED. THE GIVEN ROWS OF THIS SEAT. 2 by the template 'for every input the law returns true; each argument reads behind the call as it read before'; 0 by the template 'total and deterministic' (their statements: YtploelfgmlpdeaaTotals.lean).
  GIVEN WITH THE SEED: the statements are not yours to turn. If you find one false, say at which input.
  Laid BY PROGRAM, IN A SANDBOX (cutbox-rows.mjs): the forced cells as the released guide's own fill.sh prints them over the translation 093d1ac95d620dbc… (all of the seat's roots in one cut). By AI agents, Wed Nov 11 2026. No macro, syntax, notation, axiom, sorry.
-/
import Derived.Test.YtploelfgmlpdeaaChecked
import GoSem.Claim
import GoSem.ClaimJoined
import GoSem.ClaimMapViews
import Derived.JoinedTies
import Derived.KernelRfl
namespace Go.Proofs.Ytploelfgmlpdeaa
/- THE CELL 'sum', in the pinned program and in every row, IS THE sha256 OF THE DUMP (.gsa) THAT YtploelfgmlpdeaaProg.lean LOADS. Nothing in Lean hashes anything: it is a label: what it is worth is what the hold of that sum in a sandbox is worth. -/
noncomputable def Try.pinned : Pinned := { name := "ytploelfgmlpdeaa", sum := "093d1ac95d620dbc70953eac4fc57d98359d1baa15f27d4b820ce675236902f5", checked := Try.checked }
namespace Rows
def none {H : Type} : Left H := { results := [], args := [] }

/-- 'kraallaw16.GlobalsPlay': WHATEVER THE INPUT: true; the input reads as it did. -/
def globalsPlaySpec : ChangeSpec := { name := "globalsPlay", fn := fun _ => fun
  | [d1, d2, d3] => { results := [.lit (.bool true)], args := [d1, d2, d3] }
  | _ => none }
def globalsPlayRow : OpenClaim := { program := "ytploelfgmlpdeaa", sum := "093d1ac95d620dbc70953eac4fc57d98359d1baa15f27d4b820ce675236902f5", func := "kraal/kraallaw16.GlobalsPlay", spec := "globalsPlay", apart := false }
def GlobalsPlaySaid : Prop := globalsPlayRow.holds Try.pinned (OpenSpec.ofChange globalsPlaySpec)

/-- ITS FALSE NEIGHBOUR: 'it returns false'. Refute it at one input. -/
def globalsPlayWrong : ChangeSpec := { name := "globalsPlay", fn := fun _ => fun
  | [d1, d2, d3] => { results := [.lit (.bool false)], args := [d1, d2, d3] }
  | _ => none }
def GlobalsPlayWrongFalsely : Prop := globalsPlayRow.holds Try.pinned (OpenSpec.ofChange globalsPlayWrong)

/-- 'kraallaw16.GlobalsApart': WHATEVER THE INPUT: true; the input reads as it did. -/
def globalsApartSpec : ChangeSpec := { name := "globalsApart", fn := fun _ => fun
  | [d1, d2] => { results := [.lit (.bool true)], args := [d1, d2] }
  | _ => none }
def globalsApartRow : OpenClaim := { program := "ytploelfgmlpdeaa", sum := "093d1ac95d620dbc70953eac4fc57d98359d1baa15f27d4b820ce675236902f5", func := "kraal/kraallaw16.GlobalsApart", spec := "globalsApart", apart := false }
def GlobalsApartSaid : Prop := globalsApartRow.holds Try.pinned (OpenSpec.ofChange globalsApartSpec)

/-- ITS FALSE NEIGHBOUR: 'it returns false'. Refute it at one input. -/
def globalsApartWrong : ChangeSpec := { name := "globalsApart", fn := fun _ => fun
  | [d1, d2] => { results := [.lit (.bool false)], args := [d1, d2] }
  | _ => none }
def GlobalsApartWrongFalsely : Prop := globalsApartRow.holds Try.pinned (OpenSpec.ofChange globalsApartWrong)

/- THE SECOND FORM. 'bulk': how many values and letters a reading holds, each counted each time it is reached (what is shared counts as often as it is met; a slice's spare places count too). A statement '..UptoSaid' is the law's where the arguments, and the package variables that the reading takes, are together of bulk at most 1048576: NARROWER than '..Said'. Prove '..Said' where nothing that the law and all that it calls make is longer than what came in: it says more and counts as full. Else prove '..UptoSaid'. A law counts once. -/
mutual
def uptoBulk {H : Type} : DataW H → Nat
  | .lit (.string bytes) => bytes.length + 1
  | .lit _ => 1
  | .nil => 1
  | .ptr d => uptoBulk d + 1
  | .slice elems spare => uptoBulkAll elems + uptoBulkAll spare + 1
  | .agg parts => uptoBulkAll parts + 1
  | .iface _ d => uptoBulk d + 1
  | .map entries => uptoBulkEntries entries + 1
  | .held _ => 1
def uptoBulkAll {H : Type} : List (DataW H) → Nat
  | [] => 0
  | d :: r => uptoBulk d + uptoBulkAll r
def uptoBulkEntries {H : Type} : List (Lit × DataW H) → Nat
  | [] => 0
  | x :: r => uptoBulkEntry x + uptoBulkEntries r
def uptoBulkEntry {H : Type} : Lit × DataW H → Nat
  | (.string bytes, d) => bytes.length + uptoBulk d + 1
  | (_, d) => uptoBulk d + 1
 end
def uptoSmall : (H : Type) → List (DataW H) → Bool := fun _ ds => decide (uptoBulkAll ds ≤ 1048576)
def OpenSpec.upto (s : _root_.Go.ChangeSpec) : _root_.Go.OpenSpec := { _root_.Go.OpenSpec.ofChange s with cond := some uptoSmall }

/-- 'kraallaw16.GlobalsPlay', WHERE WHAT IT READS IS OF BULK AT MOST 1048576: true; the input reads as it did. -/
def globalsPlayUptoRow : OpenClaim := { program := "ytploelfgmlpdeaa", sum := "093d1ac95d620dbc70953eac4fc57d98359d1baa15f27d4b820ce675236902f5", func := "kraal/kraallaw16.GlobalsPlay", spec := "globalsPlay", apart := false, narrowed := true }
def GlobalsPlayUptoSaid : Prop := globalsPlayUptoRow.holds Try.pinned (OpenSpec.upto globalsPlaySpec)

/-- 'kraallaw16.GlobalsApart', WHERE WHAT IT READS IS OF BULK AT MOST 1048576: true; the input reads as it did. -/
def globalsApartUptoRow : OpenClaim := { program := "ytploelfgmlpdeaa", sum := "093d1ac95d620dbc70953eac4fc57d98359d1baa15f27d4b820ce675236902f5", func := "kraal/kraallaw16.GlobalsApart", spec := "globalsApart", apart := false, narrowed := true }
def GlobalsApartUptoSaid : Prop := globalsApartUptoRow.holds Try.pinned (OpenSpec.upto globalsApartSpec)

end Rows
end Go.Proofs.Ytploelfgmlpdeaa
