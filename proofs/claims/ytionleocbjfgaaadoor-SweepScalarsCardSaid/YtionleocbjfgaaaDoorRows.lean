/-
  NARROWER THAN 'FOR EVERY INPUT', by the rows' own cells (each row's printed sentence says how): SweepMissing: laid · SweepScalars: laid.
  DERIVED. THE GIVEN ROWS OF THIS SEAT. 2 by the template 'for every input the law returns true; each argument reads behind the call as it read before'; 0 by the template 'total and deterministic' (their statements: YtionleocbjfgaaaDoorTotals.lean).
  GIVEN WITH THE SEED: the statements are not yours to turn. If you find one false, say at which input.
  Laid BY PROGRAM, IN A SANDBOX (cutbox-rows.mjs): the forced cells as the released guide's own fill.sh prints them over the translation 18ef321eb1f5315b… (all of the seat's roots in one cut). By AI agents, Wed Nov 11 2026. No macro, syntax, notation, axiom, sorry.
-/
import Derived.Test.YtionleocbjfgaaaDoorChecked
import GoSem.Claim
import GoSem.ClaimJoined
import GoSem.ClaimMapViews
import Derived.JoinedTies
import Derived.KernelRfl
namespace Go.Proofs.YtionleocbjfgaaaDoor
/- THE CELL 'sum', in the pinned program and in every row, IS THE sha256 OF THE DUMP (.gsa) THAT YtionleocbjfgaaaDoorProg.lean LOADS. Nothing in Lean hashes anything: it is a label: what it is worth is what the hold of that sum in a sandbox is worth. -/
noncomputable def Tryd.pinned : Pinned := { name := "ytionleocbjfgaaadoor", sum := "18ef321eb1f5315b2e65aac9236f35dc851e0281efedd075c3e11925432975bb", checked := Tryd.checked }
namespace Rows
def none {H : Type} : Left H := { results := [], args := [] }

/- WHAT THE LISTED PACKAGE-LEVEL VARIABLES READ AS WHEN THE CALL BEGINS. Each datum BY PROGRAM (the guide's laid-datum.mjs) off the statement by which the dump's own 'gosem.cut.vars' lays the variable. In a bare row this is a premise. The card (YtionleocbjfgaaaDoorCards.lean) ties it to the program's text. -/
def laid_kraal_desc_table {H : Type} : DataW H := .agg [.agg [.lit (.bool false), .lit (.int .i64 0)], .agg [.lit (.bool true), .lit (.int .i64 1)], .agg [.lit (.bool true), .lit (.int .i64 1)], .agg [.lit (.bool true), .lit (.int .i64 1)]]

/-- 'kraallaw18.SweepMissing': WHATEVER THE INPUT: true; the input reads as it did. -/
def sweepMissingSpec : ChangeSpec := { name := "sweepMissing", fn := fun _ => fun
  | [d1, d2, d3] => { results := [.lit (.bool true)], args := [d1, d2, d3] }
  | _ => none }
def sweepMissingRow : OpenClaim := { program := "ytionleocbjfgaaadoor", sum := "18ef321eb1f5315b2e65aac9236f35dc851e0281efedd075c3e11925432975bb", func := "kraal/kraallaw18.SweepMissing", spec := "sweepMissing", unfollowed := true, recurses := true, named := ["kraal/desc.table"], apart := false, laid := [("kraal/desc.table", laid_kraal_desc_table)] }
def SweepMissingSaid : Prop := sweepMissingRow.holds Tryd.pinned (OpenSpec.ofChange sweepMissingSpec)

/-- ITS FALSE NEIGHBOUR: 'it returns false'. Refute it at one input. -/
def sweepMissingWrong : ChangeSpec := { name := "sweepMissing", fn := fun _ => fun
  | [d1, d2, d3] => { results := [.lit (.bool false)], args := [d1, d2, d3] }
  | _ => none }
def SweepMissingWrongFalsely : Prop := sweepMissingRow.holds Tryd.pinned (OpenSpec.ofChange sweepMissingWrong)

/-- 'kraallaw18.SweepScalars': WHATEVER THE INPUT: true; the input reads as it did. -/
def sweepScalarsSpec : ChangeSpec := { name := "sweepScalars", fn := fun _ => fun
  | [d1, d2, d3] => { results := [.lit (.bool true)], args := [d1, d2, d3] }
  | _ => none }
def sweepScalarsRow : OpenClaim := { program := "ytionleocbjfgaaadoor", sum := "18ef321eb1f5315b2e65aac9236f35dc851e0281efedd075c3e11925432975bb", func := "kraal/kraallaw18.SweepScalars", spec := "sweepScalars", unfollowed := true, recurses := true, named := ["kraal/desc.table"], apart := false, laid := [("kraal/desc.table", laid_kraal_desc_table)] }
def SweepScalarsSaid : Prop := sweepScalarsRow.holds Tryd.pinned (OpenSpec.ofChange sweepScalarsSpec)

/-- ITS FALSE NEIGHBOUR: 'it returns false'. Refute it at one input. -/
def sweepScalarsWrong : ChangeSpec := { name := "sweepScalars", fn := fun _ => fun
  | [d1, d2, d3] => { results := [.lit (.bool false)], args := [d1, d2, d3] }
  | _ => none }
def SweepScalarsWrongFalsely : Prop := sweepScalarsRow.holds Tryd.pinned (OpenSpec.ofChange sweepScalarsWrong)

/- THE SECOND FORM. 'bulk': how many values and letters a reading holds, each counted each time it is reached (what is shared counts as often as it is met; a slice's spare places count too). A statement '..UptoSaid' is the law's where the arguments, and the package variables that the reading takes, are together of bulk at most 1048576: NARROWER than '..Said'. Prove '..Said' where nothing that the law and all that it calls make is longer than what came in: it says more and counts as full. Else prove '..UptoSaid'. A law counts once. -/
mutual
def uptoBulk {H : Type} : DataW H → Nat
  | .lit (.string bytes) => bytes.length + 1
  | .lit _ => 1
  | .nil => 1
  | .ptr d => uptoBulk d + 1
  | .slice elems spare => uptoBulkAll elems + uptoBulkAll spare + 1
  | .agg parts => uptoBulkAll parts + 1
  | .iface _ d => uptoBulk d + 1
  | .map entries => uptoBulkEntries entries + 1
  | .held _ => 1
def uptoBulkAll {H : Type} : List (DataW H) → Nat
  | [] => 0
  | d :: r => uptoBulk d + uptoBulkAll r
def uptoBulkEntries {H : Type} : List (Lit × DataW H) → Nat
  | [] => 0
  | x :: r => uptoBulkEntry x + uptoBulkEntries r
def uptoBulkEntry {H : Type} : Lit × DataW H → Nat
  | (.string bytes, d) => bytes.length + uptoBulk d + 1
  | (_, d) => uptoBulk d + 1
 end
def uptoSmall : (H : Type) → List (DataW H) → Bool := fun _ ds => decide (uptoBulkAll ds ≤ 1048576)
def OpenSpec.upto (s : _root_.Go.ChangeSpec) : _root_.Go.OpenSpec := { _root_.Go.OpenSpec.ofChange s with cond := some uptoSmall }

/-- 'kraallaw18.SweepMissing', WHERE WHAT IT READS IS OF BULK AT MOST 1048576: true; the input reads as it did. -/
def sweepMissingUptoRow : OpenClaim := { program := "ytionleocbjfgaaadoor", sum := "18ef321eb1f5315b2e65aac9236f35dc851e0281efedd075c3e11925432975bb", func := "kraal/kraallaw18.SweepMissing", spec := "sweepMissing", unfollowed := true, recurses := true, named := ["kraal/desc.table"], apart := false, laid := [("kraal/desc.table", laid_kraal_desc_table)], narrowed := true }
def SweepMissingUptoSaid : Prop := sweepMissingUptoRow.holds Tryd.pinned (OpenSpec.upto sweepMissingSpec)

/-- 'kraallaw18.SweepScalars', WHERE WHAT IT READS IS OF BULK AT MOST 1048576: true; the input reads as it did. -/
def sweepScalarsUptoRow : OpenClaim := { program := "ytionleocbjfgaaadoor", sum := "18ef321eb1f5315b2e65aac9236f35dc851e0281efedd075c3e11925432975bb", func := "kraal/kraallaw18.SweepScalars", spec := "sweepScalars", unfollowed := true, recurses := true, named := ["kraal/desc.table"], apart := false, laid := [("kraal/desc.table", laid_kraal_desc_table)], narrowed := true }
def SweepScalarsUptoSaid : Prop := sweepScalarsUptoRow.holds Tryd.pinned (OpenSpec.upto sweepScalarsSpec)

end Rows
end Go.Proofs.YtionleocbjfgaaaDoor
