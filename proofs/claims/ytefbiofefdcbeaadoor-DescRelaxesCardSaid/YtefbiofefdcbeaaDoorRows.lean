/-
  NARROWER THAN 'FOR EVERY INPUT', by the rows' own cells (each row's printed sentence says how): DescMay: laid · DescRelaxes: laid.
  DERIVED. THE GIVEN ROWS OF THIS SEAT. 2 by the template 'for every input the law returns true; each argument reads behind the call as it read before'; 0 by the template 'total and deterministic' (their statements: YtefbiofefdcbeaaDoorTotals.lean).
  GIVEN WITH THE SEED: the statements are not yours to turn. If you find one false, say at which input.
  Laid BY PROGRAM, IN A SANDBOX (cutbox-rows.mjs): the forced cells as the released guide's own fill.sh prints them over the translation fd2b68518b201261… (all of the seat's roots in one cut). By AI agents, Wed Nov 11 2026. No macro, syntax, notation, axiom, sorry.
-/
import Derived.Test.YtefbiofefdcbeaaDoorChecked
import GoSem.Claim
import GoSem.ClaimJoined
import GoSem.ClaimMapViews
import Derived.JoinedTies
import Derived.KernelRfl
namespace Go.Proofs.YtefbiofefdcbeaaDoor
/- THE CELL 'sum', in the pinned program and in every row, IS THE sha256 OF THE DUMP (.gsa) THAT YtefbiofefdcbeaaDoorProg.lean LOADS. Nothing in Lean hashes anything: it is a label: what it is worth is what the hold of that sum in a sandbox is worth. -/
noncomputable def Tryd.pinned : Pinned := { name := "ytefbiofefdcbeaadoor", sum := "fd2b68518b201261bd204eefbb54eee06e30bac5b8bc977b0e2671c9352f94e8", checked := Tryd.checked }
namespace Rows
def none {H : Type} : Left H := { results := [], args := [] }

/- WHAT THE LISTED PACKAGE-LEVEL VARIABLES READ AS WHEN THE CALL BEGINS. Each datum BY PROGRAM (the guide's laid-datum.mjs) off the statement by which the dump's own 'gosem.cut.vars' lays the variable. In a bare row this is a premise. The card (YtefbiofefdcbeaaDoorCards.lean) ties it to the program's text. -/
def laid_kraal_desc_table {H : Type} : DataW H := .agg [.agg [.lit (.bool false), .lit (.int .i64 0)], .agg [.lit (.bool true), .lit (.int .i64 1)], .agg [.lit (.bool true), .lit (.int .i64 1)], .agg [.lit (.bool true), .lit (.int .i64 1)]]

/-- 'kraallaw07.DescMay': WHATEVER THE INPUT: true; the input reads as it did. -/
def descMaySpec : ChangeSpec := { name := "descMay", fn := fun _ => fun
  | [d1, d2] => { results := [.lit (.bool true)], args := [d1, d2] }
  | _ => none }
def descMayRow : OpenClaim := { program := "ytefbiofefdcbeaadoor", sum := "fd2b68518b201261bd204eefbb54eee06e30bac5b8bc977b0e2671c9352f94e8", func := "kraal/kraallaw07.DescMay", spec := "descMay", named := ["kraal/desc.table"], apart := false, laid := [("kraal/desc.table", laid_kraal_desc_table)] }
def DescMaySaid : Prop := descMayRow.holds Tryd.pinned (OpenSpec.ofChange descMaySpec)

/-- ITS FALSE NEIGHBOUR: 'it returns false'. Refute it at one input. -/
def descMayWrong : ChangeSpec := { name := "descMay", fn := fun _ => fun
  | [d1, d2] => { results := [.lit (.bool false)], args := [d1, d2] }
  | _ => none }
def DescMayWrongFalsely : Prop := descMayRow.holds Tryd.pinned (OpenSpec.ofChange descMayWrong)

/-- 'kraallaw07.DescRelaxes': WHATEVER THE INPUT: true; the input reads as it did. -/
def descRelaxesSpec : ChangeSpec := { name := "descRelaxes", fn := fun _ => fun
  | [d] => { results := [.lit (.bool true)], args := [d] }
  | _ => none }
def descRelaxesRow : OpenClaim := { program := "ytefbiofefdcbeaadoor", sum := "fd2b68518b201261bd204eefbb54eee06e30bac5b8bc977b0e2671c9352f94e8", func := "kraal/kraallaw07.DescRelaxes", spec := "descRelaxes", named := ["kraal/desc.table"], apart := false, laid := [("kraal/desc.table", laid_kraal_desc_table)] }
def DescRelaxesSaid : Prop := descRelaxesRow.holds Tryd.pinned (OpenSpec.ofChange descRelaxesSpec)

/-- ITS FALSE NEIGHBOUR: 'it returns false'. Refute it at one input. -/
def descRelaxesWrong : ChangeSpec := { name := "descRelaxes", fn := fun _ => fun
  | [d] => { results := [.lit (.bool false)], args := [d] }
  | _ => none }
def DescRelaxesWrongFalsely : Prop := descRelaxesRow.holds Tryd.pinned (OpenSpec.ofChange descRelaxesWrong)

/- THE SECOND FORM. 'bulk': how many values and letters a reading holds, each counted each time it is reached (what is shared counts as often as it is met; a slice's spare places count too). A statement '..UptoSaid' is the law's where the arguments, and the package variables that the reading takes, are together of bulk at most 1048576: NARROWER than '..Said'. Prove '..Said' where nothing that the law and all that it calls make is longer than what came in: it says more and counts as full. Else prove '..UptoSaid'. A law counts once. -/
mutual
def uptoBulk {H : Type} : DataW H → Nat
  | .lit (.string bytes) => bytes.length + 1
  | .lit _ => 1
  | .nil => 1
  | .ptr d => uptoBulk d + 1
  | .slice elems spare => uptoBulkAll elems + uptoBulkAll spare + 1
  | .agg parts => uptoBulkAll parts + 1
  | .iface _ d => uptoBulk d + 1
  | .map entries => uptoBulkEntries entries + 1
  | .held _ => 1
def uptoBulkAll {H : Type} : List (DataW H) → Nat
  | [] => 0
  | d :: r => uptoBulk d + uptoBulkAll r
def uptoBulkEntries {H : Type} : List (Lit × DataW H) → Nat
  | [] => 0
  | x :: r => uptoBulkEntry x + uptoBulkEntries r
def uptoBulkEntry {H : Type} : Lit × DataW H → Nat
  | (.string bytes, d) => bytes.length + uptoBulk d + 1
  | (_, d) => uptoBulk d + 1
 end
def uptoSmall : (H : Type) → List (DataW H) → Bool := fun _ ds => decide (uptoBulkAll ds ≤ 1048576)
def OpenSpec.upto (s : _root_.Go.ChangeSpec) : _root_.Go.OpenSpec := { _root_.Go.OpenSpec.ofChange s with cond := some uptoSmall }

/-- 'kraallaw07.DescMay', WHERE WHAT IT READS IS OF BULK AT MOST 1048576: true; the input reads as it did. -/
def descMayUptoRow : OpenClaim := { program := "ytefbiofefdcbeaadoor", sum := "fd2b68518b201261bd204eefbb54eee06e30bac5b8bc977b0e2671c9352f94e8", func := "kraal/kraallaw07.DescMay", spec := "descMay", named := ["kraal/desc.table"], apart := false, laid := [("kraal/desc.table", laid_kraal_desc_table)], narrowed := true }
def DescMayUptoSaid : Prop := descMayUptoRow.holds Tryd.pinned (OpenSpec.upto descMaySpec)

/-- 'kraallaw07.DescRelaxes', WHERE WHAT IT READS IS OF BULK AT MOST 1048576: true; the input reads as it did. -/
def descRelaxesUptoRow : OpenClaim := { program := "ytefbiofefdcbeaadoor", sum := "fd2b68518b201261bd204eefbb54eee06e30bac5b8bc977b0e2671c9352f94e8", func := "kraal/kraallaw07.DescRelaxes", spec := "descRelaxes", named := ["kraal/desc.table"], apart := false, laid := [("kraal/desc.table", laid_kraal_desc_table)], narrowed := true }
def DescRelaxesUptoSaid : Prop := descRelaxesUptoRow.holds Tryd.pinned (OpenSpec.upto descRelaxesSpec)

end Rows
end Go.Proofs.YtefbiofefdcbeaaDoor
