/- Package header: within, may, word. -/
import Derived.Test.YthkmnjkaadmilaaDoorDesc
import Derived.Test.YthkmnjkaadmilaaDoorHeaderPlain
import Derived.Laws.StructEq
namespace Go.Proofs.YthkmnjkaadmilaaDoor
open Go.RowKit

/-- Heads are compared as structs. -/
theorem run_eql_head (a b : Hd) (w : World) : (binOp .eql 24 (.agg #[.bool a.array, .int .i64 a.kind, .int .i64 a.ty, .int .i64 a.n]) (.agg #[.bool b.array, .int .i64 b.kind, .int .i64 b.ty, .int .i64 b.n])).run Tryd.prog w = .ok (.bool (eqH a b)) w := by
  rw [run_eql_struct, run_equalIn_struct w 9999 _ _ _ (by kernel_rfl) (by kernel_rfl)]
  obtain ⟨a0, a1, a2, a3⟩ := a
  obtain ⟨b0, b1, b2, b3⟩ := b
  simp only [eqH]
  cases h0 : (a0 == b0) <;> cases h1 : (a1 == b1) <;> cases h2 : (a2 == b2) <;>
  simp [Program.fieldsOf, Tryd.underlying24, Op.eqFields, part, isAgg, run_underlying Tryd.underlying3, run_underlying Tryd.underlying4, run_equalIn_int _ 9998 3 .i64 .i64 _ _ Tryd.underlying3, run_equalIn_bool' _ 9998 4 _ _ Tryd.underlying4, h0, h1, h2]
  by_cases h3 : a3 = b3 <;> simp [h3]
theorem run_neq_head (a b : Hd) (w : World) : (binOp .neq 24 (.agg #[.bool a.array, .int .i64 a.kind, .int .i64 a.ty, .int .i64 a.n]) (.agg #[.bool b.array, .int .i64 b.kind, .int .i64 b.ty, .int .i64 b.n])).run Tryd.prog w = .ok (.bool (!eqH a b)) w := by
  rw [run_neq_struct, run_equalIn_struct w 9999 _ _ _ (by kernel_rfl) (by kernel_rfl)]
  obtain ⟨a0, a1, a2, a3⟩ := a
  obtain ⟨b0, b1, b2, b3⟩ := b
  simp only [eqH]
  cases h0 : (a0 == b0) <;> cases h1 : (a1 == b1) <;> cases h2 : (a2 == b2) <;>
  simp [Program.fieldsOf, Tryd.underlying24, Op.eqFields, part, isAgg, run_underlying Tryd.underlying3, run_underlying Tryd.underlying4, run_equalIn_int _ 9998 3 .i64 .i64 _ _ Tryd.underlying3, run_equalIn_bool' _ 9998 4 _ _ Tryd.underlying4, h0, h1, h2]
  by_cases h3 : a3 = b3 <;> simp [h3]
theorem run_guard_head (op : BinOp) (x y : Operand) (a0 b0 : Bool) (a1 a2 a3 b1 b2 b3 : Int) (w : World) : (eqGuard op 24 x y (.agg #[.bool a0, .int .i64 a1, .int .i64 a2, .int .i64 a3]) (.agg #[.bool b0, .int .i64 b1, .int .i64 b2, .int .i64 b3])).run Tryd.prog w = .ok () w :=
  run_eqGuard_agg w op _ x y _ _ (by kernel_rfl)

end Go.Proofs.YthkmnjkaadmilaaDoor
