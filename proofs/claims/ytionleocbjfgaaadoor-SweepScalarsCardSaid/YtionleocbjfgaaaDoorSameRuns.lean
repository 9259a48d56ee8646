/- kraalref06's Same on slices of the same runs. -/
import Derived.Test.YtionleocbjfgaaaDoorRuns
import Derived.Test.YtionleocbjfgaaaDoorNum
import Derived.Laws.StructEq
import Derived.Deep.QuietTactic
namespace Go.Proofs.YtionleocbjfgaaaDoor
open Go.RowKit

/-- Equal runs are not unlike. -/
theorem run_neq_run (x y : Int) (w : World) : (binOp .neq 41 (.agg #[.int .i64 x, .int .i64 y]) (.agg #[.int .i64 x, .int .i64 y])).run Tryd.prog w = .ok (.bool false) w := by
  rw [run_neq_struct, run_equalIn_struct w 9999 _ _ _ (by kernel_rfl) (by kernel_rfl)]
  simp [Program.fieldsOf, Tryd.underlying41, Op.eqFields, part, isAgg, run_underlying Tryd.underlying3, run_equalIn_int _ 9998 3 .i64 .i64 _ _ Tryd.underlying3]
theorem run_guard_run (x y : Operand) (a b c d : Int) (w : World) : (eqGuard .neq 41 x y (.agg #[.int .i64 a, .int .i64 b]) (.agg #[.int .i64 c, .int .i64 d])).run Tryd.prog w = .ok () w :=
  run_eqGuard_agg w .neq _ x y _ _ (by kernel_rfl)

set_option maxRecDepth 100000 in
set_option maxHeartbeats 2000000 in
/-- Two slices of the same runs. -/
theorem refSame06_yes (A B : Option Addr) (n m ca cb : Nat) (rs : List RunN) (w : World) (ha : SlR w A rs) (hb : SlR w B rs) (hn : rs.length = n) (hm : rs.length = m) (hx : n ≤ 1099511627776) :
    Calls Tryd.prog 10 #[.slice A n ca, .slice B m cb] w (FixedPost w) := by
  subst hn
  subst hm
  go_enter Tryd.func10, Tryd.ntmps10
  go_wp2_with fail
  go_loopw [5] (fun i wr => ∃ j : Nat, j ≤ rs.length ∧ i = .int .i64 j ∧ Kept [] w wr) (fun i _ => rs.length - (intOf i).toNat)
  case atStart => exact ⟨0, Nat.zero_le _, rfl, Kept.refl _ _⟩
  case round =>
    obtain ⟨j, hj, rfl, hkr⟩ := hrel
    by_cases hlt : j < rs.length
    · obtain ⟨b, off, rfl, _, cA0, cA1⟩ := (ha.kept hkr).cell hlt
      obtain ⟨b', off', rfl, _, cB0, cB1⟩ := (hb.kept hkr).cell hlt
      generalize rs[j] = y at cA0 cA1 cB0 cB1
      obtain ⟨y1, y2⟩ := y
      simp only at cA0 cA1 cB0 cB1
      have h1 : (j : Int) < (rs.length : Int) := by omega
      have hne := run_neq_run y1 y2
      have hgu := fun x y => run_guard_run x y y1 y2 y1 y2
      go_wp2_with fail
      go_quiet (fail)
      go_wp2
      go_roundw
      case rel => exact ⟨j + 1, by omega, by go_num, hkr.drewN _⟩
      case measure => simp [intOf]; omega
    · obtain rfl : j = rs.length := by omega
      go_wp2
      go_ret
      exact ⟨rfl, hkr⟩
end Go.Proofs.YtionleocbjfgaaaDoor
