/- Package plan: New, Left, Need. -/
import Derived.Test.YtenhelbmcapfkaaPlanPlain
import Derived.Test.YtenhelbmcapfkaaProg
import Derived.Laws.StructEq
namespace Go.Proofs.Ytenhelbmcapfkaa
open Go.RowKit

/-- Block B is a plan. -/
def IsPlan (w : World) (B : Nat) (x : Pl) : Prop := Row w B 106 [.int .i64 x.p, .int .i64 x.u]
theorem IsPlan.kept {w w' : World} {S : List Nat} {B : Nat} {x : Pl} (h : IsPlan w B x) (hk : Kept S w w') (hn : B ∉ S) : IsPlan w' B x := Row.kept h hk hn
/-- Grounds are compared as structs. -/
theorem run_eql_ground (a b : Int) (w : World) : (binOp .eql 104 (.agg #[.int .i64 a, .int .i64 b]) (.agg #[.int .i64 0, .int .i64 0])).run Try.prog w = .ok (.bool (decide (a = 0 ∧ b = 0))) w := by
  rw [run_eql_struct, run_equalIn_struct w 9999 _ _ _ (by kernel_rfl) (by kernel_rfl)]
  by_cases h0 : a = 0 <;> by_cases h1 : b = 0 <;>
  simp [Program.fieldsOf, Try.underlying104, Op.eqFields, part, isAgg, run_underlying Try.underlying3, run_equalIn_int _ 9998 3 .i64 .i64 _ _ Try.underlying3, h0, h1]
theorem run_guard_ground (op : BinOp) (x y : Operand) (a b a' b' : Int) (w : World) : (eqGuard op 104 x y (.agg #[.int .i64 a, .int .i64 b]) (.agg #[.int .i64 a', .int .i64 b'])).run Try.prog w = .ok () w :=
  run_eqGuard_agg w op _ x y _ _ (by kernel_rfl)

set_option maxHeartbeats 1000000 in
theorem planNew_any (w : World) : Calls Try.prog 33 #[] w fun e w' => ∃ B, e = .returned (.pointer (some ⟨B, 0, none⟩)) ∧ w.heap.size ≤ B ∧ IsPlan w' B ⟨0, 0⟩ ∧ Kept [] w w' := by
  go_enter Try.func33, Try.ntmps33
  go_wp2
  go_ret
  exact ⟨_, rfl, Nat.le_refl _, Row.new w _ _, (Kept.refl _ _).alloc _⟩

set_option maxHeartbeats 1000000 in
theorem planLeft_any (B : Nat) (x : Pl) (w : World) (h : IsPlan w B x) (hx : x.ok) : Calls Try.prog 59 #[.pointer (some ⟨B, 0, none⟩)] w fun e w' => e = .returned (.int .i64 x.left) ∧ w = w' := by
  obtain ⟨p, u⟩ := x
  have c0 : w.cell? ⟨B, 0, none⟩ = some (.int .i64 p) := by simpa using h.cell 0
  have c1 : w.cell? ⟨B, 1, none⟩ = some (.int .i64 u) := by simpa using h.cell 1
  have heq := fun w => run_eql_ground p u w
  have hgu := fun op y z b0 b1 => run_guard_ground op y z p u b0 b1
  by_cases h0 : p = 0 ∧ u = 0
  · have HS := Lib.hid (show Pl.left ⟨p, u⟩ = 0 by unfold Pl.left; rw [if_pos h0])
    have hd : decide (p = 0 ∧ u = 0) = true := by simpa using h0
    rw [hd] at heq
    clear h0 hd hx h
    go_enter Try.func59, Try.ntmps59
    go_wp2
    go_ret
    exact ⟨by rw [HS.out]; rfl, rfl⟩
  · have HS := Lib.hid (show Pl.left ⟨p, u⟩ = 16 - u by unfold Pl.left; rw [if_neg h0])
    have hd : decide (p = 0 ∧ u = 0) = false := by simpa using h0
    have hu : IntKind.i64.wrap (16 - u) = 16 - u := by unfold Pl.ok at hx; simp only at hx; rw [IntKind.wrap_i64]; omega
    rw [hd] at heq
    clear h0 hd hx h
    go_enter Try.func59, Try.ntmps59
    go_wp2
    go_ret
    exact ⟨by rw [HS.out]; rfl, rfl⟩
end Go.Proofs.Ytenhelbmcapfkaa
