/- Package header: within, may, word. -/
import Derived.Test.YthnoohghjcfghaaDesc
import Derived.Test.YthnoohghjcfghaaHeaderPlain
import Derived.Laws.StructEq
namespace Go.Proofs.Ythnoohghjcfghaa
open Go.RowKit

/-- Heads are compared as structs. -/
theorem run_eql_head (a b : Hd) (w : World) : (binOp .eql 32 (.agg #[.bool a.array, .int .i64 a.kind, .int .i64 a.ty, .int .i64 a.n]) (.agg #[.bool b.array, .int .i64 b.kind, .int .i64 b.ty, .int .i64 b.n])).run Try.prog w = .ok (.bool (eqH a b)) w := by
  rw [run_eql_struct, run_equalIn_struct w 9999 _ _ _ (by kernel_rfl) (by kernel_rfl)]
  obtain ⟨a0, a1, a2, a3⟩ := a
  obtain ⟨b0, b1, b2, b3⟩ := b
  simp only [eqH]
  cases h0 : (a0 == b0) <;> cases h1 : (a1 == b1) <;> cases h2 : (a2 == b2) <;>
  simp [Program.fieldsOf, Try.underlying32, Op.eqFields, part, isAgg, run_underlying Try.underlying3, run_underlying Try.underlying4, run_equalIn_int _ 9998 3 .i64 .i64 _ _ Try.underlying3, run_equalIn_bool' _ 9998 4 _ _ Try.underlying4, h0, h1, h2]
  by_cases h3 : a3 = b3 <;> simp [h3]
theorem run_neq_head (a b : Hd) (w : World) : (binOp .neq 32 (.agg #[.bool a.array, .int .i64 a.kind, .int .i64 a.ty, .int .i64 a.n]) (.agg #[.bool b.array, .int .i64 b.kind, .int .i64 b.ty, .int .i64 b.n])).run Try.prog w = .ok (.bool (!eqH a b)) w := by
  rw [run_neq_struct, run_equalIn_struct w 9999 _ _ _ (by kernel_rfl) (by kernel_rfl)]
  obtain ⟨a0, a1, a2, a3⟩ := a
  obtain ⟨b0, b1, b2, b3⟩ := b
  simp only [eqH]
  cases h0 : (a0 == b0) <;> cases h1 : (a1 == b1) <;> cases h2 : (a2 == b2) <;>
  simp [Program.fieldsOf, Try.underlying32, Op.eqFields, part, isAgg, run_underlying Try.underlying3, run_underlying Try.underlying4, run_equalIn_int _ 9998 3 .i64 .i64 _ _ Try.underlying3, run_equalIn_bool' _ 9998 4 _ _ Try.underlying4, h0, h1, h2]
  by_cases h3 : a3 = b3 <;> simp [h3]
theorem run_guard_head (op : BinOp) (x y : Operand) (a0 b0 : Bool) (a1 a2 a3 b1 b2 b3 : Int) (w : World) : (eqGuard op 32 x y (.agg #[.bool a0, .int .i64 a1, .int .i64 a2, .int .i64 a3]) (.agg #[.bool b0, .int .i64 b1, .int .i64 b2, .int .i64 b3])).run Try.prog w = .ok () w :=
  run_eqGuard_agg w op _ x y _ _ (by kernel_rfl)

theorem within_any (n l m : Int) (w : World) : Calls Try.prog 50 #[.int .i64 n, .int .i64 l, .int .i64 m] w fun e w' => e = .returned (.bool (withinB n l m)) ∧ w = w' := by
  by_cases h0 : l ≤ n
  · have h0' : decide (l ≤ n) = true := by simpa using h0
    obtain ⟨b, hb⟩ : ∃ b, decide (n ≤ m) = b := ⟨_, rfl⟩
    have HS := Lib.hid (show withinB n l m = b by rw [← hb]; simp [withinB, h0])
    go_enter Try.func50, Try.ntmps50
    go_wp2
    go_ret
    exact ⟨by rw [HS.out]; rfl, rfl⟩
  · have h0' : decide (l ≤ n) = false := by simpa using h0
    have HS := Lib.hid (show withinB n l m = false by simp [withinB, h0])
    go_enter Try.func50, Try.ntmps50
    go_wp2
    go_ret
    exact ⟨by rw [HS.out]; rfl, rfl⟩

set_option maxHeartbeats 2000000 in
theorem may_any (ar : Bool) (k t n : Int) (w : World) : Calls Try.prog 43 #[.agg #[.bool ar, .int .i64 k, .int .i64 t, .int .i64 n]] w fun e w' => e = .returned (.bool (mayH ⟨ar, k, t, n⟩)) ∧ Kept [] w w' := by
  have rB := Row.new w 32 [.bool ar, .int .i64 k, .int .i64 t, .int .i64 n]
  have kB := (Kept.refl [] w).alloc (.cells #[.bool ar, .int .i64 k, .int .i64 t, .int .i64 n] 32)
  have hgu := fun op x y b0 b1 b2 b3 => run_guard_head op x y ar b0 k t n b1 b2 b3
  cases ar
  · have heq := fun w => run_eql_head ⟨false, k, t, n⟩ ⟨false, 0, t, n⟩ w
    obtain ⟨e1, he1⟩ : ∃ e1, eqH ⟨false, k, t, n⟩ ⟨false, 0, t, n⟩ = e1 := ⟨_, rfl⟩
    have HS := Lib.hid (show mayH ⟨false, k, t, n⟩ = (e1 && (withinB t 0 31 && withinB n 1 60)) by rw [← he1]; simp [mayH, eqH])
    rw [he1] at heq
    clear he1
    simp only at heq
    go_enter Try.func43, Try.ntmps43
    cases e1
    · go_wp2
      go_ret
      exact ⟨by rw [HS.out]; rfl, kB⟩
    · go_wp2_with fail
      refine (within_any t 0 31 _).mono ?_
      rintro e w2 ⟨rfl, rfl⟩
      cases h2 : withinB t 0 31 <;> rw [h2] at HS
      · go_wp2
        go_ret
        exact ⟨by rw [HS.out]; rfl, kB⟩
      · go_wp2_with fail
        refine (within_any n 1 60 _).mono ?_
        rintro e w2 ⟨rfl, rfl⟩
        go_wp2
        go_ret
        exact ⟨by rw [HS.out]; rfl, kB⟩
  · have heq := fun w => run_eql_head ⟨true, k, t, n⟩ ⟨true, k, 0, n⟩ w
    obtain ⟨e1, he1⟩ : ∃ e1, eqH ⟨true, k, t, n⟩ ⟨true, k, 0, n⟩ = e1 := ⟨_, rfl⟩
    have HS := Lib.hid (show mayH ⟨true, k, t, n⟩ = (e1 && (kindB k && withinB n 0 4000)) by
      rw [← he1]; simp only [mayH, eqH, if_true, beq_self_eq_true, Bool.true_and, Bool.and_true]
      cases kindB k <;> cases withinB n 0 4000 <;> cases (t == 0) <;> rfl)
    rw [he1] at heq
    clear he1
    simp only at heq
    go_enter Try.func43, Try.ntmps43
    cases e1
    · go_wp2
      go_ret
      exact ⟨by rw [HS.out]; rfl, kB⟩
    · go_wp2_with fail
      refine (descKind_any k _).mono ?_
      rintro e w2 ⟨rfl, rfl⟩
      cases h2 : kindB k <;> rw [h2] at HS
      · go_wp2
        go_ret
        exact ⟨by rw [HS.out]; rfl, kB⟩
      · go_wp2_with fail
        refine (within_any n 0 4000 _).mono ?_
        rintro e w2 ⟨rfl, rfl⟩
        go_wp2
        go_ret
        exact ⟨by rw [HS.out]; rfl, kB⟩

set_option maxHeartbeats 2000000 in
theorem word_any (ar : Bool) (k t n : Int) (w : World) (hm : mayH ⟨ar, k, t, n⟩ = true) : Calls Try.prog 45 #[.agg #[.bool ar, .int .i64 k, .int .i64 t, .int .i64 n]] w fun e w' => e = .returned (.int .u64 (wordH ⟨ar, k, t, n⟩)) ∧ Kept [] w w' := by
  have rB := Row.new w 32 [.bool ar, .int .i64 k, .int .i64 t, .int .i64 n]
  have kB := (Kept.refl [] w).alloc (.cells #[.bool ar, .int .i64 k, .int .i64 t, .int .i64 n] 32)
  have hr := mayH_range hm
  simp only at hr
  have u : ∀ x : Int, 0 ≤ x → x < 18446744073709551616 → IntKind.u64.wrap x = x := fun x h1 h2 => by rw [IntKind.wrap_u64]; omega
  have u1 := u k (by omega) (by omega)
  have u2 := u (k * 4) (by omega) (by omega)
  have u3 := u (1 + k * 4) (by omega) (by omega)
  have u4 := u t (by omega) (by omega)
  have u5 := u (t * 256) (by omega) (by omega)
  have u6 := u (1 + k * 4 + t * 256) (by omega) (by omega)
  have u7 := u n (by omega) (by omega)
  have u8 := u (n * 65536) (by omega) (by omega)
  have u9 := u (1 + k * 4 + t * 256 + n * 65536) (by omega) (by omega)
  have u10 := u (1 + k * 4 + t * 256 + n * 65536 + 2) (by omega) (by omega)
  clear u hr hm
  cases ar
  · have HS := Lib.hid (show wordH ⟨false, k, t, n⟩ = 1 + k * 4 + t * 256 + n * 65536 by simp [wordH])
    go_enter Try.func45, Try.ntmps45
    go_wp2
    go_ret
    exact ⟨by rw [HS.out]; rfl, kB⟩
  · have HS := Lib.hid (show wordH ⟨true, k, t, n⟩ = 1 + k * 4 + t * 256 + n * 65536 + 2 by simp [wordH])
    go_enter Try.func45, Try.ntmps45
    go_wp2
    go_ret
    exact ⟨by rw [HS.out]; rfl, kB⟩
end Go.Proofs.Ythnoohghjcfghaa
