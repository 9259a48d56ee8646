/- The law HeaderGets: its walk. -/
import Derived.Test.YtfjglfkeeliopaaHeaderPutsLaw
namespace Go.Proofs.Ytfjglfkeeliopaa
open Go.RowKit

set_option maxRecDepth 100000 in
set_option maxHeartbeats 4000000 in
theorem headerGets_law (W : Int) (w : World) (h0 : 0 ≤ W) (h1 : W < 18446744073709551616) : Calls Try.prog 4 #[.int .u64 W] w (FixedPost w) := by
  go_enter Try.func4, Try.ntmps4
  go_wp2_with fail
  refine (get_any W w h0 h1).mono ?_
  rintro e w2 ⟨rfl, k2⟩
  obtain ⟨h, er, hG⟩ : ∃ h er, getH W = (h, er) := ⟨_, _, rfl⟩
  obtain ⟨ar, k, t, n⟩ := h
  have HG := Lib.hid hG
  have hcase : (er = 11) ∨ (er = 0 ∧ putH ⟨ar, k, t, n⟩ = (W, 0)) := by
    have := put_get (w := W)
    rw [hG] at this
    rcases Decidable.em (er = 0) with h | h
    · exact .inr ⟨h, this h⟩
    · left
      unfold getH at hG
      split at hG <;> simp_all
  rw [hG]
  clear hG
  simp only
  have rA := Row.new w2 23 [.bool ar, .int .i64 k, .int .i64 t, .int .i64 n]
  have kA := k2.alloc (.cells #[.bool ar, .int .i64 k, .int .i64 t, .int .i64 n] 23)
  go_wp2_with fail
  obtain ⟨A, hA⟩ : ∃ A, w2.heap.size = A := ⟨_, rfl⟩
  rw [hA] at rA ⊢
  generalize w2.alloc (.cells #[.bool ar, .int .i64 k, .int .i64 t, .int .i64 n] 23) = w3 at rA kA ⊢
  clear k2 hA
  refine (refGet08_any W w3 h0 h1).mono ?_
  rintro e w4 ⟨rfl, k4⟩
  rw [HG.out]
  have rA5 := (rA.kept k4 (by simp)).alloc (.cells #[.bool ar, .int .i64 k, .int .i64 t, .int .i64 n] 23)
  have rB5 := Row.new w4 23 [.bool ar, .int .i64 k, .int .i64 t, .int .i64 n]
  have kk5 := (kA.trans k4).alloc (.cells #[.bool ar, .int .i64 k, .int .i64 t, .int .i64 n] 23)
  have hgu := fun op x y => run_guard_head op x y ar ar k t n k t n
  have heq := fun w => run_neq_head ⟨ar, k, t, n⟩ ⟨ar, k, t, n⟩ w
  rw [show eqH ⟨ar, k, t, n⟩ ⟨ar, k, t, n⟩ = true by simp [eqH_iff]] at heq
  have c0 : (w4.alloc (.cells #[.bool ar, .int .i64 k, .int .i64 t, .int .i64 n] 23)).cell? ⟨A, 0, none⟩ = some (.bool ar) := by simpa using rA5.cell 0
  have c1 : (w4.alloc (.cells #[.bool ar, .int .i64 k, .int .i64 t, .int .i64 n] 23)).cell? ⟨A, 1, none⟩ = some (.int .i64 k) := by simpa using rA5.cell 1
  have c2 : (w4.alloc (.cells #[.bool ar, .int .i64 k, .int .i64 t, .int .i64 n] 23)).cell? ⟨A, 2, none⟩ = some (.int .i64 t) := by simpa using rA5.cell 2
  have c3 : (w4.alloc (.cells #[.bool ar, .int .i64 k, .int .i64 t, .int .i64 n] 23)).cell? ⟨A, 3, none⟩ = some (.int .i64 n) := by simpa using rA5.cell 3
  simp only [Bool.not_true] at heq
  simp only
  go_wp2_with fail
  generalize w4.alloc (.cells #[.bool ar, .int .i64 k, .int .i64 t, .int .i64 n] 23) = w5 at rA5 rB5 kk5 c0 c1 c2 c3 ⊢
  refine (put_any ar k t n w5).mono ?_
  rintro e w6 ⟨rfl, k6⟩
  rcases hcase with rfl | ⟨rfl, hp⟩
  · obtain ⟨X, f, hX⟩ : ∃ X f, putH ⟨ar, k, t, n⟩ = (X, f) := ⟨_, _, rfl⟩
    rw [hX]
    clear hX
    simp only
    go_wp2_with fail
    refine (fixed08_any w6).mono ?_
    rintro e w7 ⟨rfl, k7⟩
    go_wp2
    go_ret
    exact ⟨rfl, (kk5.trans k6).trans k7⟩
  · rw [hp]
    clear hp
    simp only
    go_wp2_with fail
    refine (fixed08_any w6).mono ?_
    rintro e w7 ⟨rfl, k7⟩
    go_wp2
    go_ret
    exact ⟨rfl, (kk5.trans k6).trans k7⟩
end Go.Proofs.Ytfjglfkeeliopaa
