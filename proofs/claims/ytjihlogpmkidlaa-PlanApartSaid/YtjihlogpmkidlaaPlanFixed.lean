/- The chapter's example (fixed of kraallaw10). -/
import Derived.Test.YtjihlogpmkidlaaPlanPages
namespace Go.Proofs.Ytjihlogpmkidlaa
open Go.RowKit

/-- A slice that is written out. -/
theorem lit_slice (w : World) (xs : List Int) : Sl (w.alloc (.cells (xs.map (Value.int .i64)).toArray 3)) .i64 (some ⟨w.heap.size, 0, none⟩) xs := Sl.of_row (Row.new w 3 _)

set_option maxRecDepth 100000 in
set_option maxHeartbeats 2000000 in
theorem fixed10_any (w : World) : Calls Try.prog 6 #[] w (FixedPost w) := by
  have s1 := lit_slice w [10, 6]
  have k1 := (Kept.refl [] w).alloc (.cells #[.int .i64 10, .int .i64 6] 3)
  simp only [List.map] at s1
  go_enter Try.func6, Try.ntmps6
  go_wp2_with fail
  refine (planPages_any _ 2 [10, 6] _ s1 (by simp)).mono ?_
  rintro e w2 ⟨rfl, k2⟩
  rw [show totL [10, 6] = 1 by decide]
  have kk2 := k1.trans k2
  have s2 := lit_slice w2 [10, 6, 1]
  have k3 := (Kept.refl [] w2).alloc (.cells #[.int .i64 10, .int .i64 6, .int .i64 1] 3)
  simp only [List.map] at s2
  go_wp2_with fail
  refine (planPages_any _ 3 [10, 6, 1] _ s2 (by simp)).mono ?_
  rintro e w4 ⟨rfl, k4⟩
  rw [show totL [10, 6, 1] = 2 by decide]
  have kk4 := (kk2.trans k3).trans k4
  have s3 := lit_slice w4 [10, 6, 1, 20]
  have k5 := (Kept.refl [] w4).alloc (.cells #[.int .i64 10, .int .i64 6, .int .i64 1, .int .i64 20] 3)
  simp only [List.map] at s3
  go_wp2_with fail
  refine (planPages_any _ 4 [10, 6, 1, 20] _ s3 (by simp)).mono ?_
  rintro e w6 ⟨rfl, k6⟩
  rw [show totL [10, 6, 1, 20] = 4 by decide]
  go_wp2
  go_ret
  exact ⟨rfl, (kk4.trans k5).trans k6⟩
end Go.Proofs.Ytjihlogpmkidlaa
