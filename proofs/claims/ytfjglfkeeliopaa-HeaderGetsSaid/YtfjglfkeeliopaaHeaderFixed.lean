/- The chapter's example (fixed of kraallaw08). -/
import Derived.Test.YtfjglfkeeliopaaHeaderRef
import Derived.Test.YtfjglfkeeliopaaNum
namespace Go.Proofs.Ytfjglfkeeliopaa
open Go.RowKit

set_option maxRecDepth 100000 in
set_option maxHeartbeats 2000000 in
theorem fixed08_any (w : World) : Calls Try.prog 10 #[] w (FixedPost w) := by
  have rB := Row.new w 23 [.bool false, .int .i64 0, .int .i64 1, .int .i64 2]
  have kB := (Kept.refl [] w).alloc (.cells #[.bool false, .int .i64 0, .int .i64 1, .int .i64 2] 23)
  go_enter Try.func10, Try.ntmps10
  go_wp2_with fail
  refine (put_any false 0 1 2 _).mono ?_
  rintro e w2 ⟨rfl, k2⟩
  rw [show putH ⟨false, 0, 1, 2⟩ = (131329, 0) by decide]
  have rB2 := rB.kept k2 (by simp)
  have kk := kB.trans k2
  have c0 : w2.cell? ⟨w.heap.size, 0, none⟩ = some (.bool false) := by simpa using rB2.cell 0
  have c1 : w2.cell? ⟨w.heap.size, 1, none⟩ = some (.int .i64 0) := by simpa using rB2.cell 1
  have c2 : w2.cell? ⟨w.heap.size, 2, none⟩ = some (.int .i64 1) := by simpa using rB2.cell 2
  have c3 : w2.cell? ⟨w.heap.size, 3, none⟩ = some (.int .i64 2) := by simpa using rB2.cell 3
  simp only
  go_wp2_with fail
  refine (size_any false 0 1 2 _).mono ?_
  rintro e w3 ⟨rfl, k3⟩
  rw [show sizeH ⟨false, 0, 1, 2⟩ = 3 by decide]
  go_wp2
  go_ret
  exact ⟨rfl, kk.trans k3⟩
end Go.Proofs.Ytfjglfkeeliopaa
