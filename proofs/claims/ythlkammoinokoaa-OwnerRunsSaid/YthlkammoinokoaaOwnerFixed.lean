/- The chapter's example (fixed of kraallaw06). -/
import Derived.Test.YthlkammoinokoaaOwnerSet
namespace Go.Proofs.Ythlkammoinokoaa
open Go.RowKit

set_option maxRecDepth 100000 in
set_option maxHeartbeats 2000000 in
theorem fixed06_any (w : World) : Calls Try.prog 5 #[] w (FixedPost w) := by
  go_enter Try.func5, Try.ntmps5
  go_wp2_with fail
  refine (ownerNew_any 10 w).mono ?_
  rintro e w1 ⟨p, g, rfl, hnew, h1, kw1⟩
  rw [show List.replicate (sizeB 10) (0 : Int) = [0, 0, 0, 0, 0, 0, 0, 0, 0, 0] from by decide] at h1
  go_wp2_with fail
  refine (ownerSet_any p g _ 2 2 7 w1 h1 (by unfold Fit64; omega) (by unfold Fit64; omega) (by omega)).mono ?_
  rintro e w2 ⟨rfl, h2, kw2⟩
  rw [show setB [0, 0, 0, 0, 0, 0, 0, 0, 0, 0] 2 2 7 = ([0, 0, 7, 7, 0, 0, 0, 0, 0, 0], 0) from by decide] at h2 ⊢
  have k2 : Kept [] w w2 := kw1.chain kw2 (by simp) (by intro i hi hlt; simp at hi; omega)
  clear h1 kw1 kw2
  go_wp2_with fail
  refine (ownerWord_any p g _ 40 w2 h2 (by omega)).mono ?_
  rintro e w3 ⟨rfl, rfl⟩
  rw [show wordB [0, 0, 7, 7, 0, 0, 0, 0, 0, 0] 40 = 7 from by decide]
  go_wp2_with fail
  refine (ownerWord_any p g _ 64 w2 h2 (by omega)).mono ?_
  rintro e w3 ⟨rfl, rfl⟩
  rw [show wordB [0, 0, 7, 7, 0, 0, 0, 0, 0, 0] 64 = 0 from by decide]
  go_wp2
  go_ret
  exact ⟨rfl, k2⟩
end Go.Proofs.Ythlkammoinokoaa
