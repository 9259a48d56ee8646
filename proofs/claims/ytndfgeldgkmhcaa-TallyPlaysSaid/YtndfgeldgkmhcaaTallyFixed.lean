/- The chapter's example (fixed of kraallaw15). -/
import Derived.Test.YtndfgeldgkmhcaaTallySwap
namespace Go.Proofs.Ytndfgeldgkmhcaa
open Go.RowKit

set_option maxRecDepth 100000 in
set_option maxHeartbeats 2000000 in
theorem fixed15_any (w : World) : Calls Try.prog 6 #[] w (FixedPost w) := by
  have f3 : Fit64 3 := by unfold Fit64; omega
  have f5 : Fit64 5 := by unfold Fit64; omega
  have f2 : Fit64 2 := by unfold Fit64; omega
  go_enter Try.func6, Try.ntmps6
  go_wp2_with fail
  refine (tallyNew_any w).mono ?_
  rintro e w1 ⟨p, g, rfl, hnew, h1, kw1⟩
  go_wp2_with fail
  refine (tallyAdd_any p g [] 3 2 w1 h1 f3 f2 (by simp)).mono ?_
  rintro e w2 ⟨rfl, h2, kw2⟩
  rw [show addY [] 3 2 = ([(3, 2)], 0) from by decide] at h2 ⊢
  go_wp2_with fail
  refine (tallySwap_any p g [(3, 2)] 3 5 w2 h2 f3 f5 (by simp)).mono ?_
  rintro e w3 ⟨rfl, h3, kw3⟩
  rw [show swapY [(3, 2)] 3 5 = ([(3, 1), (5, 1)], 0) from by decide] at h3 ⊢
  have k3 : Kept [] w w3 := by
    refine kw1.chain (kw2.trans kw3) (by simp) ?_
    intro i hi hlt
    simp at hi
    omega
  clear h1 h2 kw1 kw2 kw3
  go_wp2_with fail
  refine (tallyOf_any p g _ 3 w3 h3 f3).mono ?_
  rintro e w4 ⟨rfl, rfl⟩
  rw [show cntY [(3, 1), (5, 1)] 3 = 1 from by decide]
  go_wp2_with fail
  refine (tallyOf_any p g _ 5 w3 h3 f5).mono ?_
  rintro e w4 ⟨rfl, rfl⟩
  rw [show cntY [(3, 1), (5, 1)] 5 = 1 from by decide]
  go_wp2
  go_ret
  exact ⟨rfl, k3⟩
end Go.Proofs.Ytndfgeldgkmhcaa
