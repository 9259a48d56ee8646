/- The chapter's example (fixed of kraallaw04). -/
import Derived.Test.YtbncfpglofmejaaIdsRef
namespace Go.Proofs.Ytbncfpglofmejaa
open Go.RowKit

set_option maxRecDepth 100000 in
set_option maxHeartbeats 2000000 in
theorem fixed04_any (w : World) : Calls Try.prog 5 #[] w (FixedPost w) := by
  go_enter Try.func5, Try.ntmps5
  go_wp2_with fail
  refine (idsNew_any 5 w).mono ?_
  rintro e w1 ⟨p, g, rfl, hnew, h1, kw1⟩
  rw [show max (5 : Int) 0 = 5 from rfl] at h1
  go_wp2_with fail
  refine (idsGive_any p g 5 0 [] w1 h1 (by omega)).mono ?_
  rintro e w2 ⟨rfl, h2, kw2⟩
  rw [show giveB 5 0 [] = ([1], 1, 1, 0) from by decide] at h2 ⊢
  go_wp2_with fail
  refine (idsGive_any p g 5 1 [1] w2 h2 (by omega)).mono ?_
  rintro e w3 ⟨rfl, h3, kw3⟩
  rw [show giveB 5 1 [1] = ([1, 2], 2, 2, 0) from by decide] at h3 ⊢
  go_wp2_with fail
  refine (idsTake_any p g 5 2 [1, 2] 1 w3 h3 (by unfold Fit64; omega)).mono ?_
  rintro e w4 ⟨rfl, h4, kw4⟩
  rw [show (if (1 : Int) ∈ [1, 2] then (0 : Int) else 2) = 0 from by decide]
  rw [show ([1, 2].filter fun x : Int => !decide (x = 1)) = [2] from by decide] at h4
  go_wp2_with fail
  refine (idsGive_any p g 5 2 [2] w4 h4 (by omega)).mono ?_
  rintro e w5 ⟨rfl, h5, kw5⟩
  rw [show giveB 5 2 [2] = ([2, 3], 3, 3, 0) from by decide] at h5 ⊢
  have k5 : Kept [] w w5 := by
    refine kw1.chain (((kw2.trans kw3).trans (kw4.mono (by simp))).trans kw5) (by simp) ?_
    intro i hi hlt
    simp at hi
    omega
  clear h1 h2 h3 h4 kw1 kw2 kw3 kw4 kw5
  go_wp2_with fail
  refine (idsAll_any p g 5 3 [2, 3] w5 h5 (by omega)).mono ?_
  rintro e w6 ⟨ga, ca, rfl, hown, kw6⟩
  have rE := Row.new w6 3 [.int .i64 2, .int .i64 3]
  have kE := (Kept.refl [] w6).alloc (.cells #[.int .i64 2, .int .i64 3] 3)
  have sA := (Sl.of_own hown).kept kE
  have sB := Sl.of_row (k := .i64) (xs := [2, 3]) rE
  have k6 := (k5.trans kw6).trans kE
  go_wp2_with fail
  refine (refSame04_yes _ _ _ _ ca 2 [2, 3] _ sA sB rfl rfl (by simp)).mono ?_
  rintro e w7 ⟨rfl, kw7⟩
  go_wp2
  go_ret
  exact ⟨rfl, k6.trans kw7⟩
end Go.Proofs.Ytbncfpglofmejaa
