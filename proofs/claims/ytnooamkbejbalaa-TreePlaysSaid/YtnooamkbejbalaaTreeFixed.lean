/- The chapter's example (fixed of kraallaw05). -/
import Derived.Test.YtnooamkbejbalaaTreeWalk
import Derived.Test.YtnooamkbejbalaaTreePlain3
import Derived.Test.YtnooamkbejbalaaSame
namespace Go.Proofs.Ytnooamkbejbalaa
open Go.RowKit

theorem fineX : Fine 3 [(1, 0), (2, 1), (3, 0)] := by
  have h1 := Fine.nil.add (z := 1) (p := 0) (by simp [idsT]) (by simp)
  rw [show insB [] ((1 : Int), (0 : Int)) = [(1, 0)] from by decide] at h1
  have h2 := h1.add (z := 3) (p := 0) (by simp [idsT]) (by simp)
  rw [show insB [((1 : Int), (0 : Int))] (3, 0) = [(1, 0), (3, 0)] from by decide] at h2
  have h3 := h2.add (z := 2) (p := 1) (by simp [idsT]) (by simp [idsT])
  rwa [show insB [((1 : Int), (0 : Int)), (3, 0)] (2, 1) = [(1, 0), (2, 1), (3, 0)] from by decide] at h3

set_option maxRecDepth 100000 in
set_option maxHeartbeats 2000000 in
theorem fixed05_any (w : World) : Calls Try.prog 6 #[] w (FixedPost w) := by
  go_enter Try.func6, Try.ntmps6
  go_wp2_with fail
  refine (treeNew_any w).mono ?_
  rintro e w1 ⟨p, g, rfl, hnew, h1, kw1⟩
  go_wp2_with fail
  refine (treeAdd_any p g [] 1 0 w1 h1 (by unfold Fit64; omega) (by unfold Fit64; omega) (by simp)).mono ?_
  rintro e w2 ⟨rfl, h2, kw2⟩
  rw [show addB [] 1 0 = ([(1, 0)], 0) from by decide] at h2 ⊢
  go_wp2_with fail
  refine (treeAdd_any p g [(1, 0)] 3 0 w2 h2 (by unfold Fit64; omega) (by unfold Fit64; omega) (by simp)).mono ?_
  rintro e w3 ⟨rfl, h3, kw3⟩
  rw [show addB [(1, 0)] 3 0 = ([(1, 0), (3, 0)], 0) from by decide] at h3 ⊢
  go_wp2_with fail
  refine (treeAdd_any p g [(1, 0), (3, 0)] 2 1 w3 h3 (by unfold Fit64; omega) (by unfold Fit64; omega) (by simp)).mono ?_
  rintro e w4 ⟨rfl, h4, kw4⟩
  rw [show addB [(1, 0), (3, 0)] 2 1 = ([(1, 0), (2, 1), (3, 0)], 0) from by decide] at h4 ⊢
  have k4 : Kept [] w w4 := by
    refine kw1.chain ((kw2.trans kw3).trans kw4) (by simp) ?_
    intro i hi hlt
    simp at hi
    omega
  clear h1 h2 h3 kw1 kw2 kw3 kw4
  go_wp2_with fail
  refine (treeAll_any p g _ w4 h4 fineX (by omega)).mono ?_
  rintro e w5 ⟨a, c, rfl, _, hs, kw5⟩
  rw [show walkB [(1, 0), (2, 1), (3, 0)] 0 = [1, 2, 3] from by decide] at hs ⊢
  have rE := Row.new w5 3 [.int .i64 1, .int .i64 2, .int .i64 3]
  have kE := (Kept.refl [] w5).alloc (.cells #[.int .i64 1, .int .i64 2, .int .i64 3] 3)
  have sA := hs.kept kE
  have sB := Sl.of_row (k := .i64) (xs := [1, 2, 3]) rE
  have h5 := (h4.kept kw5).kept kE
  have k5 := (k4.trans kw5).trans kE
  go_wp2_with fail
  refine (refSame04_yes _ _ _ _ c 3 [1, 2, 3] _ sA sB rfl rfl (by simp)).mono ?_
  rintro e w6 ⟨rfl, kw6⟩
  have h6 := h5.kept kw6
  have k6 := k5.trans kw6
  clear sA sB rE kE h5 k5 kw6 hs h4 k4 kw5
  go_wp2_with fail
  refine (treeWithin_any p g _ 2 1 w6 h6 fineX (by omega) (by unfold Fit64; omega) (by unfold Fit64; omega)).mono ?_
  rintro e w7 ⟨rfl, rfl⟩
  rw [show inB [(1, 0), (2, 1), (3, 0)] 2 1 = true from by decide]
  go_wp2_with fail
  refine (treeWithin_any p g _ 3 1 w6 h6 fineX (by omega) (by unfold Fit64; omega) (by unfold Fit64; omega)).mono ?_
  rintro e w7 ⟨rfl, rfl⟩
  rw [show inB [(1, 0), (2, 1), (3, 0)] 3 1 = false from by decide]
  go_wp2
  go_ret
  exact ⟨rfl, k6⟩
end Go.Proofs.Ytnooamkbejbalaa
