/- The chapter's example (fixed of kraallaw03). -/
import Derived.Test.YtedmomjldkjgkaaPagesGrant
namespace Go.Proofs.Ytedmomjldkjgkaa
open Go.RowKit

set_option maxHeartbeats 1000000 in
theorem fixed03_any (w : World) : Calls Try.prog 5 #[] w (FixedPost w) := by
  go_enter Try.func5, Try.ntmps5
  go_wp2_with fail
  refine (pagesNew_yes 3 w (by omega) (by omega)).mono ?_
  rintro e w1 ⟨p, rb, rg, mb, mg, rfl, hnew, hp1, kw1⟩
  generalize List.replicate (16 * 3) (0 : Int) = ys at hp1
  go_wp2_with fail
  refine (pagesMem_any p rb rg mb mg _ ys w1 hp1).mono ?_
  rintro e w2 ⟨rfl, rfl⟩
  go_wp2_with fail
  refine (pagesGrant_any p rb rg mb mg _ ys 2 w1 hp1 (by omega)).mono ?_
  rintro e w2 ⟨rfl, hp2, kw2⟩
  rw [show grantB (List.replicate 3 false) 2 = ([true, true, false], 0, 0) from by decide] at hp2 ⊢
  generalize wipeB (List.replicate 3 false) ys 2 = ys2 at hp2
  go_wp2_with fail
  refine (pagesGrant_any p rb rg mb mg _ ys2 2 w2 hp2 (by omega)).mono ?_
  rintro e w3 ⟨rfl, hp3, kw3⟩
  rw [show grantB [true, true, false] 2 = ([true, true, false], 0, 3) from by decide] at hp3 ⊢
  generalize wipeB [true, true, false] ys2 2 = ys3 at hp3
  have hl := hp3.len
  go_wp2_with fail
  refine (pagesMem_any p rb rg mb mg _ ys3 w3 hp3).mono ?_
  rintro e w4 ⟨rfl, rfl⟩
  go_wp2_with fail
  refine (len_any mb mg ys3 w3 hp3.mem).mono ?_
  rintro e w4 ⟨rfl, rfl⟩
  rw [hl]
  go_wp2
  go_ret
  exact ⟨rfl, kw1.chain (kw2.trans kw3) (by simp) (by simp; omega)⟩
end Go.Proofs.Ytedmomjldkjgkaa
