/- The chapter's example (fixed). -/
import Derived.Test.YtploelfgmlpdeaaGlobals
namespace Go.Proofs.Ytploelfgmlpdeaa
open Go.RowKit

set_option maxRecDepth 100000 in
set_option maxHeartbeats 1000000 in
theorem fixed16_any (w : World) : Calls Try.prog 5 #[] w (FixedPost w) := by
  go_enter Try.func5, Try.ntmps5
  go_wp2_with fail
  refine (slotsNew_yes 2 w (by omega)).mono ?_
  rintro e w1 ⟨b, g, rfl, hb, hg, hm1, hk1⟩
  go_wp2_with fail
  refine (slotsSet_any b g _ 1 9 w1 hm1).mono ?_
  rintro e w2 ⟨rfl, hm2, hk2⟩
  rw [show ((List.replicate 2 (0 : Int))[1]?.getD 0) = 0 from by decide, show errB (slotB (List.replicate 2 (0 : Int)).length 1) = 0 from by decide]
  go_wp2_with fail
  refine (slotsSet_any b g _ 1 5 w2 hm2).mono ?_
  rintro e w3 ⟨rfl, hm3, hk3⟩
  rw [show (((List.replicate 2 (0 : Int)).set 1 9)[1]?.getD 0) = 9 from by decide, show errB (slotB ((List.replicate 2 (0 : Int)).set 1 9).length 1) = 0 from by decide]
  go_wp2_with fail
  refine (slotsGet_any b g _ 2 w3 hm3).mono ?_
  rintro e w4 ⟨rfl, rfl⟩
  rw [show ((((List.replicate 2 (0 : Int)).set 1 9).set 1 5)[2]?.getD 0) = 0 from by decide, show errB (slotB (((List.replicate 2 (0 : Int)).set 1 9).set 1 5).length 2) = 8 from by decide]
  go_wp2
  go_ret
  exact ⟨rfl, hk1.chain (hk2.trans hk3) (by simp) (by simp; omega)⟩
end Go.Proofs.Ytploelfgmlpdeaa
