/- The chapter's example (fixed of kraallaw09). -/
import Derived.Test.YtkfdkmdjdghdkaaStartsBefore
namespace Go.Proofs.Ytkfdkmdjdghdkaa
open Go.RowKit

set_option maxRecDepth 100000 in
set_option maxHeartbeats 1000000 in
theorem fixed09_any (w : World) : Calls Try.prog 5 #[] w (FixedPost w) := by
  go_enter Try.func5, Try.ntmps5
  go_wp2_with fail
  refine (startsNew_any 10 w).mono ?_
  rintro e w1 ⟨p, b, g, rfl, ⟨hp, hb, hg⟩, h1, hk1⟩
  have hk1' : Kept [g] w w1 := hk1.any
  rw [show clampB 10 = 10 from by decide] at h1
  clear hk1
  go_wp2_with fail
  refine (startsPut_any p b g _ 3 w1 h1 (by omega)).mono ?_
  rintro e w2 ⟨rfl, h2, hk2⟩
  rw [show putE (List.replicate 10 false) 3 = 0 from by decide]
  rw [show putB (List.replicate 10 false) 3 = [false, false, false, true, false, false, false, false, false, false] from by decide] at h2
  go_wp2_with fail
  refine (startsPut_any p b g _ 7 w2 h2 (by omega)).mono ?_
  rintro e w3 ⟨rfl, h3, hk3⟩
  rw [show putE [false, false, false, true, false, false, false, false, false, false] 7 = 0 from by decide]
  rw [show putB [false, false, false, true, false, false, false, false, false, false] 7 = [false, false, false, true, false, false, false, true, false, false] from by decide] at h3
  have kk := (hk1'.trans hk2).trans hk3
  clear h1 h2 hk1' hk2 hk3
  go_wp2_with fail
  refine (startsBefore_any p b g _ 6 w3 h3).mono ?_
  rintro e w4 ⟨rfl, hk4⟩
  rw [show lastL (placesB [false, false, false, true, false, false, false, true, false, false]) 6 = some 3 from by decide]
  rw [show optI (some 3) = .tuple #[.int .i64 3, .bool true] from rfl]
  have h4 := h3.kept hk4
  go_wp2_with fail
  refine (startsIs_any p b g _ 0 w4 h4 (by omega) (by omega)).mono ?_
  rintro e w5 ⟨rfl, rfl⟩
  rw [show hasM [false, false, false, true, false, false, false, true, false, false] 0 = false from by decide]
  go_wp2_with fail
  refine (startsIs_any p b g _ 7 w4 h4 (by omega) (by omega)).mono ?_
  rintro e w5 ⟨rfl, rfl⟩
  rw [show hasM [false, false, false, true, false, false, false, true, false, false] 7 = true from by decide]
  go_wp2
  go_ret
  exact ⟨rfl, kk.chain hk4 (by simp; omega) (by simp)⟩
end Go.Proofs.Ytkfdkmdjdghdkaa
