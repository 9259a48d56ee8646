/- The chapter's example (fixed). -/
import Derived.Test.YtkdojplbkhdgdaaMem
namespace Go.Proofs.Ytkdojplbkhdgdaa
open Go.RowKit

def FixedPost (w : World) (e : Ending) (w' : World) : Prop := e = .returned (.bool true) ∧ Kept [] w w'

set_option maxHeartbeats 1000000 in
theorem fixed_any (w : World) : Calls Try.prog 7 #[] w (FixedPost w) := by
  go_enter Try.func7, Try.ntmps7
  go_wp2_with fail
  refine (new_yes 4 w (by omega)).mono ?_
  rintro e w1 ⟨b, g, rfl, hb, hg, hm1, hk1⟩
  go_wp2_with fail
  refine (write_any b g _ 1 7 w1 hm1).mono ?_
  rintro e w2 ⟨rfl, hm2, hk2⟩
  rw [show errB (hasB (List.replicate 4 (0 : Int)).length 1) = 0 from by decide]
  go_wp2_with fail
  refine (read_any b g _ 1 w2 hm2).mono ?_
  rintro e w3 ⟨rfl, rfl⟩
  rw [wrB_length, show (if hasB (List.replicate 4 (0 : Int)).length 1 = true then (wrB (List.replicate 4 0) 1 7)[(1 : Int).toNat]?.getD 0 else 0) = 7 from by decide, show errB (hasB (List.replicate 4 (0 : Int)).length 1) = 0 from by decide]
  go_wp2_with fail
  refine (read_any b g _ 4 w2 hm2).mono ?_
  rintro e w3 ⟨rfl, rfl⟩
  rw [wrB_length, show (if hasB (List.replicate 4 (0 : Int)).length 4 = true then (wrB (List.replicate 4 0) 1 7)[(4 : Int).toNat]?.getD 0 else 0) = 0 from by decide, show errB (hasB (List.replicate 4 (0 : Int)).length 4) = 8 from by decide]
  go_wp2
  go_ret
  exact ⟨rfl, hk1.chain hk2 (by simp) (by simp; omega)⟩
end Go.Proofs.Ytkdojplbkhdgdaa
