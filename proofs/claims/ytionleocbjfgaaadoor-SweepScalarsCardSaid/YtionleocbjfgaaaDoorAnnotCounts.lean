/- Package annot: Counts. -/
import Derived.Test.YtionleocbjfgaaaDoorProg
import Derived.Test.YtionleocbjfgaaaDoorNum
import Derived.WalkMore
namespace Go.Proofs.YtionleocbjfgaaaDoor
open Go.RowKit

/-- Is it counted? -/
def cntB (kd h t : Int) : Bool := decide (kd = 1 ∧ t ≠ 0 ∧ t ≠ h)

theorem annotCounts_any (kd h t : Int) (w : World) : Calls Tryd.prog 22 #[.int .i64 kd, .int .i64 h, .int .i64 t] w fun e w' => e = .returned (.bool (cntB kd h t)) ∧ w = w' := by
  by_cases h1 : kd = 1
  · subst h1
    by_cases h2 : t = 0
    · subst h2
      have HS := Lib.hid (show cntB 1 h 0 = false by simp [cntB])
      go_enter Tryd.func22, Tryd.ntmps22
      go_wp2
      go_ret
      exact ⟨by rw [HS.out]; rfl, rfl⟩
    · have h2' : (t != 0) = true := by simpa using h2
      have HS := Lib.hid (show cntB 1 h t = (t != h) by unfold cntB; rw [Bool.eq_iff_iff]; simp [h2])
      clear h2
      go_enter Tryd.func22, Tryd.ntmps22
      go_wp2
      go_ret
      exact ⟨by rw [HS.out]; rfl, rfl⟩
  · have h1' : decide (kd = 1) = false := by simpa using h1
    have h1'' : (kd == 1) = false := by simpa using h1
    have HS := Lib.hid (show cntB kd h t = false by simp [cntB, h1])
    clear h1
    go_enter Tryd.func22, Tryd.ntmps22
    go_wp2
    go_ret
    exact ⟨by rw [HS.out]; rfl, rfl⟩
end Go.Proofs.YtionleocbjfgaaaDoor
