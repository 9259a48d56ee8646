/- Package desc: Kind, May. -/
import Derived.Test.YtionleocbjfgaaaDoorProg
import Derived.Test.YtionleocbjfgaaaDoorDescTypes
import Derived.Test.YtionleocbjfgaaaDoorQuiet
import Derived.WalkKit
namespace Go.Proofs.YtionleocbjfgaaaDoor
open Go.RowKit

theorem descKind_any (k : Int) (w : World) : Calls Tryd.prog 28 #[.int .i64 k] w fun e w' => e = .returned (.bool (kindB k)) ∧ w = w' := by
  by_cases h0 : 0 ≤ k
  · by_cases h1 : k < 4
    · have HS := Lib.hid (show kindB k = true by simp [kindB]; omega)
      have h0' : decide (0 ≤ k) = true := by simpa using h0
      have h1' : decide (k < 4) = true := by simpa using h1
      go_enter Tryd.func28, Tryd.ntmps28
      go_wp2
      go_ret
      exact ⟨by rw [HS.out]; rfl, rfl⟩
    · have HS := Lib.hid (show kindB k = false by simp [kindB]; omega)
      have h0' : decide (0 ≤ k) = true := by simpa using h0
      have h1' : decide (k < 4) = false := by simpa using h1
      go_enter Tryd.func28, Tryd.ntmps28
      go_wp2
      go_ret
      exact ⟨by rw [HS.out]; rfl, rfl⟩
  · have HS := Lib.hid (show kindB k = false by simp [kindB]; omega)
    have h0' : decide (0 ≤ k) = false := by simpa using h0
    go_enter Tryd.func28, Tryd.ntmps28
    go_wp2
    go_ret
    exact ⟨by rw [HS.out]; rfl, rfl⟩

theorem all_step {p : Int → Bool} {xs : List Int} {j : Nat} (h : (xs.take j).all p = true) (hj : j < xs.length) (hp : p (xs[j]?.getD 0) = true) : (xs.take (j + 1)).all p = true := by
  rw [List.take_add_one, List.getElem?_eq_getElem hj]
  rw [List.getElem?_eq_getElem hj] at hp
  simp only [Option.getD_some] at hp
  rw [List.all_append, h]
  simp [hp]
theorem all_not {p : Int → Bool} {xs : List Int} {j : Nat} (hj : j < xs.length) (hp : p (xs[j]?.getD 0) = false) : xs.all p = false := by
  rw [List.getElem?_eq_getElem hj] at hp
  exact List.all_eq_false.2 ⟨xs[j], List.getElem_mem hj, by simp at hp; simp [hp]⟩

end Go.Proofs.YtionleocbjfgaaaDoor
