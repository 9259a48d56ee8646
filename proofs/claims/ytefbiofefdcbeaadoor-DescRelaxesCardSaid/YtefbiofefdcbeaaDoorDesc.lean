/- Package desc: Kind, May. -/
import Derived.Test.YtefbiofefdcbeaaDoorProg
import Derived.Test.YtefbiofefdcbeaaDoorDescTypes
import Derived.Test.YtefbiofefdcbeaaDoorQuiet
import Derived.WalkKit
namespace Go.Proofs.YtefbiofefdcbeaaDoor
open Go.RowKit

theorem descKind_any (k : Int) (w : World) : Calls Tryd.prog 11 #[.int .i64 k] w fun e w' => e = .returned (.bool (kindB k)) ∧ w = w' := by
  by_cases h0 : 0 ≤ k
  · by_cases h1 : k < 4
    · have HS := Lib.hid (show kindB k = true by simp [kindB]; omega)
      have h0' : decide (0 ≤ k) = true := by simpa using h0
      have h1' : decide (k < 4) = true := by simpa using h1
      go_enter Tryd.func11, Tryd.ntmps11
      go_wp2
      go_ret
      exact ⟨by rw [HS.out]; rfl, rfl⟩
    · have HS := Lib.hid (show kindB k = false by simp [kindB]; omega)
      have h0' : decide (0 ≤ k) = true := by simpa using h0
      have h1' : decide (k < 4) = false := by simpa using h1
      go_enter Tryd.func11, Tryd.ntmps11
      go_wp2
      go_ret
      exact ⟨by rw [HS.out]; rfl, rfl⟩
  · have HS := Lib.hid (show kindB k = false by simp [kindB]; omega)
    have h0' : decide (0 ≤ k) = false := by simpa using h0
    go_enter Tryd.func11, Tryd.ntmps11
    go_wp2
    go_ret
    exact ⟨by rw [HS.out]; rfl, rfl⟩

theorem all_step {p : Int → Bool} {xs : List Int} {j : Nat} (h : (xs.take j).all p = true) (hj : j < xs.length) (hp : p (xs[j]?.getD 0) = true) : (xs.take (j + 1)).all p = true := by
  rw [List.take_add_one, List.getElem?_eq_getElem hj]
  rw [List.getElem?_eq_getElem hj] at hp
  simp only [Option.getD_some] at hp
  rw [List.all_append, h]
  simp [hp]
theorem all_not {p : Int → Bool} {xs : List Int} {j : Nat} (hj : j < xs.length) (hp : p (xs[j]?.getD 0) = false) : xs.all p = false := by
  rw [List.getElem?_eq_getElem hj] at hp
  exact List.all_eq_false.2 ⟨xs[j], List.getElem_mem hj, by simp at hp; simp [hp]⟩

set_option maxHeartbeats 1000000 in
theorem descMay_any (A : Option Addr) (cap : Nat) (xs : List Int) (w : World) (hs : Sl w .i64 A xs) (hx : xs.length ≤ 100) :
    Calls Tryd.prog 7 #[.agg #[.slice A xs.length cap]] w fun e w' => e = .returned (.bool (mayB xs)) ∧ Kept [] w w' := by
  have rB := Row.new w 27 [.slice A xs.length cap]
  have kW := (Kept.refl [] w).alloc (.cells #[.slice A xs.length cap] 27)
  by_cases h1 : xs.length < 1
  · have HS := Lib.hid (show mayB xs = false by simp [mayB]; omega)
    have h1' : decide ((xs.length : Int) < 1) = true := by simp; omega
    go_enter Tryd.func7, Tryd.ntmps7
    go_wp2
    go_ret
    exact ⟨by rw [HS.out]; rfl, kW⟩
  · have h1' : decide ((xs.length : Int) < 1) = false := by simp; omega
    by_cases h2 : 60 < xs.length
    · have HS := Lib.hid (show mayB xs = false by simp [mayB]; omega)
      have h2' : decide ((60 : Int) < (xs.length : Int)) = true := by simp; omega
      go_enter Tryd.func7, Tryd.ntmps7
      go_wp2
      go_ret
      exact ⟨by rw [HS.out]; rfl, kW⟩
    · have h2' : decide ((60 : Int) < (xs.length : Int)) = false := by simp; omega
      have HS := Lib.hid (show mayB xs = xs.all kindB by simp [mayB]; omega)
      clear h2
      go_enter Tryd.func7, Tryd.ntmps7
      go_wp2_with fail
      generalize w.alloc (.cells #[.slice A xs.length cap] 27) = W at rB kW ⊢
      go_loopw [18] (fun i wr => ∃ j : Nat, j ≤ xs.length ∧ i = .int .i64 j ∧ W = wr ∧ Hid ((xs.take j).all kindB = true)) (fun i _ => xs.length - (intOf i).toNat)
      case atStart => exact ⟨0, Nat.zero_le _, rfl, rfl, rfl⟩
      case round =>
        obtain ⟨j, hj, rfl, rfl, HA⟩ := hrel
        by_cases hlt : j < xs.length
        · obtain ⟨b, off, rfl, cA⟩ := (hs.kept kW).cell hlt
          obtain ⟨y, hy⟩ : ∃ y, xs[j]?.getD 0 = y := ⟨_, rfl⟩
          have HY := Lib.hid hy
          rw [hy] at cA
          clear hy
          go_wp2_with fail
          refine (descKind_any y W).mono ?_
          rintro e w2 ⟨rfl, rfl⟩
          cases hk : kindB y with
          | true =>
            have HA2 := Lib.hid (all_step (p := kindB) HA.out hlt (by rw [HY.out]; exact hk))
            go_wp2
            go_roundw
            case rel => exact ⟨j + 1, by omega, by go_num, trivial, HA2⟩
            case measure => simp [intOf]; omega
          | false =>
            have HA2 := Lib.hid (all_not (p := kindB) hlt (by rw [HY.out]; exact hk))
            go_wp2
            go_ret
            exact ⟨by rw [HS.out, HA2.out]; rfl, kW⟩
        · obtain rfl : j = xs.length := by omega
          go_wp2
          go_ret
          exact ⟨by rw [HS.out]; have := HA.out; rw [List.take_length] at this; rw [this]; rfl, kW⟩
end Go.Proofs.YtefbiofefdcbeaaDoor
