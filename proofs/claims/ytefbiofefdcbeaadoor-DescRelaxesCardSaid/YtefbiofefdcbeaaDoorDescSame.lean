/- kraalref04's Same, where both hold the same: it only reads. -/
import Derived.Test.YtefbiofefdcbeaaDoorProg
import Derived.Test.YtefbiofefdcbeaaDoorSl
import Derived.Test.YtefbiofefdcbeaaDoorQuiet
import Derived.WalkKit
namespace Go.Proofs.YtefbiofefdcbeaaDoor
open Go.RowKit

set_option maxHeartbeats 1000000 in
/-- Two slices that hold the same. -/
theorem refSame04_reads (A B : Option Addr) (n m ca cb : Nat) (xs : List Int) (w : World) (ha : Sl w .i64 A xs) (hb : Sl w .i64 B xs) (hn : xs.length = n) (hm : xs.length = m) (hx : n ≤ 1099511627776) :
    Calls Tryd.prog 15 #[.slice A n ca, .slice B m cb] w fun e w' => e = .returned (.bool true) ∧ ∃ q, w' = w.drewN q := by
  subst hn
  subst hm
  go_enter Tryd.func15, Tryd.ntmps15
  go_wp2_with fail
  go_loopw [5] (fun i wr => ∃ j : Nat, j ≤ xs.length ∧ i = .int .i64 j ∧ Hid (∃ q, wr = w.drewN q)) (fun i _ => xs.length - (intOf i).toNat)
  case atStart => exact ⟨0, Nat.zero_le _, rfl, 0, (World.drewN_zero w).symm⟩
  case round =>
    obtain ⟨j, hj, rfl, HQ⟩ := hrel
    have hkr : Kept [] w wr := by obtain ⟨q, rfl⟩ := HQ.out; exact (Kept.refl _ _).drewN _
    by_cases hlt : j < xs.length
    · obtain ⟨b, off, rfl, cA⟩ := (ha.kept hkr).cell hlt
      obtain ⟨b', off', rfl, cB⟩ := (hb.kept hkr).cell hlt
      generalize xs[j]?.getD 0 = y at cA cB
      have h1 : (j : Int) < (xs.length : Int) := by omega
      go_wp2_with fail
      go_quiet (fail)
      go_wp2
      go_roundw
      case rel => exact ⟨j + 1, by omega, by go_num, (by obtain ⟨q, rfl⟩ := HQ.out; exact ⟨_, World.drewN_drewN _ _ _⟩)⟩
      case measure => simp [intOf]; omega
    · obtain rfl : j = xs.length := by omega
      go_wp2
      go_ret
      exact ⟨rfl, HQ.out⟩
end Go.Proofs.YtefbiofefdcbeaaDoor
