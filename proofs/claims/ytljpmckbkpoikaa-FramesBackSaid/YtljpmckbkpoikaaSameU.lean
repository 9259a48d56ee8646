/- kraalref01's Same: two slices of words that hold the same. -/
import Derived.Test.YtljpmckbkpoikaaProg
import Derived.Test.YtljpmckbkpoikaaSl
import Derived.Test.YtljpmckbkpoikaaNum
import Derived.Test.YtljpmckbkpoikaaQuiet
import Derived.WalkKit
namespace Go.Proofs.Ytljpmckbkpoikaa
open Go.RowKit

set_option maxRecDepth 100000 in
set_option maxHeartbeats 1000000 in
/-- Two slices that hold the same. -/
theorem refSame01_yes (A B : Option Addr) (n m ca cb : Nat) (xs : List Int) (w : World) (ha : Sl w .u64 A xs) (hb : Sl w .u64 B xs) (hn : xs.length = n) (hm : xs.length = m) (hx : n ≤ 1099511627776) :
    Calls Try.prog 14 #[.slice A n ca, .slice B m cb] w (FixedPost w) := by
  subst hn
  subst hm
  go_enter Try.func14, Try.ntmps14
  go_wp2_with fail
  go_loopw [5] (fun i wr => ∃ j : Nat, j ≤ xs.length ∧ i = .int .i64 j ∧ Kept [] w wr) (fun i _ => xs.length - (intOf i).toNat)
  case atStart => exact ⟨0, Nat.zero_le _, rfl, Kept.refl _ _⟩
  case round =>
    obtain ⟨j, hj, rfl, hkr⟩ := hrel
    by_cases hlt : j < xs.length
    · obtain ⟨b, off, rfl, cA⟩ := (ha.kept hkr).cell hlt
      obtain ⟨b', off', rfl, cB⟩ := (hb.kept hkr).cell hlt
      generalize xs[j]?.getD 0 = y at cA cB
      have h1 : (j : Int) < (xs.length : Int) := by omega
      go_wp2_with fail
      go_quiet (fail)
      go_wp2
      go_roundw
      case rel => exact ⟨j + 1, by omega, by go_num, hkr.drewN _⟩
      case measure => simp [intOf]; omega
    · obtain rfl : j = xs.length := by omega
      go_wp2
      go_ret
      exact ⟨rfl, hkr⟩
end Go.Proofs.Ytljpmckbkpoikaa
