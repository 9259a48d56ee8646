/- Package words: do all words of a run stand there? -/
import Derived.Test.YthnoohghjcfghaaMem
namespace Go.Proofs.Ythnoohghjcfghaa
open Go.RowKit

def HoldsPost (n : Nat) (a c : Int) (w : World) (e : Ending) (w' : World) : Prop := e = .returned (.bool (holdsB n a c)) ∧ Kept [] w w'

set_option maxHeartbeats 1000000 in
theorem holds_any (b g : Nat) (xs : List Int) (a c : Int) (w : World) (hm : IsMem w b g xs) (ha : a ≤ 9223372036854775807) :
    Calls Try.prog 37 #[.pointer (some ⟨b, 0, none⟩), .agg #[.int .i64 a, .int .i64 c]] w (HoldsPost xs.length a c w) := by
  have hx := hm.2.2
  have hm1 := hm.kept ((Kept.refl [] w).alloc (.cells #[.int .i64 a, .int .i64 c] 30)) (by simp) (by simp)
  have hc := hm1.cellB
  have hb := hm.1.lt
  by_cases h0 : 0 ≤ a
  · by_cases h1 : 0 ≤ c
    · go_enter Try.func37, Try.ntmps37
      go_wp2_with fail
      go_quiet (fail)
      go_wp2
      go_ret
      exact ⟨by simp [holdsB, h0, h1], (((Kept.refl [] w).alloc _).drewN _)⟩
    · have h1' : decide (0 ≤ c) = false := by simpa using h1
      go_enter Try.func37, Try.ntmps37
      go_wp2_with fail
      go_quiet (fail)
      go_wp2
      go_ret
      exact ⟨by simp [holdsB]; omega, (((Kept.refl [] w).alloc _).drewN _)⟩
  · have h0' : decide (0 ≤ a) = false := by simpa using h0
    go_enter Try.func37, Try.ntmps37
    go_wp2_with fail
    go_quiet (fail)
    go_wp2
    go_ret
    exact ⟨by simp [holdsB]; omega, (((Kept.refl [] w).alloc _).drewN _)⟩
end Go.Proofs.Ythnoohghjcfghaa
