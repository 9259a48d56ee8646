/- Package kraalref10: Need, Place. -/
import Derived.Test.YtenhelbmcapfkaaPlanPut
namespace Go.Proofs.Ytenhelbmcapfkaa
open Go.RowKit

set_option maxHeartbeats 1000000 in
theorem refNeed10_any (P L s : Int) (w : World) : Calls Try.prog 37 #[.agg #[.int .i64 P, .int .i64 L], .int .i64 s] w fun e w' => e = .returned (.tuple #[.int .i64 (needP L s).1, .int .i64 (needP L s).2]) ∧ Kept [] w w' := by
  have rB := Row.new w 35 [.int .i64 P, .int .i64 L]
  have kB := (Kept.refl [] w).alloc (.cells #[.int .i64 P, .int .i64 L] 35)
  rcases needP_cases L s with ⟨h1, HS⟩ | ⟨h1, h2, HS⟩ | ⟨h1, h2, h3, HS⟩ | ⟨h1, h2, h3, HS⟩
  · have g1 : decide (s < 1) = true := by simpa using h1
    clear h1
    go_enter Try.func37, Try.ntmps37
    go_wp2
    go_ret2
    exact ⟨by rw [HS.out]; rfl, kB⟩
  · have g1 : decide (s < 1) = false := by simp; omega
    have g2 : decide (16384 < s) = true := by simpa using h2
    clear h1 h2
    go_enter Try.func37, Try.ntmps37
    go_wp2
    go_ret2
    exact ⟨by rw [HS.out]; rfl, kB⟩
  · have g1 : decide (s < 1) = false := by simp; omega
    have g2 : decide (16384 < s) = false := by simp; omega
    have g3 : decide (s ≤ L) = true := by simpa using h3
    clear h1 h2 h3
    go_enter Try.func37, Try.ntmps37
    go_wp2
    go_ret2
    exact ⟨by rw [HS.out]; rfl, kB⟩
  · have g1 : decide (s < 1) = false := by simp; omega
    have g2 : decide (16384 < s) = false := by simp; omega
    have g3 : decide (s ≤ L) = false := by simp; omega
    have hq : s.tdiv 16 = s / 16 := Int.tdiv_eq_ediv_of_nonneg (by omega)
    have hr : s.tmod 16 = s % 16 := Int.tmod_eq_emod_of_nonneg (by omega)
    obtain ⟨q, hq2⟩ : ∃ q, s / 16 = q := ⟨_, rfl⟩
    obtain ⟨r, hr2⟩ : ∃ r, s % 16 = r := ⟨_, rfl⟩
    rw [hq2] at hq
    rw [hr2] at hr
    have u0 : IntKind.i64.wrap q = q := by rw [IntKind.wrap_i64]; omega
    have u1 : IntKind.i64.wrap (q + 1) = q + 1 := by rw [IntKind.wrap_i64]; omega
    by_cases h4 : 0 < r
    · have g4 : decide (0 < r) = true := by simpa using h4
      have HV := Lib.hid (show (s + 15) / 16 = q + 1 by omega)
      clear h1 h2 h3 h4 hq2 hr2
      go_enter Try.func37, Try.ntmps37
      go_wp2
      go_ret2
      exact ⟨by rw [HS.out, HV.out]; rfl, kB⟩
    · have g4 : decide (0 < r) = false := by simpa using h4
      have HV := Lib.hid (show (s + 15) / 16 = q by omega)
      clear h1 h2 h3 h4 hq2 hr2
      go_enter Try.func37, Try.ntmps37
      go_wp2
      go_ret2
      exact ⟨by rw [HS.out, HV.out]; rfl, kB⟩

end Go.Proofs.Ytenhelbmcapfkaa
