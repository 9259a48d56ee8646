/- kraalref06's Same on slices of the same runs, told as pairs of ints. -/
import Derived.Test.YtionleocbjfgaaaDoorRunZ
import Derived.Test.YtionleocbjfgaaaDoorSameRuns
namespace Go.Proofs.YtionleocbjfgaaaDoor
open Go.RowKit

theorem SlS.cellZ {w : World} {a : Option Addr} {rs : List RunZ} (h : SlS cellsZ 2 w a rs) {j : Nat} (hj : j < rs.length) : ∃ b off, a = some ⟨b, off, none⟩ ∧ b < w.heap.size ∧
    w.cell? ⟨b, off + j * 2, none⟩ = some (.int .i64 rs[j].1) ∧ w.cell? ⟨b, off + j * 2 + 1, none⟩ = some (.int .i64 rs[j].2) := by
  obtain ⟨b, off, rfl, hb, hc⟩ := h.cell hj
  exact ⟨b, off, rfl, hb, by simpa [cellsZ] using hc 0 (by decide), by simpa [cellsZ] using hc 1 (by decide)⟩

set_option maxRecDepth 100000 in
set_option maxHeartbeats 2000000 in
/-- Two slices of the same runs. -/
theorem refSame06_z (A B : Option Addr) (n m ca cb : Nat) (rs : List RunZ) (w : World) (ha : SlS cellsZ 2 w A rs) (hb : SlS cellsZ 2 w B rs) (hn : rs.length = n) (hm : rs.length = m) (hx : n ≤ 1099511627776) :
    Calls Tryd.prog 10 #[.slice A n ca, .slice B m cb] w (FixedPost w) := by
  subst hn
  subst hm
  go_enter Tryd.func10, Tryd.ntmps10
  go_wp2_with fail
  go_loopw [5] (fun i wr => ∃ j : Nat, j ≤ rs.length ∧ i = .int .i64 j ∧ Kept [] w wr) (fun i _ => rs.length - (intOf i).toNat)
  case atStart => exact ⟨0, Nat.zero_le _, rfl, Kept.refl _ _⟩
  case round =>
    obtain ⟨j, hj, rfl, hkr⟩ := hrel
    by_cases hlt : j < rs.length
    · obtain ⟨b, off, rfl, _, cA0, cA1⟩ := (ha.kept hkr).cellZ hlt
      obtain ⟨b', off', rfl, _, cB0, cB1⟩ := (hb.kept hkr).cellZ hlt
      generalize rs[j] = y at cA0 cA1 cB0 cB1
      obtain ⟨y1, y2⟩ := y
      simp only at cA0 cA1 cB0 cB1
      have h1 : (j : Int) < (rs.length : Int) := by omega
      have hne := run_neq_run y1 y2
      have hgu := fun x y => run_guard_run x y y1 y2 y1 y2
      go_wp2_with fail
      go_quiet (fail)
      go_wp2
      go_roundw
      case rel => exact ⟨j + 1, by omega, by go_num, hkr.drewN _⟩
      case measure => simp [intOf]; omega
    · obtain rfl : j = rs.length := by omega
      go_wp2
      go_ret
      exact ⟨rfl, hkr⟩
end Go.Proofs.YtionleocbjfgaaaDoor
