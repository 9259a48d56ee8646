/- The chapter's example (fixed). -/
import Derived.Test.YtpeekhlccjoioaaDoorOpsPut
namespace Go.Proofs.YtpeekhlccjoioaaDoor
open Go.RowKit

theorem own_capB {w : World} {B g n c : Nat} {t : TypeId} {size : Nat} {vs : List Value} (h : w.ownsRow B t size (.slice (some ⟨g, 0, none⟩) n c) n vs) : n ≤ c ∧ c ≤ maxLen := by
  rcases h.2 with ⟨h0, _⟩ | ⟨g', cap', cur, hv, _, _, hn, hc, _⟩
  · cases h0
  · cases hv; exact ⟨hn, hc⟩

set_option maxRecDepth 100000 in
set_option maxHeartbeats 1000000 in
theorem fixed21_any (w : World) : Calls Tryd.prog 4 #[] w (FixedPost w) := by
  have r0 := Row.new w 35 [.int .i64 15, .int .u64 0, .int .u64 0, .int .u64 0]
  have k0 := (Kept.refl [] w).alloc (.cells #[.int .i64 15, .int .u64 0, .int .u64 0, .int .u64 0] 35)
  have hs : SlS opC 4 (w.alloc (.cells #[.int .i64 15, .int .u64 0, .int .u64 0, .int .u64 0] 35)) (some ⟨w.heap.size, 0, none⟩) [⟨15, 0, 0, 0⟩] := by
    refine .inr ⟨w.heap.size, 0, rfl, r0.lt, fun j x hx i hi => ?_⟩
    cases j with
    | zero => simp at hx; subst hx; simp only [Nat.zero_mul, Nat.zero_add]; exact r0.cell i
    | succ j => simp at hx
  go_enter Tryd.func4, Tryd.ntmps4
  go_wp2_with fail
  refine (opsPut_any _ 1 1 [⟨15, 0, 0, 0⟩] _ hs rfl (by omega)).mono ?_
  rintro e w1 ⟨hk, ⟨hb, _⟩ | ⟨_, g, c, rfl, ho⟩⟩
  · exact absurd hb (by decide)
  · rw [show opsB [⟨15, 0, 0, 0⟩] = [15, 0, 0, 0, 0, 0, 0, 0, 0, 0, 0, 0, 0, 0, 0, 0, 0, 0, 0, 0, 0, 0, 0, 0, 0] from by decide] at ho
    have c0 : w1.cell? ⟨g, 0, none⟩ = some (.int .u8 15) := by rw [ho.cellAt 0 (by decide)]; rfl
    have c24 : w1.cell? ⟨g, 24, none⟩ = some (.int .u8 0) := by rw [ho.cellAt 24 (by decide)]; rfl
    have hk2 := k0.trans hk
    clear ho hk hs r0 k0
    go_wp2
    go_ret
    exact ⟨rfl, hk2⟩
end Go.Proofs.YtpeekhlccjoioaaDoor
