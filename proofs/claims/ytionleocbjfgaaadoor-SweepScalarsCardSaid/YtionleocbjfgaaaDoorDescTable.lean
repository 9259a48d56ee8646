/- Package desc: its table; Pointer, relaxKind. -/
import Derived.Test.YtionleocbjfgaaaDoorDesc
namespace Go.Proofs.YtionleocbjfgaaaDoor
open Go.RowKit

/-- The table's cells, kind by kind: is it one of pointers, what it is relaxed. -/
def tabV : List Value := [.bool false, .int .i64 0, .bool true, .int .i64 1, .bool true, .int .i64 1, .bool true, .int .i64 1]
/-- The table lies as it was laid. -/
def Tab (w : World) : Prop := 0 < w.heap.size ∧ ∀ j v, tabV[j]? = some v → w.cell? ⟨0, j, none⟩ = some v
theorem Tab.kept {w w' : World} (h : Tab w) (hk : Kept [] w w') : Tab w' :=
  ⟨Nat.lt_of_lt_of_le h.1 hk.size, fun j v hv => (World.cell?_of_block (w := w) (a := ⟨0, j, none⟩) (hk.block 0 h.1 (by simp))).trans (h.2 j v hv)⟩
theorem kind_four {k : Int} (h : kindB k = true) : k = 0 ∨ k = 1 ∨ k = 2 ∨ k = 3 := by
  simp only [kindB, decide_eq_true_eq] at h; omega

set_option maxRecDepth 100000 in
set_option maxHeartbeats 1000000 in
theorem descPointer_any (k : Int) (w : World) (ht : Tab w) : Calls Tryd.prog 21 #[.int .i64 k] w fun e w' => e = .returned (.bool (pointerB k)) ∧ w = w' := by
  cases hk : kindB k with
  | false =>
    have HS := Lib.hid (show pointerB k = false by simp only [kindB, pointerB, decide_eq_false_iff_not] at hk ⊢; omega)
    go_enter Tryd.func21, Tryd.ntmps21
    go_wp2_with fail
    refine (descKind_any k w).mono ?_
    rintro e w2 ⟨rfl, rfl⟩
    rw [hk]
    go_wp2
    go_ret
    exact ⟨by rw [HS.out]; rfl, rfl⟩
  | true =>
    have t0 := ht.2 0 _ rfl
    have t2 := ht.2 2 _ rfl
    have t4 := ht.2 4 _ rfl
    have t6 := ht.2 6 _ rfl
    rcases kind_four hk with rfl | rfl | rfl | rfl
    all_goals
      go_enter Tryd.func21, Tryd.ntmps21
      go_wp2_with fail
      refine (descKind_any _ w).mono ?_
      rintro e w2 ⟨rfl, rfl⟩
      rw [hk]
      go_wp2
      go_ret
      exact ⟨rfl, rfl⟩

end Go.Proofs.YtionleocbjfgaaaDoor
