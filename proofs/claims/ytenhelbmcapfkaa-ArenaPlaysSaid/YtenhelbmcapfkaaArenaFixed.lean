/- The chapter's example (fixed of kraallaw11). -/
import Derived.Test.YtenhelbmcapfkaaArenaYard
namespace Go.Proofs.Ytenhelbmcapfkaa
open Go.RowKit

set_option maxRecDepth 100000 in
set_option maxHeartbeats 2000000 in
theorem fixed11_any (w : World) : Calls Try.prog 7 #[] w (FixedPost w) := by
  go_enter Try.func7, Try.ntmps7
  go_wp2_with fail
  refine (pagesNew_yes 4 w (by omega) (by omega)).mono ?_
  rintro e w1 ⟨p, rb, rg, mb, mg, rfl, hnew, hp1, k1⟩
  have hz1 := k1.size
  have hY0 : Yard w.heap.size w1 p rb rg mb mg (List.replicate 4 false) (List.replicate (16 * 4) (0 : Int)) [] := Yard.no hp1 hz1 (by omega)
  clear hp1
  go_wp2_with fail
  refine (arenaNew_any (some ⟨p, 0, none⟩) w1).mono ?_
  rintro e w2 ⟨d1, rfl, hN1, hA1, hF1, -, -, k2⟩
  have hY1 := hY0.more k2 hA1 hF1
  clear hY0
  go_wp2_with fail
  refine (arenaNew_any (some ⟨p, 0, none⟩) w2).mono ?_
  rintro e w3 ⟨d2, rfl, hN2, hA2, hF2, -, -, k3⟩
  have hY2 := hY1.more k3 hA2 hF2
  have hr1 := congrArg ArN.rs hN1
  have ht1 := congrArg ArN.ts hN1
  have hr2 := congrArg ArN.rs hN2
  have ht2 := congrArg ArN.ts hN2
  clear hY1
  have kk3 := (k1.trans k2).trans k3
  clear k1 k2 k3
  go_wp2_with fail
  refine (arenaAlloc_any p rb rg mb mg d1 _ _ 10 w3 (hY2.arena 0 d1 rfl) hY2.pages (hY2.away 0 d1 rfl) (by rw [hr1]; simp) (by rw [ht1]; simp)).mono ?_
  rintro e w4 ⟨d3, rfl, hN3, hB3, hA3, hP3, hF3, k4⟩
  have kk4 := hY2.keeps (i := 0) (d := d1) rfl k4 kk3 (Nat.le_refl _)
  have hY3 := hY2.step (i := 0) (d := d1) rfl hA3 hP3 hF3 k4
  rw [hN1] at hN3 hY3
  rw [hN1]
  have e1 : allocN ⟨⟨0, 0⟩, [], []⟩ (List.replicate 4 false) 10 = (⟨⟨0, 10⟩, [(0, 1)], [(0, 10)]⟩, [true, false, false, false], 0, 0) := by rfl
  rw [e1] at hN3 hY3 ⊢
  have hr3 := congrArg ArN.rs hN3
  have ht3 := congrArg ArN.ts hN3
  clear hY2 hA3 hP3 k4 kk3
  generalize allocY ⟨⟨0, 0⟩, [], []⟩ (List.replicate 4 false) (List.replicate (16 * 4) (0 : Int)) 10 = ys3 at hY3
  go_wp2_with fail
  refine (arenaAlloc_any p rb rg mb mg d2 _ _ 10 w4 (hY3.arena 1 d2 rfl) hY3.pages (hY3.away 1 d2 rfl) (by rw [hr2]; simp) (by rw [ht2]; simp)).mono ?_
  rintro e w5 ⟨d4, rfl, hN4, hB4, hA4, hP4, hF4, k5⟩
  have kk5 := hY3.keeps (i := 1) (d := d2) rfl k5 kk4 (Nat.le_refl _)
  have hY4 := hY3.step (i := 1) (d := d2) rfl hA4 hP4 hF4 k5
  rw [hN2] at hN4 hY4
  rw [hN2]
  have e2 : allocN ⟨⟨0, 0⟩, [], []⟩ [true, false, false, false] 10 = (⟨⟨1, 10⟩, [(1, 1)], [(16, 10)]⟩, [true, true, false, false], 16, 0) := by rfl
  rw [e2] at hN4 hY4 ⊢
  clear hY3 hA4 hP4 k5 kk4
  generalize allocY ⟨⟨0, 0⟩, [], []⟩ [true, false, false, false] ys3 10 = ys4 at hY4
  go_wp2_with fail
  rw [← hB3]
  refine (arenaAlloc_any p rb rg mb mg d3 _ _ 6 w5 (hY4.arena 0 d3 rfl) hY4.pages (hY4.away 0 d3 rfl) (by rw [hr3]; simp) (by rw [ht3]; simp)).mono ?_
  rintro e w6 ⟨d5, rfl, hN5, hB5, hA5, hP5, hF5, k6⟩
  have kk6 := hY4.keeps (i := 0) (d := d3) rfl k6 kk5 (Nat.le_refl _)
  rw [hN3]
  have e3 : allocN ⟨⟨0, 10⟩, [(0, 1)], [(0, 10)]⟩ [true, true, false, false] 6 = (⟨⟨0, 16⟩, [(0, 1)], [(0, 10), (10, 6)]⟩, [true, true, false, false], 10, 0) := by rfl
  rw [e3]
  go_wp2
  go_ret
  exact ⟨rfl, kk6⟩
end Go.Proofs.Ytenhelbmcapfkaa
