/- Package kraalref08: Get. -/
import Derived.Test.YthnoohghjcfghaaHeaderRef
namespace Go.Proofs.Ythnoohghjcfghaa
open Go.RowKit

set_option maxRecDepth 100000 in
set_option maxHeartbeats 4000000 in
theorem refGet08_any (W : Int) (w : World) (h0 : 0 ≤ W) (h1 : W < 18446744073709551616) : Calls Try.prog 28 #[.int .u64 W] w fun e w' => e = .returned (.tuple #[.agg #[.bool (getH W).1.array, .int .i64 (getH W).1.kind, .int .i64 (getH W).1.ty, .int .i64 (getH W).1.n], .int .i64 (getH W).2]) ∧ Kept [] w w' := by
  have rR := Row.new w 32 [.bool false, .int .i64 0, .int .i64 0, .int .i64 0]
  have kR := (Kept.refl [] w).alloc (.cells #[.bool false, .int .i64 0, .int .i64 0, .int .i64 0] 32)
  have hG := getH_ref W
  by_cases hn : 4000 < W / 65536
  · have HS := Lib.hid (show getH W = (⟨false, 0, 0, 0⟩, 11) by
      rw [hG, if_neg]
      intro h
      have := mayH_range h.1
      simp only [refPartsH] at this
      omega)
    have hn' : decide (4000 < W / 65536) = true := by simpa using hn
    obtain ⟨V, rfl⟩ := Int.eq_ofNat_of_zero_le h0
    clear hn hG
    go_enter Try.func28, Try.ntmps28
    go_wp2
    (try simp only [Exit.inBlock, Exit.then])
    refine bodyPost_ret (results_cell2 rfl rfl (Row.load rR Try.underlying32 rfl rfl)) rfl ?_
    exact ⟨by rw [HS.out]; rfl, kR⟩
  · have hn' : decide (4000 < W / 65536) = false := by simpa using hn
    have hwr : 0 ≤ W / 65536 ∧ W / 65536 ≤ 4000 := by omega
    clear hn
    obtain ⟨V, rfl⟩ := Int.eq_ofNat_of_zero_le h0
    go_enter Try.func28, Try.ntmps28
    go_wp2_with fail
    have HP := Lib.hid (show refPartsH (V : Int) = ⟨(V : Int) % 65536 / 2 % 2 == 1, (V : Int) % 65536 / 4 % 4, (V : Int) % 65536 / 256, (V : Int) / 65536⟩ from rfl)
    generalize ((V : Int) % 65536 / 2 % 2 == 1) = ar at HP ⊢
    generalize (V : Int) % 65536 / 4 % 4 = k at HP ⊢
    generalize (V : Int) % 65536 / 256 = t at HP ⊢
    generalize (V : Int) / 65536 = n at HP ⊢
    have rH := Row.new (w.alloc (.cells #[.bool false, .int .i64 0, .int .i64 0, .int .i64 0] 32)) 32 [.bool ar, .int .i64 k, .int .i64 t, .int .i64 n]
    have rR1 := rR.alloc (.cells #[.bool ar, .int .i64 k, .int .i64 t, .int .i64 n] 32)
    have kk := kR.alloc (.cells #[.bool ar, .int .i64 k, .int .i64 t, .int .i64 n] 32)
    rw [show (w.alloc (.cells #[.bool false, .int .i64 0, .int .i64 0, .int .i64 0] 32)).heap.size = w.heap.size + 1 by simp] at rH
    clear rR kR
    generalize (w.alloc (.cells #[.bool false, .int .i64 0, .int .i64 0, .int .i64 0] 32)).alloc (.cells #[.bool ar, .int .i64 k, .int .i64 t, .int .i64 n] 32) = W1 at rH rR1 kk ⊢
    refine (refPut08_any ar k t n W1).mono ?_
    rintro e w3 ⟨rfl, k3⟩
    have rH3 := rH.kept k3 (by simp)
    have rR3 := rR1.kept k3 (by simp)
    have kk3 := kk.trans k3
    obtain ⟨R, hR⟩ : ∃ R, w.heap.size = R := ⟨_, rfl⟩
    have HR := Lib.hid hR
    rw [hR] at rH3 rR3 ⊢
    have c0 : w3.cell? ⟨R + 1, 0, none⟩ = some (.bool ar) := by simpa using rH3.cell 0
    have c1 : w3.cell? ⟨R + 1, 1, none⟩ = some (.int .i64 k) := by simpa using rH3.cell 1
    have c2 : w3.cell? ⟨R + 1, 2, none⟩ = some (.int .i64 t) := by simpa using rH3.cell 2
    have c3 : w3.cell? ⟨R + 1, 3, none⟩ = some (.int .i64 n) := by simpa using rH3.cell 3
    have d0 : w3.cell? ⟨R, 0, none⟩ = some (.bool false) := by simpa using rR3.cell 0
    have d1 : w3.cell? ⟨R, 1, none⟩ = some (.int .i64 0) := by simpa using rR3.cell 1
    have d2 : w3.cell? ⟨R, 2, none⟩ = some (.int .i64 0) := by simpa using rR3.cell 2
    have d3 : w3.cell? ⟨R, 3, none⟩ = some (.int .i64 0) := by simpa using rR3.cell 3
    have f0 := rR3.free 0
    have f1 := rR3.free 1
    have f2 := rR3.free 2
    have f3 := rR3.free 3
    clear rH rR1 k3 rH3 hR kk W1
    have no : ¬ (mayH ⟨ar, k, t, n⟩ = true ∧ wordH ⟨ar, k, t, n⟩ = (V : Int)) → Hid (getH V = (⟨false, 0, 0, 0⟩, 11)) := fun hh => by rw [hG, HP.out, if_neg hh]; exact Lib.hid rfl
    have yes : (mayH ⟨ar, k, t, n⟩ = true ∧ wordH ⟨ar, k, t, n⟩ = (V : Int)) → Hid (getH V = (⟨ar, k, t, n⟩, 0)) := fun hh => by rw [hG, HP.out, if_pos hh]; exact Lib.hid rfl
    have K4 := Lib.hid (fun u0 u1 u2 u3 : Value => Kept.set4 (S := []) kk3 (g := R) (.inr (by rw [HR.out]; exact Nat.le_refl _)) u0 u1 u2 u3)
    have L4 := Lib.hid (fun u0 u1 u2 u3 : Value => Row.load (P := Try.prog) (Row.set4 rR3 u0 u1 u2 u3) Try.underlying32 rfl rfl)
    clear rR3 kk3 hG hn' hwr
    cases hm : mayH ⟨ar, k, t, n⟩
    · have HS := no (by simp [hm])
      have hp : putH ⟨ar, k, t, n⟩ = (0, 1) := by simp [putH, hm]
      rw [hp]
      clear hp no yes hm
      simp only
      go_wp2
      (try simp only [Exit.inBlock, Exit.then])
      refine bodyPost_ret (results_cell2 rfl rfl (L4.out _ _ _ _)) rfl ?_
      exact ⟨by rw [HS.out]; rfl, K4.out _ _ _ _⟩
    · have hp : putH ⟨ar, k, t, n⟩ = (wordH ⟨ar, k, t, n⟩, 0) := by simp [putH, hm]
      rw [hp]
      by_cases hw : wordH ⟨ar, k, t, n⟩ = (V : Int)
      · have HS := yes ⟨hm, hw⟩
        rw [hw]
        clear hp no yes hm hw
        simp only
        go_wp2
        (try simp only [Exit.inBlock, Exit.then])
        refine bodyPost_ret (results_cell2 rfl rfl (L4.out _ _ _ _)) rfl ?_
        exact ⟨by rw [HS.out]; rfl, K4.out _ _ _ _⟩
      · have HS := no (by simp [hw])
        generalize wordH ⟨ar, k, t, n⟩ = z at hw ⊢
        have hw' : (z != (V : Int)) = true := by simpa using hw
        clear hp no yes hm hw
        simp only
        go_wp2
        (try simp only [Exit.inBlock, Exit.then])
        refine bodyPost_ret (results_cell2 rfl rfl (L4.out _ _ _ _)) rfl ?_
        exact ⟨by rw [HS.out]; rfl, K4.out _ _ _ _⟩
end Go.Proofs.Ythnoohghjcfghaa
