/- Package header: Put, parts, Get, Size. -/
import Derived.Test.YthnoohghjcfghaaHeader
import Derived.Test.YthnoohghjcfghaaRet
namespace Go.Proofs.Ythnoohghjcfghaa
open Go.RowKit

set_option maxRecDepth 100000 in
set_option maxHeartbeats 2000000 in
theorem put_any (ar : Bool) (k t n : Int) (w : World) : Calls Try.prog 33 #[.agg #[.bool ar, .int .i64 k, .int .i64 t, .int .i64 n]] w fun e w' => e = .returned (.tuple #[.int .u64 (putH ⟨ar, k, t, n⟩).1, .int .i64 (putH ⟨ar, k, t, n⟩).2]) ∧ Kept [] w w' := by
  have rB := Row.new w 32 [.bool ar, .int .i64 k, .int .i64 t, .int .i64 n]
  have kB := (Kept.refl [] w).alloc (.cells #[.bool ar, .int .i64 k, .int .i64 t, .int .i64 n] 32)
  go_enter Try.func33, Try.ntmps33
  go_wp2_with fail
  refine (may_any ar k t n _).mono ?_
  rintro e w2 ⟨rfl, k2⟩
  have c0 : w2.cell? ⟨w.heap.size, 0, none⟩ = some (.bool ar) := by simpa using (rB.kept k2 (by simp)).cell 0
  have c1 : w2.cell? ⟨w.heap.size, 1, none⟩ = some (.int .i64 k) := by simpa using (rB.kept k2 (by simp)).cell 1
  have c2 : w2.cell? ⟨w.heap.size, 2, none⟩ = some (.int .i64 t) := by simpa using (rB.kept k2 (by simp)).cell 2
  have c3 : w2.cell? ⟨w.heap.size, 3, none⟩ = some (.int .i64 n) := by simpa using (rB.kept k2 (by simp)).cell 3
  have kk := kB.trans k2
  clear rB kB k2
  cases hm : mayH ⟨ar, k, t, n⟩
  · have HS := Lib.hid (show putH ⟨ar, k, t, n⟩ = (0, 1) by simp [putH, hm])
    go_wp2
    go_ret2
    exact ⟨by rw [HS.out]; rfl, kk⟩
  · have HS := Lib.hid (show putH ⟨ar, k, t, n⟩ = (wordH ⟨ar, k, t, n⟩, 0) by simp [putH, hm])
    go_wp2_with fail
    refine (word_any ar k t n _ hm).mono ?_
    rintro e w3 ⟨rfl, k3⟩
    go_wp2
    go_ret2
    exact ⟨by rw [HS.out]; rfl, kk.trans k3⟩

set_option maxRecDepth 100000 in
set_option maxHeartbeats 2000000 in
theorem size_any (ar : Bool) (k t n : Int) (w : World) : Calls Try.prog 31 #[.agg #[.bool ar, .int .i64 k, .int .i64 t, .int .i64 n]] w fun e w' => e = .returned (.int .i64 (sizeH ⟨ar, k, t, n⟩)) ∧ Kept [] w w' := by
  have rB := Row.new w 32 [.bool ar, .int .i64 k, .int .i64 t, .int .i64 n]
  have kB := (Kept.refl [] w).alloc (.cells #[.bool ar, .int .i64 k, .int .i64 t, .int .i64 n] 32)
  go_enter Try.func31, Try.ntmps31
  go_wp2_with fail
  refine (may_any ar k t n _).mono ?_
  rintro e w2 ⟨rfl, k2⟩
  have c3 : w2.cell? ⟨w.heap.size, 3, none⟩ = some (.int .i64 n) := by simpa using (rB.kept k2 (by simp)).cell 3
  have kk := kB.trans k2
  clear rB kB k2
  cases hm : mayH ⟨ar, k, t, n⟩
  · have HS := Lib.hid (show sizeH ⟨ar, k, t, n⟩ = 0 by simp [sizeH, hm])
    go_wp2
    go_ret
    exact ⟨by rw [HS.out]; rfl, kk⟩
  · have hr := mayH_range hm
    simp only at hr
    by_cases h1 : n < 1
    · have HS := Lib.hid (show sizeH ⟨ar, k, t, n⟩ = 2 by simp only [sizeH, hm, if_true]; omega)
      clear hr hm
      go_wp2
      go_ret
      exact ⟨by rw [HS.out]; rfl, kk⟩
    · have h1' : 1 ≤ n := by omega
      have HS := Lib.hid (show sizeH ⟨ar, k, t, n⟩ = 1 + n by simp only [sizeH, hm, if_true]; omega)
      have hw : IntKind.i64.wrap (1 + n) = 1 + n := by rw [IntKind.wrap_i64]; omega
      clear hr hm
      go_wp2
      go_ret
      exact ⟨by rw [HS.out]; rfl, kk⟩

set_option maxRecDepth 100000 in
set_option maxHeartbeats 2000000 in
theorem parts_any (W : Int) (w : World) (h0 : 0 ≤ W) (h1 : W < 18446744073709551616) : Calls Try.prog 39 #[.int .u64 W] w fun e w' => e = .returned (.agg #[.bool (partsH W).array, .int .i64 (partsH W).kind, .int .i64 (partsH W).ty, .int .i64 (partsH W).n]) ∧ Kept [] w w' := by
  obtain ⟨V, rfl⟩ := Int.eq_ofNat_of_zero_le h0
  go_enter Try.func39, Try.ntmps39
  go_wp2
  (try simp only [Exit.inBlock, Exit.then])
  refine bodyPost_ret (results_cell1 rfl rfl (Row.load (Row.new w _ [.bool ((V : Int) % 4 / 2 != 0), .int .i64 ((V : Int) % 256 / 4), .int .i64 ((V : Int) % 65536 / 256), .int .i64 ((V : Int) / 65536)]) Try.underlying32 rfl rfl)) rfl ?_
  exact ⟨rfl, (Kept.refl [] w).alloc _⟩

set_option maxRecDepth 100000 in
set_option maxHeartbeats 4000000 in
theorem get_any (W : Int) (w : World) (h0 : 0 ≤ W) (h1 : W < 18446744073709551616) : Calls Try.prog 25 #[.int .u64 W] w fun e w' => e = .returned (.tuple #[.agg #[.bool (getH W).1.array, .int .i64 (getH W).1.kind, .int .i64 (getH W).1.ty, .int .i64 (getH W).1.n], .int .i64 (getH W).2]) ∧ Kept [] w w' := by
  have rR := Row.new w 32 [.bool false, .int .i64 0, .int .i64 0, .int .i64 0]
  have kR := (Kept.refl [] w).alloc (.cells #[.bool false, .int .i64 0, .int .i64 0, .int .i64 0] 32)
  go_enter Try.func25, Try.ntmps25
  go_wp2_with fail
  refine (parts_any W _ h0 h1).mono ?_
  rintro e w2 ⟨rfl, k2⟩
  obtain ⟨R, hR⟩ : ∃ R, w.heap.size = R := ⟨_, rfl⟩
  have rR2 := rR.kept k2 (by simp)
  have kk := kR.trans k2
  obtain ⟨pp, hpp⟩ : ∃ pp, partsH W = pp := ⟨_, rfl⟩
  rw [hpp, hR]
  rw [hR] at rR2
  have HP := Lib.hid hpp
  have HR := Lib.hid hR
  clear rR kR k2 hR hpp
  obtain ⟨ar, k, t, n⟩ := pp
  simp only
  have rH := Row.new w2 32 [.bool ar, .int .i64 k, .int .i64 t, .int .i64 n]
  have kH := (Kept.refl [] w2).alloc (.cells #[.bool ar, .int .i64 k, .int .i64 t, .int .i64 n] 32)
  have hlt := rR2.lt
  go_wp2_with fail
  refine (put_any ar k t n _).mono ?_
  rintro e w3 ⟨rfl, k3⟩
  have rH3 := rH.kept k3 (by simp)
  have rR3 := (rR2.kept kH (by simp)).kept k3 (by simp)
  have kk3 := (kk.trans kH).trans k3
  obtain ⟨B, hB⟩ : ∃ B, w2.heap.size = B := ⟨_, rfl⟩
  rw [hB] at rH3 hlt ⊢
  have c0 : w3.cell? ⟨B, 0, none⟩ = some (.bool ar) := by simpa using rH3.cell 0
  have c1 : w3.cell? ⟨B, 1, none⟩ = some (.int .i64 k) := by simpa using rH3.cell 1
  have c2 : w3.cell? ⟨B, 2, none⟩ = some (.int .i64 t) := by simpa using rH3.cell 2
  have c3 : w3.cell? ⟨B, 3, none⟩ = some (.int .i64 n) := by simpa using rH3.cell 3
  have d0 : w3.cell? ⟨R, 0, none⟩ = some (.bool false) := by simpa using rR3.cell 0
  have d1 : w3.cell? ⟨R, 1, none⟩ = some (.int .i64 0) := by simpa using rR3.cell 1
  have d2 : w3.cell? ⟨R, 2, none⟩ = some (.int .i64 0) := by simpa using rR3.cell 2
  have d3 : w3.cell? ⟨R, 3, none⟩ = some (.int .i64 0) := by simpa using rR3.cell 3
  have f0 := rR3.free 0
  have f1 := rR3.free 1
  have f2 := rR3.free 2
  have f3 := rR3.free 3
  clear rH rR2 kH kk k3 rH3 hB w2
  have no : ¬ (mayH ⟨ar, k, t, n⟩ = true ∧ wordH ⟨ar, k, t, n⟩ = W) → Hid (getH W = (⟨false, 0, 0, 0⟩, 11)) := fun hh => by unfold getH; rw [HP.out, if_neg hh]; exact Lib.hid rfl
  have yes : (mayH ⟨ar, k, t, n⟩ = true ∧ wordH ⟨ar, k, t, n⟩ = W) → Hid (getH W = (⟨ar, k, t, n⟩, 0)) := fun hh => by unfold getH; rw [HP.out, if_pos hh]; exact Lib.hid rfl
  have load4 := fun u0 u1 u2 u3 : Value => Row.load (P := Try.prog) (Row.set4 rR3 u0 u1 u2 u3) Try.underlying32 rfl rfl
  have keep4 := fun u0 u1 u2 u3 : Value => Kept.set4 (S := []) kk3 (g := R) (.inr (by rw [HR.out]; exact Nat.le_refl _)) u0 u1 u2 u3
  have K4 := Lib.hid keep4
  have L4 := Lib.hid load4
  clear rR3 kk3 load4 keep4
  cases hm : mayH ⟨ar, k, t, n⟩
  · have HS := no (by simp [hm])
    have hp : putH ⟨ar, k, t, n⟩ = (0, 1) := by simp [putH, hm]
    rw [hp]
    clear hp no yes hm
    simp only
    go_wp2
    (try simp only [Exit.inBlock, Exit.then])
    refine bodyPost_ret (results_cell2 rfl rfl (L4.out _ _ _ _)) rfl ?_
    exact ⟨by rw [HS.out]; rfl, K4.out _ _ _ _⟩
  · have hp : putH ⟨ar, k, t, n⟩ = (wordH ⟨ar, k, t, n⟩, 0) := by simp [putH, hm]
    rw [hp]
    by_cases hw : wordH ⟨ar, k, t, n⟩ = W
    · have HS := yes ⟨hm, hw⟩
      rw [hw]
      clear hp no yes hm hw
      simp only
      go_wp2
      (try simp only [Exit.inBlock, Exit.then])
      refine bodyPost_ret (results_cell2 rfl rfl (L4.out _ _ _ _)) rfl ?_
      exact ⟨by rw [HS.out]; rfl, K4.out _ _ _ _⟩
    · have HS := no (by simp [hw])
      generalize wordH ⟨ar, k, t, n⟩ = z at hw
      clear hp no yes hm
      simp only
      go_wp2
      (try simp only [Exit.inBlock, Exit.then])
      refine bodyPost_ret (results_cell2 rfl rfl (L4.out _ _ _ _)) rfl ?_
      exact ⟨by rw [HS.out]; rfl, K4.out _ _ _ _⟩
end Go.Proofs.Ythnoohghjcfghaa
