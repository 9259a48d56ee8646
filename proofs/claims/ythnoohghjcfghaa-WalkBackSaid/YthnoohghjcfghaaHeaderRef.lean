/- Package kraalref08: May, Put, Get, Size. -/
import Derived.Test.YthnoohghjcfghaaHeaderPut
namespace Go.Proofs.Ythnoohghjcfghaa
open Go.RowKit

set_option maxRecDepth 100000 in
set_option maxHeartbeats 4000000 in
theorem refMay08_any (ar : Bool) (k t n : Int) (w : World) : Calls Try.prog 19 #[.agg #[.bool ar, .int .i64 k, .int .i64 t, .int .i64 n]] w fun e w' => e = .returned (.bool (mayH ⟨ar, k, t, n⟩)) ∧ Kept [] w w' := by
  have rB := Row.new w 32 [.bool ar, .int .i64 k, .int .i64 t, .int .i64 n]
  have kB := (Kept.refl [] w).alloc (.cells #[.bool ar, .int .i64 k, .int .i64 t, .int .i64 n] 32)
  cases ar
  · have hc : ((k == 0) = false ∧ Hid (mayH ⟨false, k, t, n⟩ = false)) ∨
        ((k == 0) = true ∧ decide (0 ≤ t) = false ∧ Hid (mayH ⟨false, k, t, n⟩ = false)) ∨
        ((k == 0) = true ∧ decide (0 ≤ t) = true ∧ decide (t < 32) = false ∧ Hid (mayH ⟨false, k, t, n⟩ = false)) ∨
        ((k == 0) = true ∧ decide (0 ≤ t) = true ∧ decide (t < 32) = true ∧ decide (0 < n) = false ∧ Hid (mayH ⟨false, k, t, n⟩ = false)) ∨
        ((k == 0) = true ∧ decide (0 ≤ t) = true ∧ decide (t < 32) = true ∧ decide (0 < n) = true ∧ decide (n < 61) = false ∧ Hid (mayH ⟨false, k, t, n⟩ = false)) ∨
        ((k == 0) = true ∧ decide (0 ≤ t) = true ∧ decide (t < 32) = true ∧ decide (0 < n) = true ∧ decide (n < 61) = true ∧ Hid (mayH ⟨false, k, t, n⟩ = true)) := by
      simp only [Hid, mayH, withinB, Bool.false_eq_true, if_false, beq_iff_eq, beq_eq_false_iff_ne, Bool.and_eq_true, Bool.and_eq_false_iff, decide_eq_true_eq, decide_eq_false_iff_not]
      omega
    rcases hc with ⟨g0, HS⟩ | ⟨g0, g1, HS⟩ | ⟨g0, g1, g2, HS⟩ | ⟨g0, g1, g2, g3, HS⟩ | ⟨g0, g1, g2, g3, g4, HS⟩ | ⟨g0, g1, g2, g3, g4, HS⟩
    all_goals
      go_enter Try.func19, Try.ntmps19
      go_wp2
      go_ret
      exact ⟨by rw [HS.out]; rfl, kB⟩
  · have hc : (decide (0 ≤ k) = false ∧ Hid (mayH ⟨true, k, t, n⟩ = false)) ∨
        (decide (0 ≤ k) = true ∧ decide (k < 4) = false ∧ Hid (mayH ⟨true, k, t, n⟩ = false)) ∨
        (decide (0 ≤ k) = true ∧ decide (k < 4) = true ∧ decide (0 ≤ n) = false ∧ Hid (mayH ⟨true, k, t, n⟩ = false)) ∨
        (decide (0 ≤ k) = true ∧ decide (k < 4) = true ∧ decide (0 ≤ n) = true ∧ decide (n < 4001) = false ∧ Hid (mayH ⟨true, k, t, n⟩ = false)) ∨
        (decide (0 ≤ k) = true ∧ decide (k < 4) = true ∧ decide (0 ≤ n) = true ∧ decide (n < 4001) = true ∧ (t == 0) = false ∧ Hid (mayH ⟨true, k, t, n⟩ = false)) ∨
        (decide (0 ≤ k) = true ∧ decide (k < 4) = true ∧ decide (0 ≤ n) = true ∧ decide (n < 4001) = true ∧ (t == 0) = true ∧ Hid (mayH ⟨true, k, t, n⟩ = true)) := by
      simp only [Hid, mayH, withinB, kindB, if_true, beq_iff_eq, beq_eq_false_iff_ne, Bool.and_eq_true, Bool.and_eq_false_iff, decide_eq_true_eq, decide_eq_false_iff_not]
      omega
    rcases hc with ⟨g0, HS⟩ | ⟨g0, g1, HS⟩ | ⟨g0, g1, g2, HS⟩ | ⟨g0, g1, g2, g3, HS⟩ | ⟨g0, g1, g2, g3, g4, HS⟩ | ⟨g0, g1, g2, g3, g4, HS⟩
    all_goals
      go_enter Try.func19, Try.ntmps19
      go_wp2
      go_ret
      exact ⟨by rw [HS.out]; rfl, kB⟩

set_option maxRecDepth 100000 in
set_option maxHeartbeats 2000000 in
theorem refPut08_any (ar : Bool) (k t n : Int) (w : World) : Calls Try.prog 34 #[.agg #[.bool ar, .int .i64 k, .int .i64 t, .int .i64 n]] w fun e w' => e = .returned (.tuple #[.int .u64 (putH ⟨ar, k, t, n⟩).1, .int .i64 (putH ⟨ar, k, t, n⟩).2]) ∧ Kept [] w w' := by
  have rB := Row.new w 32 [.bool ar, .int .i64 k, .int .i64 t, .int .i64 n]
  have kB := (Kept.refl [] w).alloc (.cells #[.bool ar, .int .i64 k, .int .i64 t, .int .i64 n] 32)
  go_enter Try.func34, Try.ntmps34
  go_wp2_with fail
  refine (refMay08_any ar k t n _).mono ?_
  rintro e w2 ⟨rfl, k2⟩
  have c0 : w2.cell? ⟨w.heap.size, 0, none⟩ = some (.bool ar) := by simpa using (rB.kept k2 (by simp)).cell 0
  have c1 : w2.cell? ⟨w.heap.size, 1, none⟩ = some (.int .i64 k) := by simpa using (rB.kept k2 (by simp)).cell 1
  have c2 : w2.cell? ⟨w.heap.size, 2, none⟩ = some (.int .i64 t) := by simpa using (rB.kept k2 (by simp)).cell 2
  have c3 : w2.cell? ⟨w.heap.size, 3, none⟩ = some (.int .i64 n) := by simpa using (rB.kept k2 (by simp)).cell 3
  have kk := kB.trans k2
  clear rB kB k2
  cases hm : mayH ⟨ar, k, t, n⟩
  · have HS := Lib.hid (show putH ⟨ar, k, t, n⟩ = (0, 1) by simp [putH, hm])
    go_wp2
    go_ret2
    exact ⟨by rw [HS.out]; rfl, kk⟩
  · have hr := mayH_range hm
    simp only at hr
    have u : ∀ x : Int, 0 ≤ x → x < 18446744073709551616 → IntKind.u64.wrap x = x := fun x h1 h2 => by rw [IntKind.wrap_u64]; omega
    have u1 := u k (by omega) (by omega)
    have u2 := u (4 * k) (by omega) (by omega)
    have u3 := u (1 + 4 * k) (by omega) (by omega)
    have u4 := u t (by omega) (by omega)
    have u5 := u (256 * t) (by omega) (by omega)
    have u6 := u (1 + 4 * k + 256 * t) (by omega) (by omega)
    have u7 := u n (by omega) (by omega)
    have u8 := u (65536 * n) (by omega) (by omega)
    have u9 := u (1 + 4 * k + 256 * t + 65536 * n) (by omega) (by omega)
    have u10 := u (1 + 4 * k + 256 * t + 65536 * n + 2) (by omega) (by omega)
    cases ar
    · have HS := Lib.hid (show putH ⟨false, k, t, n⟩ = (1 + 4 * k + 256 * t + 65536 * n, 0) by simp only [putH, hm, if_true, wordH, Bool.false_eq_true, if_false, Prod.mk.injEq, and_true]; omega)
      clear u hr hm
      go_wp2
      go_ret2
      exact ⟨by rw [HS.out]; rfl, kk⟩
    · have HS := Lib.hid (show putH ⟨true, k, t, n⟩ = (1 + 4 * k + 256 * t + 65536 * n + 2, 0) by simp only [putH, hm, if_true, wordH, Prod.mk.injEq, and_true]; omega)
      clear u hr hm
      go_wp2
      go_ret2
      exact ⟨by rw [HS.out]; rfl, kk⟩

set_option maxRecDepth 100000 in
set_option maxHeartbeats 2000000 in
theorem refSize08_any (ar : Bool) (k t n : Int) (w : World) : Calls Try.prog 20 #[.agg #[.bool ar, .int .i64 k, .int .i64 t, .int .i64 n]] w fun e w' => e = .returned (.int .i64 (sizeH ⟨ar, k, t, n⟩)) ∧ Kept [] w w' := by
  have rB := Row.new w 32 [.bool ar, .int .i64 k, .int .i64 t, .int .i64 n]
  have kB := (Kept.refl [] w).alloc (.cells #[.bool ar, .int .i64 k, .int .i64 t, .int .i64 n] 32)
  go_enter Try.func20, Try.ntmps20
  go_wp2_with fail
  refine (refMay08_any ar k t n _).mono ?_
  rintro e w2 ⟨rfl, k2⟩
  have c3 : w2.cell? ⟨w.heap.size, 3, none⟩ = some (.int .i64 n) := by simpa using (rB.kept k2 (by simp)).cell 3
  have kk := kB.trans k2
  clear rB kB k2
  cases hm : mayH ⟨ar, k, t, n⟩
  · have HS := Lib.hid (show sizeH ⟨ar, k, t, n⟩ = 0 by simp [sizeH, hm])
    go_wp2
    go_ret
    exact ⟨by rw [HS.out]; rfl, kk⟩
  · have hr := mayH_range hm
    simp only at hr
    by_cases h1 : n < 1
    · have HS := Lib.hid (show sizeH ⟨ar, k, t, n⟩ = 2 by simp only [sizeH, hm, if_true]; omega)
      have h1' : decide (n < 1) = true := by simpa using h1
      clear hr hm h1
      go_wp2
      go_ret
      exact ⟨by rw [HS.out]; rfl, kk⟩
    · have h1' : decide (n < 1) = false := by simpa using h1
      have HS := Lib.hid (show sizeH ⟨ar, k, t, n⟩ = n + 1 by simp only [sizeH, hm, if_true]; omega)
      have hw : IntKind.i64.wrap (n + 1) = n + 1 := by rw [IntKind.wrap_i64]; omega
      clear hr hm h1
      go_wp2
      go_ret
      exact ⟨by rw [HS.out]; rfl, kk⟩

/-- The head that kraalref08 takes a word for. -/
def refPartsH (w : Int) : Hd := ⟨w % 65536 / 2 % 2 == 1, w % 65536 / 4 % 4, w % 65536 / 256, w / 65536⟩
set_option maxRecDepth 100000 in
theorem getH_ref (w : Int) : getH w = if mayH (refPartsH w) = true ∧ wordH (refPartsH w) = w then (refPartsH w, 0) else (⟨false, 0, 0, 0⟩, 11) := by
  unfold getH
  by_cases h1 : mayH (partsH w) = true ∧ wordH (partsH w) = w
  · have e : refPartsH w = partsH w := by
      have h3 := h1.2
      unfold wordH at h3
      rcases mayH_cases h1.1 with h2 | h2
      · rw [if_pos h2.1] at h3
        simp only [partsH, bne_iff_ne, ne_eq] at h2 h3
        simp only [refPartsH, partsH, Hd.mk.injEq, and_true]
        refine ⟨?_, by omega⟩
        rw [Bool.eq_iff_iff, beq_iff_eq, bne_iff_ne]
        omega
      · rw [if_neg (by rw [h2.1]; decide)] at h3
        simp only [partsH, bne_eq_false_iff_eq] at h2 h3
        simp only [refPartsH, partsH, Hd.mk.injEq, and_true]
        refine ⟨?_, by omega⟩
        rw [Bool.eq_iff_iff, beq_iff_eq, bne_iff_ne]
        omega
    rw [e]
  · rw [if_neg h1]
    by_cases h4 : mayH (refPartsH w) = true ∧ wordH (refPartsH w) = w
    · exfalso
      apply h1
      have e : partsH w = refPartsH w := by
        have := parts_word h4.1
        rw [h4.2] at this
        exact this
      rw [e]
      exact h4
    · rw [if_neg h4]
end Go.Proofs.Ythnoohghjcfghaa
