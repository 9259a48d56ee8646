/- kraalref12: Same, of what is the same, whatever the region. -/
import Derived.Test.YthkmnjkaadmilaaDoorHeader
import Derived.Test.YthkmnjkaadmilaaDoorRef2
import Derived.Test.YthkmnjkaadmilaaDoorNum
namespace Go.Proofs.YthkmnjkaadmilaaDoor
open Go.RowKit

set_option maxRecDepth 100000 in
set_option maxHeartbeats 4000000 in
theorem refSame13_any (a r : Int) (ar : Bool) (kd ty nn : Int) (ks vs : List Int) (ka : Option Addr) (kc : Nat) (va : Option Addr) (vc : Nat) (kb : Option Addr) (kc2 : Nat) (vb : Option Addr) (vc2 : Nat) (w : World)
    (hk1 : Sl w .i64 ka ks) (hv1 : Sl w .u64 va vs) (hk2 : Sl w .i64 kb ks) (hv2 : Sl w .u64 vb vs) (hsk : ks.length ≤ 16384) (hsv : vs.length ≤ 16384) :
    Calls Tryd.prog 12 #[.agg #[.int .i64 a, .int .i64 r, .bool ar, .int .i64 kd, .int .i64 ty, .int .i64 nn, .slice ka ks.length kc, .slice va vs.length vc], .agg #[.int .i64 a, .int .i64 r, .bool ar, .int .i64 kd, .int .i64 ty, .int .i64 nn, .slice kb ks.length kc2, .slice vb vs.length vc2]] w (FixedPost w) := by
  have kW := ((Kept.refl [] w).alloc (.cells #[.int .i64 a, .int .i64 r, .bool ar, .int .i64 kd, .int .i64 ty, .int .i64 nn, .slice ka ks.length kc, .slice va vs.length vc] 27)).alloc (.cells #[.int .i64 a, .int .i64 r, .bool ar, .int .i64 kd, .int .i64 ty, .int .i64 nn, .slice kb ks.length kc2, .slice vb vs.length vc2] 27)
  have rA := (Row.new w 27 [.int .i64 a, .int .i64 r, .bool ar, .int .i64 kd, .int .i64 ty, .int .i64 nn, .slice ka ks.length kc, .slice va vs.length vc]).alloc (.cells #[.int .i64 a, .int .i64 r, .bool ar, .int .i64 kd, .int .i64 ty, .int .i64 nn, .slice kb ks.length kc2, .slice vb vs.length vc2] 27)
  have rB := Row.new (w.alloc (.cells #[.int .i64 a, .int .i64 r, .bool ar, .int .i64 kd, .int .i64 ty, .int .i64 nn, .slice ka ks.length kc, .slice va vs.length vc] 27)) 27 [.int .i64 a, .int .i64 r, .bool ar, .int .i64 kd, .int .i64 ty, .int .i64 nn, .slice kb ks.length kc2, .slice vb vs.length vc2]
  simp only [World.size_alloc] at rB
  have hgu := fun op x y => run_guard_head op x y ar ar kd ty nn kd ty nn
  have heq := fun w => run_neq_head ⟨ar, kd, ty, nn⟩ ⟨ar, kd, ty, nn⟩ w
  rw [show eqH ⟨ar, kd, ty, nn⟩ ⟨ar, kd, ty, nn⟩ = true by simp [eqH_iff]] at heq
  simp only [Bool.not_true] at heq
  go_enter Tryd.func12, Tryd.ntmps12
  go_wp2_with fail
  obtain ⟨R, hR⟩ : ∃ R, w.heap.size = R := ⟨_, rfl⟩
  rw [hR] at rA rB ⊢
  generalize (w.alloc (.cells #[.int .i64 a, .int .i64 r, .bool ar, .int .i64 kd, .int .i64 ty, .int .i64 nn, .slice ka ks.length kc, .slice va vs.length vc] 27)).alloc (.cells #[.int .i64 a, .int .i64 r, .bool ar, .int .i64 kd, .int .i64 ty, .int .i64 nn, .slice kb ks.length kc2, .slice vb vs.length vc2] 27) = W at rA rB kW ⊢
  clear hR
  go_loopw [5] (fun i wr => ∃ (j : Nat), j ≤ ks.length ∧ i = .int .i64 j ∧ Kept [] W wr) (fun i _ => ks.length - (intOf i).toNat)
  case atStart => exact ⟨0, Nat.zero_le _, rfl, Kept.refl _ _⟩
  case round =>
    obtain ⟨j, hj, rfl, hkr⟩ := hrel
    have rAr := rA.kept hkr (by simp)
    have rBr := rB.kept hkr (by simp)
    have c6 : wr.cell? ⟨R, 6, none⟩ = some (.slice ka ks.length kc) := by simpa using rAr.cell 6
    have c7 : wr.cell? ⟨R, 7, none⟩ = some (.slice va vs.length vc) := by simpa using rAr.cell 7
    have e6 : wr.cell? ⟨R + 1, 6, none⟩ = some (.slice kb ks.length kc2) := by simpa using rBr.cell 6
    have e7 : wr.cell? ⟨R + 1, 7, none⟩ = some (.slice vb vs.length vc2) := by simpa using rBr.cell 7
    by_cases hlt : j < ks.length
    · obtain ⟨b1, o1, rfl, q1⟩ := (hk1.kept (kW.trans hkr)).cell hlt
      obtain ⟨b2, o2, rfl, q2⟩ := (hk2.kept (kW.trans hkr)).cell hlt
      have hjl : (j : Int) < (ks.length : Int) := by omega
      generalize ks[j]?.getD 0 = z at q1 q2
      go_wp2_with fail
      go_quiet (fail)
      go_wp2
      go_roundw
      case rel => exact ⟨j + 1, by omega, by go_num, hkr.drewN _⟩
      case measure => simp [intOf]; omega
    · have hjl : ¬ (j : Int) < (ks.length : Int) := by omega
      have k2 := kW.trans hkr
      go_wp2_with fail
      refine (refSame_any va vb vc vc2 vs vs wr (hv1.kept k2) (hv2.kept k2) hsv).mono ?_
      rintro e w6 ⟨rfl, k6⟩
      rw [show decide (vs = vs) = true by simp]
      go_wp2
      go_ret
      exact ⟨rfl, k2.trans k6⟩
end Go.Proofs.YthkmnjkaadmilaaDoor
