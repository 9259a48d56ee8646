/- Package kraalref01, more: Move, New, Same. -/
import Derived.Test.YthkmnjkaadmilaaDoorRef
namespace Go.Proofs.YthkmnjkaadmilaaDoor
open Go.RowKit

theorem moved_zero (xs : List Int) (a to : Nat) : moved xs a 0 to = xs := by
  refine ext_getD (moved_length _ _ _ _) fun j hj => ?_
  rw [moved_length] at hj
  rw [moved_get _ _ _ _ _ hj, if_neg (by omega)]
theorem moved_succ (xs : List Int) (a to j : Nat) : (moved xs a j to).set (to + j) (xs[a + j]?.getD 0) = moved xs a (j + 1) to := by
  refine ext_getD (by rw [List.length_set, moved_length, moved_length]) fun i hi => ?_
  rw [List.length_set, moved_length] at hi
  rw [set_getD _ _ _ _ (by rw [moved_length]; exact hi), moved_get _ _ _ _ _ hi, moved_get _ _ _ _ _ hi]
  by_cases e : to + j = i
  · subst e
    rw [if_pos rfl, if_pos (by omega), show to + j - to + a = a + j from by omega]
  · rw [if_neg e]
    by_cases h : to ≤ i ∧ i < to + j
    · rw [if_pos h, if_pos (by omega)]
    · rw [if_neg h, if_neg (by omega)]

def SamePost (b : Bool) (w : World) (e : Ending) (w' : World) : Prop := e = .returned (.bool b) ∧ Kept [] w w'

theorem same_false {xs ys : List Int} {j : Nat} (h : xs[j]?.getD 0 ≠ ys[j]?.getD 0) : decide (xs = ys) = false := by
  simp only [decide_eq_false_iff_not]
  rintro rfl
  exact h rfl
theorem same_true {xs ys : List Int} (hl : xs.length = ys.length) (h : ∀ j, j < xs.length → xs[j]?.getD 0 = ys[j]?.getD 0) : decide (xs = ys) = true := by
  simp only [decide_eq_true_eq]
  exact ext_getD hl h

set_option maxHeartbeats 1000000 in
theorem refSame_any (A B : Option Addr) (cap cap2 : Nat) (xs ys : List Int) (w : World) (hs : Sl w .u64 A xs) (ht : Sl w .u64 B ys) (hx : xs.length ≤ 16384) :
    Calls Tryd.prog 13 #[.slice A xs.length cap, .slice B ys.length cap2] w (SamePost (decide (xs = ys)) w) := by
  by_cases hl : xs.length = ys.length
  · have hl' : ((xs.length : Int) != (ys.length : Int)) = false := by simp [hl]
    have HL := Lib.hid hl
    clear hl
    go_enter Tryd.func13, Tryd.ntmps13
    go_wp2_with fail
    go_loopw [5] (fun i wr => ∃ j : Nat, j ≤ xs.length ∧ i = .int .i64 j ∧ (∀ k, k < j → xs[k]?.getD 0 = ys[k]?.getD 0) ∧ Kept [] w wr) (fun i _ => xs.length - (intOf i).toNat)
    case atStart => exact ⟨0, Nat.zero_le _, rfl, fun k hk => by omega, Kept.refl _ _⟩
    case round =>
      obtain ⟨j, hj, rfl, heq, hkr⟩ := hrel
      have HE := Lib.hid heq
      clear heq
      by_cases hlt : j < xs.length
      · obtain ⟨b, off, rfl, hc⟩ := (hs.kept hkr).cell hlt
        have hlt2 : j < ys.length := by have := HL.out; omega
        obtain ⟨b2, off2, rfl, hc2⟩ := (ht.kept hkr).cell hlt2
        by_cases hv : xs[j]?.getD 0 = ys[j]?.getD 0
        · have HV := Lib.hid hv
          rw [hv] at hc
          clear hv
          go_wp2_with fail
          go_quiet (fail)
          go_wp2
          go_roundw
          case rel => exact ⟨j + 1, by omega, by go_num, fun k hk => by by_cases e : k = j; (rw [e]; exact HV.out); exact HE.out k (by omega), hkr.drewN _⟩
          case measure => simp [intOf]; omega
        · have hd := same_false hv
          have hv' : (xs[j]?.getD 0 != ys[j]?.getD 0) = true := by simpa using hv
          generalize xs[j]?.getD 0 = x at hc hv'
          generalize ys[j]?.getD 0 = y at hc2 hv'
          have HD := Lib.hid hd
          clear hd hv
          go_wp2_with fail
          go_quiet (fail)
          go_wp2
          go_ret
          exact ⟨by rw [HD.out]; rfl, hkr.drewN _⟩
      · go_wp2
        go_ret
        have hd := same_true HL.out (fun k hk => HE.out k (by omega))
        exact ⟨by rw [hd]; rfl, hkr⟩
  · have hl' : ((xs.length : Int) != (ys.length : Int)) = true := by simp; omega
    have hd : decide (xs = ys) = false := by
      simp only [decide_eq_false_iff_not]
      rintro rfl
      exact hl rfl
    have HD := Lib.hid hd
    clear hd hl
    go_enter Tryd.func13, Tryd.ntmps13
    go_wp2
    go_ret
    exact ⟨by rw [HD.out]; rfl, Kept.refl _ _⟩
end Go.Proofs.YthkmnjkaadmilaaDoor
