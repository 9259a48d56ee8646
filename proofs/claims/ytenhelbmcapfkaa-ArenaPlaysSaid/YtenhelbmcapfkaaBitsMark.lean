/- Package bits: Mark and Whole. -/
import Derived.Test.YtenhelbmcapfkaaBits
import Derived.StillTailTactics
namespace Go.Proofs.Ytenhelbmcapfkaa
open Go.RowKit

def MarkPost (b o g : Nat) (xs : List Bool) (a c : Int) (v : Bool) (w : World) (e : Ending) (w' : World) : Prop :=
  e = .returned (.int .i64 (errB (holdsB xs.length a c))) ∧ IsRow w' b o g (markB xs a c v) ∧ Kept [g] w w'

set_option maxRecDepth 100000 in
set_option maxHeartbeats 1000000 in
theorem bitsMark_any (b o g : Nat) (xs : List Bool) (a c : Int) (v : Bool) (w : World) (hm : IsRow w b o g xs) (ha : a ≤ 9223372036854775807) :
    Calls Try.prog 54 #[.pointer (some ⟨b, o, none⟩), .agg #[.int .i64 a, .int .i64 c], .bool v] w (MarkPost b o g xs a c v w) := by
  have hx := hm.len
  have rR := Row.new w 63 [.int .i64 a, .int .i64 c]
  have kW := (Kept.refl [] w).alloc (.cells #[.int .i64 a, .int .i64 c] 63)
  have hM := hm.kept kW (by simp) (by simp)
  have hltg := hm.ltG
  go_enter Try.func54, Try.ntmps54
  go_wp2_with fail
  generalize w.alloc (.cells #[.int .i64 a, .int .i64 c] 63) = W at rR kW hM ⊢
  refine (bitsHolds_any b o g xs a c W hM ha).mono ?_
  rintro e W1 ⟨rfl, k1⟩
  have hM1 := hM.kept k1 (by simp) (by simp)
  have rR1 := rR.kept k1 (by simp)
  have kW1 := kW.trans k1
  have cR0 : W1.cell? ⟨w.heap.size, 0, none⟩ = some (.int .i64 a) := by simpa using rR1.cell 0
  have cR1 : W1.cell? ⟨w.heap.size, 1, none⟩ = some (.int .i64 c) := by simpa using rR1.cell 1
  clear hM rR kW k1
  cases hh : holdsB xs.length a c with
  | false =>
    have H := Lib.hid hh
    clear hh
    go_wp2
    go_ret
    exact ⟨by rw [H.out]; rfl, by simpa [markB, H.out] using hM1, kW1.any⟩
  | true =>
    have hd := (holdsB_iff _ _ _).1 hh
    have H := Lib.hid hh
    clear hh
    obtain ⟨d0, d1, d2⟩ := hd
    obtain ⟨A, rfl⟩ := Int.eq_ofNat_of_zero_le d0
    obtain ⟨N, rfl⟩ := Int.eq_ofNat_of_zero_le d1
    go_wp2_with fail
    go_loopw [14] (fun i wr => ∃ j : Nat, j ≤ N ∧ i = .int .i64 j ∧ IsRow wr b o g (setFrom xs A v j) ∧ Kept [g] W1 wr) (fun i _ => N - (intOf i).toNat)
    case atStart => exact ⟨0, Nat.zero_le _, rfl, hM1, Kept.refl _ _⟩
    case round =>
      obtain ⟨j, hj, rfl, hmr, hkr⟩ := hrel
      have dR0 : wr.cell? ⟨w.heap.size, 0, none⟩ = some (.int .i64 A) := by simpa using (rR1.kept hkr (by simp; omega)).cell 0
      by_cases hlt : j < N
      · have hsl := setFrom_length xs A v j
        have cB := hmr.cellB
        rw [hsl] at cB
        have cG := hmr.cellG (A + j) (by omega)
        have fG := hmr.2.1.free (A + j)
        have HS := Lib.hid hsl
        clear hsl
        have t0 : (0 : Int) ≤ (A : Int) + j := by omega
        have t2 : (A : Int) + j < xs.length := by omega
        have t1 : ((A : Int) + j).toNat = A + j := by omega
        have tw : IntKind.i64.wrap ((A : Int) + j) = (A : Int) + j := IntWalk.i64_in _ (by omega)
        go_wp2_with fail
        go_still_tail 10, (by kernel_rfl)
        go_wp2
        go_roundw
        case rel => exact ⟨j + 1, by omega, by go_num, (hmr.set (A + j) v).drew, (hkr.set (p := ⟨g, A + j, none⟩) (.inl (by simp)) _).drew⟩
        case measure => simp [intOf]; omega
      · obtain rfl : j = N := by omega
        go_wp2
        go_ret
        exact ⟨by rw [H.out]; rfl, by simpa [markB, H.out] using hmr, kW1.any.trans hkr⟩

def WholePost (xs : List Bool) (a c : Int) (v : Bool) (w : World) (e : Ending) (w' : World) : Prop := e = .returned (.bool (wholeB xs a c v)) ∧ Kept [] w w'

theorem wholeB_true {xs : List Bool} {A N : Nat} {v : Bool} (h : holdsB xs.length A N = true) (hb : ∀ i, i < N → mk xs (A + i) = v) : wholeB xs A N v = true := by
  rw [wholeB, h, Bool.true_and]
  exact (allFrom_iff _ _ _ _).2 (by simpa using hb)
theorem wholeB_false {xs : List Bool} {A N j : Nat} {v : Bool} (hj : j < N) (hb : mk xs (A + j) ≠ v) : wholeB xs A N v = false := by
  cases h : wholeB xs A N v with
  | false => rfl
  | true => exact absurd (((wholeB_iff _ _ _ _).1 h).2 j (by simpa using hj)) (by simpa using hb)

set_option maxRecDepth 100000 in
set_option maxHeartbeats 1000000 in
theorem bitsWhole_any (b o g : Nat) (xs : List Bool) (a c : Int) (v : Bool) (w : World) (hm : IsRow w b o g xs) (ha : a ≤ 9223372036854775807) :
    Calls Try.prog 53 #[.pointer (some ⟨b, o, none⟩), .agg #[.int .i64 a, .int .i64 c], .bool v] w (WholePost xs a c v w) := by
  have hx := hm.len
  have rR := Row.new w 63 [.int .i64 a, .int .i64 c]
  have kW := (Kept.refl [] w).alloc (.cells #[.int .i64 a, .int .i64 c] 63)
  have hM := hm.kept kW (by simp) (by simp)
  have hltg := hm.ltG
  go_enter Try.func53, Try.ntmps53
  go_wp2_with fail
  generalize w.alloc (.cells #[.int .i64 a, .int .i64 c] 63) = W at rR kW hM ⊢
  refine (bitsHolds_any b o g xs a c W hM ha).mono ?_
  rintro e W1 ⟨rfl, k1⟩
  have hM1 := hM.kept k1 (by simp) (by simp)
  have rR1 := rR.kept k1 (by simp)
  have kW1 := kW.trans k1
  have cR0 : W1.cell? ⟨w.heap.size, 0, none⟩ = some (.int .i64 a) := by simpa using rR1.cell 0
  have cR1 : W1.cell? ⟨w.heap.size, 1, none⟩ = some (.int .i64 c) := by simpa using rR1.cell 1
  clear hM rR kW k1
  cases hh : holdsB xs.length a c with
  | false =>
    have H := Lib.hid hh
    clear hh
    go_wp2
    go_ret
    exact ⟨by rw [wholeB, H.out]; rfl, kW1⟩
  | true =>
    have hd := (holdsB_iff _ _ _).1 hh
    have H := Lib.hid hh
    clear hh
    obtain ⟨d0, d1, d2⟩ := hd
    obtain ⟨A, rfl⟩ := Int.eq_ofNat_of_zero_le d0
    obtain ⟨N, rfl⟩ := Int.eq_ofNat_of_zero_le d1
    go_wp2_with fail
    go_loopw [14] (fun i wr => ∃ j : Nat, j ≤ N ∧ i = .int .i64 j ∧ (∀ i, i < j → mk xs (A + i) = v) ∧ Kept [] W1 wr) (fun i _ => N - (intOf i).toNat)
    case atStart => exact ⟨0, Nat.zero_le _, rfl, by omega, Kept.refl _ _⟩
    case round =>
      obtain ⟨j, hj, rfl, hall, hkr⟩ := hrel
      have hmr := hM1.kept hkr (by simp) (by simp)
      have dR0 : wr.cell? ⟨w.heap.size, 0, none⟩ = some (.int .i64 A) := by simpa using (rR1.kept hkr (by simp)).cell 0
      have HA := Lib.hid hall
      clear hall
      by_cases hlt : j < N
      · have cB := hmr.cellB
        have cG := hmr.cellG (A + j) (by omega)
        have t0 : (0 : Int) ≤ (A : Int) + j := by omega
        have t2 : (A : Int) + j < xs.length := by omega
        have t1 : ((A : Int) + j).toNat = A + j := by omega
        by_cases hv : mk xs (A + j) = v
        · rw [hv] at cG
          have HV := Lib.hid hv
          clear hv
          go_wp2_with fail
          go_quiet (fail)
          go_wp2
          go_roundw
          case rel => exact ⟨j + 1, by omega, by go_num, fun i hi => by by_cases e : i = j; subst e; exact HV.out; exact HA.out i (by omega), hkr.drewN _⟩
          case measure => simp [intOf]; omega
        · have hv2 : mk xs (A + j) = !v := by cases v <;> simpa using hv
          have HV := Lib.hid hv
          rw [hv2] at cG
          clear hv hv2
          cases v
          all_goals
            simp only [Bool.not_true, Bool.not_false] at cG
            go_wp2_with fail
            go_quiet (fail)
            go_wp2
            go_ret
            exact ⟨by rw [wholeB_false hlt HV.out]; rfl, (kW1.trans hkr).drewN _⟩
      · obtain rfl : j = N := by omega
        go_wp2
        go_ret
        exact ⟨by rw [wholeB_true H.out HA.out]; rfl, kW1.trans hkr⟩
end Go.Proofs.Ytenhelbmcapfkaa
