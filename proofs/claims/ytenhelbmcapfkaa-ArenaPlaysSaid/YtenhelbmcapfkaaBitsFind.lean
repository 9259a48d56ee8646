/- Package bits: Next and Find. -/
import Derived.Test.YtenhelbmcapfkaaBitsMark
import Derived.WalkMore
import Derived.Deep.LoopGhost
namespace Go.Proofs.Ytenhelbmcapfkaa
open Go.RowKit

theorem optV_some (j : Nat) : optV (some j) = .tuple #[.int .i64 j, .bool true] := rfl
theorem optV_none : optV none = .tuple #[.int .i64 0, .bool false] := rfl

/-- From F on: what 'max(from, 0)' leaves. -/
theorem next_from {xs : List Bool} {fr : Int} {F : Nat} (hF : ∀ j : Nat, F ≤ j ↔ fr ≤ (j : Int)) {j : Nat} (hj : j < xs.length) (hle : F ≤ j) (hb : ∀ i, F ≤ i → i < j → mk xs i = false) (hv : mk xs j = true) : nextB xs fr = some j :=
  nextB_some.2 ⟨hj, ⟨(hF j).1 hle, hv⟩, fun i hi hf => hb i ((hF i).2 hf) hi⟩
theorem next_from_none {xs : List Bool} {fr : Int} {F : Nat} (hF : ∀ j : Nat, F ≤ j ↔ fr ≤ (j : Int)) {j : Nat} (hj : xs.length ≤ j) (hb : ∀ i, F ≤ i → i < j → mk xs i = false) : nextB xs fr = none :=
  nextB_none.2 fun i hi hf => hb i ((hF i).2 hf) (by omega)

/-- A mark at F + D, none between: no row of N places that begins at F to F + D. -/
theorem find_bad {xs : List Bool} {F D N : Nat} (hD : D < N) (hbad : ∀ A, A < F → wholeB xs A N false = false) (hv : mk xs (F + D) = true) : ∀ A, A < F + D + 1 → wholeB xs A N false = false := by
  intro A hA
  by_cases h : A < F
  · exact hbad A h
  · have e : A + (F + D - A) = F + D := by omega
    exact wholeB_false (j := F + D - A) (by omega) (by rw [e, hv]; simp)

set_option maxRecDepth 100000 in
set_option maxHeartbeats 1000000 in
theorem bitsFind_any (b o g : Nat) (xs : List Bool) (n : Int) (w : World) (hm : IsRow w b o g xs) (hn : n ≤ 9223372036854775807) :
    Calls Try.prog 60 #[.pointer (some ⟨b, o, none⟩), .int .i64 n] w fun e w' => e = .returned (optV (findB xs n)) ∧ w = w' := by
  have hx := hm.len
  have hc := hm.cellB
  by_cases h1 : n < 1
  · have HF := Lib.hid (findB_low (xs := xs) h1)
    go_enter Try.func60, Try.ntmps60
    go_wp2
    go_step3
    go_wp2
    try rw [Exit.noGoto_ret]
    go_ret2
    exact ⟨by rw [HF.out]; rfl, rfl⟩
  · obtain ⟨N, rfl⟩ := Int.eq_ofNat_of_zero_le (show 0 ≤ n by omega)
    have h1' : decide ((N : Int) < 1) = false := by simpa using h1
    go_enter Try.func60, Try.ntmps60
    go_wp2
    go_step3
    go_wp2
    go_step3
    go_wp2
    go_loopg [6] (xs.length + 1) (fun k s6 wx => ∃ F : Nat, F ≤ xs.length ∧ k = xs.length + 1 - F ∧ s6 = .int .i64 F ∧ Hid (∀ A, A < F → wholeB xs A N false = false) ∧ w = wx)
    case atStart => exact ⟨0, Nat.zero_le _, by omega, rfl, by intro A hA; omega, rfl⟩
    case round =>
      obtain ⟨F, hF, hk, rfl, HB, rfl⟩ := hrel
      by_cases hfit : (N : Int) ≤ (xs.length : Int) - F
      · go_wp2
        go_loopg [6, 7] N (fun k2 s6 s7 wx => ∃ D : Nat, D ≤ N ∧ k2 = N - D ∧ s6 = .int .i64 F ∧ s7 = .int .i64 ((F + D : Nat) : Int) ∧ Hid (∀ i, i < D → mk xs (F + i) = false) ∧ w = wx)
        case atStart => exact ⟨0, Nat.zero_le _, by omega, rfl, by simp, by intro i hi; omega, rfl⟩
        case round =>
          obtain ⟨D, hD, hk2, rfl, rfl, HA, rfl⟩ := hrel
          by_cases hlt : D < N
          · have cG := hm.cellG (F + D) (by omega)
            have ht : ((F + D : Nat) : Int) < (F : Int) + N := by omega
            cases hv : mk xs (F + D) with
            | true =>
              rw [hv] at cG
              have HV := Lib.hid hv
              clear hv
              go_wp2
              go_roundg (xs.length + 1 - (F + D + 1))
              case measure => omega
              case rel => exact ⟨F + D + 1, by omega, rfl, by go_num, find_bad hlt HB.out HV.out, rfl⟩
            | false =>
              rw [hv] at cG
              have HV := Lib.hid hv
              clear hv
              go_wp2
              go_roundg (N - (D + 1))
              case measure => omega
              case rel => exact ⟨D + 1, by omega, rfl, rfl, by go_num, (fun i hi => by by_cases e : i = D; subst e; exact HV.out; exact HA.out i (by omega)), rfl⟩
          · obtain rfl : D = N := by omega
            have ht : decide (((F + D : Nat) : Int) < (F : Int) + D) = false := by simp
            have hres : findB xs D = some F := by
              refine (findB_some (by omega)).2 ⟨by omega, wholeB_true ((holdsB_iff _ _ _).2 (by omega)) HA.out, HB.out⟩
            have HR := Lib.hid hres
            clear hres
            go_wp2
            try rw [Exit.noGoto_ret]
            go_ret2
            exact ⟨by rw [HR.out]; rfl, rfl⟩
      · have hres : findB xs N = none := by
          refine (findB_none (by omega)).2 fun j hj => ?_
          by_cases h : j < F
          · exact HB.out j h
          · cases hw : wholeB xs j N false with
            | false => rfl
            | true => have := ((wholeB_iff _ _ _ _).1 hw).1; omega
        have HR := Lib.hid hres
        clear hres
        go_wp2
        try rw [Exit.noGoto_ret]
        go_ret2
        exact ⟨by rw [HR.out]; rfl, rfl⟩
end Go.Proofs.Ytenhelbmcapfkaa
