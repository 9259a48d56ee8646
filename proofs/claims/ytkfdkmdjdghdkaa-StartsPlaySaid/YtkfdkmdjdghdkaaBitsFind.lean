/- Package bits: Next and Find. -/
import Derived.Test.YtkfdkmdjdghdkaaBitsMark
import Derived.WalkMore
import Derived.Deep.LoopGhost
namespace Go.Proofs.Ytkfdkmdjdghdkaa
open Go.RowKit

theorem optV_some (j : Nat) : optV (some j) = .tuple #[.int .i64 j, .bool true] := rfl
theorem optV_none : optV none = .tuple #[.int .i64 0, .bool false] := rfl

/-- From F on: what 'max(from, 0)' leaves. -/
theorem next_from {xs : List Bool} {fr : Int} {F : Nat} (hF : ∀ j : Nat, F ≤ j ↔ fr ≤ (j : Int)) {j : Nat} (hj : j < xs.length) (hle : F ≤ j) (hb : ∀ i, F ≤ i → i < j → mk xs i = false) (hv : mk xs j = true) : nextB xs fr = some j :=
  nextB_some.2 ⟨hj, ⟨(hF j).1 hle, hv⟩, fun i hi hf => hb i ((hF i).2 hf) hi⟩
theorem next_from_none {xs : List Bool} {fr : Int} {F : Nat} (hF : ∀ j : Nat, F ≤ j ↔ fr ≤ (j : Int)) {j : Nat} (hj : xs.length ≤ j) (hb : ∀ i, F ≤ i → i < j → mk xs i = false) : nextB xs fr = none :=
  nextB_none.2 fun i hi hf => hb i ((hF i).2 hf) (by omega)

set_option maxRecDepth 100000 in
set_option maxHeartbeats 1000000 in
theorem bitsNext_any (b o g : Nat) (xs : List Bool) (fr : Int) (w : World) (hm : IsRow w b o g xs) (hfr : fr ≤ 9223372036854775807) :
    Calls Try.prog 27 #[.pointer (some ⟨b, o, none⟩), .int .i64 fr] w fun e w' => e = .returned (optV (nextB xs fr)) ∧ w = w' := by
  have hx := hm.len
  have hc := hm.cellB
  obtain ⟨F, hF, hF2, hcs⟩ : ∃ F : Nat, Hid (∀ j : Nat, F ≤ j ↔ fr ≤ (j : Int)) ∧ F ≤ 9223372036854775807 ∧ ((fr < 0 ∧ F = 0) ∨ (0 ≤ fr ∧ fr = F)) := ⟨(max fr 0).toNat, fun j => by omega, by omega, by omega⟩
  rcases hcs with ⟨h0, rfl⟩ | ⟨h0, rfl⟩
  all_goals
    go_enter Try.func27, Try.ntmps27
    go_wp2
  · go_loop [6] (fun i => ∃ j : Nat, j ≤ xs.length ∧ i = .int .i64 j ∧ ∀ i, 0 ≤ i → i < j → mk xs i = false) (fun i => xs.length - (intOf i).toNat)
    case atStart => exact ⟨0, Nat.zero_le _, rfl, by omega⟩
    case round =>
      obtain ⟨j, hj, rfl, hall⟩ := hrel
      have HA := Lib.hid hall
      clear hall
      by_cases hlt : j < xs.length
      · have cG := hm.cellG j hlt
        cases hv : mk xs j with
        | true =>
          rw [hv] at cG
          have HV := Lib.hid hv
          clear hv
          go_wp2
          go_ret2
          exact ⟨by rw [next_from hF.out hlt (Nat.zero_le _) HA.out HV.out]; rfl, rfl⟩
        | false =>
          rw [hv] at cG
          have HV := Lib.hid hv
          clear hv
          go_wp2
          go_round
          case rel => exact ⟨j + 1, by omega, by go_num, fun i h1 h2 => by by_cases e : i = j; subst e; exact HV.out; exact HA.out i h1 (by omega)⟩
          case measure => simp [intOf]; omega
      · go_wp2
        go_ret2
        exact ⟨by rw [next_from_none hF.out (Nat.le_of_not_lt hlt) HA.out]; rfl, rfl⟩
  · go_loop [6] (fun i => ∃ j : Nat, F ≤ j ∧ (j ≤ xs.length ∨ j = F) ∧ i = .int .i64 j ∧ ∀ i, F ≤ i → i < j → mk xs i = false) (fun i => xs.length - (intOf i).toNat)
    case atStart => exact ⟨F, Nat.le_refl _, .inr rfl, rfl, by omega⟩
    case round =>
      obtain ⟨j, hj, hj2, rfl, hall⟩ := hrel
      have HA := Lib.hid hall
      clear hall
      by_cases hlt : j < xs.length
      · have cG := hm.cellG j hlt
        cases hv : mk xs j with
        | true =>
          rw [hv] at cG
          have HV := Lib.hid hv
          clear hv
          go_wp2
          go_ret2
          exact ⟨by rw [next_from hF.out hlt hj HA.out HV.out]; rfl, rfl⟩
        | false =>
          rw [hv] at cG
          have HV := Lib.hid hv
          clear hv
          go_wp2
          go_round
          case rel => exact ⟨j + 1, by omega, by omega, by go_num, fun i h1 h2 => by by_cases e : i = j; subst e; exact HV.out; exact HA.out i h1 (by omega)⟩
          case measure => simp [intOf]; omega
      · go_wp2
        go_ret2
        exact ⟨by rw [next_from_none hF.out (Nat.le_of_not_lt hlt) HA.out]; rfl, rfl⟩

/-- A mark at F + D, none between: no row of N places that begins at F to F + D. -/
theorem find_bad {xs : List Bool} {F D N : Nat} (hD : D < N) (hbad : ∀ A, A < F → wholeB xs A N false = false) (hv : mk xs (F + D) = true) : ∀ A, A < F + D + 1 → wholeB xs A N false = false := by
  intro A hA
  by_cases h : A < F
  · exact hbad A h
  · have e : A + (F + D - A) = F + D := by omega
    exact wholeB_false (j := F + D - A) (by omega) (by rw [e, hv]; simp)

end Go.Proofs.Ytkfdkmdjdghdkaa
