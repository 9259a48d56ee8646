/- Pages that are granted and given back: plain lists. -/
import Derived.Test.YtenhelbmcapfkaaFillGet
import Derived.Test.YtenhelbmcapfkaaPagesGrant
namespace Go.Proofs.Ytenhelbmcapfkaa
open Go.RowKit

theorem grant_cases (xs : List Bool) (ys : List Int) (n : Int) :
    (∃ er : Int, (er == 0) = false ∧ grantB xs n = (xs, 0, er) ∧ wipeB xs ys n = ys) ∨
    (∃ A N : Nat, n = N ∧ 1 ≤ N ∧ A + N ≤ xs.length ∧ wholeB xs A N false = true ∧ findB xs N = some A ∧ grantB xs n = (markB xs A N true, (A : Int), 0) ∧ wipeB xs ys n = flB ys ((A : Int) * 16) ((N : Int) * 16) 0) := by
  by_cases h1 : n < 1
  · exact .inl ⟨1, by decide, grantB_low h1, wipeB_none (findB_low h1)⟩
  · cases hf : findB xs n with
    | none => exact .inl ⟨3, by decide, grantB_none h1 hf, wipeB_none hf⟩
    | some A =>
      obtain ⟨N, rfl⟩ := Int.eq_ofNat_of_zero_le (show 0 ≤ n by omega)
      obtain ⟨hA, hw, _⟩ := (findB_some (by omega)).1 hf
      have := ((wholeB_iff _ _ _ _).1 hw).1
      exact .inr ⟨A, N, rfl, by omega, by omega, hw, hf, grantB_some h1 hf, wipeB_some hf⟩

theorem wipe_get {ys : List Int} {A N m : Nat} (hl : ys.length = 16 * m) (h : A + N ≤ m) (k : Nat) (hk : k < ys.length) :
    (flB ys ((A : Int) * 16) ((N : Int) * 16) 0)[k]?.getD 0 = if A ≤ k / 16 ∧ k / 16 < A + N then 0 else ys[k]?.getD 0 := by
  have hh : holdsB ys.length ((A : Int) * 16) ((N : Int) * 16) = true := (holdsB_iff _ _ _).2 (by omega)
  unfold flB
  rw [hh, if_pos rfl, show ((N : Int) * 16).toNat = N * 16 from by omega, show ((A : Int) * 16) = ((A * 16 : Nat) : Int) from by omega, setAll_get _ _ _ _ _ (by omega) hk]
  by_cases h1 : A ≤ k / 16 ∧ k / 16 < A + N
  · rw [if_pos h1, if_pos (by omega)]
  · rw [if_neg h1, if_neg (by omega)]

end Go.Proofs.Ytenhelbmcapfkaa
