/- Pages granted, given back, and granted again: plain lists. -/
import Derived.Test.YtenhelbmcapfkaaPagesPlain
import Derived.Test.YtenhelbmcapfkaaBitsPlain2
namespace Go.Proofs.Ytenhelbmcapfkaa
open Go.RowKit

theorem markB_at {xs : List Bool} {A N : Nat} (v : Bool) (h : A + N ≤ xs.length) : markB xs A N v = setFrom xs A v N := by
  have hh : holdsB xs.length A N = true := (holdsB_iff _ _ _).2 (by omega)
  simp [markB, hh]
theorem back_cases (xs : List Bool) (a c : Int) :
    (∃ er : Int, (er == 0) = false ∧ backB xs a c = (xs, er)) ∨
    (∃ A N : Nat, a = A ∧ c = N ∧ 1 ≤ N ∧ A + N ≤ xs.length ∧ (∀ i, i < N → mk xs (A + i) = true) ∧ backB xs a c = (setFrom xs A false N, 0) ∧ backB (setFrom xs A false N) a c = (setFrom xs A false N, 2)) := by
  unfold backB
  cases hs : standB xs.length a c with
  | false => exact .inl ⟨8, by decide, by simp⟩
  | true =>
    cases hv : wholeB xs a c true with
    | false => exact .inl ⟨2, by decide, by simp⟩
    | true =>
      have hs' : 0 ≤ a ∧ 1 ≤ c ∧ c ≤ (xs.length : Int) - a := by simpa [standB] using hs
      obtain ⟨A, rfl⟩ := Int.eq_ofNat_of_zero_le hs'.1
      obtain ⟨N, rfl⟩ := Int.eq_ofNat_of_zero_le (show 0 ≤ c by omega)
      have hall := ((wholeB_iff _ _ _ _).1 hv).2
      have hno : wholeB (setFrom xs A false N) A N true = false := wholeB_false (j := 0) (by omega) (by rw [setFrom_mk _ _ _ _ (by omega), if_pos (by omega)]; simp)
      refine .inr ⟨A, N, rfl, rfl, by omega, by omega, fun i hi => by simpa using hall i (by simpa using hi), ?_, ?_⟩
      · simp [markB_at false (show A + N ≤ xs.length by omega)]
      · rw [setFrom_length, hs, hno]; simp
theorem hasM_step (xs : List Bool) (A d : Nat) (v : Bool) (h : A + d < xs.length) : (fun y : Int => if y = ((A + d : Nat) : Int) then v else hasM (setFrom xs A v d) y) = hasM (setFrom xs A v (d + 1)) := by
  funext y
  by_cases e : y = ((A + d : Nat) : Int)
  · rw [if_pos e, e]
    simp only [hasM, Int.natCast_nonneg, decide_true, Bool.true_and, Int.toNat_natCast]
    rw [setFrom, mk_set _ _ _ _ (by rw [setFrom_length]; exact h), if_pos rfl]
  · rw [if_neg e]
    unfold hasM
    by_cases h0 : 0 ≤ y
    · rw [setFrom, mk_set _ _ _ _ (by rw [setFrom_length]; exact h), if_neg (by omega)]
    · simp [show ¬ 0 ≤ y from h0]
theorem hasM_at (xs : List Bool) (A d : Nat) (v : Bool) (h : A + d ≤ xs.length) : hasM (setFrom xs A v d) ((A + d : Nat) : Int) = mk xs (A + d) := by
  simp only [hasM, Int.natCast_nonneg, decide_true, Bool.true_and, Int.toNat_natCast]
  rw [setFrom_mk _ _ _ _ h, if_neg (by omega)]
theorem hasM_none (n : Nat) : (fun _ : Int => false) = hasM (List.replicate n false) := by
  funext y
  unfold hasM mk
  rw [List.getElem?_replicate]
  split <;> simp
/-- What is granted can be given back, and then all is as it was. -/
theorem grant_back {xs : List Bool} {A N : Nat} (hN : 1 ≤ N) (h : A + N ≤ xs.length) (hw : wholeB xs A N false = true) :
    backB (setFrom xs A true N) A N = (xs, 0) ∧ countB (setFrom xs A true N) = countB xs + N := by
  have hall : ∀ i, i < N → mk xs (A + i) = false := fun i hi => by simpa using ((wholeB_iff _ _ _ _).1 hw).2 i (by simpa using hi)
  refine ⟨?_, countB_setFrom xs A N h hall⟩
  have hs : standB (setFrom xs A true N).length A N = true := by rw [setFrom_length]; simp [standB]; omega
  have hv : wholeB (setFrom xs A true N) A N true = true := wholeB_true ((holdsB_iff _ _ _).2 (by rw [setFrom_length]; omega)) (fun i hi => by rw [setFrom_mk _ _ _ _ h, if_pos (by omega)])
  unfold backB
  rw [hs, hv]
  simp [markB_at false (show A + N ≤ (setFrom xs A true N).length by rw [setFrom_length]; exact h), setFrom_back xs A N h hall]
theorem grant_er {xs : List Bool} {n : Int} (hn : 1 ≤ n) {er : Int} (h : grantB xs n = (xs, 0, er)) (her : (er == 0) = false) : er = 3 := by
  cases hf : findB xs n with
  | none =>
    rw [grantB_none (by omega) hf] at h
    simp at h
    exact h.symm
  | some A =>
    rw [grantB_some (by omega) hf] at h
    simp at h
    rw [← h.2.2] at her
    simp at her
end Go.Proofs.Ytenhelbmcapfkaa
