/- Rows of marks: counting, and marking back. -/
import Derived.Test.YtenhelbmcapfkaaBitsPlain
namespace Go.Proofs.Ytenhelbmcapfkaa
open Go.RowKit

theorem mk_ext {xs ys : List Bool} (hl : xs.length = ys.length) (h : ∀ j, j < xs.length → mk xs j = mk ys j) : xs = ys := by
  refine List.ext_getElem hl fun j h1 h2 => ?_
  have := h j h1
  simpa [mk, h1, h2] using this
theorem countB_set {xs : List Bool} {i : Nat} (hi : i < xs.length) (hv : mk xs i = false) : countB (xs.set i true) = countB xs + 1 := by
  have hv' : xs[i] = false := by simpa [mk, hi] using hv
  unfold countB
  rw [List.count_set hi]
  simp [hv']
theorem countB_setFrom (xs : List Bool) (A N : Nat) (h : A + N ≤ xs.length) (hv : ∀ i, i < N → mk xs (A + i) = false) : countB (setFrom xs A true N) = countB xs + N := by
  induction N with
  | zero => rfl
  | succ N ih =>
    rw [setFrom, countB_set (by rw [setFrom_length]; omega), ih (by omega) (fun i hi => hv i (by omega))]
    · omega
    · rw [setFrom_mk _ _ _ _ (by omega), if_neg (by omega)]
      exact hv N (by omega)
theorem setFrom_back (xs : List Bool) (A N : Nat) (h : A + N ≤ xs.length) (hv : ∀ i, i < N → mk xs (A + i) = false) : setFrom (setFrom xs A true N) A false N = xs := by
  refine mk_ext (by rw [setFrom_length, setFrom_length]) fun j _ => ?_
  rw [setFrom_mk _ _ _ _ (by rw [setFrom_length]; exact h), setFrom_mk _ _ _ _ h]
  by_cases hj : A ≤ j ∧ j < A + N
  · rw [if_pos hj]
    have := hv (j - A) (by omega)
    rw [show A + (j - A) = j from by omega] at this
    exact this.symm
  · rw [if_neg hj, if_neg hj]
theorem countB_gap (xs : List Bool) (F : Nat) : ∀ A, F ≤ A → A ≤ xs.length → (∀ j, F ≤ j → j < A → mk xs j = false) → countB (xs.take A) = countB (xs.take F) := by
  intro A
  induction A with
  | zero => intro h _ _; rw [show F = 0 from by omega]
  | succ A ih =>
    intro h1 h2 h3
    by_cases e : F = A + 1
    · rw [e]
    · rw [countB_take_succ xs A (by omega), h3 A (by omega) (by omega), ih (by omega) (by omega) (fun j hj hj2 => h3 j hj (by omega))]
      simp
end Go.Proofs.Ytenhelbmcapfkaa
