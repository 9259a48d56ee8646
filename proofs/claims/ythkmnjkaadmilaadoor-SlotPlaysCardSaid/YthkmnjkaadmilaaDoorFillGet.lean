/- What a fill leaves, word by word. -/
import Derived.Test.YthkmnjkaadmilaaDoorFill
import Derived.Test.YthkmnjkaadmilaaDoorMoved
namespace Go.Proofs.YthkmnjkaadmilaaDoor
open Go.RowKit

theorem setAll_get (xs : List Int) (v : Int) (A : Nat) : ∀ (N : Nat) (j : Nat), A + N ≤ xs.length → j < xs.length →
    (setAll xs v (handed (fun i => (A : Int) + (i : Nat)) N))[j]?.getD 0 = if A ≤ j ∧ j < A + N then v else xs[j]?.getD 0 := by
  intro N
  induction N with
  | zero => intro j _ _; rw [if_neg (by omega)]; rfl
  | succ N ih =>
    intro j hN hj
    rw [handed_succ, setAll_snoc, set_getD _ _ _ _ (by rw [setAll_length]; exact hj), ih j (by omega) hj, show ((A : Int) + (N : Nat)).toNat = A + N from by omega]
    by_cases e : A + N = j
    · rw [if_pos e, if_pos (by omega)]
    · rw [if_neg e]
      by_cases h : A ≤ j ∧ j < A + N
      · rw [if_pos h, if_pos (by omega)]
      · rw [if_neg h, if_neg (by omega)]
end Go.Proofs.YthkmnjkaadmilaaDoor
