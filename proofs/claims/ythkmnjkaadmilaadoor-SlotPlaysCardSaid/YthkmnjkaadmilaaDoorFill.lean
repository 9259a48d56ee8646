/- Package words: Fill. -/
import Derived.Test.YthkmnjkaadmilaaDoorHolds
import Derived.Test.YthkmnjkaadmilaaDoorIter
import Derived.Test.YthkmnjkaadmilaaDoorRegion
namespace Go.Proofs.YthkmnjkaadmilaaDoor
open Go.RowKit Go.Shelf

attribute [local go_sem] Oper.semAt_some

/-- The words with v at all the places l. -/
def setAll (xs : List Int) (v : Int) (l : List Int) : List Int := l.foldl (fun ys at_ => ys.set at_.toNat v) xs
theorem setAll_snoc (xs : List Int) (v : Int) (l : List Int) (x : Int) : setAll xs v (l ++ [x]) = (setAll xs v l).set x.toNat v := by simp [setAll]
theorem setAll_length (xs : List Int) (v : Int) (l : List Int) : (setAll xs v l).length = xs.length := by
  unfold setAll
  induction l generalizing xs with
  | nil => rfl
  | cons x r ih => rw [List.foldl_cons, ih, List.length_set]
/-- The words with c of them, from a on, v. -/
def flB (xs : List Int) (a c v : Int) : List Int := if holdsB xs.length a c then setAll xs v (handed (fun i => a + (i : Nat)) c.toNat) else xs
theorem flB_length (xs : List Int) (a c v : Int) : (flB xs a c v).length = xs.length := by
  unfold flB; split
  · exact setAll_length _ _ _
  · rfl

def FillPost (b g : Nat) (xs : List Int) (a c v : Int) (w : World) (e : Ending) (w' : World) : Prop :=
  e = .returned (.int .i64 (errB (holdsB xs.length a c))) ∧ IsMem w' b g (flB xs a c v) ∧ Kept [g] w w'

end Go.Proofs.YthkmnjkaadmilaaDoor
