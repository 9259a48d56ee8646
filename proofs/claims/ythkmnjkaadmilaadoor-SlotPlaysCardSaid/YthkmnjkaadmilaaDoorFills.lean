/- The law WordsFills: its walk. -/
import Derived.Test.YthkmnjkaadmilaaDoorFixed
import Derived.Test.YthkmnjkaadmilaaDoorAll
import Derived.Test.YthkmnjkaadmilaaDoorFillGet
import Derived.Test.YthkmnjkaadmilaaDoorMoved
import Derived.Test.YthkmnjkaadmilaaDoorSl
namespace Go.Proofs.YthkmnjkaadmilaaDoor
open Go.RowKit

/-- The first j of zs are written, the others are 0. -/
def sofar (zs : List Int) (m j : Nat) : List Int := zs.take j ++ List.replicate (m - j) 0
theorem sofar_length (zs : List Int) (m j : Nat) (hj : j ≤ zs.length) (hm : zs.length ≤ m) : (sofar zs m j).length = m := by simp [sofar]; omega
theorem sofar_zero (zs : List Int) (m : Nat) : sofar zs m 0 = List.replicate m 0 := by simp [sofar]
theorem sofar_succ (zs : List Int) (m j : Nat) (hj : j < zs.length) (hm : zs.length ≤ m) : wrB (sofar zs m j) (j : Int) (zs[j]?.getD 0) = sofar zs m (j + 1) := by
  have hb : hasB (sofar zs m j).length (j : Int) = true := by rw [sofar_length zs m j (by omega) hm]; simp [hasB]; omega
  unfold wrB
  rw [if_pos hb, Int.toNat_natCast]
  refine ext_getD (by rw [List.length_set, sofar_length zs m j (by omega) hm, sofar_length zs m (j + 1) (by omega) hm]) fun i hi => ?_
  rw [List.length_set] at hi
  rw [set_getD _ _ _ _ hi]
  rw [sofar_length zs m j (by omega) hm] at hi
  unfold sofar
  by_cases e : j = i
  · subst e
    rw [if_pos rfl, List.getElem?_append_left (by simp; omega), List.getElem?_take, if_pos (by omega)]
  · rw [if_neg e]
    by_cases h : i < j
    · rw [List.getElem?_append_left (by simp; omega), List.getElem?_append_left (by simp; omega), List.getElem?_take, List.getElem?_take, if_pos h, if_pos (by omega)]
    · rw [List.getElem?_append_right (by simp; omega), List.getElem?_append_right (by simp; omega)]
      simp only [List.getElem?_replicate, List.length_take]
      split <;> split <;> first | rfl | omega
theorem sofar_all (zs : List Int) : sofar zs zs.length zs.length = zs := by simp [sofar]

end Go.Proofs.YthkmnjkaadmilaaDoor
