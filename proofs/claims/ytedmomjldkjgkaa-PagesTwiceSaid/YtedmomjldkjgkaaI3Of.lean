/- A slice of structs of three ints, handed in: what it reads as. -/
import Derived.Test.YtedmomjldkjgkaaSlRows
import Derived.Test.YtedmomjldkjgkaaI3
namespace Go.Proofs.Ytedmomjldkjgkaa
open Go.ChangeShapes Go.WideShapes Go.ChangeAt Go.RowKit

def i3Of (row : List Int) : I3 := { a := row[0]?.getD 0, b := row[1]?.getD 0, c := row[2]?.getD 0 }
theorem i3_of {w : World} {a : Option Addr} {rows : List (List Int)} (h : SlI w [.i64, .i64, .i64] a rows) :
    ∃ l : List I3, l.length = rows.length ∧ SlI3 w a l ∧ ∀ x ∈ l, x.fit := by
  refine ⟨rows.map i3Of, by simp, ?_, ?_⟩
  · rcases h with rfl | ⟨b, off, rfl, hb, hc⟩
    · exact .inl rfl
    · refine .inr ⟨b, off, rfl, hb, fun j x hx => ?_⟩
      rw [List.getElem?_map] at hx
      cases hr : rows[j]? with
      | none => simp [hr] at hx
      | some row =>
        rw [hr] at hx
        simp only [Option.map_some, Option.some.injEq] at hx
        subst hx
        obtain ⟨_, hcc⟩ := hc j row hr
        exact ⟨(hcc 0 .i64 rfl).1, (hcc 1 .i64 rfl).1, (hcc 2 .i64 rfl).1⟩
  · intro x hx
    obtain ⟨row, hrow, rfl⟩ := List.mem_map.1 hx
    rcases h with rfl | ⟨b, off, rfl, hb, hc⟩
    · cases hrow
    · obtain ⟨j, hj, rfl⟩ := List.getElem_of_mem hrow
      obtain ⟨_, hcc⟩ := hc j _ (List.getElem?_eq_getElem hj)
      exact ⟨i64_le (hcc 0 .i64 rfl).2, i64_le (hcc 1 .i64 rfl).2, i64_le (hcc 2 .i64 rfl).2⟩
end Go.Proofs.Ytedmomjldkjgkaa
