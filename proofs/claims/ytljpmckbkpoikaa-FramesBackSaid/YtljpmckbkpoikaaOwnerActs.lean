/- A slice of structs of three ints, one struct within the other, handed in: what it reads as. -/
import Derived.Test.YtljpmckbkpoikaaFlat
import Derived.Test.YtljpmckbkpoikaaI3
namespace Go.Proofs.Ytljpmckbkpoikaa
open Go.ChangeShapes Go.WideShapes Go.ChangeAt Go.RowKit

def intF : Value → Int
  | .int _ z => z
  | _ => 0
def i3F (row : List Value) : I3 := { a := intF (row[0]?.getD undef), b := intF (row[1]?.getD undef), c := intF (row[2]?.getD undef) }
theorem i3_flat {w : World} {a : Option Addr} {rows : List (List Value)} (h : SlFlat w [.int .i64, .int .i64, .int .i64] a rows) :
    ∃ l : List I3, l.length = rows.length ∧ SlI3 w a l ∧ ∀ x ∈ l, x.fit := by
  have key : ∀ row : List Value, Fits [.int .i64, .int .i64, .int .i64] row → ∃ x y z : Int, row = [.int .i64 x, .int .i64 y, .int .i64 z] ∧ Fit64 x ∧ Fit64 y ∧ Fit64 z := by
    intro row hf
    obtain ⟨x, r, rfl, wx, hf1⟩ := hf.int
    obtain ⟨y, r, rfl, wy, hf2⟩ := hf1.int
    obtain ⟨z, r, rfl, wz, hf3⟩ := hf2.int
    rw [hf3.nil]
    exact ⟨x, y, z, rfl, i64_le wx, i64_le wy, i64_le wz⟩
  refine ⟨rows.map i3F, by simp, ?_, ?_⟩
  · rcases h with rfl | ⟨b, off, rfl, hb, hc⟩
    · exact .inl rfl
    · refine .inr ⟨b, off, rfl, hb, fun j x hx => ?_⟩
      rw [List.getElem?_map] at hx
      cases hr : rows[j]? with
      | none => simp [hr] at hx
      | some row =>
        rw [hr] at hx
        simp only [Option.map_some, Option.some.injEq] at hx
        subst hx
        obtain ⟨hf, hcc⟩ := hc j row hr
        obtain ⟨x, y, z, rfl, _⟩ := key row hf
        exact ⟨hcc 0 _ rfl, hcc 1 _ rfl, hcc 2 _ rfl⟩
  · intro x hx
    obtain ⟨row, hrow, rfl⟩ := List.mem_map.1 hx
    rcases h with rfl | ⟨b, off, rfl, hb, hc⟩
    · cases hrow
    · obtain ⟨j, hj, rfl⟩ := List.getElem_of_mem hrow
      obtain ⟨hf, _⟩ := hc j _ (List.getElem?_eq_getElem hj)
      obtain ⟨x, y, z, he, hx⟩ := key _ hf
      rw [he]
      exact hx
end Go.Proofs.Ytljpmckbkpoikaa
