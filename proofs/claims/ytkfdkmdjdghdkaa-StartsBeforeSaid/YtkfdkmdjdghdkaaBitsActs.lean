/- Acts that are handed in: what a slice of them reads as. -/
import Derived.Test.YtkfdkmdjdghdkaaFlat
import Derived.Test.YtkfdkmdjdghdkaaBitsFixed
namespace Go.Proofs.Ytkfdkmdjdghdkaa
open Go.ChangeShapes Go.WideShapes Go.ChangeAt Go.RowKit

def intV : Value → Int
  | .int _ z => z
  | _ => 0
def boolV : Value → Bool
  | .bool b => b
  | _ => false
def actB (row : List Value) : ActB := { a := intV (row[0]?.getD undef), c := intV (row[1]?.getD undef), on := boolV (row[2]?.getD undef) }
theorem acts_of {w : World} {a : Option Addr} {rows : List (List Value)} (h : SlFlat w [.int .i64, .int .i64, .bool] a rows) :
    ∃ l : List ActB, l.length = rows.length ∧ SlActs w a l ∧ ∀ x ∈ l, x.a ≤ 9223372036854775807 := by
  have key : ∀ row : List Value, Fits [.int .i64, .int .i64, .bool] row → ∃ (x y : Int) (o : Bool), row = [.int .i64 x, .int .i64 y, .bool o] ∧ x ≤ 9223372036854775807 := by
    intro row hf
    obtain ⟨x, r, rfl, wx, hf1⟩ := hf.int
    obtain ⟨y, r, rfl, _, hf2⟩ := hf1.int
    obtain ⟨o, r, rfl, hf3⟩ := hf2.bool
    rw [hf3.nil]
    exact ⟨x, y, o, rfl, (i64_le wx).2⟩
  refine ⟨rows.map actB, by simp, ?_, ?_⟩
  · rcases h with rfl | ⟨b, off, rfl, hb, hc⟩
    · exact .inl rfl
    · refine .inr ⟨b, off, rfl, hb, fun j x hx => ?_⟩
      rw [List.getElem?_map] at hx
      cases hr : rows[j]? with
      | none => simp [hr] at hx
      | some row =>
        rw [hr] at hx
        simp only [Option.map_some, Option.some.injEq] at hx
        subst hx
        obtain ⟨hf, hcc⟩ := hc j row hr
        obtain ⟨x, y, o, rfl, _⟩ := key row hf
        exact ⟨hcc 0 _ rfl, hcc 1 _ rfl, hcc 2 _ rfl⟩
  · intro x hx
    obtain ⟨row, hrow, rfl⟩ := List.mem_map.1 hx
    rcases h with rfl | ⟨b, off, rfl, hb, hc⟩
    · cases hrow
    · obtain ⟨j, hj, rfl⟩ := List.getElem_of_mem hrow
      obtain ⟨hf, _⟩ := hc j _ (List.getElem?_eq_getElem hj)
      obtain ⟨x, y, o, he, hx⟩ := key _ hf
      rw [he]
      exact hx
end Go.Proofs.Ytkfdkmdjdghdkaa
