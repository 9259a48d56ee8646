/- A slice of structs of three ints that came in. -/
import Derived.Test.YtionleocbjfgaaaDoorKept
namespace Go.Proofs.YtionleocbjfgaaaDoor
open Go.RowKit

/-- Three ints. -/
structure I3 where
  a : Int
  b : Int
  c : Int
  deriving Inhabited

/-- The slice of such structs that begins at a0 reads as l. -/
def SlI3 (w : World) (a0 : Option Addr) (l : List I3) : Prop :=
  l = [] ∨ ∃ b off, a0 = some ⟨b, off, none⟩ ∧ b < w.heap.size ∧ ∀ j x, l[j]? = some x →
    w.cell? ⟨b, off + j * 3, none⟩ = some (.int .i64 x.a) ∧ w.cell? ⟨b, off + j * 3 + 1, none⟩ = some (.int .i64 x.b) ∧ w.cell? ⟨b, off + j * 3 + 2, none⟩ = some (.int .i64 x.c)
theorem SlI3.kept {w w' : World} {a : Option Addr} {l : List I3} (h : SlI3 w a l) (hk : Kept [] w w') : SlI3 w' a l := by
  rcases h with h | ⟨b, off, rfl, hb, hc⟩
  · exact .inl h
  · have e : ∀ o, w'.cell? ⟨b, o, none⟩ = w.cell? ⟨b, o, none⟩ := fun o => World.cell?_of_block (w := w) (a := ⟨b, o, none⟩) (hk.block b hb (by simp))
    exact .inr ⟨b, off, rfl, Nat.lt_of_lt_of_le hb hk.size, fun j x hx => by simp only [e]; exact hc j x hx⟩
theorem SlI3.cell {w : World} {a : Option Addr} {l : List I3} (h : SlI3 w a l) {j : Nat} (hj : j < l.length) : ∃ b off x, a = some ⟨b, off, none⟩ ∧ l[j]? = some x ∧ b < w.heap.size ∧
    w.cell? ⟨b, off + j * 3, none⟩ = some (.int .i64 x.a) ∧ w.cell? ⟨b, off + j * 3 + 1, none⟩ = some (.int .i64 x.b) ∧ w.cell? ⟨b, off + j * 3 + 2, none⟩ = some (.int .i64 x.c) := by
  rcases h with h | ⟨b, off, rfl, hb, hc⟩
  · subst h; simp at hj
  · exact ⟨b, off, l[j], rfl, List.getElem?_eq_getElem hj, hb, hc j _ (List.getElem?_eq_getElem hj)⟩
/-- A machine's int. -/
def Fit64 (x : Int) : Prop := -9223372036854775808 ≤ x ∧ x ≤ 9223372036854775807
def I3.fit (x : I3) : Prop := Fit64 x.a ∧ Fit64 x.b ∧ Fit64 x.c
end Go.Proofs.YtionleocbjfgaaaDoor
