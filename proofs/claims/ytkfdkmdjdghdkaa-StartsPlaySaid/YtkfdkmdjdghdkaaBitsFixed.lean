/- The chapter's example (fixed of kraallaw02), and the acts that are handed in. -/
import Derived.Test.YtkfdkmdjdghdkaaBitsFind
namespace Go.Proofs.Ytkfdkmdjdghdkaa
open Go.RowKit

/-- What is done: the places of a run are marked, or not. -/
structure ActB where
  a : Int
  c : Int
  on : Bool
  deriving Inhabited

/-- The slice of acts that begins at a0 reads as l. -/
def SlActs (w : World) (a0 : Option Addr) (l : List ActB) : Prop :=
  l = [] ∨ ∃ b off, a0 = some ⟨b, off, none⟩ ∧ b < w.heap.size ∧ ∀ j x, l[j]? = some x →
    w.cell? ⟨b, off + j * 3, none⟩ = some (.int .i64 x.a) ∧ w.cell? ⟨b, off + j * 3 + 1, none⟩ = some (.int .i64 x.c) ∧ w.cell? ⟨b, off + j * 3 + 2, none⟩ = some (.bool x.on)
theorem SlActs.kept {w w' : World} {a : Option Addr} {l : List ActB} (h : SlActs w a l) (hk : Kept [] w w') : SlActs w' a l := by
  rcases h with h | ⟨b, off, rfl, hb, hc⟩
  · exact .inl h
  · have e : ∀ o, w'.cell? ⟨b, o, none⟩ = w.cell? ⟨b, o, none⟩ := fun o => World.cell?_of_block (w := w) (a := ⟨b, o, none⟩) (hk.block b hb (by simp))
    exact .inr ⟨b, off, rfl, Nat.lt_of_lt_of_le hb hk.size, fun j x hx => by simp only [e]; exact hc j x hx⟩
theorem SlActs.cell {w : World} {a : Option Addr} {l : List ActB} (h : SlActs w a l) {j : Nat} (hj : j < l.length) : ∃ b off x, a = some ⟨b, off, none⟩ ∧ l[j]? = some x ∧ b < w.heap.size ∧
    w.cell? ⟨b, off + j * 3, none⟩ = some (.int .i64 x.a) ∧ w.cell? ⟨b, off + j * 3 + 1, none⟩ = some (.int .i64 x.c) ∧ w.cell? ⟨b, off + j * 3 + 2, none⟩ = some (.bool x.on) := by
  rcases h with h | ⟨b, off, rfl, hb, hc⟩
  · subst h; simp at hj
  · exact ⟨b, off, l[j], rfl, List.getElem?_eq_getElem hj, hb, hc j _ (List.getElem?_eq_getElem hj)⟩
end Go.Proofs.Ytkfdkmdjdghdkaa
