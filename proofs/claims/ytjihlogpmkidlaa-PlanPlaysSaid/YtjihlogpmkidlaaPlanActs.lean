/- A slice of arrays of two ints, handed in: what it reads as. -/
import Derived.Test.YtjihlogpmkidlaaFlat
namespace Go.Proofs.Ytjihlogpmkidlaa
open Go.ChangeShapes Go.WideShapes Go.ChangeAt Go.RowKit

/-- The slice of pairs that begins at a0 reads as l. -/
def SlP (w : World) (a0 : Option Addr) (l : List (Int × Int)) : Prop :=
  l = [] ∨ ∃ b off, a0 = some ⟨b, off, none⟩ ∧ b < w.heap.size ∧ ∀ j x, l[j]? = some x →
    w.cell? ⟨b, off + j * 2, none⟩ = some (.int .i64 x.1) ∧ w.cell? ⟨b, off + j * 2 + 1, none⟩ = some (.int .i64 x.2)
theorem SlP.kept {w w' : World} {a : Option Addr} {l : List (Int × Int)} (h : SlP w a l) (hk : Kept [] w w') : SlP w' a l := by
  rcases h with h | ⟨b, off, rfl, hb, hc⟩
  · exact .inl h
  · have e : ∀ o, w'.cell? ⟨b, o, none⟩ = w.cell? ⟨b, o, none⟩ := fun o => World.cell?_of_block (w := w) (a := ⟨b, o, none⟩) (hk.block b hb (by simp))
    exact .inr ⟨b, off, rfl, Nat.lt_of_lt_of_le hb hk.size, fun j x hx => by simp only [e]; exact hc j x hx⟩
theorem SlP.cell {w : World} {a : Option Addr} {l : List (Int × Int)} (h : SlP w a l) {j : Nat} (hj : j < l.length) : ∃ b off x y, a = some ⟨b, off, none⟩ ∧ b < w.heap.size ∧
    w.cell? ⟨b, off + j * 2, none⟩ = some (.int .i64 x) ∧ w.cell? ⟨b, off + j * 2 + 1, none⟩ = some (.int .i64 y) := by
  rcases h with h | ⟨b, off, rfl, hb, hc⟩
  · subst h; simp at hj
  · obtain ⟨h1, h2⟩ := hc j _ (List.getElem?_eq_getElem hj)
    exact ⟨b, off, _, _, rfl, hb, h1, h2⟩
def intP : Value → Int
  | .int _ z => z
  | _ => 0
theorem pairs_flat {w : World} {a : Option Addr} {rows : List (List Value)} (h : SlFlat w [.int .i64, .int .i64] a rows) :
    ∃ l : List (Int × Int), l.length = rows.length ∧ SlP w a l := by
  refine ⟨rows.map fun row => (intP (row[0]?.getD undef), intP (row[1]?.getD undef)), by simp, ?_⟩
  rcases h with rfl | ⟨b, off, rfl, hb, hc⟩
  · exact .inl rfl
  · refine .inr ⟨b, off, rfl, hb, fun j x hx => ?_⟩
    rw [List.getElem?_map] at hx
    cases hr : rows[j]? with
    | none => simp [hr] at hx
    | some row =>
      rw [hr] at hx
      simp only [Option.map_some, Option.some.injEq] at hx
      subst hx
      obtain ⟨hf, hcc⟩ := hc j row hr
      obtain ⟨x, r, rfl, _, hf1⟩ := hf.int
      obtain ⟨y, r, rfl, _, hf2⟩ := hf1.int
      exact ⟨hcc 0 _ rfl, hcc 1 _ rfl⟩
end Go.Proofs.Ytjihlogpmkidlaa
