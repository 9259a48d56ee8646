/- Acts on trees that are handed in: what a slice of them reads as. -/
import Derived.Test.YtnhdikoigpmnkaaDoorFlat
import Derived.Test.YtnhdikoigpmnkaaDoorMapB
namespace Go.Proofs.YtnhdikoigpmnkaaDoor
open Go.ChangeShapes Go.WideShapes Go.ChangeAt Go.RowKit

/-- What is done: id is put in below p, or, if out, taken out. -/
structure ActT where
  id : Int
  p : Int
  out : Bool
  deriving Inhabited
/-- The slice of acts that begins at a0 reads as l. -/
def SlAT (w : World) (a0 : Option Addr) (l : List ActT) : Prop :=
  l = [] ∨ ∃ b off, a0 = some ⟨b, off, none⟩ ∧ b < w.heap.size ∧ ∀ j x, l[j]? = some x →
    w.cell? ⟨b, off + j * 3, none⟩ = some (.int .i64 x.id) ∧ w.cell? ⟨b, off + j * 3 + 1, none⟩ = some (.int .i64 x.p) ∧ w.cell? ⟨b, off + j * 3 + 2, none⟩ = some (.bool x.out)
theorem SlAT.kept {w w' : World} {a : Option Addr} {l : List ActT} (h : SlAT w a l) (hk : Kept [] w w') : SlAT w' a l := by
  rcases h with h | ⟨b, off, rfl, hb, hc⟩
  · exact .inl h
  · have e : ∀ o, w'.cell? ⟨b, o, none⟩ = w.cell? ⟨b, o, none⟩ := fun o => World.cell?_of_block (w := w) (a := ⟨b, o, none⟩) (hk.block b hb (by simp))
    exact .inr ⟨b, off, rfl, Nat.lt_of_lt_of_le hb hk.size, fun j x hx => by simp only [e]; exact hc j x hx⟩
theorem SlAT.cell {w : World} {a : Option Addr} {l : List ActT} (h : SlAT w a l) {j : Nat} (hj : j < l.length) : ∃ b off x, a = some ⟨b, off, none⟩ ∧ l[j]? = some x ∧ b < w.heap.size ∧
    w.cell? ⟨b, off + j * 3, none⟩ = some (.int .i64 x.id) ∧ w.cell? ⟨b, off + j * 3 + 1, none⟩ = some (.int .i64 x.p) ∧ w.cell? ⟨b, off + j * 3 + 2, none⟩ = some (.bool x.out) := by
  rcases h with h | ⟨b, off, rfl, hb, hc⟩
  · subst h; simp at hj
  · exact ⟨b, off, l[j], rfl, List.getElem?_eq_getElem hj, hb, hc j _ (List.getElem?_eq_getElem hj)⟩
def ActT.fit (x : ActT) : Prop := Fit64 x.id ∧ Fit64 x.p
def intT : Value → Int
  | .int _ z => z
  | _ => 0
def boolT : Value → Bool
  | .bool b => b
  | _ => false
def actT (row : List Value) : ActT := { id := intT (row[0]?.getD undef), p := intT (row[1]?.getD undef), out := boolT (row[2]?.getD undef) }
theorem actsT_of {w : World} {a : Option Addr} {rows : List (List Value)} (h : SlFlat w [.int .i64, .int .i64, .bool] a rows) :
    ∃ l : List ActT, l.length = rows.length ∧ SlAT w a l ∧ ∀ x ∈ l, x.fit := by
  have key : ∀ row : List Value, Fits [.int .i64, .int .i64, .bool] row → ∃ (x y : Int) (o : Bool), row = [.int .i64 x, .int .i64 y, .bool o] ∧ Fit64 x ∧ Fit64 y := by
    intro row hf
    obtain ⟨x, r, rfl, wx, hf1⟩ := hf.int
    obtain ⟨y, r, rfl, wy, hf2⟩ := hf1.int
    obtain ⟨o, r, rfl, hf3⟩ := hf2.bool
    rw [hf3.nil]
    exact ⟨x, y, o, rfl, i64_le wx, i64_le wy⟩
  refine ⟨rows.map actT, by simp, ?_, ?_⟩
  · rcases h with rfl | ⟨b, off, rfl, hb, hc⟩
    · exact .inl rfl
    · refine .inr ⟨b, off, rfl, hb, fun j x hx => ?_⟩
      rw [List.getElem?_map] at hx
      cases hr : rows[j]? with
      | none => simp [hr] at hx
      | some row =>
        rw [hr] at hx
        simp only [Option.map_some, Option.some.injEq] at hx
        subst hx
        obtain ⟨hf, hcc⟩ := hc j row hr
        obtain ⟨x, y, o, rfl, _⟩ := key row hf
        exact ⟨hcc 0 _ rfl, hcc 1 _ rfl, hcc 2 _ rfl⟩
  · intro x hx
    obtain ⟨row, hrow, rfl⟩ := List.mem_map.1 hx
    rcases h with rfl | ⟨b, off, rfl, hb, hc⟩
    · cases hrow
    · obtain ⟨j, hj, rfl⟩ := List.getElem_of_mem hrow
      obtain ⟨hf, _⟩ := hc j _ (List.getElem?_eq_getElem hj)
      obtain ⟨x, y, o, he, hx⟩ := key _ hf
      rw [he]
      exact hx
end Go.Proofs.YtnhdikoigpmnkaaDoor
