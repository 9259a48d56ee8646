/- A slice of pairs of words, handed in: what it reads as. -/
import Derived.Test.YtpeekhlccjoioaaFlat
namespace Go.Proofs.Ytpeekhlccjoioaa
open Go.ChangeShapes Go.WideShapes Go.ChangeAt Go.RowKit

set_option maxRecDepth 100000 in
theorem u64_fit {x : Int} (h : (Lit.int .u64 x).wf = true) : 0 ≤ x ∧ x < 18446744073709551616 := by
  have : 0 ≤ x ∧ x ≤ 18446744073709551615 := by simpa [Lit.wf, IntKind.min, IntKind.max, IntKind.signed, IntKind.bits] using h
  omega

/-- The slice of pairs of words that begins at a0 reads as l. -/
def SlPU (w : World) (a0 : Option Addr) (l : List (Nat × Nat)) : Prop :=
  l = [] ∨ ∃ b off, a0 = some ⟨b, off, none⟩ ∧ b < w.heap.size ∧ ∀ j x, l[j]? = some x →
    w.cell? ⟨b, off + j * 2, none⟩ = some (.int .u64 x.1) ∧ w.cell? ⟨b, off + j * 2 + 1, none⟩ = some (.int .u64 x.2)
theorem SlPU.kept {w w' : World} {a : Option Addr} {l : List (Nat × Nat)} (h : SlPU w a l) (hk : Kept [] w w') : SlPU w' a l := by
  rcases h with h | ⟨b, off, rfl, hb, hc⟩
  · exact .inl h
  · have e : ∀ o, w'.cell? ⟨b, o, none⟩ = w.cell? ⟨b, o, none⟩ := fun o => World.cell?_of_block (w := w) (a := ⟨b, o, none⟩) (hk.block b hb (by simp))
    exact .inr ⟨b, off, rfl, Nat.lt_of_lt_of_le hb hk.size, fun j x hx => by simp only [e]; exact hc j x hx⟩
theorem SlPU.cell {w : World} {a : Option Addr} {l : List (Nat × Nat)} (h : SlPU w a l) {j : Nat} (hj : j < l.length) : ∃ b off, ∃ x y : Nat, a = some ⟨b, off, none⟩ ∧ b < w.heap.size ∧ l[j]? = some (x, y) ∧
    w.cell? ⟨b, off + j * 2, none⟩ = some (.int .u64 x) ∧ w.cell? ⟨b, off + j * 2 + 1, none⟩ = some (.int .u64 y) := by
  rcases h with h | ⟨b, off, rfl, hb, hc⟩
  · subst h; simp at hj
  · obtain ⟨h1, h2⟩ := hc j _ (List.getElem?_eq_getElem hj)
    exact ⟨b, off, _, _, rfl, hb, List.getElem?_eq_getElem hj, h1, h2⟩
def natP : Value → Nat
  | .int _ z => z.toNat
  | _ => 0
theorem pairsU_flat {w : World} {a : Option Addr} {rows : List (List Value)} (h : SlFlat w [.int .u64, .int .u64] a rows) :
    ∃ l : List (Nat × Nat), l.length = rows.length ∧ SlPU w a l ∧ ∀ x ∈ l, x.1 < 18446744073709551616 ∧ x.2 < 18446744073709551616 := by
  have key : ∀ row : List Value, Fits [.int .u64, .int .u64] row → ∃ x y : Nat, row = [.int .u64 x, .int .u64 y] ∧ x < 18446744073709551616 ∧ y < 18446744073709551616 := by
    intro row hf
    obtain ⟨x, r, rfl, wx, hf1⟩ := hf.int
    obtain ⟨y, r, rfl, wy, hf2⟩ := hf1.int
    rw [hf2.nil]
    have hx := u64_fit wx
    have hy := u64_fit wy
    obtain ⟨x, rfl⟩ := Int.eq_ofNat_of_zero_le hx.1
    obtain ⟨y, rfl⟩ := Int.eq_ofNat_of_zero_le hy.1
    exact ⟨x, y, rfl, by omega, by omega⟩
  refine ⟨rows.map fun row => (natP (row[0]?.getD undef), natP (row[1]?.getD undef)), by simp, ?_, ?_⟩
  · rcases h with rfl | ⟨b, off, rfl, hb, hc⟩
    · exact .inl rfl
    · refine .inr ⟨b, off, rfl, hb, fun j x hx => ?_⟩
      rw [List.getElem?_map] at hx
      cases hr : rows[j]? with
      | none => simp [hr] at hx
      | some row =>
        rw [hr] at hx
        simp only [Option.map_some, Option.some.injEq] at hx
        subst hx
        obtain ⟨hf, hcc⟩ := hc j row hr
        obtain ⟨x, y, rfl, _⟩ := key row hf
        exact ⟨hcc 0 _ rfl, hcc 1 _ rfl⟩
  · intro x hx
    obtain ⟨row, hrow, rfl⟩ := List.mem_map.1 hx
    rcases h with rfl | ⟨b, off, rfl, hb, hc⟩
    · cases hrow
    · obtain ⟨j, hj, rfl⟩ := List.getElem_of_mem hrow
      obtain ⟨hf, _⟩ := hc j _ (List.getElem?_eq_getElem hj)
      obtain ⟨x, y, he, h1, h2⟩ := key _ hf
      rw [he]
      exact ⟨h1, h2⟩
end Go.Proofs.Ytpeekhlccjoioaa
