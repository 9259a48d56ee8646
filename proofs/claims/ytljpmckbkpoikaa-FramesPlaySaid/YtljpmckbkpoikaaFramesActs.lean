/- Acts of an int and two words, handed in: what they read as. -/
import Derived.Test.YtljpmckbkpoikaaFlat
import Derived.Test.YtljpmckbkpoikaaPairsU
import Derived.Test.YtljpmckbkpoikaaOwnerActs
namespace Go.Proofs.Ytljpmckbkpoikaa
open Go.ChangeShapes Go.WideShapes Go.ChangeAt Go.RowKit

set_option maxRecDepth 100000 in
theorem u8_fit {x : Int} (h : (Lit.int .u8 x).wf = true) : 0 ≤ x ∧ x < 256 := by
  have : 0 ≤ x ∧ x ≤ 255 := by simpa [Lit.wf, IntKind.min, IntKind.max, IntKind.signed, IntKind.bits] using h
  omega

/-- The slice of acts that begins at a0 reads as l. -/
def SlActF (w : World) (a0 : Option Addr) (l : List (Int × Nat × Nat)) : Prop :=
  l = [] ∨ ∃ b off, a0 = some ⟨b, off, none⟩ ∧ b < w.heap.size ∧ ∀ j x, l[j]? = some x →
    w.cell? ⟨b, off + j * 3, none⟩ = some (.int .i64 x.1) ∧ w.cell? ⟨b, off + j * 3 + 1, none⟩ = some (.int .u64 x.2.1) ∧ w.cell? ⟨b, off + j * 3 + 2, none⟩ = some (.int .u64 x.2.2)
theorem SlActF.kept {w w' : World} {a : Option Addr} {l : List (Int × Nat × Nat)} (h : SlActF w a l) (hk : Kept [] w w') : SlActF w' a l := by
  rcases h with h | ⟨b, off, rfl, hb, hc⟩
  · exact .inl h
  · have e : ∀ o, w'.cell? ⟨b, o, none⟩ = w.cell? ⟨b, o, none⟩ := fun o => World.cell?_of_block (w := w) (a := ⟨b, o, none⟩) (hk.block b hb (by simp))
    exact .inr ⟨b, off, rfl, Nat.lt_of_lt_of_le hb hk.size, fun j x hx => by simp only [e]; exact hc j x hx⟩
theorem SlActF.cell {w : World} {a : Option Addr} {l : List (Int × Nat × Nat)} (h : SlActF w a l) {j : Nat} (hj : j < l.length) : ∃ b off, ∃ k : Int, ∃ x y : Nat, a = some ⟨b, off, none⟩ ∧ b < w.heap.size ∧
    w.cell? ⟨b, off + j * 3, none⟩ = some (.int .i64 k) ∧ w.cell? ⟨b, off + j * 3 + 1, none⟩ = some (.int .u64 x) ∧ w.cell? ⟨b, off + j * 3 + 2, none⟩ = some (.int .u64 y) := by
  rcases h with h | ⟨b, off, rfl, hb, hc⟩
  · subst h; simp at hj
  · obtain ⟨h1, h2, h3⟩ := hc j _ (List.getElem?_eq_getElem hj)
    exact ⟨b, off, _, _, _, rfl, hb, h1, h2, h3⟩
theorem actsF_flat {w : World} {a : Option Addr} {rows : List (List Value)} (h : SlFlat w [.int .i64, .int .u64, .int .u64] a rows) :
    ∃ l : List (Int × Nat × Nat), l.length = rows.length ∧ SlActF w a l := by
  have key : ∀ row : List Value, Fits [.int .i64, .int .u64, .int .u64] row → ∃ k : Int, ∃ x y : Nat, row = [.int .i64 k, .int .u64 x, .int .u64 y] := by
    intro row hf
    obtain ⟨k, r, rfl, _, hf1⟩ := hf.int
    obtain ⟨x, r, rfl, wx, hf2⟩ := hf1.int
    obtain ⟨y, r, rfl, wy, hf3⟩ := hf2.int
    rw [hf3.nil]
    obtain ⟨x, rfl⟩ := Int.eq_ofNat_of_zero_le (u64_fit wx).1
    obtain ⟨y, rfl⟩ := Int.eq_ofNat_of_zero_le (u64_fit wy).1
    exact ⟨k, x, y, rfl⟩
  refine ⟨rows.map fun row => (intF (row[0]?.getD undef), natP (row[1]?.getD undef), natP (row[2]?.getD undef)), by simp, ?_⟩
  rcases h with rfl | ⟨b, off, rfl, hb, hc⟩
  · exact .inl rfl
  · refine .inr ⟨b, off, rfl, hb, fun j x hx => ?_⟩
    rw [List.getElem?_map] at hx
    cases hr : rows[j]? with
    | none => simp [hr] at hx
    | some row =>
      rw [hr] at hx
      simp only [Option.map_some, Option.some.injEq] at hx
      subst hx
      obtain ⟨hf, hcc⟩ := hc j row hr
      obtain ⟨k, x, y, rfl⟩ := key row hf
      exact ⟨hcc 0 _ rfl, hcc 1 _ rfl, hcc 2 _ rfl⟩
end Go.Proofs.Ytljpmckbkpoikaa
