/- A slice of integers that came in. -/
import Derived.Test.YtpeekhlccjoioaaDoorKept
namespace Go.Proofs.YtpeekhlccjoioaaDoor
open Go.RowKit

/-- The slice that begins at a reads as zs. -/
def Sl (w : World) (k : IntKind) (a : Option Addr) (zs : List Int) : Prop :=
  zs = [] ∨ ∃ b off, a = some ⟨b, off, none⟩ ∧ b < w.heap.size ∧ ∀ j, j < zs.length → w.cell? ⟨b, off + j, none⟩ = some (.int k (zs[j]?.getD 0))
theorem Sl.kept {w w' : World} {k : IntKind} {a : Option Addr} {zs : List Int} (h : Sl w k a zs) (hk : Kept [] w w') : Sl w' k a zs := by
  rcases h with h | ⟨b, off, rfl, hb, hc⟩
  · exact .inl h
  · exact .inr ⟨b, off, rfl, Nat.lt_of_lt_of_le hb hk.size, fun j hj => (World.cell?_of_block (w := w) (a := ⟨b, off + j, none⟩) (hk.block b hb (by simp))).trans (hc j hj)⟩
theorem Sl.keptS {w w' : World} {k : IntKind} {a : Option Addr} {zs : List Int} {S : List Nat} (h : Sl w k a zs) (hk : Kept S w w') (hn : ∀ b off, a = some ⟨b, off, none⟩ → b ∉ S) : Sl w' k a zs := by
  rcases h with h | ⟨b, off, rfl, hb, hc⟩
  · exact .inl h
  · exact .inr ⟨b, off, rfl, Nat.lt_of_lt_of_le hb hk.size, fun j hj => (World.cell?_of_block (w := w) (a := ⟨b, off + j, none⟩) (hk.block b hb (hn b off rfl))).trans (hc j hj)⟩
theorem Sl.cell {w : World} {k : IntKind} {a : Option Addr} {zs : List Int} (h : Sl w k a zs) {j : Nat} (hj : j < zs.length) : ∃ b off, a = some ⟨b, off, none⟩ ∧ w.cell? ⟨b, off + j, none⟩ = some (.int k (zs[j]?.getD 0)) := by
  rcases h with h | ⟨b, off, rfl, _, hc⟩
  · subst h; simp at hj
  · exact ⟨b, off, rfl, hc j hj⟩
theorem Sl.of_row {w : World} {k : IntKind} {g : Nat} {t : TypeId} {xs : List Int} (h : Row w g t (xs.map (Value.int k))) : Sl w k (some ⟨g, 0, none⟩) xs :=
  .inr ⟨g, 0, rfl, h.lt, fun j hj => by simpa using h.cellInt j hj⟩
theorem Sl.take {w : World} {k : IntKind} {a : Option Addr} {zs : List Int} (h : Sl w k a zs) (n : Nat) : Sl w k a (zs.take n) := by
  rcases h with rfl | ⟨b, off, rfl, hb, hc⟩
  · exact .inl (by simp)
  · refine .inr ⟨b, off, rfl, hb, fun j hj => ?_⟩
    have hj' : j < n ∧ j < zs.length := by simp at hj; omega
    rw [hc j hj'.2]; simp [hj'.1]
end Go.Proofs.YtpeekhlccjoioaaDoor
