/- A slice of one-cell elements that came in, or that a call made: as plain lists. -/
import Derived.Test.YtionleocbjfgaaaDoorAppend
namespace Go.Proofs.YtionleocbjfgaaaDoor
open Go.RowKit

/-- The slice that begins at a reads as xs, each element's cell by f. -/
def SlG {α : Type} (f : α → Value) (w : World) (a : Option Addr) (xs : List α) : Prop :=
  xs = [] ∨ ∃ b off, a = some ⟨b, off, none⟩ ∧ b < w.heap.size ∧ ∀ j x, xs[j]? = some x → w.cell? ⟨b, off + j, none⟩ = some (f x)
section
variable {α : Type} {f : α → Value} {w w' : World} {a : Option Addr} {xs : List α}
theorem SlG.keptS {S : List Nat} (h : SlG f w a xs) (hk : Kept S w w') (hn : ∀ b off, a = some ⟨b, off, none⟩ → b ∉ S) : SlG f w' a xs := by
  rcases h with h | ⟨b, off, rfl, hb, hc⟩
  · exact .inl h
  · exact .inr ⟨b, off, rfl, Nat.lt_of_lt_of_le hb hk.size, fun j x hx => (World.cell?_of_block (w := w) (a := ⟨b, off + j, none⟩) (hk.block b hb (hn b off rfl))).trans (hc j x hx)⟩
theorem SlG.kept (h : SlG f w a xs) (hk : Kept [] w w') : SlG f w' a xs := h.keptS hk (by simp)
theorem SlG.cell (h : SlG f w a xs) {j : Nat} (hj : j < xs.length) : ∃ b off, a = some ⟨b, off, none⟩ ∧ w.cell? ⟨b, off + j, none⟩ = some (f xs[j]) := by
  rcases h with h | ⟨b, off, rfl, _, hc⟩
  · subst h; simp at hj
  · exact ⟨b, off, rfl, hc j _ (List.getElem?_eq_getElem hj)⟩
theorem SlG.of_row {g : Nat} {t : TypeId} (h : Row w g t (xs.map f)) : SlG f w (some ⟨g, 0, none⟩) xs :=
  .inr ⟨g, 0, rfl, h.lt, fun j x hx => by rw [Nat.zero_add, h.cell j, List.getElem?_map, hx]; rfl⟩
theorem SlG.toV (h : SlG f w a xs) : SlV w 1 a xs.length (xs.map f) := by
  refine ⟨by simp, ?_⟩
  rcases h with rfl | ⟨b, off, rfl, hb, hc⟩
  · exact .inl rfl
  · refine .inr ⟨b, off, rfl, hb, fun j u hu => ?_⟩
    rw [List.getElem?_map] at hu
    cases hz : xs[j]? with
    | none => simp [hz] at hu
    | some z =>
      rw [hz] at hu
      simp only [Option.map_some, Option.some.injEq] at hu
      rw [← hu]; exact hc j z hz
theorem SlG.of_own {B : Nat} {e : TypeId} {g n c : Nat} (h : w.ownsRow B e 1 (.slice (some ⟨g, 0, none⟩) n c) n (xs.map f)) : SlG f w (some ⟨g, 0, none⟩) xs := by
  have hl : xs.length = n := by have := h.1; simpa using this
  refine .inr ⟨g, 0, rfl, own_lt h, fun j x hx => ?_⟩
  have hj : j < xs.length := (List.getElem?_eq_some_iff.1 hx).1
  rw [Nat.zero_add, h.cellAt j (by omega), List.getElem?_map, hx]; rfl
end
/-- What a call leaves that answers a slice: the same as came in or a new one. -/
def RefPostG {α : Type} (f : α → Value) (A : Option Addr) (n : Nat) (xs' : List α) (er : Int) (w : World) (e : Ending) (w' : World) : Prop :=
  ∃ A' cap', e = .returned (.tuple #[.slice A' n cap', .int .i64 er]) ∧ xs'.length = n ∧ SlG f w' A' xs' ∧ (A' = A ∨ ∃ g, A' = some ⟨g, 0, none⟩ ∧ w.heap.size ≤ g) ∧ Kept [] w w'
/-- A slice that lies apart from block g still does, behind such a call. -/
theorem apart_ofG {A A' : Option Addr} {w : World} {g : Nat} (h : A' = A ∨ ∃ r, A' = some ⟨r, 0, none⟩ ∧ w.heap.size ≤ r) (hA : ∀ b off, A = some ⟨b, off, none⟩ → b ≠ g) (hg : g < w.heap.size) : ∀ b off, A' = some ⟨b, off, none⟩ → b ≠ g := by
  intro b off e
  rcases h with h | ⟨r, h, hr⟩
  · exact hA b off (h ▸ e)
  · rw [h] at e; cases e; omega
end Go.Proofs.YtionleocbjfgaaaDoor
