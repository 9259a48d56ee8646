/- What a round of an iterator keeps that has memory of its own: all cells but those of some blocks. -/
import Derived.Test.YtpeekhlccjoioaaSeq
namespace Go.Proofs.Ytpeekhlccjoioaa
open Go.RowKit Go.Shelf

theorem room_none {F : Fence} (hd : F.depth = none) (k : Nat) : F.room k := fun d h => by rw [hd] at h; cases h
theorem YieldAt.anyD {F : Fence} (hd : F.depth = none) {m : Nat} (m' : Nat) {P : Program} {l : Nat} {args : Array Value} {W : World} {R : Ending → World → Prop} (h : YieldAt F m P l args W R) : YieldAt F m' P l args W R := by
  obtain ⟨fn, tmps, assign, body, hy, hR⟩ := h
  exact ⟨fn, tmps, assign, body, hy, hR.1, fun c cs _ => hR.2 c cs (room_none hd _)⟩

/-- What a round that goes on keeps: all that lay ahead of the loop but the blocks S, and all cells but those of S. -/
def KeptC (n₀ : Nat) (S : List Nat) (W W' : World) : Prop :=
  W.heap.size ≤ W'.heap.size ∧ ∀ k o, W.heap[k]? = some o → k ∉ S → (k < n₀ ∨ o.isCells = true) → W'.heap[k]? = some o
section
variable {n₀ : Nat} {S : List Nat} {A B C W W' : World}
theorem KeptC.refl : KeptC n₀ S W W := ⟨Nat.le_refl _, fun _ _ h _ _ => h⟩
theorem KeptC.trans (h : KeptC n₀ S A B) (k : KeptC n₀ S B C) : KeptC n₀ S A C :=
  ⟨Nat.le_trans h.1 k.1, fun i o hi hs ho => k.2 i o (h.2 i o hi hs ho) hs ho⟩
theorem KeptC.of_kept (h : Kept S A B) : KeptC n₀ S A B :=
  ⟨h.size, fun i _ hi hs _ => (h.block i (Array.getElem?_eq_some_iff.1 hi).1 hs).trans hi⟩
theorem KeptC.put {w : World} (hn : n₀ ≤ w.heap.size) (W : World) (l : Nat) (o o' : Obj) (hl : w.heap.size ≤ l) (h : W.heap[l]? = some o) (hc : o.isCells = false) (_ : o.isWalk = false) : KeptC n₀ S W (W.putObj l o') :=
  ⟨by simp, fun k o2 hk hs ho => (World.putObj_heap_other (fun e => by
    subst e
    rw [h] at hk; cases hk
    rcases ho with ho | ho
    · omega
    · rw [hc] at ho; cases ho)).trans hk⟩
theorem KeptC.row {g : Nat} {t : TypeId} {vs : List Value} (h : KeptC n₀ S W W') (hr : Row W g t vs) (hs : g ∉ S) : Row W' g t vs := h.2 g _ hr hs (.inr rfl)
theorem KeptC.block (h : KeptC n₀ S W W') {k : Nat} (hk : k < W.heap.size) (hn : k < n₀) (hs : k ∉ S) : W'.heap[k]? = W.heap[k]? := by
  rw [Array.getElem?_eq_getElem hk]
  exact h.2 k _ (Array.getElem?_eq_getElem hk) hs (.inl hn)
end

theorem lt_of_cell {W : World} {g j : Nat} {v : Value} (h : W.cell? ⟨g, j, none⟩ = some v) : g < W.heap.size := by
  obtain ⟨o, ho, _⟩ := cells_of_cell h
  exact (Array.getElem?_eq_some_iff.1 ho).1
end Go.Proofs.Ytpeekhlccjoioaa
