/- A stack and the document's rows, side by side: neither turns what the other one has. -/
import Derived.Test.YtljpmckbkpoikaaFramesRefPush
import Derived.Test.YtljpmckbkpoikaaFramesFixed
namespace Go.Proofs.Ytljpmckbkpoikaa
open Go.RowKit

/-- The stack's own blocks, and those of u. -/
def turfF (b : Nat) (v u : Value) : List Nat := (b :: v.ownBlock.toList) ++ u.ownBlock.toList
theorem turfF_none (b : Nat) (v : Value) : turfF b v (.slice none 0 0) = b :: v.ownBlock.toList := by simp [turfF, Value.ownBlock]
section
variable {w w' : World} {b : Nat} {v v' u : Value} {A : Option Addr} {vs : List Value} {fs : List (List Int)}
/-- Behind a call of the stack's that answers u, in a new block. -/
theorem RefFr.goes {Z : Nat → Prop} (h : RefFr w (fun k => k ∉ turfF b v (.slice none 0 0)) A vs fs) (g : GoesF b v w v' w') (hu : ∀ j, u.ownBlock = some j → w.heap.size ≤ j) (hZ : ∀ k, k ∉ turfF b v' u → Z k) : RefFr w' Z A vs fs := by
  have h1 : RefFr w (fun k => k ∉ b :: v.ownBlock.toList ∧ k < w.heap.size) A vs fs := h.mono (fun k hk hn => ⟨by rw [turfF_none] at hn; exact hn, hk⟩)
  refine (h1.keptS g.kept (fun k hk hn => hn.1 hk)).mono (fun k _ hn => hZ k (fun hm => ?_))
  rcases List.mem_append.1 hm with hm | hm
  · exact g.off k hn.2 hn.1 hm
  · have := hu k (Option.mem_toList.1 hm)
    omega
/-- Behind a call of the reference's. -/
theorem RefFr.back (h : RefFr w' (fun k => k ∉ turfF b v u ∨ w.heap.size ≤ k) A vs fs) (ht : ∀ k ∈ turfF b v u, k < w.heap.size) : RefFr w' (fun k => k ∉ turfF b v u) A vs fs :=
  h.mono (fun k _ hn => by
    rcases hn with hn | hn
    · exact hn
    · exact fun hm => by have := ht k hm; omega)
theorem IsStack.turfLt (h : IsStack w b v fs) (hu : ∀ j, u.ownBlock = some j → j < w.heap.size) : ∀ k ∈ turfF b v u, k < w.heap.size := by
  intro k hk
  rcases List.mem_append.1 hk with hk | hk
  · exact h.footLt k hk
  · exact hu k (Option.mem_toList.1 hk)
/-- All of the stack's own blocks are B or newer. -/
def FarF (B b : Nat) (v : Value) : Prop := ∀ j ∈ b :: v.ownBlock.toList, B ≤ j
theorem FarF.goes {B : Nat} (h : FarF B b v) (g : GoesF b v w v' w') (hB : B ≤ w.heap.size) : FarF B b v' := by
  intro j hj
  rcases List.mem_cons.1 hj with rfl | hj
  · exact h j (by simp)
  · rcases g.at' j (Option.mem_toList.1 hj) with h' | h'
    · exact h j (by simp [h'])
    · omega
theorem FarF.kept {w0 : World} (h : FarF w0.heap.size b v) (k : Kept [] w0 w) (g : GoesF b v w v' w') : Kept [] w0 w' :=
  k.chain g.kept (by simp) (fun i hi hl => by have := h i hi; omega)
end
theorem own_blockF {w : World} {B : Nat} {t : TypeId} {size n : Nat} {u : Value} {xs : List Value} (h : w.ownsRow B t size u n xs) : ∀ j, u.ownBlock = some j → B ≤ j ∧ j < w.heap.size := fun j hj => h.lt j hj
/-- An own row of words, or nil, as a slice. -/
theorem Sl.of_ownV {w : World} {B : Nat} {t : TypeId} {k : IntKind} {A : Option Addr} {n c : Nat} {xs : List Int} (h : w.ownsRow B t 1 (.slice A n c) n (xs.map (Value.int k))) : Sl w k A xs := by
  rcases h.2 with ⟨h0, h1⟩ | ⟨g, cap, cur, hv, _⟩
  · exact .inl (List.eq_nil_of_length_eq_zero (by have := h.1; rw [List.length_map] at this; omega))
  · cases hv
    exact Sl.of_own h
end Go.Proofs.Ytljpmckbkpoikaa
