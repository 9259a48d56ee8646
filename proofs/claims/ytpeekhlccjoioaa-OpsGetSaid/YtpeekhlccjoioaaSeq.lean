/- Iterators: what a round keeps (KeepsL: some blocks), new blocks one behind the other, the wide fence's questions. -/
import Derived.RangeFuncNested
import Derived.RangeFuncBound
import Derived.RangeFuncCalls
import Derived.RangeFuncLeaves
import Derived.Shelf.Abstract
import Derived.Shelf.RegionOpen
import Derived.OwnWalkIn
import Derived.TacticsInMore
import Derived.LoopNIn
import Derived.LoopIn
import Derived.Sort.QuietIn
import Derived.Test.YtpeekhlccjoioaaRange
namespace Go.Proofs.Ytpeekhlccjoioaa
open Go.RowKit Go.Shelf

theorem wide_fn (f : Nat) : Fence.wide.fn f = True := rfl

/-- What a round that goes on keeps: the blocks L. -/
def KeepsL (L : List Nat) (W W' : World) : Prop := ∀ k ∈ L, W'.heap[k]? = W.heap[k]?
theorem KeepsL.refl {L : List Nat} {A : World} : KeepsL L A A := fun _ _ => rfl
theorem KeepsL.trans {L : List Nat} {A C D : World} (h : KeepsL L A C) (k : KeepsL L C D) : KeepsL L A D := fun i hi => (k i hi).trans (h i hi)
theorem KeepsL.put {L : List Nat} {w : World} (hL : ∀ k ∈ L, k < w.heap.size) (W : World) (l : Nat) (o o' : Obj) (hl : w.heap.size ≤ l) (_ : W.heap[l]? = some o) (_ : o.isCells = false) (_ : o.isWalk = false) : KeepsL L W (W.putObj l o') :=
  fun k hk => World.putObj_heap_other (by have := hL k hk; omega)
theorem KeepsL.of_kept {L S : List Nat} {W W' : World} (h : Kept S W W') (hL : ∀ k ∈ L, k < W.heap.size) (hS : ∀ k ∈ L, k ∉ S) : KeepsL L W W' := fun k hk => h.block k (hL k hk) (hS k hk)
theorem KeepsL.of_below {L : List Nat} {W W' : World} {n : Nat} (h : Below n W W') (hL : ∀ k ∈ L, k < n) : KeepsL L W W' := fun k hk => h.block k (hL k hk)
theorem KeepsL.drewN {L : List Nat} {A C : World} (h : KeepsL L A C) (n : Nat) : KeepsL L A (C.drewN n) := fun k hk => by
  have : (C.drewN n).heap = C.heap := by induction n with
    | zero => rfl
    | succ n ih => exact ih
  rw [this]; exact h k hk
theorem KeepsL.row {L : List Nat} {W W' : World} {g : Nat} {t : TypeId} {vs : List Value} (h : KeepsL L W W') (hg : g ∈ L) (hr : Row W g t vs) : Row W' g t vs := (h g hg).trans hr

theorem grown_drewN (W : World) (n : Nat) : W.grownBy (W.drewN n) none := by
  have h := (Kept.refl [] W).drewN n
  exact ⟨h.os, h.tape, h.output, h.size, fun k hk _ => h.block k hk (by simp)⟩

theorem quietIn_same {F : Fence} {n : Nat} {P : Program} {f : FuncId} {args : Array Value} {w : World} {m : Nat} {v : Value}
    (h : CallsIn F n P f args (w.drewN m) fun e w' => e = .returned v ∧ w.drewN m = w') : CallsIn F n P f args (w.drewN m) fun e w'' => e = .returned v ∧ ∃ k, w'' = w.drewN k :=
  h.mono fun _ _ ⟨he, hm⟩ => ⟨he, m, hm.symm⟩

/-- Three new blocks. -/
theorem three_new (w : World) (o0 o1 o2 : Obj) : ∃ W, (((w.alloc o0).alloc o1).alloc o2) = W ∧ W.heap.size = w.heap.size + 3 ∧ Kept [] w W ∧
    W.heap[w.heap.size]? = some o0 ∧ W.heap[w.heap.size + 1]? = some o1 ∧ W.heap[w.heap.size + 2]? = some o2 := by
  have n0 := heap_alloc_new w o0
  have n1 := heap_alloc_new (w.alloc o0) o1
  have n2 := heap_alloc_new ((w.alloc o0).alloc o1) o2
  simp only [World.size_alloc, Nat.add_assoc, Nat.reduceAdd] at n1 n2
  have up : ∀ (W : World) (o : Obj) {k : Nat} {v : Obj}, W.heap[k]? = some v → (W.alloc o).heap[k]? = some v := fun W o k v h => (Below.heap_alloc W o k (Array.getElem?_eq_some_iff.1 h).1).trans h
  exact ⟨_, rfl, by simp, (((Kept.refl [] w).alloc _).alloc _).alloc _, up _ _ (up _ _ n0), up _ _ n1, n2⟩
/-- Four new blocks. -/
theorem four_new (w : World) (o0 o1 o2 o3 : Obj) : ∃ W, ((((w.alloc o0).alloc o1).alloc o2).alloc o3) = W ∧ W.heap.size = w.heap.size + 4 ∧ Kept [] w W ∧
    W.heap[w.heap.size]? = some o0 ∧ W.heap[w.heap.size + 1]? = some o1 ∧ W.heap[w.heap.size + 2]? = some o2 ∧ W.heap[w.heap.size + 3]? = some o3 := by
  have n0 := heap_alloc_new w o0
  have n1 := heap_alloc_new (w.alloc o0) o1
  have n2 := heap_alloc_new ((w.alloc o0).alloc o1) o2
  have n3 := heap_alloc_new (((w.alloc o0).alloc o1).alloc o2) o3
  simp only [World.size_alloc, Nat.add_assoc, Nat.reduceAdd] at n1 n2 n3
  have up : ∀ (W : World) (o : Obj) {k : Nat} {v : Obj}, W.heap[k]? = some v → (W.alloc o).heap[k]? = some v := fun W o k v h => (Below.heap_alloc W o k (Array.getElem?_eq_some_iff.1 h).1).trans h
  exact ⟨_, rfl, by simp, ((((Kept.refl [] w).alloc _).alloc _).alloc _).alloc _, up _ _ (up _ _ (up _ _ n0)), up _ _ (up _ _ n1), up _ _ n2, n3⟩

/-- Five new blocks. -/
theorem five_new (w : World) (o0 o1 o2 o3 o4 : Obj) : ∃ W, (((((w.alloc o0).alloc o1).alloc o2).alloc o3).alloc o4) = W ∧ W.heap.size = w.heap.size + 5 ∧ Kept [] w W ∧
    W.heap[w.heap.size]? = some o0 ∧ W.heap[w.heap.size + 1]? = some o1 ∧ W.heap[w.heap.size + 2]? = some o2 ∧ W.heap[w.heap.size + 3]? = some o3 ∧ W.heap[w.heap.size + 4]? = some o4 := by
  obtain ⟨W4, h4, z4, k4, r0, r1, r2, r3⟩ := four_new w o0 o1 o2 o3
  have n4 := heap_alloc_new W4 o4
  rw [z4] at n4
  have up : ∀ (W : World) (o : Obj) {k : Nat} {v : Obj}, W.heap[k]? = some v → (W.alloc o).heap[k]? = some v := fun W o k v h => (Below.heap_alloc W o k (Array.getElem?_eq_some_iff.1 h).1).trans h
  rw [h4]
  exact ⟨_, rfl, by simp [z4], k4.alloc _, up _ _ r0, up _ _ r1, up _ _ r2, up _ _ r3, n4⟩
theorem heap_drewN (W : World) (n : Nat) : (W.drewN n).heap = W.heap := by
  induction n with
  | zero => rfl
  | succ n ih => exact ih
end Go.Proofs.Ytpeekhlccjoioaa
