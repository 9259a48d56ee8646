/- What a call may turn in memory ('Kept'), a block known whole ('Row'), small facts on both. -/
import Derived.WalkKit
import Derived.Lib.Hide
import Derived.RangeFuncRecord
import Derived.OwnWalkIn
import Derived.Deep.QuietTactic
namespace Go.Proofs.YtpeekhlccjoioaaDoor
open Go.RowKit

/-- Of the blocks that lay in w all but those of S lie as they lay; the streams are as they were. -/
structure Kept (S : List Nat) (w w' : World) : Prop where
  os : w'.os = w.os
  tape : w'.tape = w.tape
  output : w'.output = w.output
  size : w.heap.size ≤ w'.heap.size
  block : ∀ k, k < w.heap.size → k ∉ S → w'.heap[k]? = w.heap[k]?

/-- Block g holds just the cells vs, none of them frozen. -/
def Row (w : World) (g : Nat) (t : TypeId) (vs : List Value) : Prop := w.heap[g]? = some (.cells vs.toArray t (0, 0))

theorem Row.lt {w : World} {g : Nat} {t : TypeId} {vs : List Value} (h : Row w g t vs) : g < w.heap.size := lt_of_block h
theorem Row.cell {w : World} {g : Nat} {t : TypeId} {vs : List Value} (h : Row w g t vs) (j : Nat) : w.cell? ⟨g, j, none⟩ = vs[j]? := by
  rw [cell_of_row w g j _ t _ h]; simp
theorem Row.cellInt {w : World} {g : Nat} {t : TypeId} {k : IntKind} {xs : List Int} (h : Row w g t (xs.map (Value.int k))) (j : Nat) (hj : j < xs.length) : w.cell? ⟨g, j, none⟩ = some (.int k (xs[j]?.getD 0)) := by
  rw [h.cell j]; simp [hj]
theorem Row.free {w : World} {g : Nat} {t : TypeId} {vs : List Value} (h : Row w g t vs) (j : Nat) : w.frozen? ⟨g, j, none⟩ = false :=
  frozen_of_row w g j _ t h
theorem Row.new (w : World) (t : TypeId) (vs : List Value) : Row (w.alloc (.cells vs.toArray t)) w.heap.size t vs := heap_alloc_new w _
theorem Row.alloc {w : World} {g : Nat} {t : TypeId} {vs : List Value} (h : Row w g t vs) (o : Obj) : Row (w.alloc o) g t vs :=
  (Below.heap_alloc w o g h.lt).trans h
theorem Row.drew {w : World} {g : Nat} {t : TypeId} {vs : List Value} (h : Row w g t vs) : Row w.drew g t vs := h
theorem Row.set {w : World} {g : Nat} {t : TypeId} {vs : List Value} (h : Row w g t vs) (j : Nat) (u : Value) : Row (w.setCell ⟨g, j, none⟩ u) g t (vs.set j u) := by
  have := heap_setCell_same w g j _ t u h
  unfold Row
  rw [this]; simp
theorem Row.other {w : World} {g : Nat} {t : TypeId} {vs : List Value} (h : Row w g t vs) (a : Addr) (u : Value) (hn : g ≠ a.block) : Row (w.setCell a u) g t vs :=
  (heap_setCell_other w a g u hn).trans h
theorem Row.kept {w w' : World} {S : List Nat} {g : Nat} {t : TypeId} {vs : List Value} (h : Row w g t vs) (hk : Kept S w w') (hn : g ∉ S) : Row w' g t vs :=
  (hk.block g h.lt hn).trans h
theorem Row.uniq {w : World} {g : Nat} {t t' : TypeId} {vs vs' : List Value} (h : Row w g t vs) (h' : Row w g t' vs') : vs = vs' := by
  unfold Row at h h'; rw [h] at h'; simp at h'; exact h'.1
theorem Row.type {w : World} {g : Nat} {t t' : TypeId} {vs vs' : List Value} (h : Row w g t vs) (h' : Row w g t' vs') : t = t' := by
  unfold Row at h h'; rw [h] at h'; simp at h'; exact h'.2

theorem Row.putD {w : World} {g D : Nat} {t : TypeId} {vs : List Value} {ds : Option (List Deferred)} (h : Row w g t vs) (hK : w.heap[D]? = some (.deferred ds)) (o : Obj) : Row (w.putObj D o) g t vs :=
  (World.putObj_heap_other (fun e => by unfold Row at h; subst e; rw [h] at hK; simp at hK)).trans h

theorem Kept.refl (S : List Nat) (w : World) : Kept S w w := ⟨rfl, rfl, rfl, Nat.le_refl _, fun _ _ _ => rfl⟩
theorem Kept.trans {S : List Nat} {a b c : World} (h : Kept S a b) (k : Kept S b c) : Kept S a c :=
  ⟨k.os.trans h.os, k.tape.trans h.tape, k.output.trans h.output, Nat.le_trans h.size k.size, fun i hi hn => (k.block i (Nat.lt_of_lt_of_le hi h.size) hn).trans (h.block i hi hn)⟩
theorem Kept.mono {S T : List Nat} {a b : World} (h : Kept S a b) (hs : ∀ k, k ∈ S → k < a.heap.size → k ∈ T) : Kept T a b :=
  ⟨h.os, h.tape, h.output, h.size, fun k hk hn => h.block k hk (fun m => hn (hs k m hk))⟩
/-- What lay in a lies as it lay, if between a and b, and of b's old blocks, only those of S have turned; S's newer ones are of no account. -/
theorem Kept.chain {S T U : List Nat} {a b c : World} (h : Kept S a b) (k : Kept T b c) (hs : ∀ i, i ∈ S → i < a.heap.size → i ∈ U) (ht : ∀ i, i ∈ T → i < a.heap.size → i ∈ U) : Kept U a c :=
  ⟨k.os.trans h.os, k.tape.trans h.tape, k.output.trans h.output, Nat.le_trans h.size k.size, fun i hi hn => (k.block i (Nat.lt_of_lt_of_le hi h.size) (fun m => hn (ht i m hi))).trans (h.block i hi (fun m => hn (hs i m hi)))⟩
theorem Kept.any {S : List Nat} {a b : World} (h : Kept [] a b) : Kept S a b := h.mono (fun k hk => by cases hk)
theorem Kept.alloc {S : List Nat} {a w : World} (h : Kept S a w) (o : Obj) : Kept S a (w.alloc o) :=
  h.trans ⟨rfl, rfl, rfl, by simp, fun k hk _ => Below.heap_alloc w o k hk⟩
theorem Kept.drew {S : List Nat} {a w : World} (h : Kept S a w) : Kept S a w.drew := ⟨h.os, h.tape, h.output, h.size, h.block⟩
theorem Kept.drewN {S : List Nat} {a w : World} (h : Kept S a w) (k : Nat) : Kept S a (w.drewN k) := ⟨h.os, h.tape, h.output, by simpa using h.size, fun i hi hn => by simpa using h.block i hi hn⟩
theorem Row.drewN {w : World} {g : Nat} {t : TypeId} {vs : List Value} (h : Row w g t vs) (k : Nat) : Row (w.drewN k) g t vs := by unfold Row at *; simpa using h
theorem Kept.set {S : List Nat} {a w : World} (h : Kept S a w) {p : Addr} (hp : p.block ∈ S ∨ a.heap.size ≤ p.block) (u : Value) : Kept S a (w.setCell p u) :=
  ⟨h.os, h.tape, h.output, by simp [World.setCell]; exact h.size, fun k hk hn => (heap_setCell_other w p k u (fun e => by subst e; rcases hp with hp | hp; exact hn hp; omega)).trans (h.block k hk hn)⟩
theorem Kept.put {S : List Nat} {a w : World} (h : Kept S a w) {r : Nat} (hr : r ∈ S ∨ a.heap.size ≤ r) (o : Obj) : Kept S a (w.putObj r o) :=
  ⟨h.os, h.tape, h.output, by simpa using h.size, fun k hk hn => (World.putObj_heap_other (fun e => by subst e; rcases hr with hp | hp; exact hn hp; omega)).trans (h.block k hk hn)⟩
theorem Kept.below {B : Nat} {S : List Nat} {a b : World} (h : Kept S a b) (hS : ∀ k, k ∈ S → B ≤ k) (hB : B ≤ a.heap.size) : Below B a b :=
  ⟨h.os, h.tape, h.output, h.size, fun k hk => h.block k (by omega) (fun m => by have := hS k m; omega)⟩
theorem Kept.of_below {a b : World} (h : Below a.heap.size a b) : Kept [] a b := ⟨h.os, h.tape, h.output, h.size, fun k hk _ => h.block k hk⟩
theorem Kept.of_grown {a b : World} {g : Nat} (h : a.grownBy b (some g)) : Kept [g] a b :=
  ⟨h.os, h.tape, h.output, h.size, fun k hk hn => h.block k hk (fun e => by cases e; simp at hn)⟩
theorem Kept.grown {g : Nat} {w w' : World} (h : Kept [g] w w') : w.grownBy w' (some g) :=
  ⟨h.os, h.tape, h.output, h.size, fun i hi hn => h.block i hi (by simp; intro e; subst e; exact hn rfl)⟩
theorem Kept.of_grown0 {a b : World} (h : a.grownBy b none) : Kept [] a b :=
  ⟨h.os, h.tape, h.output, h.size, fun k hk _ => h.block k hk (by simp)⟩

/-- So many times z. -/
def zeros (z : Value) (m : Nat) : List Value := List.replicate m z
theorem zeros_ints (k : IntKind) (m : Nat) : zeros (.int k 0) m = (List.replicate m (0 : Int)).map (Value.int k) := by simp [zeros]
theorem made_zeros (z : Value) (m : Nat) (hz : z.cells = #[z]) : madeCells z.cells (m * 1) = (zeros z m).toArray := by
  rw [Nat.mul_one, hz]
  have := toList_madeCells_one z m
  unfold zeros
  rw [← this]

/-- 'make([]T, m)', T of one cell: a new block of zeros, in a world of which no more is told. -/
theorem wpList_make_row {P : Program} (w : World) {ops : Array Oper} {rest : List Oper} {o : Oper} {a : Act} {Q : Exit → Act → World → Prop}
    (hg : o.guard = none) (l c : Operand) (t : TypeId) (hop : o.op = Op.makeSlice t l c)
    (e : TypeId) (i : TypeInfo) (z : Value) (h1 : P.underlying t = some (.slice e)) (h2 : P.info? e = some i) (h3 : i.zero = some z) (h4 : i.size = 1) (hz : z.cells = #[z])
    (kl kc : IntKind) (L C : Int) (m : Nat) (hl : a.eval l = .int kl L) (hc : a.eval c = .int kc C) (hL : L = (m : Int)) (hC : C = (m : Int)) (b2 : i.bytes * m ≤ 281474976710656) (b3 : m ≤ maxLen)
    (hK : ∀ w', Row w' w.heap.size e (zeros z m) → Kept [] w w' → w'.heap.size = w.heap.size + 1 → wpList P ops Q rest (a.put o.dst (.slice (some ⟨w.heap.size, 0, none⟩) m m)) w') :
    wpList P ops Q (o :: rest) a w := by
  refine wpList_plain hg fun K hK' => ?_
  subst hL
  subst hC
  have hb : (i.bytes : Int) * (m : Int) ≤ 281474976710656 := by
    have h : ((i.bytes * m : Nat) : Int) ≤ 281474976710656 := by omega
    rwa [Int.natCast_mul] at h
  have h63 : (m : Int) ≤ 9223372036854775807 := by
    have h := b3
    simp [maxLen] at h
    omega
  have hr := run_make (P := P) w t e i z h1 h2 h3 kl kc m m (by omega) (Int.le_refl _) hb h63
  simp only [Int.toNat_natCast, h4, made_zeros z m hz] at hr
  unfold Oper.wp
  simp [execOp, hop, hl, hc, hr, Result.andThen]
  exact hK' _ _ (hK _ (Row.new w e _) ((Kept.refl _ _).alloc _) (by simp))

/-- The same inside a fence. -/
theorem wpListIn_make_row {F : Fence} {n : Nat} {P : Program} (w : World) {ops : Array Oper} {rest : List Oper} {o : Oper} {a : Act} {Q : Exit → Act → World → Prop}
    (hg : o.guard = none) (l c : Operand) (t : TypeId) (hop : o.op = Op.makeSlice t l c)
    (e : TypeId) (i : TypeInfo) (z : Value) (h1 : P.underlying t = some (.slice e)) (h2 : P.info? e = some i) (h3 : i.zero = some z) (h4 : i.size = 1) (hz : z.cells = #[z])
    (kl kc : IntKind) (L C : Int) (m : Nat) (hl : a.eval l = .int kl L) (hc : a.eval c = .int kc C) (hL : L = (m : Int)) (hC : C = (m : Int)) (b2 : i.bytes * m ≤ 281474976710656) (b3 : m ≤ maxLen)
    (hK : ∀ w', Row w' w.heap.size e (zeros z m) → Kept [] w w' → w'.heap.size = w.heap.size + 1 → wpListIn F n P ops Q rest (a.put o.dst (.slice (some ⟨w.heap.size, 0, none⟩) m m)) w') :
    wpListIn F n P ops Q (o :: rest) a w := by
  refine wpListIn_plain hg fun K hK' => ?_
  subst hL
  subst hC
  have hb : (i.bytes : Int) * (m : Int) ≤ 281474976710656 := by
    have h : ((i.bytes * m : Nat) : Int) ≤ 281474976710656 := by omega
    rwa [Int.natCast_mul] at h
  have h63 : (m : Int) ≤ 9223372036854775807 := by
    have h := b3
    simp [maxLen] at h
    omega
  have hr := run_make (P := P) w t e i z h1 h2 h3 kl kc m m (by omega) (Int.le_refl _) hb h63
  simp only [Int.toNat_natCast, h4, made_zeros z m hz] at hr
  unfold Oper.wpIn
  refine ⟨?_, ?_⟩
  · simp [Oper.about, hop]
  · rw [Oper.semAt_plain F _ _ (by rw [hop]; intro c hc'; cases hc')]
    simp [execOp, hop, hl, hc, hr, Result.andThen]
    exact hK' _ _ (hK _ (Row.new w e _) ((Kept.refl _ _).alloc _) (by simp))
end Go.Proofs.YtpeekhlccjoioaaDoor
