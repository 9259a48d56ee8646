/- Slices of things of several cells, told by a function from a thing to its cells: how they lie, append of one; slices of integers that lie in certain blocks (SlX). -/
import Derived.Test.YtpeekhlccjoioaaDoorAppendIn
namespace Go.Proofs.YtpeekhlccjoioaaDoor
open Go.RowKit Go.Shelf

/-- The cells of things, one behind the other. -/
def flatS {α : Type} (c : α → List Value) (xs : List α) : List Value := xs.flatMap c
/-- The slice of things of k cells that begins at a reads as xs. -/
def SlS {α : Type} (c : α → List Value) (k : Nat) (w : World) (a : Option Addr) (xs : List α) : Prop :=
  xs = [] ∨ ∃ b off, a = some ⟨b, off, none⟩ ∧ b < w.heap.size ∧ ∀ j x, xs[j]? = some x → ∀ i, i < k → w.cell? ⟨b, off + j * k + i, none⟩ = (c x)[i]?
/-- The slice value v is a row of the call's own that holds xs. -/
def OwnS {α : Type} (e : TypeId) (c : α → List Value) (k : Nat) (w : World) (B : Nat) (v : Value) (xs : List α) : Prop := w.ownsRow B e k v xs.length (flatS c xs)

section
variable {α : Type} {c : α → List Value} {k : Nat}
theorem flatS_length (hc : ∀ x, (c x).length = k) (xs : List α) : (flatS c xs).length = xs.length * k := by
  induction xs with
  | nil => simp [flatS]
  | cons x xs ih =>
    simp only [flatS, List.flatMap_cons, List.length_append, List.length_cons] at ih ⊢
    rw [ih, hc, Nat.succ_mul, Nat.add_comm]
theorem flatS_snoc (xs : List α) (x : α) : flatS c (xs ++ [x]) = flatS c xs ++ c x := by simp [flatS]
theorem flatS_get (hc : ∀ x, (c x).length = k) : ∀ (xs : List α) (j : Nat) (x : α), xs[j]? = some x → ∀ i, i < k → (flatS c xs)[j * k + i]? = (c x)[i]?
  | [], j, x, h => by simp at h
  | y :: xs, 0, x, h => by
    intro i hi
    simp at h; subst h
    simp only [flatS, List.flatMap_cons, Nat.zero_mul, Nat.zero_add]
    rw [List.getElem?_append_left (by rw [hc]; exact hi)]
  | y :: xs, j + 1, x, h => by
    intro i hi
    have ih := flatS_get hc xs j x (by simpa using h) i hi
    simp only [flatS, List.flatMap_cons] at ih ⊢
    rw [List.getElem?_append_right (by rw [hc, Nat.succ_mul]; omega), hc, show (j + 1) * k + i - k = j * k + i by rw [Nat.succ_mul]; omega]
    exact ih
variable {w w' : World} {a : Option Addr} {xs : List α}
theorem SlS.keptS {S : List Nat} (h : SlS c k w a xs) (hk : Kept S w w') (hn : ∀ b off, a = some ⟨b, off, none⟩ → b ∉ S) : SlS c k w' a xs := by
  rcases h with h | ⟨b, off, rfl, hb, hc⟩
  · exact .inl h
  · exact .inr ⟨b, off, rfl, Nat.lt_of_lt_of_le hb hk.size, fun j x hx i hi => (World.cell?_of_block (w := w) (a := ⟨b, off + j * k + i, none⟩) (hk.block b hb (hn b off rfl))).trans (hc j x hx i hi)⟩
theorem SlS.kept (h : SlS c k w a xs) (hk : Kept [] w w') : SlS c k w' a xs := h.keptS hk (by simp)
theorem SlS.cell (h : SlS c k w a xs) {j : Nat} (hj : j < xs.length) : ∃ b off, a = some ⟨b, off, none⟩ ∧ b < w.heap.size ∧ ∀ i, i < k → w.cell? ⟨b, off + j * k + i, none⟩ = (c xs[j])[i]? := by
  rcases h with h | ⟨b, off, rfl, hb, hc⟩
  · subst h; simp at hj
  · exact ⟨b, off, rfl, hb, hc j _ (List.getElem?_eq_getElem hj)⟩
variable {e : TypeId} {B : Nat} {v : Value}
theorem OwnS.slice (hc : ∀ x, (c x).length = k) (h : OwnS e c k w B v xs) : ∃ a cap, v = .slice a xs.length cap ∧ SlS c k w a xs ∧ (∀ b off, a = some ⟨b, off, none⟩ → B ≤ b ∧ v.ownBlock = some b) := by
  rcases h.2 with ⟨rfl, h0⟩ | ⟨g, cap, cur, rfl, hB, hb, hn, hcap, hs, ht⟩
  · have : xs = [] := List.eq_nil_of_length_eq_zero h0
    subst this
    exact ⟨none, 0, rfl, .inl rfl, by simp⟩
  · refine ⟨some ⟨g, 0, none⟩, cap, rfl, .inr ⟨g, 0, rfl, lt_of_block hb, fun j x hx i hi => ?_⟩, by simp [Value.ownBlock]; exact hB⟩
    have hj : j < xs.length := (List.getElem?_eq_some_iff.1 hx).1
    have hlt : j * k + i < xs.length * k := by
      have := Nat.mul_le_mul_right k (show j + 1 ≤ xs.length from hj)
      rw [Nat.succ_mul] at this; omega
    rw [Nat.zero_add, h.cellAt (j * k + i) hlt]
    exact flatS_get hc xs j x hx i hi
theorem OwnS.nil : OwnS e c k w B (.slice none 0 0) ([] : List α) := World.ownsRow_nil _ _ _ _
theorem OwnS.empty (hB : B ≤ w.heap.size) : OwnS e c k (w.alloc (.cells #[] e)) B (.slice (some ⟨w.heap.size, 0, none⟩) 0 0) ([] : List α) := own_empty w e k B hB
theorem OwnS.ge (h : OwnS e c k w B v xs) : ∀ j, v.ownBlock = some j → B ≤ j := by
  intro j hj
  rcases h.2 with ⟨rfl, _⟩ | ⟨g, cap, cur, rfl, hB, _⟩
  · simp [Value.ownBlock] at hj
  · simp [Value.ownBlock] at hj; omega
theorem OwnS.lt (h : OwnS e c k w B v xs) : ∀ j, v.ownBlock = some j → j < w.heap.size := by
  intro j hj
  rcases h.2 with ⟨rfl, _⟩ | ⟨g, cap, cur, rfl, hB, hr, _⟩
  · simp [Value.ownBlock] at hj
  · simp [Value.ownBlock] at hj; subst hj; exact lt_of_block hr
theorem OwnS.keptS {S : List Nat} (h : OwnS e c k w B v xs) (hk : Kept S w w') (hn : ∀ j, v.ownBlock = some j → j ∉ S) : OwnS e c k w' B v xs := own_keptV h hk hn
theorem OwnS.own {β : Type} (v : β → Value) (f : β → List α) : Own (fun (s : β) W => OwnS e c k W B (v s) (f s)) := own_ownsV v (fun s => (f s).length) (fun s => flatS c (f s))

/-- 'append(v, x)'. -/
theorem wpList_append_s {P : Program} (w : World) {ops : Array Oper} {rest : List Oper} {o : Oper} {ac : Act} {Q : Exit → Act → World → Prop} (hgd : o.guard = none) (s x : Operand) (t : TypeId)
    (ho : o.op = .call { callee := .builtin .append, args := #[s, x], argTypes := #[t, t] }) (B : Nat) (i : TypeInfo) (z : Value) (bytes : Nat) (ht : P.underlying t = some (.slice e)) (hi : P.info? e = some i) (hz : i.zero = some z)
    (hsize : i.size = k) (hby : i.bytes = bytes) (hzs : z.cells.size = k) (hk0 : 0 < k) (hb : bytes ≤ 96) (w0 : World) (v : Value) (xs : List α) (y : α) (hc : (c y).length = k) (h1 : ∀ u ∈ c y, u.oneCell' = true)
    (hw : w = w0.alloc (.cells (c y).toArray e)) (hs : ac.eval s = v) (hx : ac.eval x = .slice (some ⟨w0.heap.size, 0, none⟩) 1 1) (hown : OwnS e c k w0 B v xs) (hB : B ≤ w0.heap.size) (hl : xs.length ≤ 1099511627776)
    (h : ∀ g' c' w', OwnS e c k w' B (.slice (some ⟨g', 0, none⟩) (xs.length + 1) c') (xs ++ [y]) → Kept (v.ownBlock.toList) w0 w' → (v.ownBlock = some g' ∨ w0.heap.size ≤ g') → wpList P ops Q rest (ac.put o.dst (.slice (some ⟨g', 0, none⟩) (xs.length + 1) c')) w') : wpList P ops Q (o :: rest) ac w := by
  subst hw
  have rE := Row.new w0 e (c y)
  have kE := (Kept.refl [] w0).alloc (.cells (c y).toArray e)
  have hA : OwnS e c k (w0.alloc (.cells (c y).toArray e)) B v xs := hown.keptS kE (by simp)
  have hbytes : (xs.length + 1) * bytes ≤ 140737488355328 := Nat.le_trans (Nat.mul_le_mul (show xs.length + 1 ≤ 1099511627777 by omega) hb) (by omega)
  refine wpList_append_own_at _ hgd s x t ho B e i z k bytes ht hi hz hsize hby hzs hk0 v xs.length (flatS c xs) hs hA
    ⟨w0.heap.size, 0, none⟩ 1 1 (c y) hx (by rw [hc, Nat.one_mul]) (fun j u hu => by rw [add_none, Nat.zero_add]; exact (rE.cell j).trans hu) h1 (by unfold maxLen; omega) hbytes (by simp; omega) ?_
  intro v' w' hown' hg _ hat
  rcases hown'.2 with ⟨_, h0⟩ | ⟨g', cap', cur, rfl, _⟩
  · omega
  · refine h g' cap' w' (by unfold OwnS; rw [flatS_snoc]; simpa using hown') ((kE.any).trans (Kept.of_own hg)) ?_
    rcases hat with h' | h'
    · exact .inl h'.symm
    · right
      have : g' = (w0.alloc (.cells (c y).toArray e)).heap.size := by simpa [Value.ownBlock] using h'
      rw [this]; simp

/-- The same inside a fence. -/
theorem wpListIn_append_s {F : Fence} {nF : Nat} {P : Program} (w : World) {ops : Array Oper} {rest : List Oper} {o : Oper} {ac : Act} {Q : Exit → Act → World → Prop} (hgd : o.guard = none) (s x : Operand) (t : TypeId)
    (ho : o.op = .call { callee := .builtin .append, args := #[s, x], argTypes := #[t, t] }) (B : Nat) (i : TypeInfo) (z : Value) (bytes : Nat) (ht : P.underlying t = some (.slice e)) (hi : P.info? e = some i) (hz : i.zero = some z)
    (hsize : i.size = k) (hby : i.bytes = bytes) (hzs : z.cells.size = k) (hk0 : 0 < k) (hb : bytes ≤ 96) (w0 : World) (v : Value) (xs : List α) (y : α) (hc : (c y).length = k) (h1 : ∀ u ∈ c y, u.oneCell' = true)
    (hw : w = w0.alloc (.cells (c y).toArray e)) (hs : ac.eval s = v) (hx : ac.eval x = .slice (some ⟨w0.heap.size, 0, none⟩) 1 1) (hown : OwnS e c k w0 B v xs) (hB : B ≤ w0.heap.size) (hl : xs.length ≤ 1099511627776)
    (h : ∀ g' c' w', OwnS e c k w' B (.slice (some ⟨g', 0, none⟩) (xs.length + 1) c') (xs ++ [y]) → Kept (v.ownBlock.toList) w0 w' → (v.ownBlock = some g' ∨ w0.heap.size ≤ g') → wpListIn F nF P ops Q rest (ac.put o.dst (.slice (some ⟨g', 0, none⟩) (xs.length + 1) c')) w') : wpListIn F nF P ops Q (o :: rest) ac w := by
  subst hw
  have rE := Row.new w0 e (c y)
  have kE := (Kept.refl [] w0).alloc (.cells (c y).toArray e)
  have hA : OwnS e c k (w0.alloc (.cells (c y).toArray e)) B v xs := hown.keptS kE (by simp)
  have hbytes : (xs.length + 1) * bytes ≤ 140737488355328 := Nat.le_trans (Nat.mul_le_mul (show xs.length + 1 ≤ 1099511627777 by omega) hb) (by omega)
  refine wpListIn_append_own_at _ hgd s x t ho B e i z k bytes ht hi hz hsize hby hzs hk0 v xs.length (flatS c xs) hs hA
    ⟨w0.heap.size, 0, none⟩ 1 1 (c y) hx (by rw [hc, Nat.one_mul]) (fun j u hu => by rw [add_none, Nat.zero_add]; exact (rE.cell j).trans hu) h1 (by unfold maxLen; omega) hbytes (by simp; omega) ?_
  intro v' w' hown' hg _ hat
  rcases hown'.2 with ⟨_, h0⟩ | ⟨g', cap', cur, rfl, _⟩
  · omega
  · refine h g' cap' w' (by unfold OwnS; rw [flatS_snoc]; simpa using hown') ((kE.any).trans (Kept.of_own hg)) ?_
    rcases hat with h' | h'
    · exact .inl h'.symm
    · right
      have : g' = (w0.alloc (.cells (c y).toArray e)).heap.size := by simpa [Value.ownBlock] using h'
      rw [this]; simp
end

/-- The slice of integers that begins at a reads as zs, and lies in a block of X, if it holds any. -/
def SlX (w : World) (k : IntKind) (X : Nat → Prop) (a : Option Addr) (zs : List Int) : Prop :=
  zs = [] ∨ ∃ b off, a = some ⟨b, off, none⟩ ∧ b < w.heap.size ∧ X b ∧ ∀ j, j < zs.length → w.cell? ⟨b, off + j, none⟩ = some (.int k (zs[j]?.getD 0))
section
variable {w w' : World} {k : IntKind} {X Y : Nat → Prop} {a : Option Addr} {zs : List Int}
theorem SlX.sl (h : SlX w k X a zs) : Sl w k a zs := by
  rcases h with h | ⟨b, off, h1, h2, _, h4⟩
  · exact .inl h
  · exact .inr ⟨b, off, h1, h2, h4⟩
theorem SlX.of_sl (h : Sl w k a zs) : SlX w k (fun b => b < w.heap.size) a zs := by
  rcases h with h | ⟨b, off, h1, h2, h4⟩
  · exact .inl h
  · exact .inr ⟨b, off, h1, h2, h2, h4⟩
theorem SlX.mono (h : SlX w k X a zs) (hX : ∀ b, b < w.heap.size → X b → Y b) : SlX w k Y a zs := by
  rcases h with h | ⟨b, off, h1, h2, h3, h4⟩
  · exact .inl h
  · exact .inr ⟨b, off, h1, h2, hX b h2 h3, h4⟩
theorem SlX.kept {S : List Nat} (h : SlX w k X a zs) (hk : Kept S w w') (hS : ∀ b ∈ S, ¬ X b) : SlX w' k X a zs := by
  rcases h with h | ⟨b, off, rfl, hb, hx, hc⟩
  · exact .inl h
  · exact .inr ⟨b, off, rfl, Nat.lt_of_lt_of_le hb hk.size, hx, fun j hj => (World.cell?_of_block (w := w) (a := ⟨b, off + j, none⟩) (hk.block b hb (fun hm => hS b hm hx))).trans (hc j hj)⟩
theorem isCells_of_cell {p : Addr} {v : Value} (h : w.cell? p = some v) : ∃ o : Obj, w.heap[p.block]? = some o ∧ o.isCells = true := by
  unfold World.cell? at h
  split at h
  · rename_i c t f hh; exact ⟨_, hh, rfl⟩
  · cases h
theorem SlX.grown {row : Option Nat} (h : SlX w k X a zs) (hg : w.grownBy w' row) (hr : ∀ r, row = some r → ∃ o : Obj, w.heap[r]? = some o ∧ o.isCells = false) : SlX w' k X a zs := by
  rcases h with h | ⟨b, off, rfl, hb, hx, hc⟩
  · exact .inl h
  · by_cases h0 : zs.length = 0
    · exact .inl (List.eq_nil_of_length_eq_zero h0)
    · obtain ⟨o, ho, hco⟩ := isCells_of_cell (hc 0 (by omega))
      have hbk : w'.heap[b]? = w.heap[b]? := hg.block b hb (fun e => by
        obtain ⟨o', ho', hc'⟩ := hr b e.symm
        simp at ho; rw [ho] at ho'; cases ho'; rw [hco] at hc'; cases hc')
      exact .inr ⟨b, off, rfl, Nat.lt_of_lt_of_le hb hg.size, hx, fun j hj => (World.cell?_of_block (w := w) (a := ⟨b, off + j, none⟩) hbk).trans (hc j hj)⟩
end
/-- A row of the call's own of integers, or nil, read as a slice in a new block. -/
theorem SlX.of_own {w : World} {B : Nat} {t : TypeId} {k : IntKind} {v : Value} {n : Nat} {xs : List Int} (h : w.ownsRow B t 1 v n (xs.map (Value.int k))) : ∃ a cap, v = .slice a n cap ∧ SlX w k (fun b => B ≤ b) a xs := by
  have hl : xs.length = n := by have := h.1; simpa using this
  rcases h.2 with ⟨rfl, h0⟩ | ⟨g, cap, cur, rfl, h1, hb, _⟩
  · exact ⟨none, 0, by rw [h0], .inl (List.eq_nil_of_length_eq_zero (by omega))⟩
  · rcases Sl.of_own h with h2 | ⟨b, off, h2, h3, h4⟩
    · exact ⟨_, cap, rfl, .inl h2⟩
    · cases h2
      exact ⟨_, cap, rfl, .inr ⟨g, 0, rfl, h3, h1, h4⟩⟩
theorem SlX.of_row {w : World} {k : IntKind} {g : Nat} {t : TypeId} {xs : List Int} {X : Nat → Prop} (h : Row w g t (xs.map (Value.int k))) (hX : X g) : SlX w k X (some ⟨g, 0, none⟩) xs :=
  .inr ⟨g, 0, rfl, h.lt, hX, fun j hj => by rw [Nat.zero_add]; exact h.cellInt j hj⟩
theorem SlX.part {w : World} {k : IntKind} {X : Nat → Prop} {b off : Nat} {xs : List Int} (h : SlX w k X (some ⟨b, off, none⟩) xs) (n m : Nat) : SlX w k X (some ⟨b, off + n, none⟩) ((xs.drop n).take m) := by
  rcases h with rfl | ⟨b', off', e, hb, hx, hc⟩
  · exact .inl (by simp)
  · cases e
    refine .inr ⟨b, off + n, rfl, hb, hx, fun j hj => ?_⟩
    have hj' : j < m ∧ n + j < xs.length := by simp at hj; omega
    rw [Nat.add_assoc, hc (n + j) hj'.2]
    congr 2
    rw [List.getElem?_take, if_pos hj'.1, List.getElem?_drop]
end Go.Proofs.YtpeekhlccjoioaaDoor
