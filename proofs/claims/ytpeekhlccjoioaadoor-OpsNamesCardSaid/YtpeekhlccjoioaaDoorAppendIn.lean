/- Inside a fence: append of one one-cell element onto a slice of the call's own, nil ones too; what such a slice keeps through a range over a function. -/
import Derived.Maps.OwnIn
import Derived.Test.YtpeekhlccjoioaaDoorProg
import Derived.Test.YtpeekhlccjoioaaDoorAppendOne
import Derived.Test.YtpeekhlccjoioaaDoorRange
namespace Go.Proofs.YtpeekhlccjoioaaDoor
open Go.RowKit Go.Shelf

theorem infoI : (Tryd.prog.info? 3).map (fun i => (i.zero, i.size, i.bytes)) = some (some (.int .i64 0), 1, 8) := by kernel_rfl

/-- 'append(v, x)', x one cell, in the row that was laid for it. -/
theorem wpListIn_append_one {F : Fence} {nF : Nat} {P : Program} (w : World) {ops : Array Oper} {rest : List Oper} {o : Oper} {a : Act} {Q : Exit → Act → World → Prop} (hgd : o.guard = none) (s x : Operand) (t : TypeId)
    (ho : o.op = .call { callee := .builtin .append, args := #[s, x], argTypes := #[t, t] }) (B : Nat) (e : TypeId) (i : TypeInfo) (z : Value) (bytes : Nat) (ht : P.underlying t = some (.slice e)) (hi : P.info? e = some i) (hz : i.zero = some z)
    (hsize : i.size = 1) (hby : i.bytes = bytes) (hzs : z.cells.size = 1) (w0 : World) (u v : Value) (n : Nat) (vs : List Value)
    (hw : w = w0.alloc (.cells #[u] e)) (hs : a.eval s = v) (hx : a.eval x = .slice (some ⟨w0.heap.size, 0, none⟩) 1 1) (hown : w0.ownsRow B e 1 v n vs) (hB : B ≤ w0.heap.size) (h1 : u.oneCell' = true) (hl : n ≤ 1099511627776) (hb : bytes ≤ 64)
    (h : ∀ g' c' w', w'.ownsRow B e 1 (.slice (some ⟨g', 0, none⟩) (n + 1) c') (n + 1) (vs ++ [u]) → Kept (v.ownBlock.toList) w0 w' → (v.ownBlock = some g' ∨ w0.heap.size ≤ g') → wpListIn F nF P ops Q rest (a.put o.dst (.slice (some ⟨g', 0, none⟩) (n + 1) c')) w') : wpListIn F nF P ops Q (o :: rest) a w := by
  subst hw
  have rE := Row.new w0 e [u]
  have kE := (Kept.refl [] w0).alloc (.cells #[u] e)
  have hA := own_keptV hown kE (by simp)
  have hbytes : (n + 1) * bytes ≤ 140737488355328 := Nat.le_trans (Nat.mul_le_mul (show n + 1 ≤ 2199023255552 by omega) hb) (by omega)
  refine wpListIn_append_own_at _ hgd s x t ho B e i z 1 bytes ht hi hz hsize hby hzs (by omega) v n vs hs hA
    ⟨w0.heap.size, 0, none⟩ 1 1 [u] hx rfl (fun j u' hu => by rw [add_none, Nat.zero_add]; exact (rE.cell j).trans hu) (by intro u' hu; obtain rfl := List.mem_singleton.1 hu; exact h1) (by unfold maxLen; omega) hbytes (by simp; omega) ?_
  intro v' w' hown' hg _ hat
  rcases hown'.2 with ⟨_, h0⟩ | ⟨g', cap', cur, rfl, _⟩
  · omega
  · refine h g' cap' w' hown' ((kE.any).trans (Kept.of_own hg)) ?_
    rcases hat with h' | h'
    · exact .inl h'.symm
    · right
      have : g' = (w0.alloc (.cells #[u] e)).heap.size := by simpa [Value.ownBlock] using h'
      rw [this]; simp

/-- The block of a slice of the call's own: new, and cells. -/
theorem own_block {w : World} {B : Nat} {e : TypeId} {size : Nat} {v : Value} {n : Nat} {vs : List Value} (h : w.ownsRow B e size v n vs) : ∀ j, v.ownBlock = some j → B ≤ j ∧ ∃ o : Obj, w.heap[j]? = some o ∧ o.isCells = true := by
  intro j hj
  rcases h.2 with ⟨rfl, _⟩ | ⟨g', cap', cur, rfl, hB, hr, _⟩
  · simp [Value.ownBlock] at hj
  · simp [Value.ownBlock] at hj
    subst hj
    exact ⟨hB, _, hr, rfl⟩
theorem own_ownsV {β : Type} {B : Nat} {e : TypeId} {size : Nat} (v : β → Value) (n : β → Nat) (f : β → List Value) : Own (fun (s : β) W => W.ownsRow B e size (v s) (n s) (f s)) := by
  intro s W W' row hs hg hr
  have hb := own_block hs
  rcases hs.2 with h0 | ⟨g, cap, cur, h1, _⟩
  · exact ⟨hs.1, .inl h0⟩
  · refine hs.kept hg (.inr (fun e1 => ?_))
    have hv : (v s).ownBlock = some g := by rw [h1]; rfl
    obtain ⟨o, ho, hc⟩ := hr g (e1.symm.trans hv)
    obtain ⟨_, o', ho', hc'⟩ := hb g hv
    rw [ho] at ho'; cases ho'; rw [hc] at hc'; cases hc'
theorem KeepsFrom.of_keptC {B : Nat} {S : List Nat} {W W' : World} (h : Kept S W W') (hS : ∀ s ∈ S, s < B ∨ ∃ o : Obj, W.heap[s]? = some o ∧ o.isCells = true) : KeepsFrom B W W' :=
  ⟨h.size, fun k o hB hk hc => (h.block k (Array.getElem?_eq_some_iff.1 hk).1 (fun hs => by
    rcases hS k hs with h1 | ⟨o', ho', hc'⟩
    · omega
    · rw [hk] at ho'; cases ho'; rw [hc] at hc'; cases hc')).trans hk⟩
end Go.Proofs.YtpeekhlccjoioaaDoor
