/- append of one one-cell element onto a slice of the call's own, nil ones too; make of elements whose zero value is a struct of one cell. -/
import Derived.Test.YtpeekhlccjoioaaDoorAppend
namespace Go.Proofs.YtpeekhlccjoioaaDoor
open Go.RowKit

theorem Kept.of_own {w w' : World} {v : Value} (h : w.grownBy w' v.ownBlock) : Kept (v.ownBlock.toList) w w' :=
  ⟨h.os, h.tape, h.output, h.size, fun k hk hn => h.block k hk (fun e => by rw [← e] at hn; simp at hn)⟩
theorem own_keptV {S : List Nat} {w w' : World} {B : Nat} {e : TypeId} {size : Nat} {v : Value} {n : Nat} {vs : List Value} (h : w.ownsRow B e size v n vs) (hk : Kept S w w') (hn : ∀ j, v.ownBlock = some j → j ∉ S) : w'.ownsRow B e size v n vs := by
  refine ⟨h.1, ?_⟩
  rcases h.2 with h' | ⟨g', cap', cur, rfl, hB, hr, r⟩
  · exact .inl h'
  · exact .inr ⟨g', cap', cur, rfl, hB, (hk.block g' (lt_of_block hr) (hn g' rfl)).trans hr, r⟩

/-- 'append(v, x)', x one cell, in the row that was laid for it. -/
theorem wpList_append_one {P : Program} (w : World) {ops : Array Oper} {rest : List Oper} {o : Oper} {a : Act} {Q : Exit → Act → World → Prop} (hgd : o.guard = none) (s x : Operand) (t : TypeId)
    (ho : o.op = .call { callee := .builtin .append, args := #[s, x], argTypes := #[t, t] }) (B : Nat) (e : TypeId) (i : TypeInfo) (z : Value) (bytes : Nat) (ht : P.underlying t = some (.slice e)) (hi : P.info? e = some i) (hz : i.zero = some z)
    (hsize : i.size = 1) (hby : i.bytes = bytes) (hzs : z.cells.size = 1) (w0 : World) (u v : Value) (n : Nat) (vs : List Value)
    (hw : w = w0.alloc (.cells #[u] e)) (hs : a.eval s = v) (hx : a.eval x = .slice (some ⟨w0.heap.size, 0, none⟩) 1 1) (hown : w0.ownsRow B e 1 v n vs) (hB : B ≤ w0.heap.size) (h1 : u.oneCell' = true) (hl : n ≤ 1099511627776) (hb : bytes ≤ 64)
    (h : ∀ g' c' w', w'.ownsRow B e 1 (.slice (some ⟨g', 0, none⟩) (n + 1) c') (n + 1) (vs ++ [u]) → Kept (v.ownBlock.toList) w0 w' → (v.ownBlock = some g' ∨ w0.heap.size ≤ g') → wpList P ops Q rest (a.put o.dst (.slice (some ⟨g', 0, none⟩) (n + 1) c')) w') : wpList P ops Q (o :: rest) a w := by
  subst hw
  have rE := Row.new w0 e [u]
  have kE := (Kept.refl [] w0).alloc (.cells #[u] e)
  have hA := own_keptV hown kE (by simp)
  have hbytes : (n + 1) * bytes ≤ 140737488355328 := Nat.le_trans (Nat.mul_le_mul (show n + 1 ≤ 2199023255552 by omega) hb) (by omega)
  refine wpList_append_own_at _ hgd s x t ho B e i z 1 bytes ht hi hz hsize hby hzs (by omega) v n vs hs hA
    ⟨w0.heap.size, 0, none⟩ 1 1 [u] hx rfl (fun j u' hu => by rw [add_none, Nat.zero_add]; exact (rE.cell j).trans hu) (by intro u' hu; obtain rfl := List.mem_singleton.1 hu; exact h1) (by unfold maxLen; omega) hbytes (by simp; omega) ?_
  intro v' w' hown' hg _ hat
  rcases hown'.2 with ⟨_, h0⟩ | ⟨g', cap', cur, rfl, _⟩
  · omega
  · refine h g' cap' w' hown' ((kE.any).trans (Kept.of_own hg)) ?_
    rcases hat with h' | h'
    · exact .inl h'.symm
    · right
      have : g' = (w0.alloc (.cells #[u] e)).heap.size := by simpa [Value.ownBlock] using h'
      rw [this]; simp

/-- 'make([]T, m)', T's zero value one cell that isn't T's own form: a new block of such cells. -/
theorem wpList_make_rowC {P : Program} (w : World) {ops : Array Oper} {rest : List Oper} {o : Oper} {a : Act} {Q : Exit → Act → World → Prop}
    (hg : o.guard = none) (l c : Operand) (t : TypeId) (hop : o.op = Op.makeSlice t l c)
    (e : TypeId) (i : TypeInfo) (z z1 : Value) (h1 : P.underlying t = some (.slice e)) (h2 : P.info? e = some i) (h3 : i.zero = some z) (h4 : i.size = 1) (hz : z.cells = #[z1]) (hz1 : z1.cells = #[z1])
    (kl kc : IntKind) (L C : Int) (m : Nat) (hl : a.eval l = .int kl L) (hc : a.eval c = .int kc C) (hL : L = (m : Int)) (hC : C = (m : Int)) (b2 : i.bytes * m ≤ 281474976710656) (b3 : m ≤ maxLen)
    (hK : ∀ w', Row w' w.heap.size e (zeros z1 m) → Kept [] w w' → w'.heap.size = w.heap.size + 1 → wpList P ops Q rest (a.put o.dst (.slice (some ⟨w.heap.size, 0, none⟩) m m)) w') :
    wpList P ops Q (o :: rest) a w := by
  refine wpList_plain hg fun K hK' => ?_
  subst hL
  subst hC
  have hb : (i.bytes : Int) * (m : Int) ≤ 281474976710656 := by
    have h : ((i.bytes * m : Nat) : Int) ≤ 281474976710656 := by omega
    rwa [Int.natCast_mul] at h
  have h63 : (m : Int) ≤ 9223372036854775807 := by
    have h := b3
    simp [maxLen] at h
    omega
  have hr := run_make (P := P) w t e i z h1 h2 h3 kl kc m m (by omega) (Int.le_refl _) hb h63
  rw [hz, ← hz1] at hr
  simp only [Int.toNat_natCast, h4, made_zeros z1 m hz1] at hr
  unfold Oper.wp
  simp [execOp, hop, hl, hc, hr, Result.andThen]
  exact hK' _ _ (hK _ (Row.new w e _) ((Kept.refl _ _).alloc _) (by simp))
end Go.Proofs.YtpeekhlccjoioaaDoor
