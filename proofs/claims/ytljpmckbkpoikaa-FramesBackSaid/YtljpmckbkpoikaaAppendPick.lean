/- append of one one-cell element as one step of a region: the element lies in a block of its own. -/
import Derived.Test.YtljpmckbkpoikaaAppendOne
import Derived.Test.YtljpmckbkpoikaaRegionPick
namespace Go.Proofs.Ytljpmckbkpoikaa
open Go.RowKit

/-- 'append(v, u)' as one step of a region, u one cell. -/
theorem wp_append_u {e : TypeId} {P : Program} {w : World} {o : Oper} {a : Act} {K : Act → World → Prop} {Q : Exit → Act → World → Prop} (s x : Operand) (t : TypeId)
    (ho : o.op = .call { callee := .builtin .append, args := #[s, x], argTypes := #[t, t] }) (B : Nat) (i : TypeInfo) (z : Value) (bytes : Nat) (ht : P.underlying t = some (.slice e)) (hi : P.info? e = some i) (hz : i.zero = some z)
    (hsize : i.size = 1) (hby : i.bytes = bytes) (hzs : z.cells.size = 1) (hb : bytes ≤ 96) (v : Value) (n : Nat) (vs : List Value) (u : Value) (h1 : u.oneCell' = true)
    (hs : a.eval s = v) (E : Nat) (hx : a.eval x = .slice (some ⟨E, 0, none⟩) 1 1) (rE : Row w E e [u]) (hown : w.ownsRow B e 1 v n vs) (hB : B ≤ w.heap.size) (hl : n ≤ 1099511627776)
    (h : ∀ g' c' w', w'.ownsRow B e 1 (.slice (some ⟨g', 0, none⟩) (n + 1) c') (n + 1) (vs ++ [u]) → Kept (v.ownBlock.toList) w w' → (v.ownBlock = some g' ∨ w.heap.size ≤ g') → K (a.put o.dst (.slice (some ⟨g', 0, none⟩) (n + 1) c')) w') : o.wp P a w K Q := by
  have hbytes : (n + 1) * bytes ≤ 140737488355328 := Nat.le_trans (Nat.mul_le_mul (show n + 1 ≤ 1099511627777 by omega) hb) (by omega)
  obtain ⟨v', w', hr, hown', hg, _, hat⟩ := run_append_own_at (P := P) w B t o.type e i z 1 bytes ht hi hz hsize hby hzs (by omega) v n vs hown
    ⟨E, 0, none⟩ 1 1 [u] rfl (fun j u' hu => by rw [add_none, Nat.zero_add]; exact (rE.cell j).trans hu) (by intro u' hu; obtain rfl := List.mem_singleton.1 hu; exact h1) (by unfold maxLen; omega) hbytes hB
  unfold Oper.wp execOp
  simp only [ho, resolve, invoke, builtin, Sem.run_bind, Sem.run_pure, Result.andThen_ok, List.map_toArray, List.map_cons, List.map_nil, hs, hx, hr]
  rcases hown'.2 with ⟨_, h0⟩ | ⟨g', cap', cur, rfl, _⟩
  · omega
  · refine h g' cap' w' hown' (Kept.of_own hg) ?_
    rcases hat with h' | h'
    · exact .inl h'.symm
    · right
      have : g' = w.heap.size := by simpa [Value.ownBlock] using h'
      rw [this]; exact Nat.le_refl _

/-- The same as one step of a region that draws its order, the world told by an equation of its own. -/
theorem step_append_u {e : TypeId} {P : Program} {w w1 : World} {ops : Array Oper} {o : Oper} {a : Act} {K : Act → World → Prop} {Q : Exit → Act → World → Prop} {E : Prop} (hww : w = w1) (hgd : o.guard = none) (s x : Operand) (t : TypeId)
    (ho : o.op = .call { callee := .builtin .append, args := #[s, x], argTypes := #[t, t] }) (B : Nat) (i : TypeInfo) (z : Value) (bytes : Nat) (ht : P.underlying t = some (.slice e)) (hi : P.info? e = some i) (hz : i.zero = some z)
    (hsize : i.size = 1) (hby : i.bytes = bytes) (hzs : z.cells.size = 1) (hb : bytes ≤ 96) (v : Value) (n : Nat) (vs : List Value) (u : Value) (h1 : u.oneCell' = true)
    (hs : a.eval s = v) (En : Nat) (hx : a.eval x = .slice (some ⟨En, 0, none⟩) 1 1) (rE : Row w1 En e [u]) (hown : w1.ownsRow B e 1 v n vs) (hB : B ≤ w1.heap.size) (hl : n ≤ 1099511627776)
    (h : ∀ g' c' w', w'.ownsRow B e 1 (.slice (some ⟨g', 0, none⟩) (n + 1) c') (n + 1) (vs ++ [u]) → Kept (v.ownBlock.toList) w1 w' → (v.ownBlock = some g' ∨ w1.heap.size ≤ g') → K (a.put o.dst (.slice (some ⟨g', 0, none⟩) (n + 1) c')) w') :
    if Region.wanted o (yielded ops a.tmps) = true then Oper.wp P o a w K Q else E := by
  subst hww
  have hw : Region.wanted o (yielded ops a.tmps) = true := by simp [Region.wanted, hgd]
  rw [if_pos hw]
  exact wp_append_u s x t ho B i z bytes ht hi hz hsize hby hzs hb v n vs u h1 hs En hx rE hown hB hl h
end Go.Proofs.Ytljpmckbkpoikaa
