/- Slices of runs: append of one run, or of a slice of runs, onto a slice of the call's own; the new slice's block is the old one or new. -/
import Derived.Test.YtenhelbmcapfkaaRuns
import Derived.Test.YtenhelbmcapfkaaAppendIn
namespace Go.Proofs.Ytenhelbmcapfkaa
open Go.RowKit Go.Shelf

theorem SlR.toV {w : World} {a : Option Addr} {rs : List RunN} (h : SlR w a rs) : SlV w 2 a rs.length (flatR rs) := by
  refine ⟨flatR_length rs, ?_⟩
  rcases h with rfl | ⟨b, off, rfl, hb, hc⟩
  · exact .inl rfl
  · refine .inr ⟨b, off, rfl, hb, fun j u hu => ?_⟩
    have hj : j < rs.length * 2 := by rw [← flatR_length]; exact (List.getElem?_eq_some_iff.1 hu).1
    have hq : j / 2 < rs.length := by omega
    obtain ⟨h1, h2⟩ := flatR_get rs (j / 2) rs[j / 2] (List.getElem?_eq_getElem hq)
    obtain ⟨c1, c2⟩ := hc (j / 2) rs[j / 2] (List.getElem?_eq_getElem hq)
    by_cases e : j % 2 = 0
    · have ej : j = j / 2 * 2 := by omega
      rw [← ej] at h1 c1
      rw [h1] at hu; cases hu; exact c1
    · have ej : j = j / 2 * 2 + 1 := by omega
      rw [Nat.add_assoc] at c2
      rw [← ej] at h2 c2
      rw [h2] at hu; cases hu; exact c2

/-- 'append(v, api.Run{F, D})': the block is told. -/
theorem wpList_append_runN (w : World) {ops : Array Oper} {rest : List Oper} {o : Oper} {a : Act} {Q : Exit → Act → World → Prop} (hgd : o.guard = none) (s x : Operand)
    (ho : o.op = .call { callee := .builtin .append, args := #[s, x], argTypes := #[36, 36] }) (B : Nat) (w0 : World) (v : Value) (rs : List RunN) (F D : Nat)
    (hw : w = w0.alloc (.cells #[.int .i64 F, .int .i64 D] 63)) (hs : a.eval s = v) (hx : a.eval x = .slice (some ⟨w0.heap.size, 0, none⟩) 1 1) (hown : OwnR w0 B v rs) (hB : B ≤ w0.heap.size) (hl : rs.length ≤ 1099511627776)
    (h : ∀ g' c' w', OwnR w' B (.slice (some ⟨g', 0, none⟩) (rs.length + 1) c') (rs ++ [(F, D)]) → Kept (v.ownBlock.toList) w0 w' → (v.ownBlock = some g' ∨ w0.heap.size ≤ g') → wpList Try.prog ops Q rest (a.put o.dst (.slice (some ⟨g', 0, none⟩) (rs.length + 1) c')) w') : wpList Try.prog ops Q (o :: rest) a w := by
  subst hw
  obtain ⟨i0, hi, hz0, hz1, hz2⟩ := info_parts info_run
  have rE := Row.new w0 63 [.int .i64 F, .int .i64 D]
  have kE := (Kept.refl [] w0).alloc (.cells #[.int .i64 F, .int .i64 D] 63)
  have hA : OwnR (w0.alloc (.cells #[.int .i64 F, .int .i64 D] 63)) B v rs := hown.keptS kE (by simp)
  refine wpList_append_own_at _ hgd s x 36 ho B 63 i0 (.agg #[.int .i64 0, .int .i64 0]) 2 16 Try.underlying36 hi hz0 hz1 hz2 rfl (by decide) v rs.length (flatR rs) hs hA
    ⟨w0.heap.size, 0, none⟩ 1 1 [.int .i64 F, .int .i64 D] hx rfl (fun j u hu => by rw [add_none, Nat.zero_add]; exact (rE.cell j).trans hu) (by simp [Value.oneCell']) (by unfold maxLen; omega) (by omega) (by simp; omega) ?_
  intro v' w' hown' hg _ hat
  rcases hown'.2 with ⟨_, h0⟩ | ⟨g', cap', cur, rfl, _⟩
  · omega
  · refine h g' cap' w' (by unfold OwnR; rw [flatR_snoc]; simpa using hown') ((kE.any).trans (Kept.of_own hg)) ?_
    rcases hat with h' | h'
    · exact .inl h'.symm
    · right
      have : g' = (w0.alloc (.cells #[.int .i64 F, .int .i64 D] 63)).heap.size := by simpa [Value.ownBlock] using h'
      rw [this]; simp

/-- The same inside a fence. -/
theorem wpListIn_append_runN {F' : Fence} {nF : Nat} (w : World) {ops : Array Oper} {rest : List Oper} {o : Oper} {a : Act} {Q : Exit → Act → World → Prop} (hgd : o.guard = none) (s x : Operand)
    (ho : o.op = .call { callee := .builtin .append, args := #[s, x], argTypes := #[36, 36] }) (B : Nat) (w0 : World) (v : Value) (rs : List RunN) (F D : Nat)
    (hw : w = w0.alloc (.cells #[.int .i64 F, .int .i64 D] 63)) (hs : a.eval s = v) (hx : a.eval x = .slice (some ⟨w0.heap.size, 0, none⟩) 1 1) (hown : OwnR w0 B v rs) (hB : B ≤ w0.heap.size) (hl : rs.length ≤ 1099511627776)
    (h : ∀ g' c' w', OwnR w' B (.slice (some ⟨g', 0, none⟩) (rs.length + 1) c') (rs ++ [(F, D)]) → Kept (v.ownBlock.toList) w0 w' → (v.ownBlock = some g' ∨ w0.heap.size ≤ g') → wpListIn F' nF Try.prog ops Q rest (a.put o.dst (.slice (some ⟨g', 0, none⟩) (rs.length + 1) c')) w') : wpListIn F' nF Try.prog ops Q (o :: rest) a w := by
  subst hw
  obtain ⟨i0, hi, hz0, hz1, hz2⟩ := info_parts info_run
  have rE := Row.new w0 63 [.int .i64 F, .int .i64 D]
  have kE := (Kept.refl [] w0).alloc (.cells #[.int .i64 F, .int .i64 D] 63)
  have hA : OwnR (w0.alloc (.cells #[.int .i64 F, .int .i64 D] 63)) B v rs := hown.keptS kE (by simp)
  refine wpListIn_append_own_at _ hgd s x 36 ho B 63 i0 (.agg #[.int .i64 0, .int .i64 0]) 2 16 Try.underlying36 hi hz0 hz1 hz2 rfl (by decide) v rs.length (flatR rs) hs hA
    ⟨w0.heap.size, 0, none⟩ 1 1 [.int .i64 F, .int .i64 D] hx rfl (fun j u hu => by rw [add_none, Nat.zero_add]; exact (rE.cell j).trans hu) (by simp [Value.oneCell']) (by unfold maxLen; omega) (by omega) (by simp; omega) ?_
  intro v' w' hown' hg _ hat
  rcases hown'.2 with ⟨_, h0⟩ | ⟨g', cap', cur, rfl, _⟩
  · omega
  · refine h g' cap' w' (by unfold OwnR; rw [flatR_snoc]; simpa using hown') ((kE.any).trans (Kept.of_own hg)) ?_
    rcases hat with h' | h'
    · exact .inl h'.symm
    · right
      have : g' = (w0.alloc (.cells #[.int .i64 F, .int .i64 D] 63)).heap.size := by simpa [Value.ownBlock] using h'
      rw [this]; simp

/-- 'append(v, x...)', v not nil, x a slice of runs. -/
theorem wpList_append_runs (w : World) {ops : Array Oper} {rest : List Oper} {o : Oper} {a : Act} {Q : Exit → Act → World → Prop} (hgd : o.guard = none) (s x : Operand)
    (ho : o.op = .call { callee := .builtin .append, args := #[s, x], argTypes := #[36, 36] }) (B g n cap : Nat) (xs rs : List RunN) (ad : Option Addr) (m c : Nat)
    (hes : a.eval s = .slice (some ⟨g, 0, none⟩) n cap) (hown : OwnR w B (.slice (some ⟨g, 0, none⟩) n cap) xs) (hn : xs.length = n)
    (hx : a.eval x = .slice ad m c) (hs : SlR w ad rs) (hm : rs.length = m) (hl : n + m ≤ 1099511627776) (hB : B ≤ w.heap.size)
    (h : ∀ g' cap' w', OwnR w' B (.slice (some ⟨g', 0, none⟩) (n + m) cap') (xs ++ rs) → Kept [g] w w' → (g' = g ∨ g' = w.heap.size) → wpList Try.prog ops Q rest (a.put o.dst (.slice (some ⟨g', 0, none⟩) (n + m) cap')) w') : wpList Try.prog ops Q (o :: rest) a w := by
  subst hn hm
  obtain ⟨i0, hi, hz0, hz1, hz2⟩ := info_parts info_run
  refine wpList_append_on _ hgd s x 36 ho B 63 i0 (.agg #[.int .i64 0, .int .i64 0]) 2 16 Try.underlying36 hi hz0 hz1 hz2 rfl (by decide) g _ cap (flatR xs) hes hown ad _ c (flatR rs) hx hs.toV (flatR_one rs) (by unfold maxLen; omega) (by omega) hB ?_
  intro g' cap' w' hown' hk hg
  refine h g' cap' w' ?_ hk hg
  unfold OwnR
  rw [show flatR (xs ++ rs) = flatR xs ++ flatR rs by simp [flatR], List.length_append]
  exact hown'
theorem OwnR.empty (w : World) (B : Nat) (hB : B ≤ w.heap.size) : OwnR (w.alloc (.cells #[] 63)) B (.slice (some ⟨w.heap.size, 0, none⟩) 0 0) [] := own_empty w 63 2 B hB
theorem OwnR.weak {w : World} {B B' : Nat} {v : Value} {rs : List RunN} (h : OwnR w B v rs) (hB : B' ≤ B) : OwnR w B' v rs := by
  refine ⟨h.1, ?_⟩
  rcases h.2 with h' | ⟨g', cap', cur, h1, h2, h3⟩
  · exact .inl h'
  · exact .inr ⟨g', cap', cur, h1, by omega, h3⟩
theorem OwnR.own {β : Type} {B : Nat} (v : β → Value) (f : β → List RunN) : Own (fun (s : β) W => OwnR W B (v s) (f s)) := own_ownsV v (fun s => (f s).length) (fun s => flatR (f s))
end Go.Proofs.Ytenhelbmcapfkaa
