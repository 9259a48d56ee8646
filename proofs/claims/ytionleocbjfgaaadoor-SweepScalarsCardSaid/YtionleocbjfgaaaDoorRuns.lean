/- Slices of runs (api.Run): how they lie; append of one run onto a slice of the call's own. -/
import Derived.Test.YtionleocbjfgaaaDoorProg
import Derived.Test.YtionleocbjfgaaaDoorAppend
import Derived.WalkMore
namespace Go.Proofs.YtionleocbjfgaaaDoor
open Go.RowKit

/-- A run: where, how many. -/
abbrev RunN := Nat × Nat
/-- The cells of runs, one behind the other. -/
def flatR (rs : List RunN) : List Value := rs.flatMap fun r => [.int .i64 r.1, .int .i64 r.2]
theorem flatR_length (rs : List RunN) : (flatR rs).length = rs.length * 2 := by
  induction rs with
  | nil => rfl
  | cons r rs ih => simp only [flatR, List.flatMap_cons, List.length_append, List.length_cons] at ih ⊢; simp at ih ⊢; omega
theorem flatR_snoc (rs : List RunN) (r : RunN) : flatR (rs ++ [r]) = flatR rs ++ [.int .i64 r.1, .int .i64 r.2] := by simp [flatR]
theorem flatR_get : ∀ (rs : List RunN) (j : Nat) (r : RunN), rs[j]? = some r → (flatR rs)[j * 2]? = some (.int .i64 r.1) ∧ (flatR rs)[j * 2 + 1]? = some (.int .i64 r.2)
  | [], j, r, h => by simp at h
  | s :: rs, 0, r, h => by simp at h; subst h; exact ⟨rfl, rfl⟩
  | s :: rs, j + 1, r, h => by
    have ih := flatR_get rs j r (by simpa using h)
    rw [show (j + 1) * 2 = j * 2 + 2 by omega]
    exact ih
theorem flatR_one (rs : List RunN) : ∀ u ∈ flatR rs, u.oneCell' = true := by
  intro u hu
  obtain ⟨r, _, hr⟩ := List.mem_flatMap.1 hu
  simp at hr
  rcases hr with rfl | rfl <;> rfl
/-- The slice of runs that begins at a reads as rs. -/
def SlR (w : World) (a : Option Addr) (rs : List RunN) : Prop :=
  rs = [] ∨ ∃ b off, a = some ⟨b, off, none⟩ ∧ b < w.heap.size ∧ ∀ j r, rs[j]? = some r → w.cell? ⟨b, off + j * 2, none⟩ = some (.int .i64 r.1) ∧ w.cell? ⟨b, off + j * 2 + 1, none⟩ = some (.int .i64 r.2)
theorem SlR.keptS {S : List Nat} {w w' : World} {a : Option Addr} {rs : List RunN} (h : SlR w a rs) (hk : Kept S w w') (hn : ∀ b off, a = some ⟨b, off, none⟩ → b ∉ S) : SlR w' a rs := by
  rcases h with h | ⟨b, off, rfl, hb, hc⟩
  · exact .inl h
  · have e : ∀ o, w'.cell? ⟨b, o, none⟩ = w.cell? ⟨b, o, none⟩ := fun o => World.cell?_of_block (w := w) (a := ⟨b, o, none⟩) (hk.block b hb (hn b off rfl))
    exact .inr ⟨b, off, rfl, Nat.lt_of_lt_of_le hb hk.size, fun j r hr => by simp only [e]; exact hc j r hr⟩
theorem SlR.kept {w w' : World} {a : Option Addr} {rs : List RunN} (h : SlR w a rs) (hk : Kept [] w w') : SlR w' a rs := h.keptS hk (by simp)
theorem SlR.cell {w : World} {a : Option Addr} {rs : List RunN} (h : SlR w a rs) {j : Nat} (hj : j < rs.length) : ∃ b off, a = some ⟨b, off, none⟩ ∧ b < w.heap.size ∧
    w.cell? ⟨b, off + j * 2, none⟩ = some (.int .i64 rs[j].1) ∧ w.cell? ⟨b, off + j * 2 + 1, none⟩ = some (.int .i64 rs[j].2) := by
  rcases h with h | ⟨b, off, rfl, hb, hc⟩
  · subst h; simp at hj
  · exact ⟨b, off, rfl, hb, hc j _ (List.getElem?_eq_getElem hj)⟩
/-- The slice value v is a row of the call's own that holds rs. -/
def OwnR (w : World) (B : Nat) (v : Value) (rs : List RunN) : Prop := w.ownsRow B 41 2 v rs.length (flatR rs)
theorem OwnR.slice {w : World} {B : Nat} {v : Value} {rs : List RunN} (h : OwnR w B v rs) : ∃ a cap, v = .slice a rs.length cap ∧ SlR w a rs ∧ (∀ b off, a = some ⟨b, off, none⟩ → B ≤ b) := by
  rcases h.2 with ⟨rfl, h0⟩ | ⟨g, cap, cur, rfl, hB, hb, hn, hcap, hs, ht⟩
  · have : rs = [] := List.eq_nil_of_length_eq_zero h0
    subst this
    exact ⟨none, 0, rfl, .inl rfl, by simp⟩
  · refine ⟨some ⟨g, 0, none⟩, cap, rfl, .inr ⟨g, 0, rfl, lt_of_block hb, fun j r hr => ?_⟩, by simp; exact hB⟩
    have hj : j < rs.length := (List.getElem?_eq_some_iff.1 hr).1
    obtain ⟨h1, h2⟩ := flatR_get rs j r hr
    rw [Nat.zero_add, h.cellAt (j * 2) (by omega), h.cellAt (j * 2 + 1) (by omega)]
    exact ⟨h1, h2⟩
theorem OwnR.held {w : World} {B : Nat} {v : Value} {rs : List RunN} (h : OwnR w B v rs) (hne : rs ≠ []) : ∃ g cap, v = .slice (some ⟨g, 0, none⟩) rs.length cap ∧ B ≤ g := by
  rcases h.2 with ⟨_, h0⟩ | ⟨g, cap, cur, rfl, hB, _⟩
  · exact absurd (List.eq_nil_of_length_eq_zero h0) hne
  · exact ⟨g, cap, rfl, hB⟩
theorem OwnR.ge {w : World} {B : Nat} {v : Value} {rs : List RunN} (h : OwnR w B v rs) : ∀ j, v.ownBlock = some j → B ≤ j := by
  intro j hj
  rcases h.2 with ⟨rfl, _⟩ | ⟨g, cap, cur, rfl, hB, _⟩
  · simp [Value.ownBlock] at hj
  · simp [Value.ownBlock] at hj; omega
theorem OwnR.nil (w : World) (B : Nat) : OwnR w B (.slice none 0 0) [] := World.ownsRow_nil _ _ _ _
theorem OwnR.keptS {S : List Nat} {w w' : World} {B : Nat} {v : Value} {rs : List RunN} (h : OwnR w B v rs) (hk : Kept S w w') (hn : ∀ j, v.ownBlock = some j → j ∉ S) : OwnR w' B v rs := by
  refine ⟨h.1, ?_⟩
  rcases h.2 with h' | ⟨g', cap', cur, rfl, hB, hr, r⟩
  · exact .inl h'
  · exact .inr ⟨g', cap', cur, rfl, hB, (hk.block g' (lt_of_block hr) (hn g' rfl)).trans hr, r⟩
theorem info_run : (Tryd.prog.info? 41).map (fun i => (i.zero, i.size, i.bytes)) = some (some (.agg #[.int .i64 0, .int .i64 0]), 2, 16) := by kernel_rfl
theorem Kept.of_ownR {w w' : World} {v : Value} (h : w.grownBy w' v.ownBlock) : Kept (v.ownBlock.toList) w w' :=
  ⟨h.os, h.tape, h.output, h.size, fun k hk hn => h.block k hk (fun e => by rw [← e] at hn; simp at hn)⟩
/-- 'append(v, api.Run{F, D})'. -/
theorem wpList_append_run (w : World) {ops : Array Oper} {rest : List Oper} {o : Oper} {a : Act} {Q : Exit → Act → World → Prop} (hgd : o.guard = none) (s x : Operand)
    (ho : o.op = .call { callee := .builtin .append, args := #[s, x], argTypes := #[31, 31] }) (B : Nat) (w0 : World) (v : Value) (rs : List RunN) (F D : Nat)
    (hw : w = w0.alloc (.cells #[.int .i64 F, .int .i64 D] 41)) (hs : a.eval s = v) (hx : a.eval x = .slice (some ⟨w0.heap.size, 0, none⟩) 1 1) (hown : OwnR w0 B v rs) (hB : B ≤ w0.heap.size) (hl : rs.length ≤ 1099511627776)
    (h : ∀ v' w', OwnR w' B v' (rs ++ [(F, D)]) → Kept (v.ownBlock.toList) w0 w' → wpList Tryd.prog ops Q rest (a.put o.dst v') w') : wpList Tryd.prog ops Q (o :: rest) a w := by
  subst hw
  obtain ⟨i0, hi, hz0, hz1, hz2⟩ := info_parts info_run
  have rE := Row.new w0 41 [.int .i64 F, .int .i64 D]
  have kE := (Kept.refl [] w0).alloc (.cells #[.int .i64 F, .int .i64 D] 41)
  have hA : OwnR (w0.alloc (.cells #[.int .i64 F, .int .i64 D] 41)) B v rs := hown.keptS kE (by simp)
  refine wpList_append_own_at _ hgd s x 31 ho B 41 i0 (.agg #[.int .i64 0, .int .i64 0]) 2 16 Tryd.underlying31 hi hz0 hz1 hz2 rfl (by decide) v rs.length (flatR rs) hs hA
    ⟨w0.heap.size, 0, none⟩ 1 1 [.int .i64 F, .int .i64 D] hx rfl (fun j u hu => by rw [add_none, Nat.zero_add]; exact (rE.cell j).trans hu) (by simp [Value.oneCell']) (by unfold maxLen; omega) (by omega) (by simp; omega) ?_
  intro v' w' hown' hg _ _
  refine h v' w' (by unfold OwnR; rw [flatR_snoc]; simpa using hown') ?_
  exact (kE.any).trans ((Kept.of_ownR hg).mono (fun k hk _ => hk))
end Go.Proofs.YtionleocbjfgaaaDoor
