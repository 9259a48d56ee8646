/- How a list of objects lies; what an elder world's blocks keep. -/
import Derived.Test.YtionleocbjfgaaaDoorProg
import Derived.Test.YtionleocbjfgaaaDoorSweepPlain
import Derived.Test.YtionleocbjfgaaaDoorKeptC
import Derived.Test.YtionleocbjfgaaaDoorMapF
namespace Go.Proofs.YtionleocbjfgaaaDoor
open Go.RowKit

/-- The blocks that lay in w lie so in W. -/
def OldB (w W : World) : Prop := ∀ k, k < w.heap.size → W.heap[k]? = w.heap[k]?
section
variable {w w' W W' : World}
theorem OldB.refl : OldB w w := fun _ _ => rfl
theorem OldB.lt (h : OldB w W) {k : Nat} (hk : k < w.heap.size) : k < W.heap.size := by
  have := h k hk
  rw [Array.getElem?_eq_getElem hk] at this
  exact (Array.getElem?_eq_some_iff.1 this).1
theorem OldB.size (h : OldB w W) : w.heap.size ≤ W.heap.size := by
  by_cases h0 : w.heap.size = 0
  · omega
  · have := h.lt (k := w.heap.size - 1) (by omega)
    omega
theorem OldB.kept {S : List Nat} (h : OldB w W) (hk : Kept S W W') (hS : ∀ s ∈ S, w.heap.size ≤ s) : OldB w W' := fun k hlt =>
  (hk.block k (h.lt hlt) (fun hm => by have := hS k hm; omega)).trans (h k hlt)
theorem OldB.of_kept {S : List Nat} (hk : Kept S w W) (hS : ∀ s ∈ S, w.heap.size ≤ s) : OldB w W := OldB.refl.kept hk hS
theorem OldB.keptC {n₀ : Nat} {Z : List Nat} (h : OldB w W) (hk : KeptC n₀ Z W W') (hn : w.heap.size ≤ n₀) (hZ : ∀ z ∈ Z, w.heap.size ≤ z) : OldB w W' := fun k hlt =>
  (hk.block (h.lt hlt) (by omega) (fun hm => by have := hZ k hm; omega)).trans (h k hlt)
theorem OldB.cell (h : OldB w W) {b o : Nat} (hb : b < w.heap.size) : W.cell? ⟨b, o, none⟩ = w.cell? ⟨b, o, none⟩ := World.cell?_of_block (w := w) (a := ⟨b, o, none⟩) (h b hb)
theorem SlS.old {α : Type} {c : α → List Value} {k : Nat} {a : Option Addr} {xs : List α} (h : SlS c k w a xs) (ho : OldB w W) : SlS c k W a xs := by
  rcases h with h | ⟨b, off, rfl, hb, hc⟩
  · exact .inl h
  · exact .inr ⟨b, off, rfl, ho.lt hb, fun j x hx i hi => (ho.cell hb).trans (hc j x hx i hi)⟩
theorem Sl.old {k : IntKind} {a : Option Addr} {zs : List Int} (h : Sl w k a zs) (ho : OldB w W) : Sl W k a zs := by
  rcases h with h | ⟨b, off, rfl, hb, hc⟩
  · exact .inl h
  · exact .inr ⟨b, off, rfl, ho.lt hb, fun j hj => (ho.cell hb).trans (hc j hj)⟩
end

/-- An object as it lies: where its kinds and values do. -/
structure ObQ where
  o : ObP
  h : Hd
  ka : Option Addr
  kc : Nat
  va : Option Addr
  vc : Nat
instance : Inhabited ObQ := ⟨⟨⟨0, 0, [], []⟩, ⟨false, 0, 0, 0⟩, none, 0, none, 0⟩⟩
def ObQ.cells (q : ObQ) : List Value := [.int .i64 q.o.at_, .int .i64 q.o.reg, .bool q.h.array, .int .i64 q.h.kind, .int .i64 q.h.ty, .int .i64 q.h.n, .slice q.ka q.o.ks.length q.kc, .slice q.va q.o.vs.length q.vc]
theorem ObQ.cells_length (q : ObQ) : q.cells.length = 8 := rfl
theorem ObQ.cells_one (q : ObQ) : ∀ u ∈ q.cells, u.oneCell' = true := by
  intro u hu
  simp [ObQ.cells] at hu
  rcases hu with rfl | rfl | rfl | rfl | rfl | rfl | rfl | rfl <;> rfl
/-- The slice of objects that begins at a reads as qs. -/
def SlO (w : World) (a : Option Addr) (qs : List ObQ) : Prop := SlS ObQ.cells 8 w a qs ∧ ∀ q ∈ qs, Sl w .i64 q.ka q.o.ks ∧ Sl w .u64 q.va q.o.vs
theorem SlO.old {w W : World} {a : Option Addr} {qs : List ObQ} (h : SlO w a qs) (ho : OldB w W) : SlO W a qs :=
  ⟨h.1.old ho, fun q hq => ⟨(h.2 q hq).1.old ho, (h.2 q hq).2.old ho⟩⟩
theorem SlO.kept {w W : World} {a : Option Addr} {qs : List ObQ} (h : SlO w a qs) (hk : Kept [] w W) : SlO W a qs := h.old (OldB.of_kept hk (by simp))
/-- Numbers that a machine has. -/
structure ObP.Fit (o : ObP) : Prop where
  at_ : Fit64 o.at_
  reg : Fit64 o.reg
  ks : ∀ k ∈ o.ks, Fit64 k
  vs : ∀ v ∈ o.vs, FitU v
  kl : o.ks.length ≤ 1099511627776
  vl : o.vs.length ≤ 1099511627776
def objs (qs : List ObQ) : List ObP := qs.map (·.o)
theorem objs_take {qs : List ObQ} {j : Nat} (hj : j < qs.length) : objs (qs.take (j + 1)) = objs (qs.take j) ++ [qs[j].o] := by
  unfold objs
  rw [List.take_succ_eq_append_getElem hj, List.map_append]; rfl
theorem objs_len (qs : List ObQ) : (objs qs).length = qs.length := List.length_map _
theorem objs_split {qs : List ObQ} {j : Nat} (hj : j < qs.length) : objs qs = objs (qs.take j) ++ qs[j].o :: objs (qs.drop (j + 1)) := by
  unfold objs
  have e : qs = qs.take j ++ qs[j] :: qs.drop (j + 1) := by rw [← List.drop_eq_getElem_cons hj, List.take_append_drop]
  calc qs.map (·.o) = (qs.take j ++ qs[j] :: qs.drop (j + 1)).map (·.o) := by rw [← e]
    _ = _ := by rw [List.map_append, List.map_cons]
/-- The cells of one object. -/
theorem SlS.obj {w : World} {a : Option Addr} {qs : List ObQ} (h : SlS ObQ.cells 8 w a qs) {j : Nat} (hj : j < qs.length) : ∃ b off, a = some ⟨b, off, none⟩ ∧ b < w.heap.size ∧
    w.cell? ⟨b, off + j * 8, none⟩ = some (.int .i64 qs[j].o.at_) ∧ w.cell? ⟨b, off + j * 8 + 1, none⟩ = some (.int .i64 qs[j].o.reg) ∧ w.cell? ⟨b, off + j * 8 + 2, none⟩ = some (.bool qs[j].h.array) ∧
    w.cell? ⟨b, off + j * 8 + 3, none⟩ = some (.int .i64 qs[j].h.kind) ∧ w.cell? ⟨b, off + j * 8 + 4, none⟩ = some (.int .i64 qs[j].h.ty) ∧ w.cell? ⟨b, off + j * 8 + 5, none⟩ = some (.int .i64 qs[j].h.n) ∧
    w.cell? ⟨b, off + j * 8 + 6, none⟩ = some (.slice qs[j].ka qs[j].o.ks.length qs[j].kc) ∧ w.cell? ⟨b, off + j * 8 + 7, none⟩ = some (.slice qs[j].va qs[j].o.vs.length qs[j].vc) := by
  obtain ⟨b, off, rfl, hb, hc⟩ := h.cell hj
  exact ⟨b, off, rfl, hb, hc 0 (by omega), hc 1 (by omega), hc 2 (by omega), hc 3 (by omega), hc 4 (by omega), hc 5 (by omega), hc 6 (by omega), hc 7 (by omega)⟩

theorem KeptC.alloc {n₀ : Nat} {Z : List Nat} {W W' : World} (h : KeptC n₀ Z W W') (o : Obj) : KeptC n₀ Z W (W'.alloc o) :=
  h.trans ⟨by simp, fun k o2 hk _ _ => (Below.heap_alloc W' o k (Array.getElem?_eq_some_iff.1 hk).1).trans hk⟩
theorem KeptC.drewN {n₀ : Nat} {Z : List Nat} {W W' : World} (h : KeptC n₀ Z W W') (m : Nat) : KeptC n₀ Z W (W'.drewN m) := by
  refine ⟨by rw [show (W'.drewN m).heap = W'.heap from heap_drewN W' m]; exact h.1, fun k o2 hk hz ho => ?_⟩
  rw [show (W'.drewN m).heap = W'.heap from heap_drewN W' m]
  exact h.2 k o2 hk hz ho
end Go.Proofs.YtionleocbjfgaaaDoor
