/- Package kraalref17: rows of words; New, Pop, Get, Set, All. -/
import Derived.Test.YtljpmckbkpoikaaFramesPlain
import Derived.Test.YtljpmckbkpoikaaStructs
import Derived.Deep.QuietTactic
import Derived.BigQuiet
namespace Go.Proofs.Ytljpmckbkpoikaa
open Go.RowKit

/-- Slices of words that read as these rows, each in blocks of X. -/
def RowsX (w : World) (X : Nat → Prop) : List Value → List (List Int) → Prop
  | [], [] => True
  | u :: vs, f :: fs => (∃ A cap, u = .slice A f.length cap ∧ SlX w .u64 X A f) ∧ RowsX w X vs fs
  | _, _ => False
/-- The slice of such slices that begins at A. -/
structure RefFr (w : World) (X : Nat → Prop) (A : Option Addr) (vs : List Value) (fs : List (List Int)) : Prop where
  lies : vs = [] ∨ ∃ b off, A = some ⟨b, off, none⟩ ∧ b < w.heap.size ∧ X b ∧ ∀ j u, vs[j]? = some u → w.cell? ⟨b, off + j, none⟩ = some u
  rows : RowsX w X vs fs
section
variable {w w' : World} {X Y : Nat → Prop} {A : Option Addr}
theorem RowsX.length : ∀ {vs : List Value} {fs : List (List Int)}, RowsX w X vs fs → vs.length = fs.length
  | [], [], _ => rfl
  | _ :: _, _ :: _, h => by simp [RowsX.length h.2]
  | [], _ :: _, h => h.elim
  | _ :: _, [], h => h.elim
theorem RowsX.mono : ∀ {vs : List Value} {fs : List (List Int)}, RowsX w X vs fs → (∀ b, b < w.heap.size → X b → Y b) → RowsX w Y vs fs
  | [], [], _, _ => trivial
  | _ :: _, _ :: _, ⟨⟨A, c, e, h⟩, h2⟩, hX => ⟨⟨A, c, e, h.mono hX⟩, h2.mono hX⟩
  | [], _ :: _, h, _ => h.elim
  | _ :: _, [], h, _ => h.elim
theorem RowsX.kept {S : List Nat} : ∀ {vs : List Value} {fs : List (List Int)}, RowsX w X vs fs → Kept S w w' → (∀ b ∈ S, ¬ X b) → RowsX w' X vs fs
  | [], [], _, _, _ => trivial
  | _ :: _, _ :: _, ⟨⟨A, c, e, h⟩, h2⟩, hk, hX => ⟨⟨A, c, e, h.kept hk hX⟩, h2.kept hk hX⟩
  | [], _ :: _, h, _, _ => h.elim
  | _ :: _, [], h, _, _ => h.elim
theorem RowsX.snoc {u : Value} {f : List Int} : ∀ {vs : List Value} {fs : List (List Int)}, RowsX w X vs fs → (∃ A cap, u = .slice A f.length cap ∧ SlX w .u64 X A f) → RowsX w X (vs ++ [u]) (fs ++ [f])
  | [], [], _, h => ⟨h, trivial⟩
  | _ :: _, _ :: _, ⟨h1, h2⟩, h => ⟨h1, h2.snoc h⟩
  | [], _ :: _, h, _ => h.elim
  | _ :: _, [], h, _ => h.elim
theorem RowsX.parts {f : List Int} : ∀ {vs : List Value} {fs : List (List Int)}, RowsX w X vs (fs ++ [f]) → ∃ us u, vs = us ++ [u] ∧ RowsX w X us fs ∧ ∃ A cap, u = .slice A f.length cap ∧ SlX w .u64 X A f
  | [u], [], ⟨h, _⟩ => ⟨[], u, rfl, trivial, h⟩
  | _ :: _ :: _, [], ⟨_, h⟩ => h.elim
  | [], [], h => h.elim
  | u :: vs, g :: fs, ⟨h1, h2⟩ => by
    obtain ⟨us, x, rfl, h3, h4⟩ := RowsX.parts (vs := vs) h2
    exact ⟨u :: us, x, rfl, ⟨h1, h3⟩, h4⟩
  | [], _ :: _, h => h.elim
theorem RowsX.get : ∀ {vs : List Value} {fs : List (List Int)} {j : Nat}, RowsX w X vs fs → j < fs.length → ∃ A cap, vs[j]? = some (.slice A (fs[j]?.getD []).length cap) ∧ SlX w .u64 X A (fs[j]?.getD [])
  | _ :: _, _ :: _, 0, ⟨⟨A, c, e, h⟩, _⟩, _ => ⟨A, c, by simp [e], by simpa using h⟩
  | _ :: vs, _ :: fs, j + 1, ⟨_, h⟩, hj => by
    obtain ⟨A, c, h1, h2⟩ := RowsX.get (vs := vs) (fs := fs) (j := j) h (by simpa using hj)
    exact ⟨A, c, by simpa using h1, by simpa using h2⟩
  | [], [], _, _, hj => by simp at hj
  | [], _ :: _, _, h, _ => h.elim
  | _ :: _, [], _, h, _ => h.elim
variable {vs : List Value} {fs : List (List Int)}
theorem RefFr.nil (w : World) (X : Nat → Prop) (A : Option Addr) : RefFr w X A [] [] := ⟨.inl rfl, trivial⟩
theorem RefFr.mono (h : RefFr w X A vs fs) (hX : ∀ b, b < w.heap.size → X b → Y b) : RefFr w Y A vs fs := by
  refine ⟨?_, h.rows.mono hX⟩
  rcases h.lies with h | ⟨b, off, h1, h2, h3, h4⟩
  · exact .inl h
  · exact .inr ⟨b, off, h1, h2, hX b h2 h3, h4⟩
theorem RefFr.keptS {S : List Nat} (h : RefFr w X A vs fs) (hk : Kept S w w') (hX : ∀ b ∈ S, ¬ X b) : RefFr w' X A vs fs := by
  refine ⟨?_, h.rows.kept hk hX⟩
  rcases h.lies with h | ⟨b, off, rfl, h2, h3, h4⟩
  · exact .inl h
  · exact .inr ⟨b, off, rfl, Nat.lt_of_lt_of_le h2 hk.size, h3, fun j u hu => (World.cell?_of_block (w := w) (a := ⟨b, off + j, none⟩) (hk.block b h2 (fun hm => hX b hm h3))).trans (h4 j u hu)⟩
theorem RefFr.kept (h : RefFr w X A vs fs) (hk : Kept [] w w') : RefFr w' X A vs fs := h.keptS hk (by simp)
theorem RefFr.length (h : RefFr w X A vs fs) : vs.length = fs.length := h.rows.length
/-- What a slice of such slices is to append. -/
theorem RefFr.toV (h : RefFr w X A vs fs) : SlV w 1 A fs.length vs := by
  refine ⟨by rw [h.length, Nat.mul_one], ?_⟩
  rcases h.lies with rfl | ⟨b, off, h1, h2, _, h4⟩
  · exact .inl (by rw [← h.length]; rfl)
  · exact .inr ⟨b, off, h1, h2, h4⟩
theorem RowsX.oneCell : ∀ {vs : List Value} {fs : List (List Int)}, RowsX w X vs fs → ∀ u ∈ vs, u.oneCell' = true
  | [], _, _, u, hu => by cases hu
  | _ :: _, _ :: _, ⟨⟨A, c, e, _⟩, h2⟩, u, hu => by
    rcases List.mem_cons.1 hu with rfl | hu
    · rw [e]; rfl
    · exact h2.oneCell u hu
  | _ :: _, [], h, _, _ => h.elim
theorem RefFr.cell (h : RefFr w X A vs fs) {j : Nat} (hj : j < fs.length) : ∃ b off B cap, A = some ⟨b, off, none⟩ ∧ w.cell? ⟨b, off + j, none⟩ = some (.slice B (fs[j]?.getD []).length cap) ∧ SlX w .u64 X B (fs[j]?.getD []) := by
  obtain ⟨B, cap, h1, h2⟩ := h.rows.get hj
  rcases h.lies with rfl | ⟨b, off, h3, h4, _, h6⟩
  · simp at h1
  · exact ⟨b, off, B, cap, h3, h6 j _ h1, h2⟩
/-- The last row, and what lies ahead of it. -/
theorem RefFr.snoc {gs : List (List Int)} {f : List Int} (h : RefFr w X A vs (gs ++ [f])) : ∃ b off B cap us, A = some ⟨b, off, none⟩ ∧ w.cell? ⟨b, off + gs.length, none⟩ = some (.slice B f.length cap) ∧ SlX w .u64 X B f ∧ RefFr w X A us gs := by
  obtain ⟨b, off, B, cap, h1, h2, h3⟩ := h.cell (j := gs.length) (by simp)
  rw [List.getElem?_append_right (Nat.le_refl _), Nat.sub_self] at h2 h3
  obtain ⟨us, u, rfl, h4, _⟩ := h.rows.parts
  refine ⟨b, off, B, cap, us, h1, h2, h3, ?_, h4⟩
  rcases h.lies with h5 | ⟨b', off', h5, h6, h7, h8⟩
  · simp at h5
  · exact .inr ⟨b', off', h5, h6, h7, fun j u hu => h8 j u (by rw [List.getElem?_append_left (List.getElem?_eq_some_iff.1 hu).1]; exact hu)⟩
/-- A row of the call's own. -/
theorem RefFr.of_own {B g n c : Nat} {t : TypeId} (h : w.ownsRow B t 1 (.slice (some ⟨g, 0, none⟩) n c) n vs) (hX : X g) (hr : RowsX w X vs fs) : RefFr w X (some ⟨g, 0, none⟩) vs fs := by
  refine ⟨.inr ⟨g, 0, rfl, own_lt h, hX, fun j u hu => ?_⟩, hr⟩
  have hl := h.1
  rw [Nat.zero_add, h.cellAt j (by have := (List.getElem?_eq_some_iff.1 hu).1; omega)]
  exact hu
end
end Go.Proofs.Ytljpmckbkpoikaa
