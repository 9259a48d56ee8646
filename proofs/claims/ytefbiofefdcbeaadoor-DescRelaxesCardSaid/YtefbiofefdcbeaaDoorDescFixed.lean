/- The chapter's example (fixed of kraallaw07). -/
import Derived.Test.YtefbiofefdcbeaaDoorDescKinds
import Derived.Test.YtefbiofefdcbeaaDoorDescSame
import Derived.Test.YtefbiofefdcbeaaDoorNum
namespace Go.Proofs.YtefbiofefdcbeaaDoor
open Go.RowKit

theorem SlD.of_row {w : World} {g : Nat} {t : TypeId} {l : List Ty} (h : Row w g t (l.map Ty.v)) (hl : ∀ t ∈ l, Sl w .i64 t.a t.ks) : SlD w (some ⟨g, 0, none⟩) l :=
  ⟨SlG.of_row h, hl⟩
/-- An owned slice of numbers, or nil, as it is held against another one. -/
theorem own_slice {w : World} {B : Nat} {t : TypeId} {v : Value} {n : Nat} {xs : List Int} (h : w.ownsRow B t 1 v n (xs.map (Value.int .i64))) : ∃ a cap, v = .slice a n cap ∧ Sl w .i64 a xs ∧ ∀ b off, a = some ⟨b, off, none⟩ → B ≤ b := by
  rcases h.2 with ⟨rfl, h0⟩ | ⟨g, cap, cur, rfl, h1, _⟩
  · have : xs = [] := by
      have := h.1
      rw [h0] at this
      simpa using this
    subst this
    exact ⟨none, 0, by rw [h0], .inl rfl, by simp⟩
  · exact ⟨_, cap, rfl, Sl.of_own h, by simp; omega⟩

/-- An owned slice of numbers, or nil: its address, and which block it lies in, if any. -/
theorem own_where {w : World} {B : Nat} {t : TypeId} {v : Value} {n : Nat} {xs : List Int} (h : w.ownsRow B t 1 v n (xs.map (Value.int .i64))) :
    ∃ (a : Option Addr) (cap : Nat) (S : List Nat), v = .slice a n cap ∧ Sl w .i64 a xs ∧ (∀ b off, a = some ⟨b, off, none⟩ → b ∈ S) ∧ (∀ i ∈ S, B ≤ i ∧ i < w.heap.size) ∧ (0 < n → ∃ g, a = some ⟨g, 0, none⟩) := by
  rcases h.2 with ⟨rfl, h0⟩ | ⟨g, cap, cur, rfl, h1, hb, _⟩
  · have : xs = [] := by
      have := h.1
      rw [h0] at this
      simpa using this
    subst this
    exact ⟨none, 0, [], by rw [h0], .inl rfl, by simp, by simp, by omega⟩
  · exact ⟨_, cap, [g], rfl, Sl.of_own h, by simp, by intro i hi; obtain rfl := List.mem_singleton.1 hi; exact ⟨h1, lt_of_block hb⟩, fun _ => ⟨g, rfl⟩⟩

set_option maxRecDepth 100000 in
set_option maxHeartbeats 2000000 in
theorem fixed07_any (w : World) : Calls Tryd.prog 6 #[] w (FixedPost w) := by
  have r0 := Row.new w 3 [.int .i64 0, .int .i64 1]
  have k0 := (Kept.refl [] w).alloc (.cells #[.int .i64 0, .int .i64 1] 3)
  have s0 : Sl (w.alloc (.cells #[.int .i64 0, .int .i64 1] 3)) .i64 (some ⟨w.heap.size, 0, none⟩) [0, 1] := Sl.of_row r0
  have h1 : (w.alloc (.cells #[.int .i64 0, .int .i64 1] 3)).heap.size = w.heap.size + 1 := by simp
  have r1 := Row.new (w.alloc (.cells #[.int .i64 0, .int .i64 1] 3)) 27 [.slice (some ⟨w.heap.size, 0, none⟩) 2 2]
  have k1 := (Kept.refl [] (w.alloc (.cells #[.int .i64 0, .int .i64 1] 3))).alloc (.cells #[.slice (some ⟨w.heap.size, 0, none⟩) 2 2] 27)
  rw [h1] at r1
  have sD : SlD ((w.alloc (.cells #[.int .i64 0, .int .i64 1] 3)).alloc (.cells #[.slice (some ⟨w.heap.size, 0, none⟩) 2 2] 27)) (some ⟨w.heap.size + 1, 0, none⟩) [⟨some ⟨w.heap.size, 0, none⟩, 2, [0, 1]⟩] :=
    SlD.of_row r1 (by intro t ht; obtain rfl := List.mem_singleton.1 ht; exact s0.kept k1)
  go_enter Tryd.func6, Tryd.ntmps6
  go_wp2_with fail
  refine (descKinds_any (some ⟨w.heap.size + 1, 0, none⟩) 1 [⟨some ⟨w.heap.size, 0, none⟩, 2, [0, 1]⟩] false 0 0 2 _ sD (by intro t ht; obtain rfl := List.mem_singleton.1 ht; simp)).mono ?_
  rintro e w2 ⟨v, rfl, hown, kw2⟩
  obtain ⟨a, c, rfl, hsl, _⟩ := own_slice hown
  rw [show kindsB (List.map Ty.ks [⟨some ⟨w.heap.size, 0, none⟩, 2, [0, 1]⟩]) ⟨false, 0, 0, 2⟩ = ([0, 1], 0) from rfl] at hsl ⊢
  have kk := (k0.trans k1).trans kw2
  clear sD r0 r1 k0 k1 h1 s0 hown kw2
  have r3 := Row.new w2 3 [.int .i64 0, .int .i64 1]
  have k3 := (Kept.refl [] w2).alloc (.cells #[.int .i64 0, .int .i64 1] 3)
  have s3 : Sl (w2.alloc (.cells #[.int .i64 0, .int .i64 1] 3)) .i64 (some ⟨w2.heap.size, 0, none⟩) [0, 1] := Sl.of_row r3
  go_wp2_with fail
  refine (refSame04_reads a (some ⟨w2.heap.size, 0, none⟩) 2 2 c 2 [0, 1] _ (hsl.kept k3) s3 rfl rfl (by omega)).mono ?_
  rintro e w4 ⟨rfl, q, rfl⟩
  go_wp2
  go_ret
  exact ⟨rfl, (kk.trans k3).drewN _⟩
end Go.Proofs.YtefbiofefdcbeaaDoor
