/- slices.Clone at numbers and at words: a slice of the call's own, or nil. -/
import Derived.Test.YthkmnjkaadmilaaDoorSlG
import Derived.Test.YthkmnjkaadmilaaDoorMem
import Derived.WalkKit
import Derived.Lib.SliceRun
import Derived.StillTailTactics
namespace Go.Proofs.YthkmnjkaadmilaaDoor
open Go.RowKit

def CloneOf (k : IntKind) (t : TypeId) (xs : List Int) (w : World) (e : Ending) (w' : World) : Prop :=
  ∃ A c, e = .returned (.slice A xs.length c) ∧ w'.ownsRow w.heap.size t 1 (.slice A xs.length c) xs.length (xs.map (Value.int k)) ∧ Kept [] w w'
theorem info_int13 : (Tryd.prog.info? 3).map (fun i => (i.zero, i.size, i.bytes)) = some (some (.int .i64 0), 1, 8) := by kernel_rfl
set_option maxHeartbeats 1000000 in
theorem cloneI_any (A : Option Addr) (ca : Nat) (xs : List Int) (w : World) (hs : Sl w .i64 A xs) (hN : xs.length ≤ 1099511627776) :
    Calls Tryd.prog 28 #[.slice A xs.length ca] w (CloneOf .i64 3 xs w) := by
  obtain ⟨i0, hi, hz0, hz1, hz2⟩ := info_parts info_int13
  have hnil := fun (w : World) (a : Option Addr) (n c n' c' : Nat) => Lib.run_eql_slice_nil w 25 3 a n c n' c' Tryd.underlying25
  cases A with
  | none =>
    rcases hs with rfl | ⟨b, off, h, _⟩
    · go_enter Tryd.func28, Tryd.ntmps28
      go_wp2
      go_ret
      exact ⟨none, 0, rfl, World.ownsRow_nil _ _ _ _, Kept.refl _ _⟩
    · cases h
  | some ad =>
    have own0 := own_empty w 3 1 w.heap.size (Nat.le_refl _)
    have k0 := (Kept.refl [] w).alloc (.cells #[] 3)
    have s0 := (hs.kept k0).toV
    go_enter Tryd.func28, Tryd.ntmps28
    go_wp2_with (at_builtin; refine wpList_append_on _ rfl _ _ 25 rfl w.heap.size 3 i0 (.int .i64 0) 1 8 Tryd.underlying25 hi hz0 hz1 hz2 rfl (by omega) w.heap.size 0 0 [] rfl own0 (some ad) xs.length ca _ rfl s0 int_oneCell (by unfold maxLen; omega) (by omega) k0.size ?_; intro g' cap' w1 hown hk _; rw [Nat.zero_add, List.nil_append] at hown; rw [Nat.zero_add])
    go_ret
    exact ⟨some ⟨g', 0, none⟩, cap', rfl, hown, k0.chain hk (by simp) (by simp)⟩
set_option maxHeartbeats 1000000 in
theorem cloneU_any (A : Option Addr) (ca : Nat) (xs : List Int) (w : World) (hs : Sl w .u64 A xs) (hN : xs.length ≤ 1099511627776) :
    Calls Tryd.prog 29 #[.slice A xs.length ca] w (CloneOf .u64 28 xs w) := by
  obtain ⟨i0, hi, hz0, hz1, hz2⟩ := info_parts Tryd.info28
  have hnil := fun (w : World) (a : Option Addr) (n c n' c' : Nat) => Lib.run_eql_slice_nil w 22 28 a n c n' c' Tryd.underlying22
  cases A with
  | none =>
    rcases hs with rfl | ⟨b, off, h, _⟩
    · go_enter Tryd.func29, Tryd.ntmps29
      go_wp2
      go_ret
      exact ⟨none, 0, rfl, World.ownsRow_nil _ _ _ _, Kept.refl _ _⟩
    · cases h
  | some ad =>
    have own0 := own_empty w 28 1 w.heap.size (Nat.le_refl _)
    have k0 := (Kept.refl [] w).alloc (.cells #[] 28)
    have s0 := (hs.kept k0).toV
    go_enter Tryd.func29, Tryd.ntmps29
    go_wp2_with (at_builtin; refine wpList_append_on _ rfl _ _ 22 rfl w.heap.size 28 i0 (.int .u64 0) 1 8 Tryd.underlying22 hi hz0 hz1 hz2 rfl (by omega) w.heap.size 0 0 [] rfl own0 (some ad) xs.length ca _ rfl s0 int_oneCell (by unfold maxLen; omega) (by omega) k0.size ?_; intro g' cap' w1 hown hk _; rw [Nat.zero_add, List.nil_append] at hown; rw [Nat.zero_add])
    go_ret
    exact ⟨some ⟨g', 0, none⟩, cap', rfl, hown, k0.chain hk (by simp) (by simp)⟩
end Go.Proofs.YthkmnjkaadmilaaDoor
