/- Package kraalref01: the document's answers. -/
import Derived.Test.YthkmnjkaadmilaaDoorAppend
import Derived.Test.YthkmnjkaadmilaaDoorFill
import Derived.Test.YthkmnjkaadmilaaDoorMove
import Derived.Test.YthkmnjkaadmilaaDoorFills
namespace Go.Proofs.YthkmnjkaadmilaaDoor
open Go.RowKit

def HasPost (n : Nat) (a c : Int) (w : World) (e : Ending) (w' : World) : Prop := e = .returned (.bool (holdsB n a c)) ∧ Kept [] w w'

/-- What a call of these leaves: a slice that holds xs', the same as came in or a new one; an error's number. -/
def RefPost (A : Option Addr) (xs' : List Int) (er : Int) (w : World) (e : Ending) (w' : World) : Prop :=
  ∃ A' cap', e = .returned (.tuple #[.slice A' xs'.length cap', .int .i64 er]) ∧ Sl w' .u64 A' xs' ∧ (A' = A ∨ ∃ g, A' = some ⟨g, 0, none⟩ ∧ w.heap.size ≤ g) ∧ Kept [] w w'

set_option maxHeartbeats 1000000 in
theorem refWrite_any (A : Option Addr) (cap : Nat) (xs : List Int) (at_ v : Int) (w : World) (hs : Sl w .u64 A xs) (hx : xs.length ≤ 16384) :
    Calls Tryd.prog 23 #[.slice A xs.length cap, .int .i64 at_, .int .u64 v] w (RefPost A (wrB xs at_ v) (errB (hasB xs.length at_)) w) := by
  obtain ⟨i0, hi, hz0, hz1, hz2⟩ := info_parts Tryd.info28
  cases hh : hasB xs.length at_ with
  | false =>
    have hd : at_ < 0 ∨ (xs.length : Int) ≤ at_ := by simp [hasB] at hh; omega
    have hw : wrB xs at_ v = xs := by simp [wrB, hh]
    rw [hw]
    clear hw hh
    rcases hd with hd | hd
    · go_enter Tryd.func23, Tryd.ntmps23
      go_wp2
      go_ret2
      exact ⟨A, cap, rfl, hs, .inl rfl, Kept.refl _ _⟩
    · have hd' : decide (at_ < 0) = false := by simp; omega
      go_enter Tryd.func23, Tryd.ntmps23
      go_wp2
      go_ret2
      exact ⟨A, cap, rfl, hs, .inl rfl, Kept.refl _ _⟩
  | true =>
    have hd : 0 ≤ at_ ∧ at_ < (xs.length : Int) := by simpa [hasB] using hh
    obtain ⟨n, rfl⟩ := Int.eq_ofNat_of_zero_le hd.1
    have hn : n < xs.length := by omega
    have hw : wrB xs n v = xs.set n v := by simp [wrB, hh]
    rw [hw]
    clear hw hh hd
    have h1 : decide ((n : Int) < 0) = false := by simp
    have h2 : decide (xs.length ≤ n) = false := by simp; omega
    have own0 := own_empty w 28 1 w.heap.size (Nat.le_refl _)
    have k0 := (Kept.refl [] w).alloc (.cells #[] 28)
    have s0 := (hs.kept k0).toV
    go_enter Tryd.func23, Tryd.ntmps23
    go_wp2_with (at_builtin; refine wpList_append_on _ rfl _ _ 22 rfl w.heap.size 28 i0 (.int .u64 0) 1 8 Tryd.underlying22 hi hz0 hz1 hz2 rfl (by omega) w.heap.size 0 0 [] rfl own0 A xs.length cap _ rfl s0 int_oneCell (by unfold maxLen; omega) (by omega) (by simp) ?_; intro g' cap' w1 hown hk _; rw [Nat.zero_add, List.nil_append] at hown; rw [Nat.zero_add]; have hcell := hown.cellAt n (by omega); have hfr := hown.frozenAt n; rw [List.getElem?_map, List.getElem?_eq_getElem hn, Option.map_some] at hcell)
    go_ret2
    have hst := (hown.stored n (.int .u64 v)).1
    rw [← List.map_set] at hst
    refine ⟨some ⟨g', 0, none⟩, cap', ?_, Sl.of_own hst, .inr ⟨g', rfl, own_ge hown⟩, ?_⟩
    · simp [errB]
    · have hk1 : Kept [] w w1 := k0.chain hk (by simp) (by simp)
      exact hk1.set (.inr (own_ge hown)) _

end Go.Proofs.YthkmnjkaadmilaaDoor
