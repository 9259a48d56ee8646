/- Package kraalref01: the document's answers. -/
import Derived.Test.YthnoohghjcfghaaAppend
import Derived.Test.YthnoohghjcfghaaFill
import Derived.Test.YthnoohghjcfghaaMove
import Derived.Test.YthnoohghjcfghaaFills
namespace Go.Proofs.Ythnoohghjcfghaa
open Go.RowKit

def HasPost (n : Nat) (a c : Int) (w : World) (e : Ending) (w' : World) : Prop := e = .returned (.bool (holdsB n a c)) ∧ Kept [] w w'

set_option maxHeartbeats 1000000 in
theorem refHas_any (A : Option Addr) (n cap : Nat) (a c : Int) (w : World) (hn : n ≤ 16384) :
    Calls Try.prog 46 #[.slice A n cap, .agg #[.int .i64 a, .int .i64 c]] w (HasPost n a c w) := by
  by_cases h0 : a < 0
  · go_enter Try.func46, Try.ntmps46
    go_wp2
    go_ret
    exact ⟨by simp [holdsB]; omega, (Kept.refl [] w).alloc _⟩
  · have h0' : decide (a < 0) = false := by simpa using h0
    by_cases h1 : c < 0
    · go_enter Try.func46, Try.ntmps46
      go_wp2
      go_ret
      exact ⟨by simp [holdsB]; omega, (Kept.refl [] w).alloc _⟩
    · have h1' : decide (c < 0) = false := by simpa using h1
      by_cases h2 : (n : Int) < a
      · go_enter Try.func46, Try.ntmps46
        go_wp2
        go_ret
        exact ⟨by simp [holdsB]; omega, (Kept.refl [] w).alloc _⟩
      · have h2' : decide ((n : Int) < a) = false := by simpa using h2
        by_cases h3 : (n : Int) < c
        · go_enter Try.func46, Try.ntmps46
          go_wp2
          go_ret
          exact ⟨by simp [holdsB]; omega, (Kept.refl [] w).alloc _⟩
        · have h3' : decide ((n : Int) < c) = false := by simpa using h3
          go_enter Try.func46, Try.ntmps46
          go_wp2
          go_ret
          have hd : decide (a + c ≤ (n : Int)) = holdsB n a c := by unfold holdsB; exact decide_eq_decide.2 (by omega)
          exact ⟨by rw [← hd]; rfl, (Kept.refl [] w).alloc _⟩

/-- What a call of these leaves: a slice that holds xs', the same as came in or a new one; an error's number. -/
def RefPost (A : Option Addr) (xs' : List Int) (er : Int) (w : World) (e : Ending) (w' : World) : Prop :=
  ∃ A' cap', e = .returned (.tuple #[.slice A' xs'.length cap', .int .i64 er]) ∧ Sl w' .u64 A' xs' ∧ (A' = A ∨ ∃ g, A' = some ⟨g, 0, none⟩ ∧ w.heap.size ≤ g) ∧ Kept [] w w'

set_option maxHeartbeats 1000000 in
theorem refWrite_any (A : Option Addr) (cap : Nat) (xs : List Int) (at_ v : Int) (w : World) (hs : Sl w .u64 A xs) (hx : xs.length ≤ 16384) :
    Calls Try.prog 36 #[.slice A xs.length cap, .int .i64 at_, .int .u64 v] w (RefPost A (wrB xs at_ v) (errB (hasB xs.length at_)) w) := by
  obtain ⟨i0, hi, hz0, hz1, hz2⟩ := info_parts Try.info61
  cases hh : hasB xs.length at_ with
  | false =>
    have hd : at_ < 0 ∨ (xs.length : Int) ≤ at_ := by simp [hasB] at hh; omega
    have hw : wrB xs at_ v = xs := by simp [wrB, hh]
    rw [hw]
    clear hw hh
    rcases hd with hd | hd
    · go_enter Try.func36, Try.ntmps36
      go_wp2
      go_ret2
      exact ⟨A, cap, rfl, hs, .inl rfl, Kept.refl _ _⟩
    · have hd' : decide (at_ < 0) = false := by simp; omega
      go_enter Try.func36, Try.ntmps36
      go_wp2
      go_ret2
      exact ⟨A, cap, rfl, hs, .inl rfl, Kept.refl _ _⟩
  | true =>
    have hd : 0 ≤ at_ ∧ at_ < (xs.length : Int) := by simpa [hasB] using hh
    obtain ⟨n, rfl⟩ := Int.eq_ofNat_of_zero_le hd.1
    have hn : n < xs.length := by omega
    have hw : wrB xs n v = xs.set n v := by simp [wrB, hh]
    rw [hw]
    clear hw hh hd
    have h1 : decide ((n : Int) < 0) = false := by simp
    have h2 : decide (xs.length ≤ n) = false := by simp; omega
    have own0 := own_empty w 61 1 w.heap.size (Nat.le_refl _)
    have k0 := (Kept.refl [] w).alloc (.cells #[] 61)
    have s0 := (hs.kept k0).toV
    go_enter Try.func36, Try.ntmps36
    go_wp2_with (at_builtin; refine wpList_append_on _ rfl _ _ 22 rfl w.heap.size 61 i0 (.int .u64 0) 1 8 Try.underlying22 hi hz0 hz1 hz2 rfl (by omega) w.heap.size 0 0 [] rfl own0 A xs.length cap _ rfl s0 int_oneCell (by unfold maxLen; omega) (by omega) (by simp) ?_; intro g' cap' w1 hown hk _; rw [Nat.zero_add, List.nil_append] at hown; rw [Nat.zero_add]; have hcell := hown.cellAt n (by omega); have hfr := hown.frozenAt n; rw [List.getElem?_map, List.getElem?_eq_getElem hn, Option.map_some] at hcell)
    go_ret2
    have hst := (hown.stored n (.int .u64 v)).1
    rw [← List.map_set] at hst
    refine ⟨some ⟨g', 0, none⟩, cap', ?_, Sl.of_own hst, .inr ⟨g', rfl, own_ge hown⟩, ?_⟩
    · simp [errB]
    · have hk1 : Kept [] w w1 := k0.chain hk (by simp) (by simp)
      exact hk1.set (.inr (own_ge hown)) _

set_option maxHeartbeats 1000000 in
theorem refFill_any (A : Option Addr) (cap : Nat) (xs : List Int) (a c v : Int) (w : World) (hs : Sl w .u64 A xs) (hx : xs.length ≤ 16384) :
    Calls Try.prog 35 #[.slice A xs.length cap, .agg #[.int .i64 a, .int .i64 c], .int .u64 v] w (RefPost A (flB xs a c v) (errB (holdsB xs.length a c)) w) := by
  obtain ⟨i0, hi, hz0, hz1, hz2⟩ := info_parts Try.info61
  have rR := Row.new w 30 [.int .i64 a, .int .i64 c]
  have kW := (Kept.refl [] w).alloc (.cells #[.int .i64 a, .int .i64 c] 30)
  go_enter Try.func35, Try.ntmps35
  go_wp2_with fail
  generalize w.alloc (.cells #[.int .i64 a, .int .i64 c] 30) = W at rR kW ⊢
  refine (refHas_any A xs.length cap a c W hx).mono ?_
  rintro e W1 ⟨rfl, k1⟩
  have rR1 := rR.kept k1 (by simp)
  have kW1 := kW.trans k1
  cases hh : holdsB xs.length a c with
  | false =>
    have hw : flB xs a c v = xs := by simp [flB, hh]
    have HW := Lib.hid hw
    have HH := Lib.hid hh
    clear hw hh
    go_wp2
    go_ret2
    exact ⟨A, cap, by rw [HW.out, HH.out]; rfl, by rw [HW.out]; exact hs.kept kW1, .inl rfl, kW1⟩
  | true =>
    have hd : 0 ≤ a ∧ 0 ≤ c ∧ c ≤ (xs.length : Int) - a := by simpa [holdsB] using hh
    obtain ⟨d0, d1, d2⟩ := hd
    obtain ⟨B, rfl⟩ := Int.eq_ofNat_of_zero_le d0
    obtain ⟨N, rfl⟩ := Int.eq_ofNat_of_zero_le d1
    have hfl : flB xs B N v = setAll xs v (handed (fun i => (B : Int) + (i : Nat)) N) := by simp [flB, hh]
    have HF := Lib.hid hfl
    have HH := Lib.hid hh
    clear hfl hh
    have own0 := own_empty W1 61 1 W1.heap.size (Nat.le_refl _)
    have k0 := (Kept.refl [] W1).alloc (.cells #[] 61)
    have s0 := ((hs.kept kW1).kept k0).toV
    go_wp2_with (at_builtin; refine wpList_append_on _ rfl _ _ 22 rfl W1.heap.size 61 i0 (.int .u64 0) 1 8 Try.underlying22 hi hz0 hz1 hz2 rfl (by omega) W1.heap.size 0 0 [] rfl own0 A xs.length cap _ rfl s0 int_oneCell (by unfold maxLen; omega) (by omega) (by simp) ?_; intro g' cap' w1 hown hk _; rw [Nat.zero_add, List.nil_append] at hown; rw [Nat.zero_add])
    have kw1 : Kept [] w w1 := (kW1.trans k0).chain hk (by simp) (by have := kW1.size; simp; omega)
    have hge := own_ge hown
    have hkz := kW1.size
    have rR2 := (rR1.kept k0 (by simp)).kept hk (by have := rR1.lt; simp; omega)
    have hRl := rR1.lt
    clear own0 s0 hk k0 rR1 rR k1 kW
    go_loopw [9] (fun i wr => ∃ j : Nat, j ≤ N ∧ i = .int .i64 j ∧ wr.ownsRow W1.heap.size 61 1 (.slice (some ⟨g', 0, none⟩) xs.length cap') xs.length ((setAll xs v (handed (fun i => (B : Int) + (i : Nat)) j)).map (Value.int .u64)) ∧ Kept [g'] w1 wr) (fun i _ => N - (intOf i).toNat)
    case atStart => exact ⟨0, Nat.zero_le _, rfl, hown, Kept.refl _ _⟩
    case round =>
      obtain ⟨j, hj, rfl, hor, hkr⟩ := hrel
      have cR0 : wr.cell? ⟨w.heap.size, 0, none⟩ = some (.int .i64 B) := by simpa using (rR2.kept hkr (by simp; omega)).cell 0
      have cR1 : wr.cell? ⟨w.heap.size, 1, none⟩ = some (.int .i64 N) := by simpa using (rR2.kept hkr (by simp; omega)).cell 1
      by_cases hlt : j < N
      · have hcell := hor.cellAt (B + j) (by omega)
        rw [List.getElem?_map, List.getElem?_eq_getElem (by rw [setAll_length]; omega), Option.map_some] at hcell
        have hfr := hor.frozenAt (B + j)
        have hst := (hor.stored (B + j) (.int .u64 v)).1
        rw [← List.map_set] at hst
        have hsn : (setAll xs v (handed (fun i => (B : Int) + (i : Nat)) j)).set (B + j) v = setAll xs v (handed (fun i => (B : Int) + (i : Nat)) (j + 1)) := by
          rw [handed_succ, setAll_snoc, show ((B : Int) + (j : Nat)).toNat = B + j from by omega]
        rw [hsn] at hst
        have HST := Lib.hid hst
        clear hst hsn
        have t1 : ((B : Int) + j).toNat = B + j := by omega
        go_wp2
        go_roundw
        case rel => exact ⟨j + 1, by omega, by go_num, HST.out, hkr.set (.inl (by simp)) _⟩
        case measure => simp [intOf]; omega
      · obtain rfl : j = N := by omega
        go_wp2
        go_ret2
        refine ⟨some ⟨g', 0, none⟩, cap', by rw [HF.out, HH.out, setAll_length]; rfl, by rw [HF.out]; exact Sl.of_own hor, .inr ⟨g', rfl, by omega⟩, ?_⟩
        exact kw1.chain hkr (by simp) (by simp; omega)
end Go.Proofs.Ythnoohghjcfghaa
