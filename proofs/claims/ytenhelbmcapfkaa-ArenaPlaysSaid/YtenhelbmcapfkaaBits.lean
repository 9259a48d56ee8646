/- Package bits: New, Len, Has, holds, Count. -/
import Derived.Test.YtenhelbmcapfkaaProg
import Derived.Test.YtenhelbmcapfkaaBitsPlain
import Derived.WalkSpells
import Derived.Deep.QuietTactic
import Derived.BigQuiet
import Derived.OwnWalk
namespace Go.Proofs.Ytenhelbmcapfkaa
open Go.RowKit

/-- The row at place o of block b: its marks, in block g, are xs. -/
def IsRow (w : World) (b o g : Nat) (xs : List Bool) : Prop :=
  (b ≠ g ∧ b < w.heap.size ∧ w.cell? ⟨b, o, none⟩ = some (.slice (some ⟨g, 0, none⟩) xs.length xs.length)) ∧ Row w g 4 (xs.map Value.bool) ∧ xs.length ≤ 16384
theorem IsRow.ne {w : World} {b o g : Nat} {xs : List Bool} (h : IsRow w b o g xs) : b ≠ g := h.1.1
theorem IsRow.ltB {w : World} {b o g : Nat} {xs : List Bool} (h : IsRow w b o g xs) : b < w.heap.size := h.1.2.1
theorem IsRow.ltG {w : World} {b o g : Nat} {xs : List Bool} (h : IsRow w b o g xs) : g < w.heap.size := h.2.1.lt
theorem IsRow.len {w : World} {b o g : Nat} {xs : List Bool} (h : IsRow w b o g xs) : xs.length ≤ 16384 := h.2.2
theorem IsRow.cellB {w : World} {b o g : Nat} {xs : List Bool} (h : IsRow w b o g xs) : w.cell? ⟨b, o, none⟩ = some (.slice (some ⟨g, 0, none⟩) xs.length xs.length) := h.1.2.2
theorem IsRow.cellG {w : World} {b o g : Nat} {xs : List Bool} (h : IsRow w b o g xs) (j : Nat) (hj : j < xs.length) : w.cell? ⟨g, j, none⟩ = some (.bool (mk xs j)) := by
  rw [h.2.1.cell j]; simp [mk, hj]
theorem IsRow.kept {w w' : World} {b o g : Nat} {xs : List Bool} {S : List Nat} (h : IsRow w b o g xs) (hk : Kept S w w') (hb : b ∉ S) (hg : g ∉ S) : IsRow w' b o g xs :=
  ⟨⟨h.ne, Nat.lt_of_lt_of_le h.ltB hk.size, (World.cell?_of_block (w := w) (a := ⟨b, o, none⟩) (hk.block b h.ltB hb)).trans h.cellB⟩, h.2.1.kept hk hg, h.2.2⟩
theorem IsRow.set {w : World} {b o g : Nat} {xs : List Bool} (h : IsRow w b o g xs) (j : Nat) (v : Bool) : IsRow (w.setCell ⟨g, j, none⟩ (.bool v)) b o g (xs.set j v) := by
  have k : Kept [g] w (w.setCell ⟨g, j, none⟩ (.bool v)) := (Kept.refl _ _).set (.inl (by simp)) _
  refine ⟨⟨h.ne, Nat.lt_of_lt_of_le h.ltB k.size, ?_⟩, ?_, by simpa using h.2.2⟩
  · rw [List.length_set]
    exact (World.cell?_of_block (w := w) (a := ⟨b, o, none⟩) (k.block b h.ltB (by simpa using h.ne))).trans h.cellB
  · have := h.2.1.set j (.bool v)
    rwa [← List.map_set] at this
theorem IsRow.drew {w : World} {b o g : Nat} {xs : List Bool} (h : IsRow w b o g xs) : IsRow w.drew b o g xs :=
  ⟨⟨h.ne, h.ltB, h.cellB⟩, h.2.1.drew, h.2.2⟩

theorem Try.info4 : (Try.prog.info? 4).map (fun i => (i.zero, i.size, i.bytes)) = some (some (.bool false), 1, 1) := by kernel_rfl

set_option maxHeartbeats 400000 in
theorem bitsNew_no (n : Int) (w : World) (h : n < 0 ∨ 16384 < n) :
    Calls Try.prog 30 #[.int .i64 n] w fun e w' => e = .returned (.tuple #[.pointer none, .int .i64 1]) ∧ w = w' := by
  rcases h with h | h
  · go_enter Try.func30, Try.ntmps30
    go_wp2
    go_ret2
    exact ⟨rfl, rfl⟩
  · have h' : decide (n < 0) = false := by simp; omega
    go_enter Try.func30, Try.ntmps30
    go_wp2
    go_ret2
    exact ⟨rfl, rfl⟩

/-- What New leaves: a row in new blocks. -/
def NewRow (w : World) (xs : List Bool) (e : Ending) (w' : World) : Prop :=
  ∃ b g, e = .returned (.tuple #[.pointer (some ⟨b, 0, none⟩), .int .i64 0]) ∧ w.heap.size ≤ b ∧ w.heap.size ≤ g ∧ IsRow w' b 0 g xs ∧ Kept [] w w'

set_option maxHeartbeats 400000 in
theorem bitsNew_yes (n : Nat) (w : World) (h : n ≤ 16384) :
    Calls Try.prog 30 #[.int .i64 n] w (NewRow w (List.replicate n false)) := by
  obtain ⟨i0, hi, hz0, hz1, hz2⟩ := info_parts Try.info4
  have h' : decide ((n : Int) < 0) = false := by simp
  have h2 : decide ((16384 : Int) < n) = false := by simp; omega
  go_enter Try.func30, Try.ntmps30
  go_wp2_with (refine wpList_make_row _ rfl _ _ 29 rfl 4 i0 (.bool false) Try.underlying29 hi hz0 hz1 rfl .i64 .i64 n n n rfl rfl rfl rfl (by rw [hz2]; omega) (by unfold maxLen; omega) ?_; intro w1 hr hk hs)
  go_ret2
  have hr' : Row w1 w.heap.size 4 ((List.replicate n false).map Value.bool) := by simpa [zeros] using hr
  refine ⟨w.heap.size + 1, w.heap.size, rfl, by omega, Nat.le_refl _, ⟨⟨by omega, by simp; omega, ?_⟩, hr'.alloc _, by simpa using h⟩, hk.alloc _⟩
  have := Row.new w1 102 [.slice (some ⟨w.heap.size, 0, none⟩) n n]
  rw [hs] at this
  simpa using this.cell 0

set_option maxHeartbeats 400000 in
theorem bitsLen_any (b o g : Nat) (xs : List Bool) (w : World) (hm : IsRow w b o g xs) :
    Calls Try.prog 44 #[.pointer (some ⟨b, o, none⟩)] w fun e w' => e = .returned (.int .i64 xs.length) ∧ w = w' := by
  have hc := hm.cellB
  go_enter Try.func44, Try.ntmps44
  go_wp2
  go_ret
  exact ⟨rfl, rfl⟩

def hasM (xs : List Bool) (at_ : Int) : Bool := decide (0 ≤ at_) && mk xs at_.toNat

def BitsHoldsPost (n : Nat) (a c : Int) (w : World) (e : Ending) (w' : World) : Prop := e = .returned (.bool (holdsB n a c)) ∧ Kept [] w w'

set_option maxHeartbeats 1000000 in
theorem bitsHolds_any (b o g : Nat) (xs : List Bool) (a c : Int) (w : World) (hm : IsRow w b o g xs) (ha : a ≤ 9223372036854775807) :
    Calls Try.prog 65 #[.pointer (some ⟨b, o, none⟩), .agg #[.int .i64 a, .int .i64 c]] w (BitsHoldsPost xs.length a c w) := by
  have hx := hm.len
  have hm1 := hm.kept ((Kept.refl [] w).alloc (.cells #[.int .i64 a, .int .i64 c] 63)) (by simp) (by simp)
  have hc := hm1.cellB
  have hb := hm.ltB
  by_cases h0 : 0 ≤ a
  · by_cases h1 : 0 ≤ c
    · go_enter Try.func65, Try.ntmps65
      go_wp2_with fail
      go_quiet (fail)
      go_wp2
      go_ret
      exact ⟨by simp [holdsB, h0, h1], (((Kept.refl [] w).alloc _).drewN _)⟩
    · have h1' : decide (0 ≤ c) = false := by simpa using h1
      go_enter Try.func65, Try.ntmps65
      go_wp2_with fail
      go_quiet (fail)
      go_wp2
      go_ret
      exact ⟨by simp [holdsB]; omega, (((Kept.refl [] w).alloc _).drewN _)⟩
  · have h0' : decide (0 ≤ a) = false := by simpa using h0
    go_enter Try.func65, Try.ntmps65
    go_wp2_with fail
    go_quiet (fail)
    go_wp2
    go_ret
    exact ⟨by simp [holdsB]; omega, (((Kept.refl [] w).alloc _).drewN _)⟩

set_option maxHeartbeats 400000 in
theorem bitsCount_any (b o g : Nat) (xs : List Bool) (w : World) (hm : IsRow w b o g xs) :
    Calls Try.prog 45 #[.pointer (some ⟨b, o, none⟩)] w fun e w' => e = .returned (.int .i64 (countB xs : Nat)) ∧ w = w' := by
  have hc := hm.cellB
  have hx := hm.len
  go_enter Try.func45, Try.ntmps45
  go_wp2
  go_loop [3, 11] (fun n i => ∃ j k : Nat, j ≤ xs.length ∧ k = countB (xs.take j) ∧ n = .int .i64 k ∧ i = .int .i64 j) (fun _ i => xs.length - (intOf i).toNat)
  case atStart => exact ⟨0, 0, Nat.zero_le _, by simp [countB], rfl, rfl⟩
  case round =>
    obtain ⟨j, k, hj, hk, rfl, rfl⟩ := hrel
    by_cases hlt : j < xs.length
    · have hg := hm.cellG j hlt
      have hle := countB_le (xs.take j)
      have hle2 : (xs.take j).length ≤ 16384 := by simp; omega
      have hs := countB_take_succ xs j hlt
      have hkb : k ≤ 16384 := by omega
      have HS := Lib.hid hs
      have HK := Lib.hid hk
      clear hs hk hle hle2
      cases hv : mk xs j with
      | true =>
        rw [hv] at hg
        have HV := Lib.hid hv
        clear hv
        go_wp2
        go_round
        case rel => exact ⟨j + 1, k + 1, by omega, by rw [HS.out, HV.out, HK.out]; rfl, by go_num, by go_num⟩
        case measure => simp [intOf]; omega
      | false =>
        rw [hv] at hg
        have HV := Lib.hid hv
        clear hv
        go_wp2
        go_round
        case rel => exact ⟨j + 1, k, by omega, by rw [HS.out, HV.out, HK.out]; rfl, rfl, by go_num⟩
        case measure => simp [intOf]; omega
    · obtain rfl : j = xs.length := by omega
      go_wp2
      go_ret
      exact ⟨rfl, rfl⟩
end Go.Proofs.Ytenhelbmcapfkaa
