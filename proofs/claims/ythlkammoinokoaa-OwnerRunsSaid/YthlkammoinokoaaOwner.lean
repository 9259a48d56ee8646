/- Package owner: New, holds, Page, Word. -/
import Derived.Test.YthlkammoinokoaaOwnerPlain
import Derived.Test.YthlkammoinokoaaArr
import Derived.Test.YthlkammoinokoaaNum
import Derived.Test.YthlkammoinokoaaQuiet
import Derived.StillTailTactics
namespace Go.Proofs.Ythlkammoinokoaa
open Go.RowKit

abbrev grpV (v : List Int) : Value := arrV .i64 v
theorem zero_grp (w : World) : (zeroValue 54).run Try.prog w = .ok (grpV zeroG) w := (zero_of_info (P := Try.prog) (t := 54) (v := grpV zeroG) (n := 32) (by kernel_rfl)).1 w
theorem size_grp : (Try.prog.info? 54).map (·.size) = some 32 := (zero_of_info (P := Try.prog) (t := 54) (v := grpV zeroG) (n := 32) (by kernel_rfl)).2
theorem size_int (w : World) : (sizeOf 3).run Try.prog w = .ok 1 w := by kernel_rfl

/-- The map in block p: of its pages xs tells whose they are (in the map of groups at g). -/
structure IsOwner (w : World) (p g : Nat) (xs : List Int) : Prop where
  box : Row w p 50 [.int .i64 xs.length, .map (some g)]
  own : ∃ gs, OwnL grpV w g gs ∧ Rep xs gs
  apart : p ≠ g
  le : xs.length ≤ 1024
  fit : ∀ x ∈ xs, 0 ≤ x ∧ x ≤ 9223372036854775807
section
variable {w w' : World} {p g : Nat} {xs : List Int}
theorem IsOwner.cell0 (h : IsOwner w p g xs) : w.cell? ⟨p, 0, none⟩ = some (.int .i64 xs.length) := by simpa using h.box.cell 0
theorem IsOwner.cell1 (h : IsOwner w p g xs) : w.cell? ⟨p, 1, none⟩ = some (.map (some g)) := by simpa using h.box.cell 1
theorem IsOwner.keptS {S : List Nat} (h : IsOwner w p g xs) (hk : Kept S w w') (hp : p ∉ S) (hg : g ∉ S) : IsOwner w' p g xs :=
  ⟨h.box.kept hk hp, let ⟨gs, h1, h2⟩ := h.own; ⟨gs, h1.kept hk hg, h2⟩, h.apart, h.le, h.fit⟩
theorem IsOwner.kept (h : IsOwner w p g xs) (hk : Kept [] w w') : IsOwner w' p g xs := h.keptS hk (by simp) (by simp)
theorem IsOwner.lt (h : IsOwner w p g xs) : p < w.heap.size ∧ g < w.heap.size := ⟨h.box.lt, let ⟨_, h1, _⟩ := h.own; h1.lt⟩
theorem IsOwner.drewN (h : IsOwner w p g xs) (n : Nat) : IsOwner (w.drewN n) p g xs := h.kept ((Kept.refl [] w).drewN n)
theorem IsOwner.getD (h : IsOwner w p g xs) (i : Nat) : 0 ≤ xs[i]?.getD 0 ∧ xs[i]?.getD 0 ≤ 9223372036854775807 := by
  cases e : xs[i]? with
  | none => simp
  | some x => exact h.fit x (List.mem_of_getElem? e)
/-- 'm.groups[k]'. -/
theorem IsOwner.look (h : IsOwner w p g xs) {k : Nat} (hk : k ≤ 1099511627776) :
    (Instr.lookup 48 (.map (some g)) (.int .i64 k) false).run Try.prog w = .ok (grpV (grp xs k)) w := by
  obtain ⟨gs, h1, h2⟩ := h.own
  have := h1.look Try.underlying48 zero_grp (z := (k : Int)) (by unfold Fit64; omega)
  rwa [h2.at k grpV] at this
end
/-- 'v[j]', v a group. -/
theorem index_grp (xs : List Int) (k : Nat) {j : Nat} (hj : j < 32) (w : World) :
    (Instr.index 54 (grpV (grp xs k)) (.int .i64 j)).run Try.prog w = .ok (.int .i64 (xs[32 * k + j]?.getD 0)) w := by
  have := run_index_arr (P := Try.prog) w 54 3 32 .i64 Try.underlying54 Try.underlying3 size_int (grp xs k) (grp_length xs k) j hj
  rwa [grp_get _ _ hj] at this

/-- How many pages a map asked for has. -/
def sizeB (n : Int) : Nat := min (max n 0) 1024 |>.toNat
/-- What New leaves: a map in new blocks. -/
def NewOwner (w : World) (n : Nat) (e : Ending) (w' : World) : Prop :=
  ∃ p g, e = .returned (.pointer (some ⟨p, 0, none⟩)) ∧ (w.heap.size ≤ p ∧ w.heap.size ≤ g) ∧ IsOwner w' p g (List.replicate n 0) ∧ Kept [] w w'
theorem newOwner_made (w : World) (n : Nat) (hn : n ≤ 1024) :
    NewOwner w n (.returned (.pointer (some ⟨w.heap.size + 1, 0, none⟩))) ((w.alloc (.map #[] 0)).alloc (.cells #[.int .i64 n, .map (some w.heap.size)] 50)) := by
  have hr := Row.new (w.alloc (.map #[] 0)) 50 [.int .i64 n, .map (some w.heap.size)]
  have hz : (w.alloc (.map #[] 0)).heap.size = w.heap.size + 1 := by simp
  rw [hz] at hr
  exact ⟨w.heap.size + 1, w.heap.size, rfl, by omega, ⟨by simpa using hr, ⟨[], (OwnL.made grpV w).kept ((Kept.refl [] _).alloc _) (by simp), Rep.none n⟩, by omega, by simpa using hn, fun x hx => by rw [(List.mem_replicate.1 hx).2]; omega⟩, ((Kept.refl [] w).alloc _).alloc _⟩

set_option maxHeartbeats 1000000 in
theorem ownerNew_any (n : Int) (w : World) : Calls Try.prog 6 #[.int .i64 n] w (NewOwner w (sizeB n)) := by
  have hmm := @run_makeMap Try.prog
  rcases (show n < 0 ∨ 1024 < n ∨ (∃ m : Nat, n = m ∧ m ≤ 1024) from by
    by_cases h : n < 0
    · exact .inl h
    · by_cases h2 : 1024 < n
      · exact .inr (.inl h2)
      · exact .inr (.inr ⟨n.toNat, by omega, by omega⟩)) with h | h | ⟨m, rfl, hm⟩
  · have HS := Lib.hid (show sizeB n = 0 by unfold sizeB; omega)
    have e1 : max n 0 = 0 := by omega
    go_enter Try.func6, Try.ntmps6
    go_wp2
    go_ret
    rw [HS.out]
    simpa [e1] using newOwner_made w 0 (by omega)
  · have HS := Lib.hid (show sizeB n = 1024 by unfold sizeB; omega)
    have e1 : max n 0 = n := by omega
    have e2 : min n 1024 = 1024 := by omega
    go_enter Try.func6, Try.ntmps6
    go_wp2
    go_ret
    rw [HS.out]
    simpa [e1, e2] using newOwner_made w 1024 (by omega)
  · have HS := Lib.hid (show sizeB m = m by unfold sizeB; omega)
    have e1 : max (m : Int) 0 = m := by omega
    have e2 : min (m : Int) 1024 = m := by omega
    go_enter Try.func6, Try.ntmps6
    go_wp2
    go_ret
    rw [HS.out]
    simpa [e1, e2] using newOwner_made w m hm

set_option maxHeartbeats 1000000 in
theorem ownerPage_any (p g : Nat) (xs : List Int) (at_ : Int) (w : World) (h : IsOwner w p g xs) :
    Calls Try.prog 10 #[.pointer (some ⟨p, 0, none⟩), .int .i64 at_] w fun e w' => e = .returned (.int .i64 (pageB xs at_)) ∧ w = w' := by
  have hc := h.cell0
  have hc1 := h.cell1
  have hle := h.le
  by_cases h1 : at_ < 0
  · have HS := Lib.hid (pageB_none (xs := xs) (.inl h1))
    go_enter Try.func10, Try.ntmps10
    go_wp2
    go_ret
    exact ⟨by rw [HS.out]; rfl, rfl⟩
  · have h1' : decide (at_ < 0) = false := by simpa using h1
    by_cases h2 : (xs.length : Int) ≤ at_
    · have HS := Lib.hid (pageB_none (xs := xs) (.inr h2))
      go_enter Try.func10, Try.ntmps10
      go_wp2
      go_ret
      exact ⟨by rw [HS.out]; rfl, rfl⟩
    · have h2' : decide ((xs.length : Int) ≤ at_) = false := by simpa using h2
      obtain ⟨q, rfl⟩ := Int.eq_ofNat_of_zero_le (show 0 ≤ at_ by omega)
      have HS := Lib.hid (pageB_at (xs := xs) (p := q) (by omega))
      obtain ⟨k, hk⟩ : ∃ k, q / 32 = k := ⟨_, rfl⟩
      obtain ⟨j, hj⟩ : ∃ j, q % 32 = j := ⟨_, rfl⟩
      have hq : (q : Int).tdiv 32 = (k : Int) := by rw [← hk]; exact (Int.ofNat_tdiv q 32).symm
      have hm : (q : Int).tmod 32 = (j : Int) := by rw [← hj]; exact (Int.ofNat_tmod q 32).symm
      have hlook := h.look (k := k) (by omega)
      have hidx := index_grp xs k (j := j) (by omega)
      rw [show 32 * k + j = q by omega] at hidx
      have hk32 : k ≤ 32 := by omega
      have hj32 : j < 32 := by omega
      clear hk hj
      go_enter Try.func10, Try.ntmps10
      go_wp2
      go_ret
      exact ⟨by rw [HS.out]; rfl, rfl⟩

/-- Whose a word is. -/
def wordB (xs : List Int) (at_ : Int) : Int := if at_ < 0 then 0 else pageB xs (at_.tdiv 16)

set_option maxHeartbeats 1000000 in
theorem ownerWord_any (p g : Nat) (xs : List Int) (at_ : Int) (w : World) (h : IsOwner w p g xs) (hat : at_ ≤ 9223372036854775807) :
    Calls Try.prog 11 #[.pointer (some ⟨p, 0, none⟩), .int .i64 at_] w fun e w' => e = .returned (.int .i64 (wordB xs at_)) ∧ w = w' := by
  by_cases h1 : at_ < 0
  · have HS := Lib.hid (show wordB xs at_ = 0 by unfold wordB; rw [if_pos h1])
    go_enter Try.func11, Try.ntmps11
    go_wp2
    go_ret
    exact ⟨by rw [HS.out]; rfl, rfl⟩
  · have h1' : decide (at_ < 0) = false := by simpa using h1
    obtain ⟨q, rfl⟩ := Int.eq_ofNat_of_zero_le (show 0 ≤ at_ by omega)
    obtain ⟨k, hk⟩ : ∃ k, q / 16 = k := ⟨_, rfl⟩
    have hq : (q : Int).tdiv 16 = (k : Int) := by rw [← hk]; exact (Int.ofNat_tdiv q 16).symm
    have HS := Lib.hid (show wordB xs q = pageB xs k by unfold wordB; rw [if_neg h1, hq])
    have hk64 : k ≤ 9223372036854775807 := by omega
    clear hk
    go_enter Try.func11, Try.ntmps11
    go_wp2_with fail
    refine (ownerPage_any p g xs k w h).mono ?_
    rintro e w1 ⟨rfl, rfl⟩
    go_wp2
    go_ret
    exact ⟨by rw [HS.out]; rfl, rfl⟩

def HoldsPost (n : Nat) (a c : Int) (w : World) (e : Ending) (w' : World) : Prop := e = .returned (.bool (holdsB n a c)) ∧ Kept [] w w'

set_option maxHeartbeats 2000000 in
theorem ownerHolds_any (p g : Nat) (xs : List Int) (a c : Int) (w : World) (h : IsOwner w p g xs) (ha : Fit64 a) (hcf : Fit64 c) :
    Calls Try.prog 17 #[.pointer (some ⟨p, 0, none⟩), .agg #[.int .i64 a, .int .i64 c]] w (HoldsPost xs.length a c w) := by
  have hle := h.le
  unfold Fit64 at ha hcf
  have hA := h.kept ((Kept.refl [] w).alloc (.cells #[.int .i64 a, .int .i64 c] 30))
  have k1 := (Kept.refl [] w).alloc (.cells #[.int .i64 a, .int .i64 c] 30)
  have hc := hA.cell0
  have b0 : (w.alloc (.cells #[.int .i64 a, .int .i64 c] 30)).cell? ⟨w.heap.size, 0, none⟩ = some (.int .i64 a) := by simp
  have b1 : (w.alloc (.cells #[.int .i64 a, .int .i64 c] 30)).cell? ⟨w.heap.size, 1, none⟩ = some (.int .i64 c) := by simp
  by_cases h1 : 0 ≤ a
  · by_cases h2 : 0 ≤ c
    · have h1' : decide (0 ≤ a) = true := by simpa using h1
      have h2' : decide (0 ≤ c) = true := by simpa using h2
      have hw : IntKind.i64.wrap ((xs.length : Int) - a) = (xs.length : Int) - a := IntWalk.i64_in _ ⟨by omega, by omega⟩
      by_cases h3 : c ≤ (xs.length : Int) - a
      · have h3' : decide (c ≤ (xs.length : Int) - a) = true := by simpa using h3
        have HB := Lib.hid ((holdsB_iff _ _ _).2 ⟨h1, h2, h3⟩)
        go_enter Try.func17, Try.ntmps17
        go_wp2_with fail
        go_quiet (fail)
        go_wp2
        go_ret
        exact ⟨by rw [HB.out]; rfl, k1.drewN _⟩
      · have h3' : decide (c ≤ (xs.length : Int) - a) = false := by simpa using h3
        have HB := Lib.hid (show holdsB xs.length a c = false by rw [← Bool.not_eq_true, holdsB_iff]; omega)
        go_enter Try.func17, Try.ntmps17
        go_wp2_with fail
        go_quiet (fail)
        go_wp2
        go_ret
        exact ⟨by rw [HB.out]; rfl, k1.drewN _⟩
    · have h1' : decide (0 ≤ a) = true := by simpa using h1
      have h2' : decide (0 ≤ c) = false := by simpa using h2
      have HB := Lib.hid (show holdsB xs.length a c = false by rw [← Bool.not_eq_true, holdsB_iff]; omega)
      go_enter Try.func17, Try.ntmps17
      go_wp2_with fail
      go_quiet (fail)
      go_wp2
      go_ret
      exact ⟨by rw [HB.out]; rfl, k1.drewN _⟩
  · have h1' : decide (0 ≤ a) = false := by simpa using h1
    have HB := Lib.hid (show holdsB xs.length a c = false by rw [← Bool.not_eq_true, holdsB_iff]; omega)
    go_enter Try.func17, Try.ntmps17
    go_wp2_with fail
    go_quiet (fail)
    go_wp2
    go_ret
    exact ⟨by rw [HB.out]; rfl, k1.drewN _⟩
end Go.Proofs.Ythlkammoinokoaa
