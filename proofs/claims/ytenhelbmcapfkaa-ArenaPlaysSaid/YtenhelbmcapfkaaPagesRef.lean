/- Package kraalref03: the document's answers on pages. -/
import Derived.Test.YtenhelbmcapfkaaBitsRef
import Derived.Test.YtenhelbmcapfkaaPagesGrant
namespace Go.Proofs.Ytenhelbmcapfkaa
open Go.RowKit

set_option maxHeartbeats 1000000 in
theorem refNew03_no (n : Int) (w : World) (h : n < 1 ∨ 1024 < n) :
    Calls Try.prog 9 #[.int .i64 n] w (RefPostG Value.bool none 0 [] 1 w) := by
  rcases h with h | h
  · go_enter Try.func9, Try.ntmps9
    go_wp2
    go_ret2
    exact ⟨some ⟨w.heap.size, 0, none⟩, 0, rfl, rfl, .inl rfl, .inr ⟨_, rfl, Nat.le_refl _⟩, (Kept.refl [] w).alloc _⟩
  · have h' : decide (n < 1) = false := by simp; omega
    go_enter Try.func9, Try.ntmps9
    go_wp2
    go_ret2
    exact ⟨some ⟨w.heap.size, 0, none⟩, 0, rfl, rfl, .inl rfl, .inr ⟨_, rfl, Nat.le_refl _⟩, (Kept.refl [] w).alloc _⟩

set_option maxHeartbeats 1000000 in
theorem refNew03_yes (n : Nat) (w : World) (h1 : 1 ≤ n) (h2 : n ≤ 1024) :
    Calls Try.prog 9 #[.int .i64 n] w (RefPostG Value.bool none n (List.replicate n false) 0 w) := by
  have h1' : decide ((n : Int) < 1) = false := by simp; omega
  have h2' : decide ((1024 : Int) < n) = false := by simp; omega
  go_enter Try.func9, Try.ntmps9
  go_wp2_with fail
  refine (refNew02_yes n w (by omega)).mono ?_
  rintro e w1 ⟨A, cp, rfl, hl, hs, hA, kw⟩
  go_wp2
  go_ret2
  exact ⟨A, cp, rfl, hl, hs, hA, kw⟩

/-- What Grant of the document leaves. -/
def RefGrantPost (A : Option Addr) (n : Nat) (xs' : List Bool) (at_ er : Int) (w : World) (e : Ending) (w' : World) : Prop :=
  ∃ A' cap', e = .returned (.tuple #[.slice A' n cap', .int .i64 at_, .int .i64 er]) ∧ xs'.length = n ∧ SlG Value.bool w' A' xs' ∧ (A' = A ∨ ∃ g, A' = some ⟨g, 0, none⟩ ∧ w.heap.size ≤ g) ∧ Kept [] w w'

theorem new_from {A A' : Option Addr} {w w1 : World} (h : A' = A ∨ ∃ g, A' = some ⟨g, 0, none⟩ ∧ w1.heap.size ≤ g) (hz : w.heap.size ≤ w1.heap.size) : A' = A ∨ ∃ g, A' = some ⟨g, 0, none⟩ ∧ w.heap.size ≤ g := by
  rcases h with h | ⟨g, h, hg⟩
  · exact .inl h
  · exact .inr ⟨g, h, by omega⟩

set_option maxHeartbeats 1000000 in
theorem refGrant03 (A : Option Addr) (n cap : Nat) (xs : List Bool) (c : Int) (w : World) (hs : SlG Value.bool w A xs) (hn : xs.length = n) (hx : n ≤ 1024) :
    Calls Try.prog 38 #[.slice A n cap, .int .i64 c] w (RefGrantPost A n (grantB xs c).1 (grantB xs c).2.1 (grantB xs c).2.2 w) := by
  by_cases h1 : c < 1
  · go_enter Try.func38, Try.ntmps38
    go_wp2
    go_ret3
    rw [grantB_low h1]
    exact ⟨A, cap, rfl, hn, hs, .inl rfl, Kept.refl _ _⟩
  · have h1' : decide (c < 1) = false := by simpa using h1
    go_enter Try.func38, Try.ntmps38
    go_wp2_with fail
    refine (refFind02 A n cap xs c w hs hn (by omega)).mono ?_
    rintro e w1 ⟨rfl, kw1⟩
    cases hf : findB xs c with
    | none =>
      have HF := Lib.hid hf
      clear hf
      rw [optV_none]
      go_wp2
      go_ret3
      rw [grantB_none (by omega) HF.out]
      exact ⟨A, cap, rfl, hn, hs.kept kw1, .inl rfl, kw1⟩
    | some B =>
      have HF := Lib.hid hf
      clear hf
      rw [optV_some]
      go_wp2_with fail
      refine (refMark02 A n cap xs B c true w1 (hs.kept kw1) hn (by omega)).mono ?_
      rintro e w2 ⟨A', cap', rfl, hl2, hs2, hA2, kw2⟩
      go_wp2
      go_ret3
      rw [grantB_some (by omega) HF.out]
      exact ⟨A', cap', rfl, hl2, hs2, new_from hA2 kw1.size, kw1.trans kw2⟩

theorem standB_holds (n : Nat) (a c : Int) : standB n a c = (decide (1 ≤ c) && holdsB n a c) := by
  unfold standB holdsB
  rw [← Bool.decide_and]
  exact decide_eq_decide.2 (by omega)

set_option maxHeartbeats 1000000 in
theorem refBack03 (A : Option Addr) (n cap : Nat) (xs : List Bool) (a c : Int) (w : World) (hs : SlG Value.bool w A xs) (hn : xs.length = n) (hx : n ≤ 1024) :
    Calls Try.prog 36 #[.slice A n cap, .agg #[.int .i64 a, .int .i64 c]] w (RefPostG Value.bool A n (backB xs a c).1 (backB xs a c).2 w) := by
  have rR := Row.new w 63 [.int .i64 a, .int .i64 c]
  have kW := (Kept.refl [] w).alloc (.cells #[.int .i64 a, .int .i64 c] 63)
  have HB := Lib.hid (standB_holds n a c)
  by_cases h1 : c < 1
  · go_enter Try.func36, Try.ntmps36
    go_wp2
    go_ret2
    have hb : backB xs a c = (xs, 8) := by unfold backB; rw [hn, HB.out, if_pos (by simp; omega)]
    rw [hb]
    exact ⟨A, cap, rfl, hn, hs.kept kW, .inl rfl, kW⟩
  · have h1' : decide (c < 1) = false := by simpa using h1
    go_enter Try.func36, Try.ntmps36
    go_wp2_with fail
    generalize w.alloc (.cells #[.int .i64 a, .int .i64 c] 63) = W at rR kW ⊢
    refine (refFits02 A n cap a c W (by omega)).mono ?_
    rintro e W1 ⟨rfl, k1⟩
    have rR1 := rR.kept k1 (by simp)
    have kW1 := kW.trans k1
    have hs1 := hs.kept kW1
    have cR0 : W1.cell? ⟨w.heap.size, 0, none⟩ = some (.int .i64 a) := by simpa using rR1.cell 0
    have cR1 : W1.cell? ⟨w.heap.size, 1, none⟩ = some (.int .i64 c) := by simpa using rR1.cell 1
    cases hh : holdsB n a c with
    | false =>
      have HH := Lib.hid hh
      clear hh
      go_wp2
      go_ret2
      have hb : backB xs a c = (xs, 8) := by unfold backB; rw [hn, HB.out, if_pos (by rw [HH.out]; simp)]
      rw [hb]
      exact ⟨A, cap, rfl, hn, hs1, .inl rfl, kW1⟩
    | true =>
      have HH := Lib.hid hh
      clear hh
      have HST : Hid (standB n a c = true) := by unfold Hid; rw [HB.out, HH.out]; simp; omega
      go_wp2_with fail
      refine (refWhole02 A n cap xs a c true W1 hs1 hn (by omega)).mono ?_
      rintro e W2 ⟨rfl, k2⟩
      have rR2 := rR1.kept k2 (by simp)
      have kW2 := kW1.trans k2
      have hs2 := hs1.kept k2
      clear cR0 cR1
      have cR0 : W2.cell? ⟨w.heap.size, 0, none⟩ = some (.int .i64 a) := by simpa using rR2.cell 0
      have cR1 : W2.cell? ⟨w.heap.size, 1, none⟩ = some (.int .i64 c) := by simpa using rR2.cell 1
      cases hv : wholeB xs a c true with
      | false =>
        have HV := Lib.hid hv
        clear hv
        go_wp2
        go_ret2
        have hb : backB xs a c = (xs, 2) := by unfold backB; rw [hn, HST.out, HV.out]; simp
        rw [hb]
        exact ⟨A, cap, rfl, hn, hs2, .inl rfl, kW2⟩
      | true =>
        have HV := Lib.hid hv
        clear hv
        go_wp2_with fail
        refine (refMark02 A n cap xs a c false W2 hs2 hn (by omega)).mono ?_
        rintro e W3 ⟨A', cap', rfl, hl3, hs3, hA3, k3⟩
        go_wp2
        go_ret2
        have hb : backB xs a c = (markB xs a c false, 0) := by unfold backB; rw [hn, HST.out, HV.out]; simp
        rw [hb]
        exact ⟨A', cap', rfl, hl3, hs3, new_from hA3 kW2.size, kW2.trans k3⟩
end Go.Proofs.Ytenhelbmcapfkaa
