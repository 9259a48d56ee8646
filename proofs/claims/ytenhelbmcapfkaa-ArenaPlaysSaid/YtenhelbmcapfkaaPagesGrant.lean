/- Package pages: Grant and Back. -/
import Derived.Test.YtenhelbmcapfkaaPages
namespace Go.Proofs.Ytenhelbmcapfkaa
open Go.RowKit

/-- Behind Grant: the marks, the first page, the error's number. -/
def grantB (xs : List Bool) (n : Int) : List Bool × Int × Int :=
  if n < 1 then (xs, 0, 1) else match findB xs n with
    | none => (xs, 0, 3)
    | some A => (markB xs A n true, A, 0)
/-- Behind Grant: the words. -/
def wipeB (xs : List Bool) (ys : List Int) (n : Int) : List Int := match findB xs n with
    | none => ys
    | some A => flB ys ((A : Int) * 16) (n * 16) 0
/-- Behind Back: the marks, the error's number. -/
def backB (xs : List Bool) (a c : Int) : List Bool × Int :=
  if standB xs.length a c = false then (xs, 8) else if wholeB xs a c true = false then (xs, 2) else (markB xs a c false, 0)
theorem grantB_low {xs : List Bool} {n : Int} (h : n < 1) : grantB xs n = (xs, 0, 1) := by unfold grantB; rw [if_pos h]
theorem grantB_none {xs : List Bool} {n : Int} (h : ¬ n < 1) (hf : findB xs n = none) : grantB xs n = (xs, 0, 3) := by unfold grantB; rw [if_neg h, hf]
theorem grantB_some {xs : List Bool} {n : Int} {A : Nat} (h : ¬ n < 1) (hf : findB xs n = some A) : grantB xs n = (markB xs A n true, (A : Int), 0) := by unfold grantB; rw [if_neg h, hf]
theorem wipeB_none {xs : List Bool} {ys : List Int} {n : Int} (hf : findB xs n = none) : wipeB xs ys n = ys := by unfold wipeB; rw [hf]
theorem wipeB_some {xs : List Bool} {ys : List Int} {n : Int} {A : Nat} (hf : findB xs n = some A) : wipeB xs ys n = flB ys ((A : Int) * 16) (n * 16) 0 := by unfold wipeB; rw [hf]
theorem grantB_length (xs : List Bool) (n : Int) : (grantB xs n).1.length = xs.length := by
  unfold grantB
  split
  · rfl
  · split
    · rfl
    · exact markB_length _ _ _ _
theorem backB_length (xs : List Bool) (a c : Int) : (backB xs a c).1.length = xs.length := by
  unfold backB
  split
  · rfl
  · split
    · rfl
    · exact markB_length _ _ _ _
theorem wipeB_length (xs : List Bool) (ys : List Int) (n : Int) : (wipeB xs ys n).length = ys.length := by
  unfold wipeB
  split
  · rfl
  · exact flB_length _ _ _ _

def GrantPost (p rb rg mb mg : Nat) (xs : List Bool) (ys : List Int) (n : Int) (w : World) (e : Ending) (w' : World) : Prop :=
  e = .returned (.tuple #[.int .i64 (grantB xs n).2.1, .int .i64 (grantB xs n).2.2]) ∧ IsPages w' p rb rg mb mg (grantB xs n).1 (wipeB xs ys n) ∧ Kept [rg, mg] w w'

theorem Kept.left {a b : Nat} {w w' : World} (h : Kept [a] w w') : Kept [a, b] w w' := h.mono (by simp)
theorem Kept.right {a b : Nat} {w w' : World} (h : Kept [b] w w') : Kept [a, b] w w' := h.mono (by simp)

set_option maxRecDepth 100000 in
set_option maxHeartbeats 1000000 in
theorem pagesGrant_any (p rb rg mb mg : Nat) (xs : List Bool) (ys : List Int) (n : Int) (w : World) (h : IsPages w p rb rg mb mg xs ys) (hn : n ≤ 9223372036854775807) :
    Calls Try.prog 61 #[.pointer (some ⟨p, 0, none⟩), .int .i64 n] w (GrantPost p rb rg mb mg xs ys n w) := by
  by_cases h1 : n < 1
  · have HF := Lib.hid (findB_low (xs := xs) h1)
    go_enter Try.func61, Try.ntmps61
    go_wp2
    go_ret2
    exact ⟨by rw [grantB_low h1]; rfl, by rw [grantB_low h1, wipeB_none HF.out]; exact h, Kept.refl _ _⟩
  · have h1' : decide (n < 1) = false := by simpa using h1
    have hc := h.cell0
    have hle := h.le
    go_enter Try.func61, Try.ntmps61
    go_wp2_with fail
    refine (bitsFind_any rb 0 rg xs n w h.row hn).mono ?_
    rintro e w1 ⟨rfl, rfl⟩
    cases hf : findB xs n with
    | none =>
      have HF := Lib.hid hf
      clear hf
      rw [optV_none]
      go_wp2
      go_ret2
      exact ⟨by rw [grantB_none (by omega) HF.out]; rfl, by rw [grantB_none (by omega) HF.out, wipeB_none HF.out]; exact h, Kept.refl _ _⟩
    | some A =>
      obtain ⟨b1, b2, b3⟩ := ((wholeB_iff _ _ _ _).1 ((findB_some (by omega)).1 hf).2.1).1
      have HF := Lib.hid hf
      clear hf
      rw [optV_some]
      have rR := Row.new w 63 [.int .i64 A, .int .i64 n]
      have kW := (Kept.refl [] w).alloc (.cells #[.int .i64 A, .int .i64 n] 63)
      have hP := h.kept kW
      have hlt := h.lt
      have hap := h.apart
      clear hc
      go_wp2_with fail
      generalize w.alloc (.cells #[.int .i64 A, .int .i64 n] 63) = W at rR kW hP ⊢
      have c0 := hP.cell0
      have cR0 : W.cell? ⟨w.heap.size, 0, none⟩ = some (.int .i64 A) := by simpa using rR.cell 0
      have cR1 : W.cell? ⟨w.heap.size, 1, none⟩ = some (.int .i64 n) := by simpa using rR.cell 1
      go_still_tail 6, (by kernel_rfl)
      change wpList _ _ _ _ _ W.drew
      have kD : Kept [] W W.drew := (Kept.refl _ _).drew
      have hD := hP.kept kD
      have rD := rR.kept kD (by simp)
      generalize W.drew = W1 at kD hD rD ⊢
      go_wp2_with fail
      refine (bitsMark_any rb 0 rg xs A n true W1 hD.row (by omega)).mono ?_
      rintro e w2 ⟨rfl, hm2, kw2⟩
      have hP2 := hD.marked hm2 kw2 (markB_length _ _ _ _)
      have rR2 := rD.kept kw2 (by simp; omega)
      have k2 : Kept [rg] w w2 := (kW.trans kD).any.trans kw2
      clear cR0 cR1 c0
      have c1 := hP2.cell1
      have cR0 : w2.cell? ⟨w.heap.size, 0, none⟩ = some (.int .i64 A) := by simpa using rR2.cell 0
      have cR1 : w2.cell? ⟨w.heap.size, 1, none⟩ = some (.int .i64 n) := by simpa using rR2.cell 1
      clear kw2 hm2 rD hD kD kW hP rR
      go_wp2_with fail
      go_still_tail 5, (by kernel_rfl)
      change wpList _ _ _ _ _ w2.drew
      have kD : Kept [] w2 w2.drew := (Kept.refl _ _).drew
      have hD := hP2.kept kD
      generalize w2.drew = W3 at kD hD ⊢
      go_wp2_with fail
      refine (wipe_any mb mg ys A n W3 hD.mem (by omega) (by omega) (by omega) (by omega)).mono ?_
      rintro e w4 ⟨rfl, hm4, kw4⟩
      have hP4 := hD.written hm4 kw4 (flB_length _ _ _ _)
      have k4 : Kept [rg, mg] w w4 := (k2.left.trans kD.any).trans kw4.right
      go_wp2
      go_ret2
      exact ⟨by rw [grantB_some (by omega) HF.out]; rfl, by rw [grantB_some (by omega) HF.out, wipeB_some HF.out]; exact hP4, k4⟩

def BackPost (p rb rg mb mg : Nat) (xs : List Bool) (ys : List Int) (a c : Int) (w : World) (e : Ending) (w' : World) : Prop :=
  e = .returned (.int .i64 (backB xs a c).2) ∧ IsPages w' p rb rg mb mg (backB xs a c).1 ys ∧ Kept [rg] w w'

set_option maxRecDepth 100000 in
set_option maxHeartbeats 1000000 in
theorem pagesBack_any (p rb rg mb mg : Nat) (xs : List Bool) (ys : List Int) (a c : Int) (w : World) (h : IsPages w p rb rg mb mg xs ys) (ha : a ≤ 9223372036854775807) :
    Calls Try.prog 35 #[.pointer (some ⟨p, 0, none⟩), .agg #[.int .i64 a, .int .i64 c]] w (BackPost p rb rg mb mg xs ys a c w) := by
  have hle := h.le
  have rR := Row.new w 63 [.int .i64 a, .int .i64 c]
  have kW := (Kept.refl [] w).alloc (.cells #[.int .i64 a, .int .i64 c] 63)
  have hP := h.kept kW
  have hlt := h.lt
  go_enter Try.func35, Try.ntmps35
  go_wp2_with fail
  generalize w.alloc (.cells #[.int .i64 a, .int .i64 c] 63) = W at rR kW hP ⊢
  have c0 := hP.cell0
  have cR0 : W.cell? ⟨w.heap.size, 0, none⟩ = some (.int .i64 a) := by simpa using rR.cell 0
  have cR1 : W.cell? ⟨w.heap.size, 1, none⟩ = some (.int .i64 c) := by simpa using rR.cell 1
  go_still_tail 5, (by kernel_rfl)
  change wpList _ _ _ _ _ W.drew
  have kD : Kept [] W W.drew := (Kept.refl _ _).drew
  have hD := hP.kept kD
  have rD := rR.kept kD (by simp)
  have k1 := kW.trans kD
  clear c0 cR0 cR1 kW kD hP rR
  generalize W.drew = W1 at k1 hD rD ⊢
  go_wp2_with fail
  refine (stand_any rb rg xs a c W1 hD.row ha).mono ?_
  rintro e w2 ⟨rfl, kw2⟩
  have hP2 := hD.kept kw2
  have rR2 := rD.kept kw2 (by simp)
  have k2 := k1.trans kw2
  clear hD rD k1 kw2
  cases hs : standB xs.length a c with
  | false =>
    have HS := Lib.hid hs
    clear hs
    go_wp2
    go_ret
    exact ⟨by simp [backB, HS.out], by simpa [backB, HS.out] using hP2, k2.any⟩
  | true =>
    have HS := Lib.hid hs
    clear hs
    have c0 := hP2.cell0
    have cR0 : w2.cell? ⟨w.heap.size, 0, none⟩ = some (.int .i64 a) := by simpa using rR2.cell 0
    have cR1 : w2.cell? ⟨w.heap.size, 1, none⟩ = some (.int .i64 c) := by simpa using rR2.cell 1
    go_wp2_with fail
    go_still_tail 6, (by kernel_rfl)
    change wpList _ _ _ _ _ w2.drew
    have kD : Kept [] w2 w2.drew := (Kept.refl _ _).drew
    have hD := hP2.kept kD
    have rD := rR2.kept kD (by simp)
    have k3 := k2.trans kD
    clear c0 cR0 cR1 k2 kD hP2 rR2
    generalize w2.drew = W3 at k3 hD rD ⊢
    go_wp2_with fail
    refine (bitsWhole_any rb 0 rg xs a c true W3 hD.row ha).mono ?_
    rintro e w4 ⟨rfl, kw4⟩
    have hP4 := hD.kept kw4
    have rR4 := rD.kept kw4 (by simp)
    have k4 := k3.trans kw4
    clear hD rD k3 kw4
    cases hv : wholeB xs a c true with
    | false =>
      have HV := Lib.hid hv
      clear hv
      go_wp2
      go_ret
      exact ⟨by simp [backB, HS.out, HV.out], by simpa [backB, HS.out, HV.out] using hP4, k4.any⟩
    | true =>
      have hh : holdsB xs.length a c = true := (holdsB_iff _ _ _).2 ((wholeB_iff _ _ _ _).1 hv).1
      have HH := Lib.hid hh
      have HV := Lib.hid hv
      clear hv hh
      have c0 := hP4.cell0
      have cR0 : w4.cell? ⟨w.heap.size, 0, none⟩ = some (.int .i64 a) := by simpa using rR4.cell 0
      have cR1 : w4.cell? ⟨w.heap.size, 1, none⟩ = some (.int .i64 c) := by simpa using rR4.cell 1
      go_wp2_with fail
      go_still_tail 6, (by kernel_rfl)
      change wpList _ _ _ _ _ w4.drew
      have kD : Kept [] w4 w4.drew := (Kept.refl _ _).drew
      have hD := hP4.kept kD
      have k5 := k4.trans kD
      clear c0 cR0 cR1 k4 kD hP4 rR4
      generalize w4.drew = W5 at k5 hD ⊢
      go_wp2_with fail
      refine (bitsMark_any rb 0 rg xs a c false W5 hD.row ha).mono ?_
      rintro e w6 ⟨rfl, hm6, kw6⟩
      have hP6 := hD.marked hm6 kw6 (markB_length _ _ _ _)
      go_wp2
      go_ret
      exact ⟨by simp [backB, HS.out, HV.out, HH.out, errB], by simpa [backB, HS.out, HV.out] using hP6, k5.any.trans kw6⟩
end Go.Proofs.Ytenhelbmcapfkaa
