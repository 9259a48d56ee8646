/- Package pages: New, Mem, Len, Free, Granted, Fits, stand, wipe. -/
import Derived.Test.YtenhelbmcapfkaaFill
import Derived.Test.YtenhelbmcapfkaaBitsFind
import Derived.Test.YtenhelbmcapfkaaQuiet
import Derived.StillTailTactics
namespace Go.Proofs.Ytenhelbmcapfkaa
open Go.RowKit

/-- The pages in block p: their marks xs (in rg, by rb), their words ys (in mg, by mb). -/
structure IsPages (w : World) (p rb rg mb mg : Nat) (xs : List Bool) (ys : List Int) : Prop where
  box : Row w p 77 [.pointer (some ⟨rb, 0, none⟩), .pointer (some ⟨mb, 0, none⟩)]
  row : IsRow w rb 0 rg xs
  mem : IsMem w mb mg ys
  len : ys.length = 16 * xs.length
  le : xs.length ≤ 1024
  apart : p ≠ rg ∧ p ≠ mg ∧ rb ≠ mg ∧ mb ≠ rg ∧ rg ≠ mg
section
variable {w w' : World} {p rb rg mb mg : Nat} {xs : List Bool} {ys : List Int}
theorem IsPages.cell0 (h : IsPages w p rb rg mb mg xs ys) : w.cell? ⟨p, 0, none⟩ = some (.pointer (some ⟨rb, 0, none⟩)) := by simpa using h.box.cell 0
theorem IsPages.cell1 (h : IsPages w p rb rg mb mg xs ys) : w.cell? ⟨p, 1, none⟩ = some (.pointer (some ⟨mb, 0, none⟩)) := by simpa using h.box.cell 1
theorem IsPages.keptS {S : List Nat} (h : IsPages w p rb rg mb mg xs ys) (hk : Kept S w w') (hp : p ∉ S) (h1 : rb ∉ S) (h2 : rg ∉ S) (h3 : mb ∉ S) (h4 : mg ∉ S) : IsPages w' p rb rg mb mg xs ys :=
  ⟨h.box.kept hk hp, h.row.kept hk h1 h2, h.mem.kept hk h3 h4, h.len, h.le, h.apart⟩
theorem IsPages.kept (h : IsPages w p rb rg mb mg xs ys) (hk : Kept [] w w') : IsPages w' p rb rg mb mg xs ys :=
  h.keptS hk (by simp) (by simp) (by simp) (by simp) (by simp)
theorem IsPages.lt (h : IsPages w p rb rg mb mg xs ys) : p < w.heap.size ∧ rb < w.heap.size ∧ rg < w.heap.size ∧ mb < w.heap.size ∧ mg < w.heap.size :=
  ⟨h.box.lt, h.row.ltB, h.row.ltG, h.mem.1.lt, h.mem.2.1.lt⟩
theorem IsPages.drewN (h : IsPages w p rb rg mb mg xs ys) (n : Nat) : IsPages (w.drewN n) p rb rg mb mg xs ys := h.kept ((Kept.refl [] w).drewN n)
/-- Other marks. -/
theorem IsPages.marked {xs' : List Bool} (h : IsPages w p rb rg mb mg xs ys) (hr : IsRow w' rb 0 rg xs') (hk : Kept [rg] w w') (hl : xs'.length = xs.length) : IsPages w' p rb rg mb mg xs' ys :=
  have a := h.apart
  ⟨h.box.kept hk (by simpa using a.1), hr, h.mem.kept hk (by simpa using a.2.2.2.1) (by simpa using fun e => a.2.2.2.2 e.symm), by rw [hl]; exact h.len, by rw [hl]; exact h.le, a⟩
/-- Other words. -/
theorem IsPages.written {ys' : List Int} (h : IsPages w p rb rg mb mg xs ys) (hr : IsMem w' mb mg ys') (hk : Kept [mg] w w') (hl : ys'.length = ys.length) : IsPages w' p rb rg mb mg xs ys' :=
  have a := h.apart
  ⟨h.box.kept hk (by simpa using a.2.1), h.row.kept hk (by simpa using a.2.2.1) (by simpa using a.2.2.2.2), hr, hl.trans h.len, h.le, a⟩
end
theorem IsRow.drewN {w : World} {b o g : Nat} {xs : List Bool} (h : IsRow w b o g xs) (n : Nat) : IsRow (w.drewN n) b o g xs := h.kept ((Kept.refl [] w).drewN n) (by simp) (by simp)

/-- What New leaves: pages in new blocks. -/
def NewPages (w : World) (n : Nat) (e : Ending) (w' : World) : Prop :=
  ∃ p rb rg mb mg, e = .returned (.tuple #[.pointer (some ⟨p, 0, none⟩), .int .i64 0]) ∧ (w.heap.size ≤ p ∧ w.heap.size ≤ rb ∧ w.heap.size ≤ rg ∧ w.heap.size ≤ mb ∧ w.heap.size ≤ mg) ∧
    IsPages w' p rb rg mb mg (List.replicate n false) (List.replicate (16 * n) 0) ∧ Kept [] w w'

set_option maxHeartbeats 400000 in
theorem pagesNew_no (n : Int) (w : World) (h : n < 1 ∨ 1024 < n) :
    Calls Try.prog 8 #[.int .i64 n] w fun e w' => e = .returned (.tuple #[.pointer none, .int .i64 1]) ∧ w = w' := by
  rcases h with h | h
  · go_enter Try.func8, Try.ntmps8
    go_wp2
    go_ret2
    exact ⟨rfl, rfl⟩
  · have h' : decide (n < 1) = false := by simp; omega
    go_enter Try.func8, Try.ntmps8
    go_wp2
    go_ret2
    exact ⟨rfl, rfl⟩

set_option maxHeartbeats 1000000 in
theorem pagesNew_yes (n : Nat) (w : World) (h1 : 1 ≤ n) (h2 : n ≤ 1024) :
    Calls Try.prog 8 #[.int .i64 n] w (NewPages w n) := by
  have h1' : decide ((n : Int) < 1) = false := by simp; omega
  have h2' : decide ((1024 : Int) < n) = false := by simp; omega
  go_enter Try.func8, Try.ntmps8
  go_wp2_with fail
  refine (bitsNew_yes n w (by omega)).mono ?_
  rintro e w1 ⟨rb, rg, rfl, hrb, hrg, hm1, kw1⟩
  go_wp2_with fail
  rw [show ((n : Int) * 16) = ((16 * n : Nat) : Int) from by omega]
  refine (new_yes (16 * n) w1 (by omega)).mono ?_
  rintro e w2 ⟨mb, mg, rfl, hmb, hmg, hm2, kw2⟩
  go_wp2
  go_ret2
  have hk := kw2.alloc (.cells #[.pointer (some ⟨rb, 0, none⟩), .pointer (some ⟨mb, 0, none⟩)] 77)
  have l1 := hm1.ltB
  have l2 := hm1.ltG
  have l3 := hm2.1.lt
  have l4 := hm2.2.1.lt
  have z1 := kw1.size
  have z2 := kw2.size
  exact ⟨w2.heap.size, rb, rg, mb, mg, rfl, by omega, ⟨Row.new w2 _ _, hm1.kept hk (by simp) (by simp), hm2.kept ((Kept.refl [] w2).alloc _) (by simp) (by simp), by simp, by simpa using h2, by omega⟩, kw1.trans hk⟩

set_option maxHeartbeats 400000 in
theorem pagesMem_any (p rb rg mb mg : Nat) (xs : List Bool) (ys : List Int) (w : World) (h : IsPages w p rb rg mb mg xs ys) :
    Calls Try.prog 25 #[.pointer (some ⟨p, 0, none⟩)] w fun e w' => e = .returned (.pointer (some ⟨mb, 0, none⟩)) ∧ w = w' := by
  have hc := h.cell1
  go_enter Try.func25, Try.ntmps25
  go_wp2
  go_ret
  exact ⟨rfl, rfl⟩

set_option maxHeartbeats 400000 in
theorem pagesLen_any (p rb rg mb mg : Nat) (xs : List Bool) (ys : List Int) (w : World) (h : IsPages w p rb rg mb mg xs ys) :
    Calls Try.prog 28 #[.pointer (some ⟨p, 0, none⟩)] w fun e w' => e = .returned (.int .i64 xs.length) ∧ w = w' := by
  have hc := h.cell0
  go_enter Try.func28, Try.ntmps28
  go_wp2_with fail
  refine (bitsLen_any rb 0 rg xs w h.row).mono ?_
  rintro e w1 ⟨rfl, rfl⟩
  go_wp2
  go_ret
  exact ⟨rfl, rfl⟩

set_option maxHeartbeats 400000 in
theorem pagesFits_any (p rb rg mb mg : Nat) (xs : List Bool) (ys : List Int) (n : Int) (w : World) (h : IsPages w p rb rg mb mg xs ys) (hn : n ≤ 9223372036854775807) :
    Calls Try.prog 41 #[.pointer (some ⟨p, 0, none⟩), .int .i64 n] w fun e w' => e = .returned (.bool (findB xs n).isSome) ∧ w = w' := by
  have hc := h.cell0
  go_enter Try.func41, Try.ntmps41
  go_wp2_with fail
  refine (bitsFind_any rb 0 rg xs n w h.row hn).mono ?_
  rintro e w1 ⟨rfl, rfl⟩
  unfold optV
  go_wp2
  go_ret
  exact ⟨rfl, rfl⟩

def FreePost (xs : List Bool) (w : World) (e : Ending) (w' : World) : Prop := e = .returned (.int .i64 ((xs.length : Int) - (countB xs : Nat))) ∧ Kept [] w w'

set_option maxRecDepth 100000 in
set_option maxHeartbeats 1000000 in
theorem pagesFree_any (p rb rg mb mg : Nat) (xs : List Bool) (ys : List Int) (w : World) (h : IsPages w p rb rg mb mg xs ys) :
    Calls Try.prog 16 #[.pointer (some ⟨p, 0, none⟩)] w (FreePost xs w) := by
  have hc := h.cell0
  have hx := h.le
  have hcl := countB_le xs
  have hr := h.row
  go_enter Try.func16, Try.ntmps16
  go_wp2_with fail
  go_quiet (first
    | (go_at_call 44; refine quiet_same (bitsLen_any rb 0 rg xs _ (hr.drewN _)))
    | (go_at_call 45; refine quiet_same (bitsCount_any rb 0 rg xs _ (hr.drewN _))))
  go_wp2
  go_ret
  exact ⟨rfl, (Kept.refl [] w).drewN _⟩

/-- Do c pages, at least one, from a on all stand among n? -/
def standB (n : Nat) (a c : Int) : Bool := decide (0 ≤ a ∧ 1 ≤ c ∧ c ≤ (n : Int) - a)
def StandPost (n : Nat) (a c : Int) (w : World) (e : Ending) (w' : World) : Prop := e = .returned (.bool (standB n a c)) ∧ Kept [] w w'

set_option maxRecDepth 100000 in
set_option maxHeartbeats 1000000 in
theorem stand_any (rb rg : Nat) (xs : List Bool) (a c : Int) (w : World) (hm : IsRow w rb 0 rg xs) (ha : a ≤ 9223372036854775807) :
    Calls Try.prog 52 #[.agg #[.pointer (some ⟨rb, 0, none⟩)], .agg #[.int .i64 a, .int .i64 c]] w (StandPost xs.length a c w) := by
  have hx := hm.len
  have kW : Kept [] w _ := ((Kept.refl [] w).alloc (.cells #[.pointer (some ⟨rb, 0, none⟩)] 73)).alloc (.cells #[.int .i64 a, .int .i64 c] 63)
  have hM := hm.kept kW (by simp) (by simp)
  have rM := (Row.new w 73 [.pointer (some ⟨rb, 0, none⟩)]).alloc (.cells #[.int .i64 a, .int .i64 c] 63)
  have rR := Row.new (w.alloc (.cells #[.pointer (some ⟨rb, 0, none⟩)] 73)) 63 [.int .i64 a, .int .i64 c]
  simp only [World.size_alloc] at rR
  go_enter Try.func52, Try.ntmps52
  go_wp2_with fail
  generalize (w.alloc (.cells #[.pointer (some ⟨rb, 0, none⟩)] 73)).alloc (.cells #[.int .i64 a, .int .i64 c] 63) = W at kW hM rM rR ⊢
  have cM : W.cell? ⟨w.heap.size, 0, none⟩ = some (.pointer (some ⟨rb, 0, none⟩)) := by simpa using rM.cell 0
  have cR0 : W.cell? ⟨w.heap.size + 1, 0, none⟩ = some (.int .i64 a) := by simpa using rR.cell 0
  have cR1 : W.cell? ⟨w.heap.size + 1, 1, none⟩ = some (.int .i64 c) := by simpa using rR.cell 1
  by_cases h0 : 0 ≤ a
  · by_cases h1 : 1 ≤ c
    · go_quiet (first | (go_at_call 44; refine quiet_same (bitsLen_any rb 0 rg xs _ (hM.drewN _))))
      go_wp2
      go_ret
      exact ⟨by simp [standB, h0, h1], kW.drewN _⟩
    · have h1' : decide (1 ≤ c) = false := by simpa using h1
      go_quiet (fail)
      go_wp2
      go_ret
      exact ⟨by simp [standB]; omega, kW.drewN _⟩
  · have h0' : decide (0 ≤ a) = false := by simpa using h0
    go_quiet (fail)
    go_wp2
    go_ret
    exact ⟨by simp [standB]; omega, kW.drewN _⟩

def WipePost (mb mg : Nat) (ys : List Int) (a c : Int) (w : World) (e : Ending) (w' : World) : Prop := e = .returned (.tuple #[]) ∧ IsMem w' mb mg (flB ys (a * 16) (c * 16) 0) ∧ Kept [mg] w w'

set_option maxHeartbeats 1000000 in
theorem wipe_any (mb mg : Nat) (ys : List Int) (a c : Int) (w : World) (hm : IsMem w mb mg ys) (ha0 : 0 ≤ a) (ha : a ≤ 1024) (hc0 : 0 ≤ c) (hc : c ≤ 1024) :
    Calls Try.prog 66 #[.agg #[.pointer (some ⟨mb, 0, none⟩)], .agg #[.int .i64 a, .int .i64 c]] w (WipePost mb mg ys a c w) := by
  have kW : Kept [] w _ := ((Kept.refl [] w).alloc (.cells #[.pointer (some ⟨mb, 0, none⟩)] 75)).alloc (.cells #[.int .i64 a, .int .i64 c] 63)
  have hM := hm.kept kW (by simp) (by simp)
  go_enter Try.func66, Try.ntmps66
  go_wp2_with fail
  generalize (w.alloc (.cells #[.pointer (some ⟨mb, 0, none⟩)] 75)).alloc (.cells #[.int .i64 a, .int .i64 c] 63) = W at kW hM ⊢
  refine (fill_any mb mg ys (a * 16) (c * 16) 0 W hM (by omega)).mono ?_
  rintro e w1 ⟨rfl, hm1, kw1⟩
  go_wp2
  go_end0
  exact ⟨rfl, hm1, kW.any.trans kw1⟩
end Go.Proofs.Ytenhelbmcapfkaa
