/- Package globals: what each call answers and what becomes of memory. -/
import Derived.Test.YtploelfgmlpdeaaProg
import Derived.Test.YtploelfgmlpdeaaKept
import Derived.Test.YtploelfgmlpdeaaNum
import Derived.Test.YtploelfgmlpdeaaAppend
import Derived.WalkSpells
import Derived.Deep.QuietTactic
import Derived.BigQuiet
import Derived.OwnWalk
namespace Go.Proofs.Ytploelfgmlpdeaa
open Go.RowKit

/-- The slots that begin at block b: what is in them, in block g, is xs. -/
def IsSlots (w : World) (b g : Nat) (xs : List Int) : Prop :=
  Row w b 47 [.slice (some ⟨g, 0, none⟩) xs.length xs.length] ∧ Row w g 23 (xs.map (Value.int .u64)) ∧ xs.length ≤ 64
/-- Is there a slot i among n? -/
def slotB (n i : Nat) : Bool := decide (i < n)

theorem IsSlots.ne {w : World} {b g : Nat} {xs : List Int} (h : IsSlots w b g xs) : b ≠ g := by
  intro e; subst e
  have := h.1.type h.2.1
  simp at this
theorem IsSlots.set {w : World} {b g : Nat} {xs : List Int} (h : IsSlots w b g xs) (j : Nat) (v : Int) : IsSlots (w.setCell ⟨g, j, none⟩ (.int .u64 v)) b g (xs.set j v) := by
  refine ⟨?_, ?_, by simpa using h.2.2⟩
  · have := h.1.other ⟨g, j, none⟩ (.int .u64 v) h.ne
    simpa using this
  · have := h.2.1.set j (.int .u64 v)
    rwa [← List.map_set] at this
theorem IsSlots.kept {w w' : World} {b g : Nat} {xs : List Int} {S : List Nat} (h : IsSlots w b g xs) (hk : Kept S w w') (hb : b ∉ S) (hg : g ∉ S) : IsSlots w' b g xs :=
  ⟨h.1.kept hk hb, h.2.1.kept hk hg, h.2.2⟩
theorem IsSlots.cellB {w : World} {b g : Nat} {xs : List Int} (h : IsSlots w b g xs) : w.cell? ⟨b, 0, none⟩ = some (.slice (some ⟨g, 0, none⟩) xs.length xs.length) := by
  have hc := h.1.cell 0
  simpa using hc
theorem IsSlots.cellG {w : World} {b g : Nat} {xs : List Int} (h : IsSlots w b g xs) (j : Nat) (hj : j < xs.length) : w.cell? ⟨g, j, none⟩ = some (.int .u64 (xs[j]?.getD 0)) := by
  have hc := h.2.1.cell j
  rw [hc]; simp [hj]

set_option maxRecDepth 100000 in
set_option maxHeartbeats 400000 in
theorem slotHas_any (b g : Nat) (xs : List Int) (i : Nat) (w : World) (hm : IsSlots w b g xs) :
    Calls Try.prog 15 #[.pointer (some ⟨b, 0, none⟩), .int .u64 i] w fun e w' => e = .returned (.bool (slotB xs.length i)) ∧ w = w' := by
  have hc := hm.cellB
  have hl := hm.2.2
  have hwl : IntKind.u64.wrap (xs.length : Int) = (xs.length : Int) := by rw [IntKind.wrap_u64]; omega
  go_enter Try.func15, Try.ntmps15
  go_wp2
  go_ret
  exact ⟨by simp [slotB], rfl⟩

theorem Try.infoU23 : (Try.prog.info? 23).map (fun i => (i.zero, i.size, i.bytes)) = some (some (.int .u64 0), 1, 8) := by kernel_rfl

set_option maxRecDepth 100000 in
set_option maxHeartbeats 400000 in
theorem slotsNew_no (n : Int) (w : World) (h : n < 0 ∨ 64 < n) :
    Calls Try.prog 6 #[.int .i64 n] w fun e w' => e = .returned (.tuple #[.pointer none, .int .i64 1]) ∧ w = w' := by
  rcases h with h | h
  · go_enter Try.func6, Try.ntmps6
    go_wp2
    go_ret2
    exact ⟨rfl, rfl⟩
  · have h' : decide (n < 0) = false := by simp; omega
    go_enter Try.func6, Try.ntmps6
    go_wp2
    go_ret2
    exact ⟨rfl, rfl⟩

/-- What New leaves: slots in new blocks. -/
def NewSlots (w : World) (xs : List Int) (e : Ending) (w' : World) : Prop :=
  ∃ b g, e = .returned (.tuple #[.pointer (some ⟨b, 0, none⟩), .int .i64 0]) ∧ w.heap.size ≤ b ∧ w.heap.size ≤ g ∧ IsSlots w' b g xs ∧ Kept [] w w'

set_option maxRecDepth 100000 in
set_option maxHeartbeats 400000 in
theorem slotsNew_yes (n : Nat) (w : World) (h : n ≤ 64) :
    Calls Try.prog 6 #[.int .i64 n] w (NewSlots w (List.replicate n 0)) := by
  obtain ⟨i0, hi, hz0, hz1, hz2⟩ := info_parts Try.infoU23
  have h' : decide ((n : Int) < 0) = false := by simp
  have h2 : decide ((64 : Int) < n) = false := by simp; omega
  go_enter Try.func6, Try.ntmps6
  go_wp2_with (refine wpList_make_row _ rfl _ _ 29 rfl 23 i0 (.int .u64 0) Try.underlying29 hi hz0 hz1 rfl .i64 .i64 n n n rfl rfl rfl rfl (by rw [hz2]; omega) (by unfold maxLen; omega) ?_; intro w1 hr hk hs)
  go_ret2
  refine ⟨w.heap.size + 1, w.heap.size, rfl, by omega, Nat.le_refl _, ⟨?_, ?_, by simpa using h⟩, hk.alloc _⟩
  · have := Row.new w1 47 [.slice (some ⟨w.heap.size, 0, none⟩) n n]
    rw [hs] at this
    simpa using this
  · have := hr.alloc (.cells #[.slice (some ⟨w.heap.size, 0, none⟩) n n] 47)
    rwa [zeros_ints] at this

set_option maxRecDepth 100000 in
set_option maxHeartbeats 400000 in
theorem slotsLen_any (b g : Nat) (xs : List Int) (w : World) (hm : IsSlots w b g xs) :
    Calls Try.prog 12 #[.pointer (some ⟨b, 0, none⟩)] w fun e w' => e = .returned (.int .i64 xs.length) ∧ w = w' := by
  have hc := hm.cellB
  go_enter Try.func12, Try.ntmps12
  go_wp2
  go_ret
  exact ⟨rfl, rfl⟩

set_option maxRecDepth 100000 in
set_option maxHeartbeats 400000 in
theorem slotsGet_any (b g : Nat) (xs : List Int) (i : Nat) (w : World) (hm : IsSlots w b g xs) :
    Calls Try.prog 13 #[.pointer (some ⟨b, 0, none⟩), .int .u64 i] w fun e w' =>
      e = .returned (.tuple #[.int .u64 (xs[i]?.getD 0), .int .i64 (errB (slotB xs.length i))]) ∧ w = w' := by
  have hc := hm.cellB
  cases hh : slotB xs.length i with
  | true =>
    have hn : i < xs.length := by simpa [slotB] using hh
    have hg := hm.cellG i hn
    generalize xs[i]?.getD 0 = y at hg ⊢
    have H := Lib.hid hh
    clear hh
    go_enter Try.func13, Try.ntmps13
    go_wp2_with (go_at_call 15; ((with_reducible refine (slotHas_any b g xs i _ hm).mono ?_); rintro e w' ⟨rfl, rfl⟩; rw [H.out]))
    go_ret2
    exact ⟨rfl, rfl⟩
  | false =>
    have hn : xs.length ≤ i := by simpa [slotB] using hh
    have hv : xs[i]?.getD 0 = 0 := by rw [List.getElem?_eq_none hn]; rfl
    have H := Lib.hid hh
    have HV := Lib.hid hv
    clear hh hv
    go_enter Try.func13, Try.ntmps13
    go_wp2_with (go_at_call 15; ((with_reducible refine (slotHas_any b g xs i _ hm).mono ?_); rintro e w' ⟨rfl, rfl⟩; rw [H.out]))
    go_ret2
    exact ⟨by rw [HV.out]; rfl, rfl⟩

set_option maxRecDepth 100000 in
set_option maxHeartbeats 400000 in
theorem slotsSet_any (b g : Nat) (xs : List Int) (i : Nat) (v : Int) (w : World) (hm : IsSlots w b g xs) :
    Calls Try.prog 8 #[.pointer (some ⟨b, 0, none⟩), .int .u64 i, .int .u64 v] w fun e w' =>
      e = .returned (.tuple #[.int .u64 (xs[i]?.getD 0), .int .i64 (errB (slotB xs.length i))]) ∧ IsSlots w' b g (xs.set i v) ∧ Kept [g] w w' := by
  have hc := hm.cellB
  cases hh : slotB xs.length i with
  | true =>
    have hn : i < xs.length := by simpa [slotB] using hh
    have hg := hm.cellG i hn
    generalize xs[i]?.getD 0 = y at hg ⊢
    have hf := hm.2.1.free i
    have H := Lib.hid hh
    have HS := Lib.hid (hm.set i v)
    clear hh
    go_enter Try.func8, Try.ntmps8
    go_wp2_with (go_at_call 15; ((with_reducible refine (slotHas_any b g xs i _ hm).mono ?_); rintro e w' ⟨rfl, rfl⟩; rw [H.out]))
    go_ret2
    exact ⟨rfl, HS.out, (Kept.refl _ _).set (.inl (by simp)) _⟩
  | false =>
    have hn : xs.length ≤ i := by simpa [slotB] using hh
    have hv : xs[i]?.getD 0 = 0 := by rw [List.getElem?_eq_none hn]; rfl
    have hs : xs.set i v = xs := List.set_eq_of_length_le hn
    have H := Lib.hid hh
    have HV := Lib.hid hv
    have HS := Lib.hid hs
    clear hh hv hs
    go_enter Try.func8, Try.ntmps8
    go_wp2_with (go_at_call 15; ((with_reducible refine (slotHas_any b g xs i _ hm).mono ?_); rintro e w' ⟨rfl, rfl⟩; rw [H.out]))
    go_ret2
    exact ⟨by rw [HV.out]; rfl, by rw [HS.out]; exact hm, Kept.refl _ _⟩

/-- What a copy leaves: a row of its own that holds the same. -/
def OwnPost (n : Nat) (xs : List Int) (w : World) (e : Ending) (w' : World) : Prop :=
  ∃ r cap, e = .returned (.slice (some ⟨r, 0, none⟩) n cap) ∧ w'.ownsRow w.heap.size 23 1 (.slice (some ⟨r, 0, none⟩) n cap) n (xs.map (Value.int .u64)) ∧ Kept [] w w'

set_option maxRecDepth 100000 in
set_option maxHeartbeats 400000 in
theorem told_any (A : Option Addr) (cap n : Nat) (xs : List Int) (w : World) (hs : Sl w .u64 A xs) (hn : xs.length = n) (hx : n ≤ 16384) :
    Calls Try.prog 16 #[.slice A n cap] w (OwnPost n xs w) := by
  subst hn
  obtain ⟨i0, hi, hz0, hz1, hz2⟩ := info_parts Try.infoU23
  have own0 := own_empty w 23 1 w.heap.size (Nat.le_refl _)
  have k0 := (Kept.refl [] w).alloc (.cells #[] 23)
  have s0 := (hs.kept k0).toV
  go_enter Try.func16, Try.ntmps16
  go_wp2_with (at_builtin; refine wpList_append_on _ rfl _ _ 29 rfl w.heap.size 23 i0 (.int .u64 0) 1 8 Try.underlying29 hi hz0 hz1 hz2 rfl (by omega) w.heap.size 0 0 [] rfl own0 A xs.length cap _ rfl s0 int_oneCell (by unfold maxLen; omega) (by omega) (by simp) ?_; intro g' cap' w1 hown hk _; rw [Nat.zero_add, List.nil_append] at hown; rw [Nat.zero_add])
  go_ret
  exact ⟨g', cap', rfl, hown, k0.chain hk (by simp) (by simp)⟩

set_option maxRecDepth 100000 in
set_option maxHeartbeats 400000 in
theorem slotsAll_any (b g : Nat) (xs : List Int) (w : World) (hm : IsSlots w b g xs) :
    Calls Try.prog 10 #[.pointer (some ⟨b, 0, none⟩)] w (OwnPost xs.length xs w) := by
  have hc := hm.cellB
  go_enter Try.func10, Try.ntmps10
  go_wp2_with fail
  refine (told_any _ _ _ xs w (Sl.of_row hm.2.1) rfl (by have := hm.2.2; omega)).mono ?_
  rintro e w1 ⟨r, cap, rfl, hown, hk⟩
  go_wp2
  go_ret
  exact ⟨r, cap, rfl, hown, hk⟩
end Go.Proofs.Ytploelfgmlpdeaa
