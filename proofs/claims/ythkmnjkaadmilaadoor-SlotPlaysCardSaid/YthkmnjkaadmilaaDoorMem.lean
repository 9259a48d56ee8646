/- Package words: what each call answers and what becomes of memory. -/
import Derived.Test.YthkmnjkaadmilaaDoorProg
import Derived.Test.YthkmnjkaadmilaaDoorKept
import Derived.Test.YthkmnjkaadmilaaDoorNum
import Derived.WalkSpells
import Derived.Deep.QuietTactic
import Derived.BigQuiet
import Derived.OwnWalk
namespace Go.Proofs.YthkmnjkaadmilaaDoor
open Go.RowKit

/-- The memory that begins at block b: its words, in block g, are xs. -/
def IsMem (w : World) (b g : Nat) (xs : List Int) : Prop :=
  Row w b 62 [.slice (some ⟨g, 0, none⟩) xs.length xs.length] ∧ Row w g 28 (xs.map (Value.int .u64)) ∧ xs.length ≤ 16384

/-- Is there such a word? -/
def hasB (n : Nat) (at_ : Int) : Bool := decide (0 ≤ at_ ∧ at_ < (n : Int))

set_option maxHeartbeats 400000 in
theorem has_any (b g : Nat) (xs : List Int) (at_ : Int) (w : World) (hm : IsMem w b g xs) :
    Calls Tryd.prog 27 #[.pointer (some ⟨b, 0, none⟩), .int .i64 at_] w fun e w' => e = .returned (.bool (hasB xs.length at_)) ∧ w = w' := by
  have hc := hm.1.cell 0
  simp only [List.getElem?_cons_zero] at hc
  by_cases h0 : 0 ≤ at_
  · go_enter Tryd.func27, Tryd.ntmps27
    go_wp2
    go_ret
    exact ⟨by simp [hasB, h0], rfl⟩
  · have h1 : decide (0 ≤ at_) = false := by simpa using h0
    go_enter Tryd.func27, Tryd.ntmps27
    go_wp2
    go_ret
    exact ⟨by simp [hasB]; omega, rfl⟩

/-- The words with v written at at_. -/
def wrB (xs : List Int) (at_ v : Int) : List Int := if hasB xs.length at_ then xs.set at_.toNat v else xs
theorem wrB_length (xs : List Int) (at_ v : Int) : (wrB xs at_ v).length = xs.length := by unfold wrB; split <;> simp

theorem IsMem.ne {w : World} {b g : Nat} {xs : List Int} (h : IsMem w b g xs) : b ≠ g := by
  intro e; subst e
  have := h.1.type h.2.1
  simp at this
theorem IsMem.set {w : World} {b g : Nat} {xs : List Int} (h : IsMem w b g xs) (j : Nat) (v : Int) : IsMem (w.setCell ⟨g, j, none⟩ (.int .u64 v)) b g (xs.set j v) := by
  refine ⟨?_, ?_, by simpa using h.2.2⟩
  · have := h.1.other ⟨g, j, none⟩ (.int .u64 v) h.ne
    simpa using this
  · have := h.2.1.set j (.int .u64 v)
    rwa [← List.map_set] at this
theorem IsMem.kept {w w' : World} {b g : Nat} {xs : List Int} {S : List Nat} (h : IsMem w b g xs) (hk : Kept S w w') (hb : b ∉ S) (hg : g ∉ S) : IsMem w' b g xs :=
  ⟨h.1.kept hk hb, h.2.1.kept hk hg, h.2.2⟩
theorem IsMem.putD {w : World} {b g D : Nat} {xs : List Int} {ds : Option (List Deferred)} (h : IsMem w b g xs) (hK : w.heap[D]? = some (.deferred ds)) (o : Obj) : IsMem (w.putObj D o) b g xs :=
  ⟨h.1.putD hK o, h.2.1.putD hK o, h.2.2⟩
theorem IsMem.cellB {w : World} {b g : Nat} {xs : List Int} (h : IsMem w b g xs) : w.cell? ⟨b, 0, none⟩ = some (.slice (some ⟨g, 0, none⟩) xs.length xs.length) := by
  have hc := h.1.cell 0
  simpa using hc
theorem IsMem.cellG {w : World} {b g : Nat} {xs : List Int} (h : IsMem w b g xs) (j : Nat) (hj : j < xs.length) : w.cell? ⟨g, j, none⟩ = some (.int .u64 (xs[j]?.getD 0)) := by
  have hc := h.2.1.cell j
  rw [hc]; simp [hj]

set_option maxHeartbeats 400000 in
theorem write_any (b g : Nat) (xs : List Int) (at_ v : Int) (w : World) (hm : IsMem w b g xs) :
    Calls Tryd.prog 19 #[.pointer (some ⟨b, 0, none⟩), .int .i64 at_, .int .u64 v] w fun e w' =>
      e = .returned (.int .i64 (errB (hasB xs.length at_))) ∧ IsMem w' b g (wrB xs at_ v) ∧ Kept [g] w w' := by
  have hc := hm.cellB
  cases hh : hasB xs.length at_ with
  | true =>
    have hd : 0 ≤ at_ ∧ at_ < (xs.length : Int) := by simpa [hasB] using hh
    obtain ⟨n, rfl⟩ := Int.eq_ofNat_of_zero_le hd.1
    have hn : n < xs.length := by omega
    have hg := hm.cellG n hn
    have hf := hm.2.1.free n
    have H := Lib.hid hh
    clear hh hd
    go_enter Tryd.func19, Tryd.ntmps19
    go_wp2_with (go_at_call 27; ((with_reducible refine (has_any b g xs _ _ hm).mono ?_); rintro e w' ⟨rfl, rfl⟩; rw [H.out]))
    go_ret
    refine ⟨rfl, ?_, ?_⟩
    · have := hm.set n v
      simpa [wrB, H.out] using this
    · exact (Kept.refl _ _).set (.inl (by simp)) _
  | false =>
    have H := Lib.hid hh
    clear hh
    go_enter Tryd.func19, Tryd.ntmps19
    go_wp2_with (go_at_call 27; ((with_reducible refine (has_any b g xs _ _ hm).mono ?_); rintro e w' ⟨rfl, rfl⟩; rw [H.out]))
    go_ret
    exact ⟨rfl, by simpa [wrB, H.out] using hm, Kept.refl _ _⟩

set_option maxHeartbeats 400000 in
theorem read_any (b g : Nat) (xs : List Int) (at_ : Int) (w : World) (hm : IsMem w b g xs) :
    Calls Tryd.prog 21 #[.pointer (some ⟨b, 0, none⟩), .int .i64 at_] w fun e w' =>
      e = .returned (.tuple #[.int .u64 (if hasB xs.length at_ then xs[at_.toNat]?.getD 0 else 0), .int .i64 (errB (hasB xs.length at_))]) ∧ w = w' := by
  have hc := hm.cellB
  cases hh : hasB xs.length at_ with
  | true =>
    have hd : 0 ≤ at_ ∧ at_ < (xs.length : Int) := by simpa [hasB] using hh
    obtain ⟨n, rfl⟩ := Int.eq_ofNat_of_zero_le hd.1
    have hn : n < xs.length := by omega
    have hg := hm.cellG n hn
    have H := Lib.hid hh
    clear hh hd
    go_enter Tryd.func21, Tryd.ntmps21
    go_wp2_with (go_at_call 27; ((with_reducible refine (has_any b g xs _ _ hm).mono ?_); rintro e w' ⟨rfl, rfl⟩; rw [H.out]))
    go_ret2
    exact ⟨rfl, rfl⟩
  | false =>
    have H := Lib.hid hh
    clear hh
    go_enter Tryd.func21, Tryd.ntmps21
    go_wp2_with (go_at_call 27; ((with_reducible refine (has_any b g xs _ _ hm).mono ?_); rintro e w' ⟨rfl, rfl⟩; rw [H.out]))
    go_ret2
    exact ⟨rfl, rfl⟩

theorem Tryd.info28 : (Tryd.prog.info? 28).map (fun i => (i.zero, i.size, i.bytes)) = some (some (.int .u64 0), 1, 8) := by kernel_rfl

set_option maxHeartbeats 400000 in
theorem new_no (n : Int) (w : World) (h : n < 0 ∨ 16384 < n) :
    Calls Tryd.prog 18 #[.int .i64 n] w fun e w' => e = .returned (.tuple #[.pointer none, .int .i64 1]) ∧ w = w' := by
  rcases h with h | h
  · go_enter Tryd.func18, Tryd.ntmps18
    go_wp2
    go_ret2
    exact ⟨rfl, rfl⟩
  · have h' : decide (n < 0) = false := by simp; omega
    go_enter Tryd.func18, Tryd.ntmps18
    go_wp2
    go_ret2
    exact ⟨rfl, rfl⟩

/-- What New leaves: a memory in new blocks. -/
def NewMem (w : World) (xs : List Int) (e : Ending) (w' : World) : Prop :=
  ∃ b g, e = .returned (.tuple #[.pointer (some ⟨b, 0, none⟩), .int .i64 0]) ∧ w.heap.size ≤ b ∧ w.heap.size ≤ g ∧ IsMem w' b g xs ∧ Kept [] w w'

set_option maxHeartbeats 400000 in
theorem new_yes (n : Nat) (w : World) (h : n ≤ 16384) :
    Calls Tryd.prog 18 #[.int .i64 n] w (NewMem w (List.replicate n 0)) := by
  obtain ⟨i0, hi, hz0, hz1, hz2⟩ := info_parts Tryd.info28
  have h' : decide ((n : Int) < 0) = false := by simp
  have h2 : decide ((16384 : Int) < n) = false := by simp; omega
  go_enter Tryd.func18, Tryd.ntmps18
  go_wp2_with (refine wpList_make_row _ rfl _ _ 22 rfl 28 i0 (.int .u64 0) Tryd.underlying22 hi hz0 hz1 rfl .i64 .i64 n n n rfl rfl rfl rfl (by rw [hz2]; omega) (by unfold maxLen; omega) ?_; intro w1 hr hk hs)
  go_ret2
  refine ⟨w.heap.size + 1, w.heap.size, rfl, by omega, Nat.le_refl _, ⟨?_, ?_, by simpa using h⟩, hk.alloc _⟩
  · have := Row.new w1 62 [.slice (some ⟨w.heap.size, 0, none⟩) n n]
    rw [hs] at this
    simpa using this
  · have := hr.alloc (.cells #[.slice (some ⟨w.heap.size, 0, none⟩) n n] 62)
    rwa [zeros_ints] at this
end Go.Proofs.YthkmnjkaadmilaaDoor
