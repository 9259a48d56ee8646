/- Package starts: New, Put, Is, Count. -/
import Derived.Test.YtkfdkmdjdghdkaaStartsPlain
import Derived.Test.YtkfdkmdjdghdkaaBitsMark
import Derived.Test.YtkfdkmdjdghdkaaQuiet
namespace Go.Proofs.Ytkfdkmdjdghdkaa
open Go.RowKit

/-- The book of starts at block p: its row, at block b, has the marks xs, in block g. -/
def IsStarts (w : World) (p b g : Nat) (xs : List Bool) : Prop :=
  Row w p 55 [.pointer (some ⟨b, 0, none⟩)] ∧ IsRow w b 0 g xs ∧ p ≠ g
theorem IsStarts.row {w : World} {p b g : Nat} {xs : List Bool} (h : IsStarts w p b g xs) : IsRow w b 0 g xs := h.2.1
theorem IsStarts.lt {w : World} {p b g : Nat} {xs : List Bool} (h : IsStarts w p b g xs) : p < w.heap.size ∧ b < w.heap.size ∧ g < w.heap.size := ⟨h.1.lt, h.2.1.ltB, h.2.1.ltG⟩
theorem IsStarts.le {w : World} {p b g : Nat} {xs : List Bool} (h : IsStarts w p b g xs) : xs.length ≤ 16384 := h.2.1.len
theorem IsStarts.cell {w : World} {p b g : Nat} {xs : List Bool} (h : IsStarts w p b g xs) : w.cell? ⟨p, 0, none⟩ = some (.pointer (some ⟨b, 0, none⟩)) := by simpa using h.1.cell 0
theorem IsStarts.kept {w w' : World} {p b g : Nat} {xs : List Bool} (h : IsStarts w p b g xs) (hk : Kept [] w w') : IsStarts w' p b g xs :=
  ⟨h.1.kept hk (by simp), h.2.1.kept hk (by simp) (by simp), h.2.2⟩
theorem IsStarts.keptS {w w' : World} {p b g : Nat} {xs : List Bool} {S : List Nat} (h : IsStarts w p b g xs) (hk : Kept S w w') (hp : p ∉ S) (hb : b ∉ S) (hg : g ∉ S) : IsStarts w' p b g xs :=
  ⟨h.1.kept hk hp, h.2.1.kept hk hb hg, h.2.2⟩
theorem IsStarts.with {w w' : World} {p b g : Nat} {xs ys : List Bool} (h : IsStarts w p b g xs) (hr : IsRow w' b 0 g ys) (hk : Kept [g] w w') : IsStarts w' p b g ys :=
  ⟨h.1.kept hk (by simpa using h.2.2), hr, h.2.2⟩

/-- How many words a book of so many has. -/
def clampB (words : Int) : Nat := (min (max words 0) 16384).toNat
theorem clampB_le (words : Int) : clampB words ≤ 16384 := by unfold clampB; omega

/-- What New leaves: a book in new blocks. -/
def NewStarts (w : World) (xs : List Bool) (e : Ending) (w' : World) : Prop :=
  ∃ p b g, e = .returned (.pointer (some ⟨p, 0, none⟩)) ∧ (w.heap.size ≤ p ∧ w.heap.size ≤ b ∧ w.heap.size ≤ g) ∧ IsStarts w' p b g xs ∧ Kept [] w w'

set_option maxHeartbeats 1000000 in
theorem startsNew_any (words : Int) (w : World) :
    Calls Try.prog 6 #[.int .i64 words] w (NewStarts w (List.replicate (clampB words) false)) := by
  have hle := clampB_le words
  obtain ⟨n, hn⟩ : ∃ n, clampB words = n := ⟨_, rfl⟩
  have hc : (words < 0 ∧ n = 0) ∨ (0 ≤ words ∧ 16384 < words ∧ n = 16384) ∨ (0 ≤ words ∧ words ≤ 16384 ∧ words = n) := by unfold clampB at hn; omega
  rw [hn] at hle ⊢
  clear hn
  rcases hc with ⟨h1, rfl⟩ | ⟨h1, h2, rfl⟩ | ⟨h1, h2, rfl⟩
  · go_enter Try.func6, Try.ntmps6
    go_wp2_with fail
    refine (bitsNew_yes 0 w (by omega)).mono ?_
    rintro e w1 ⟨b, g, rfl, hb, hg, hr, hk⟩
    have rP := Row.new w1 55 [.pointer (some ⟨b, 0, none⟩)]
    have kP := (Kept.refl [] w1).alloc (.cells #[.pointer (some ⟨b, 0, none⟩)] 55)
    have hl := hr.ltG
    have hs := hk.size
    go_wp2
    go_ret
    exact ⟨w1.heap.size, b, g, rfl, ⟨hs, hb, hg⟩, ⟨rP, hr.kept kP (by simp) (by simp), by omega⟩, hk.trans kP⟩
  · have h1' : decide (words < 0) = false := by simpa using h1
    have hY := bitsNew_yes 16384 w (by omega)
    generalize List.replicate 16384 false = ys at hY ⊢
    go_enter Try.func6, Try.ntmps6
    go_wp2_with fail
    refine hY.mono ?_
    rintro e w1 ⟨b, g, rfl, hb, hg, hr, hk⟩
    have rP := Row.new w1 55 [.pointer (some ⟨b, 0, none⟩)]
    have kP := (Kept.refl [] w1).alloc (.cells #[.pointer (some ⟨b, 0, none⟩)] 55)
    have hl := hr.ltG
    have hs := hk.size
    go_wp2
    go_ret
    exact ⟨w1.heap.size, b, g, rfl, ⟨hs, hb, hg⟩, ⟨rP, hr.kept kP (by simp) (by simp), by omega⟩, hk.trans kP⟩
  · have h1' : decide ((n : Int) < 0) = false := by simp
    have h2' : decide ((16384 : Int) < n) = false := by simp; omega
    go_enter Try.func6, Try.ntmps6
    go_wp2_with fail
    refine (bitsNew_yes n w hle).mono ?_
    rintro e w1 ⟨b, g, rfl, hb, hg, hr, hk⟩
    have rP := Row.new w1 55 [.pointer (some ⟨b, 0, none⟩)]
    have kP := (Kept.refl [] w1).alloc (.cells #[.pointer (some ⟨b, 0, none⟩)] 55)
    have hl := hr.ltG
    have hs := hk.size
    go_wp2
    go_ret
    exact ⟨w1.heap.size, b, g, rfl, ⟨hs, hb, hg⟩, ⟨rP, hr.kept kP (by simp) (by simp), by omega⟩, hk.trans kP⟩

set_option maxHeartbeats 1000000 in
theorem startsCount_any (p b g : Nat) (xs : List Bool) (w : World) (h : IsStarts w p b g xs) :
    Calls Try.prog 12 #[.pointer (some ⟨p, 0, none⟩)] w fun e w' => e = .returned (.int .i64 ((placesB xs).length : Nat)) ∧ w = w' := by
  have hc := h.cell
  have HL := Lib.hid (placesB_len xs)
  go_enter Try.func12, Try.ntmps12
  go_wp2_with fail
  refine (bitsCount_any b 0 g xs w h.row).mono ?_
  rintro e w1 ⟨rfl, rfl⟩
  go_wp2
  go_ret
  exact ⟨by rw [HL.out]; rfl, rfl⟩

set_option maxHeartbeats 1000000 in
theorem startsIs_any (p b g : Nat) (xs : List Bool) (at_ : Int) (w : World) (h : IsStarts w p b g xs) (h0 : 0 ≤ at_) (h1 : at_ ≤ 18446744073709551615) :
    Calls Try.prog 18 #[.pointer (some ⟨p, 0, none⟩), .int .u64 at_] w fun e w' => e = .returned (.bool (hasM xs at_)) ∧ w = w' := by
  have hc := h.cell
  have hle := h.le
  by_cases hlt : at_ < 16384
  · go_enter Try.func18, Try.ntmps18
    go_wp2_with fail
    refine (bitsHas_any b 0 g xs at_ w h.row).mono ?_
    rintro e w1 ⟨rfl, rfl⟩
    go_wp2
    go_ret
    exact ⟨rfl, rfl⟩
  · have hlt' : decide (at_ < 16384) = false := by simpa using hlt
    have hn : hasM xs at_ = false := by
      cases e : hasM xs at_ with
      | false => rfl
      | true => have := (hasM_lt e).2; omega
    have HN := Lib.hid hn
    clear hn
    go_enter Try.func18, Try.ntmps18
    go_wp2
    go_ret
    exact ⟨by rw [HN.out]; rfl, rfl⟩

def PutPost09 (p b g : Nat) (xs : List Bool) (at_ : Int) (w : World) (e : Ending) (w' : World) : Prop :=
  e = .returned (.int .i64 (putE xs at_)) ∧ IsStarts w' p b g (putB xs at_) ∧ Kept [g] w w'

set_option maxHeartbeats 1000000 in
theorem startsPut_any (p b g : Nat) (xs : List Bool) (at_ : Int) (w : World) (h : IsStarts w p b g xs) (h1 : at_ ≤ 9223372036854775807) :
    Calls Try.prog 10 #[.pointer (some ⟨p, 0, none⟩), .int .i64 at_] w (PutPost09 p b g xs at_ w) := by
  have hc := h.cell
  by_cases e0 : at_ = 0
  · subst e0
    have hE : putE xs 0 = 8 := by simp [putE]
    have HE := Lib.hid hE
    have HS := Lib.hid (putB_same (xs := xs) (at_ := 0) (by rw [hE]; decide))
    clear hE
    go_enter Try.func10, Try.ntmps10
    go_wp2
    go_ret
    exact ⟨by rw [HE.out]; rfl, by rw [HS.out]; exact h, Kept.refl _ _⟩
  · have e0' : (at_ == 0) = false := by simpa using e0
    have e0'' : decide (at_ = 0) = false := by simpa using e0
    have HE0 := Lib.hid e0
    clear e0
    cases hh : hasM xs at_ with
    | true =>
      have hlt := hasM_lt hh
      have hE : putE xs at_ = 6 := by unfold putE; rw [if_neg (by have := HE0.out; omega), if_pos hh]
      have HE := Lib.hid hE
      have HS := Lib.hid (putB_same (xs := xs) (at_ := at_) (by rw [hE]; decide))
      have HH := Lib.hid hh
      clear hE hlt hh
      go_enter Try.func10, Try.ntmps10
      go_wp2_with fail
      refine (bitsHas_any b 0 g xs at_ w h.row).mono ?_
      rintro e w1 ⟨rfl, rfl⟩
      rw [HH.out]
      go_wp2
      go_ret
      exact ⟨by rw [HE.out]; rfl, by rw [HS.out]; exact h, Kept.refl _ _⟩
    | false =>
      have hE : putE xs at_ = errB (holdsB xs.length at_ 1) := by
        unfold putE
        by_cases hc : at_ < 1 ∨ (xs.length : Int) ≤ at_
        · have : holdsB xs.length at_ 1 = false := by
            cases hd : holdsB xs.length at_ 1 with
            | false => rfl
            | true => have := (holdsB_iff _ _ _).1 hd; have := HE0.out; omega
          rw [if_pos hc, this]; rfl
        · have : holdsB xs.length at_ 1 = true := (holdsB_iff _ _ _).2 (by omega)
          rw [if_neg hc, hh, this]; rfl
      have hB : putB xs at_ = markB xs at_ 1 true := by
        unfold putB
        by_cases hc : at_ < 1 ∨ (xs.length : Int) ≤ at_
        · rw [if_pos hc]
          unfold markB
          rw [if_neg]
          intro hd
          have := (holdsB_iff _ _ _).1 hd; have := HE0.out; omega
        · rw [if_neg hc, hh]; rfl
      have HE := Lib.hid hE
      have HS := Lib.hid hB
      have HH := Lib.hid hh
      clear hE hB hh
      go_enter Try.func10, Try.ntmps10
      go_wp2_with fail
      refine (bitsHas_any b 0 g xs at_ w h.row).mono ?_
      rintro e w1 ⟨rfl, rfl⟩
      rw [HH.out]
      go_wp2_with fail
      refine (bitsMark_any b 0 g xs at_ 1 true w h.row h1).mono ?_
      rintro e w1 ⟨rfl, hr, hk⟩
      go_wp2
      go_ret
      exact ⟨by rw [HE.out]; rfl, by rw [HS.out]; exact h.with hr hk, hk⟩
end Go.Proofs.Ytkfdkmdjdghdkaa
