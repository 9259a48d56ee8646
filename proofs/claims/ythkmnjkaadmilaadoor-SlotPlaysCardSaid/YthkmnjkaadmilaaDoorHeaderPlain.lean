/- Heads and their words, as plain numbers. -/
import Derived.Test.YthkmnjkaadmilaaDoorDescPlain
namespace Go.Proofs.YthkmnjkaadmilaaDoor

/-- Are two heads the same? -/
def eqH (a b : Hd) : Bool := (a.array == b.array) && ((a.kind == b.kind) && ((a.ty == b.ty) && (a.n == b.n)))
theorem eqH_iff (a b : Hd) : eqH a b = true ↔ a = b := by
  cases a; cases b; simp [eqH]
/-- Lies x between? -/
def withinB (n l m : Int) : Bool := decide (l ≤ n ∧ n ≤ m)
/-- May a head be? -/
def mayH (h : Hd) : Bool := if h.array = true then kindB h.kind && (withinB h.n 0 4000 && h.ty == 0) else (h.kind == 0) && (withinB h.ty 0 31 && withinB h.n 1 60)
/-- Its word. -/
def wordH (h : Hd) : Int := 1 + h.kind * 4 + h.ty * 256 + h.n * 65536 + (if h.array = true then 2 else 0)
/-- A head's word, and the error's number. -/
def putH (h : Hd) : Int × Int := if mayH h = true then (wordH h, 0) else (0, 1)
/-- How many words. -/
def sizeH (h : Hd) : Int := if mayH h = true then 1 + max h.n 1 else 0
/-- The head whose word w might be. -/
def partsH (w : Int) : Hd := ⟨w % 4 / 2 != 0, w % 256 / 4, w % 65536 / 256, w / 65536⟩
/-- A word's head, and the error's number. -/
def getH (w : Int) : Hd × Int := if mayH (partsH w) = true ∧ wordH (partsH w) = w then (partsH w, 0) else (⟨false, 0, 0, 0⟩, 11)

theorem mayH_cases {h : Hd} (hm : mayH h = true) : (h.array = true ∧ 0 ≤ h.kind ∧ h.kind < 4 ∧ 0 ≤ h.n ∧ h.n ≤ 4000 ∧ h.ty = 0) ∨ (h.array = false ∧ h.kind = 0 ∧ 0 ≤ h.ty ∧ h.ty ≤ 31 ∧ 1 ≤ h.n ∧ h.n ≤ 60) := by
  obtain ⟨ar, k, t, n⟩ := h
  cases ar
  · simp [mayH, withinB] at hm
    right
    simp; omega
  · simp [mayH, withinB, kindB] at hm
    left
    simp; omega
theorem mayH_range {h : Hd} (hm : mayH h = true) : 0 ≤ h.kind ∧ h.kind < 4 ∧ 0 ≤ h.ty ∧ h.ty ≤ 31 ∧ 0 ≤ h.n ∧ h.n ≤ 4000 := by
  rcases mayH_cases hm with h | h <;> omega
theorem wordH_range {h : Hd} (hm : mayH h = true) : 1 ≤ wordH h ∧ wordH h < 1000000000 := by
  have := mayH_range hm
  unfold wordH
  split <;> omega
theorem parts_word {h : Hd} (hm : mayH h = true) : partsH (wordH h) = h := by
  have h1 := mayH_cases hm
  obtain ⟨ar, k, t, n⟩ := h
  simp only at h1
  rcases h1 with ⟨rfl, h1⟩ | ⟨rfl, h1⟩
  · simp only [wordH, partsH, if_true, Hd.mk.injEq, bne_iff_ne, ne_eq]
    omega
  · simp only [wordH, partsH, Bool.false_eq_true, if_false, Hd.mk.injEq, bne_eq_false_iff_eq]
    omega
theorem get_put {h : Hd} (hm : mayH h = true) : getH (wordH h) = (h, 0) := by
  unfold getH
  rw [parts_word hm, if_pos ⟨hm, rfl⟩]
theorem put_get {w : Int} (h : (getH w).2 = 0) : putH (getH w).1 = (w, 0) := by
  unfold getH at h ⊢
  by_cases hc : mayH (partsH w) = true ∧ wordH (partsH w) = w
  · rw [if_pos hc] at h ⊢
    simp only [putH, if_pos hc.1, hc.2]
  · rw [if_neg hc] at h
    simp at h
theorem word_inj {a b : Hd} (ha : mayH a = true) (hb : mayH b = true) : (wordH a == wordH b) = eqH a b := by
  rw [Bool.eq_iff_iff, eqH_iff, beq_iff_eq]
  constructor
  · intro h
    rw [← parts_word ha, h, parts_word hb]
  · intro h
    rw [h]
end Go.Proofs.YthkmnjkaadmilaaDoor
