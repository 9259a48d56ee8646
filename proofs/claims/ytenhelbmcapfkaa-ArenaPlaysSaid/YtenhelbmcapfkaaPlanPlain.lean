/- Plans as plain numbers: the page of small things, and what is used of it. -/
import Derived.Test.YtenhelbmcapfkaaNum
namespace Go.Proofs.Ytenhelbmcapfkaa
open Go.RowKit

/-- The page of small things, and how many of its words are used; both 0: there is none. -/
structure Pl where
  p : Int
  u : Int
/-- How many words are left. -/
def Pl.left (x : Pl) : Int := if x.p = 0 ∧ x.u = 0 then 0 else 16 - x.u
/-- What a plan is at all times. -/
def Pl.ok (x : Pl) : Prop := (x.p = 0 ∧ x.u = 0) ∨ (0 ≤ x.p ∧ x.p ≤ 1024 ∧ 1 ≤ x.u ∧ x.u ≤ 16)
/-- How many pages of its own, where L words are left; the error's number. -/
def needP (L s : Int) : Int × Int := if s < 1 ∨ 16384 < s then (0, 1) else if s ≤ L then (0, 0) else ((s + 15) / 16, 0)
/-- What is placed: the plan behind it, where it stands, the error's number. -/
def putP (x : Pl) (s g : Int) : Pl × Int × Int :=
  if s < 1 ∨ 16384 < s then (x, 0, 1)
  else if s ≤ x.left then (⟨x.p, x.u + s⟩, 16 * x.p + x.u, 0)
  else if g < 0 ∨ 1024 < g then (x, 0, 8)
  else if s ≤ 16 then (⟨g, s⟩, 16 * g, 0)
  else (x, 16 * g, 0)
theorem Pl.ok0 : Pl.ok ⟨0, 0⟩ := .inl ⟨rfl, rfl⟩
theorem Pl.left_range {x : Pl} (h : x.ok) : 0 ≤ x.left ∧ x.left ≤ 15 := by
  unfold Pl.ok at h; unfold Pl.left; split <;> omega
/-- The ways through Need. -/
theorem needP_cases (L s : Int) : (s < 1 ∧ Hid (needP L s = (0, 1))) ∨ (1 ≤ s ∧ 16384 < s ∧ Hid (needP L s = (0, 1))) ∨ (1 ≤ s ∧ s ≤ 16384 ∧ s ≤ L ∧ Hid (needP L s = (0, 0))) ∨
    (1 ≤ s ∧ s ≤ 16384 ∧ L < s ∧ Hid (needP L s = ((s + 15) / 16, 0))) := by
  unfold needP Hid
  by_cases h1 : s < 1
  · exact .inl ⟨h1, by rw [if_pos (.inl h1)]⟩
  · by_cases h2 : 16384 < s
    · exact .inr (.inl ⟨by omega, h2, by rw [if_pos (.inr h2)]⟩)
    · rw [if_neg (by omega)]
      by_cases h3 : s ≤ L
      · exact .inr (.inr (.inl ⟨by omega, by omega, h3, by rw [if_pos h3]⟩))
      · exact .inr (.inr (.inr ⟨by omega, by omega, by omega, by rw [if_neg h3]⟩))
theorem needP_range (L s : Int) : 0 ≤ (needP L s).1 ∧ (needP L s).1 ≤ 1024 := by
  rcases needP_cases L s with ⟨_, h⟩ | ⟨_, _, h⟩ | ⟨_, _, _, h⟩ | ⟨_, _, _, h⟩ <;> rw [h.out] <;> simp only <;> omega
/-- The ways through Place. -/
theorem putP_cases (x : Pl) (s g : Int) (hx : x.ok) : (((s < 1 ∨ 16384 < s) ∧ Hid (putP x s g = (x, 0, 1))) ∧ Hid (needP x.left s = (0, 1))) ∨
    (((1 ≤ s ∧ s ≤ 15 ∧ s ≤ x.left) ∧ (0 ≤ x.p ∧ x.p ≤ 1024 ∧ 1 ≤ x.u ∧ x.u + s ≤ 16) ∧ Hid (putP x s g = (⟨x.p, x.u + s⟩, 16 * x.p + x.u, 0))) ∧ Hid (needP x.left s = (0, 0))) ∨
    (((1 ≤ s ∧ s ≤ 16384 ∧ x.left < s) ∧ (g < 0 ∨ 1024 < g) ∧ Hid (putP x s g = (x, 0, 8))) ∧ Hid (needP x.left s = ((s + 15) / 16, 0))) ∨
    (((1 ≤ s ∧ s ≤ 16 ∧ x.left < s) ∧ (0 ≤ g ∧ g ≤ 1024) ∧ Hid (putP x s g = (⟨g, s⟩, 16 * g, 0))) ∧ Hid (needP x.left s = ((s + 15) / 16, 0))) ∨
    (((17 ≤ s ∧ s ≤ 16384 ∧ x.left < s) ∧ (0 ≤ g ∧ g ≤ 1024) ∧ Hid (putP x s g = (x, 16 * g, 0))) ∧ Hid (needP x.left s = ((s + 15) / 16, 0))) := by
  have hl := Pl.left_range hx
  rcases needP_cases x.left s with ⟨h1, h⟩ | ⟨h1, h2, h⟩ | ⟨h1, h2, h3, h⟩ | ⟨h1, h2, h3, h⟩
  · exact .inl ⟨⟨.inl h1, Lib.hid (by unfold putP; rw [if_pos (.inl h1)])⟩, h⟩
  · exact .inl ⟨⟨.inr h2, Lib.hid (by unfold putP; rw [if_pos (.inr h2)])⟩, h⟩
  · refine .inr (.inl ⟨⟨⟨h1, by omega, h3⟩, ?_, Lib.hid (by unfold putP; rw [if_neg (by omega), if_pos h3])⟩, h⟩)
    unfold Pl.ok at hx; unfold Pl.left at h3
    split at h3 <;> omega
  · by_cases h4 : g < 0 ∨ 1024 < g
    · exact .inr (.inr (.inl ⟨⟨⟨h1, h2, h3⟩, h4, Lib.hid (by unfold putP; rw [if_neg (by omega), if_neg (by omega), if_pos h4])⟩, h⟩))
    · by_cases h5 : s ≤ 16
      · exact .inr (.inr (.inr (.inl ⟨⟨⟨h1, h5, h3⟩, by omega, Lib.hid (by unfold putP; rw [if_neg (by omega), if_neg (by omega), if_neg h4, if_pos h5])⟩, h⟩)))
      · exact .inr (.inr (.inr (.inr ⟨⟨⟨by omega, h2, h3⟩, by omega, Lib.hid (by unfold putP; rw [if_neg (by omega), if_neg (by omega), if_neg h4, if_neg h5])⟩, h⟩)))
theorem putP_ok {x : Pl} (h : x.ok) (s g : Int) : (putP x s g).1.ok := by
  rcases putP_cases x s g h with ⟨⟨_, e⟩, _⟩ | ⟨⟨_, hr, e⟩, _⟩ | ⟨⟨_, _, e⟩, _⟩ | ⟨⟨hs, hr, e⟩, _⟩ | ⟨⟨_, _, e⟩, _⟩ <;> rw [e.out]
  · exact h
  · exact .inr ⟨hr.1, hr.2.1, by simp only; omega, by simp only; omega⟩
  · exact h
  · exact .inr ⟨hr.1, hr.2, by simp only; omega, by simp only; omega⟩
  · exact h
theorem putP_range {x : Pl} (h : x.ok) (s g : Int) : 0 ≤ (putP x s g).2.1 ∧ (putP x s g).2.1 ≤ 16400 := by
  rcases putP_cases x s g h with ⟨⟨_, e⟩, _⟩ | ⟨⟨_, hr, e⟩, _⟩ | ⟨⟨_, _, e⟩, _⟩ | ⟨⟨hs, hr, e⟩, _⟩ | ⟨⟨_, _, e⟩, _⟩ <;> rw [e.out] <;> simp only <;> omega
end Go.Proofs.Ytenhelbmcapfkaa
