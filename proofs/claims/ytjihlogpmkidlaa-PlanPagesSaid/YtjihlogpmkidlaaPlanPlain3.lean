/- How many pages things take hangs on sizes alone. -/
import Derived.Test.YtjihlogpmkidlaaPlanPlain2
namespace Go.Proofs.Ytjihlogpmkidlaa
open Go.RowKit

/-- Two plans alike but for their page. -/
def alikeP (x y : Pl) : Prop := x.ok ∧ y.ok ∧ x.u = y.u
theorem alikeP.left {x y : Pl} (h : alikeP x y) : x.left = y.left := by
  obtain ⟨h1, h2, h3⟩ := h
  unfold Pl.ok at h1 h2
  unfold Pl.left
  by_cases e : x.p = 0 ∧ x.u = 0
  · rw [if_pos e, if_pos (by omega)]
  · rw [if_neg e, if_neg (by omega), h3]
theorem alikeP.put {x y : Pl} (h : alikeP x y) (s : Int) {g : Int} (g0 : 0 ≤ g) (g1 : g ≤ 1024) : alikeP (putP x s g).1 (putP y s 0).1 := by
  refine ⟨putP_ok h.1 s g, putP_ok h.2.1 s 0, ?_⟩
  have hl := h.left
  obtain ⟨h1, h2, h3⟩ := h
  unfold putP
  rw [← hl]
  by_cases c1 : s < 1 ∨ 16384 < s
  · rw [if_pos c1, if_pos c1]; exact h3
  · rw [if_neg c1, if_neg c1]
    by_cases c2 : s ≤ x.left
    · rw [if_pos c2, if_pos c2]; simp only; omega
    · rw [if_neg c2, if_neg c2, if_neg (show ¬(g < 0 ∨ 1024 < g) by omega), if_neg (show ¬((0 : Int) < 0 ∨ (1024 : Int) < 0) by omega)]
      by_cases c3 : s ≤ 16
      · simp only [if_pos c3]
      · simp only [if_neg c3]; exact h3
/-- In a good page Place answers the error that Need does. -/
theorem putP_err {x : Pl} (hx : x.ok) (s : Int) {g : Int} (g0 : 0 ≤ g) (g1 : g ≤ 1024) : (putP x s g).2.2 = (needP x.left s).2 := by
  rcases putP_cases x s g hx with ⟨⟨_, e1⟩, e2⟩ | ⟨⟨_, _, e1⟩, e2⟩ | ⟨⟨_, h, e1⟩, e2⟩ | ⟨⟨_, _, e1⟩, e2⟩ | ⟨⟨_, _, e1⟩, e2⟩
  · rw [e1.out, e2.out]
  · rw [e1.out, e2.out]
  · omega
  · rw [e1.out, e2.out]
  · rw [e1.out, e2.out]
end Go.Proofs.Ytjihlogpmkidlaa
