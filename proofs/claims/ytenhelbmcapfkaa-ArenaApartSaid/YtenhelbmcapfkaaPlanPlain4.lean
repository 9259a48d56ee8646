/- Things that are placed don't overlap, as plain numbers. -/
import Derived.Test.YtenhelbmcapfkaaPlanPlain2
import Derived.Test.YtenhelbmcapfkaaRuns
namespace Go.Proofs.Ytenhelbmcapfkaa
open Go.RowKit

/-- Two runs don't overlap. -/
def apartR (r s : RunN) : Prop := r.1 + r.2 ≤ s.1 ∨ s.1 + s.2 ≤ r.1
/-- What is left of the page of small things. -/
def Pl.free (x : Pl) (r : RunN) : Prop := x.u = 0 ∨ (r.1 : Int) + r.2 ≤ 16 * x.p + x.u ∨ 16 * x.p + 16 ≤ (r.1 : Int)
/-- Things that stand in the first pages, apart from what is left of the page of small ones. -/
structure Apart (x : Pl) (next : Nat) (rs : List RunN) : Prop where
  ok : x.ok
  page : x.u = 0 ∨ x.p + 1 ≤ next
  below : ∀ r ∈ rs, r.1 + r.2 ≤ 16 * next
  free : ∀ r ∈ rs, x.free r
theorem Apart.start : Apart ⟨0, 0⟩ 0 [] := ⟨Pl.ok0, .inl rfl, by simp, by simp⟩
/-- What is placed: where, in which pages, apart from what was there. -/
theorem Apart.put {x : Pl} {next : Nat} {rs : List RunN} (h : Apart x next rs) {s n : Int} (hn : needP x.left s = (n, 0)) (hle : (next : Int) + n ≤ 1024) :
    ∃ F S N : Nat, s = S ∧ n = N ∧ 1 ≤ S ∧ S ≤ 16384 ∧ next + N ≤ 1024 ∧ Hid (putP x s next = ((putP x s next).1, (F : Int), 0)) ∧ F + S ≤ 16 * (next + N) ∧
      ((S ≤ 16 ∧ F / 16 = (F + S - 1) / 16) ∨ (16 < S ∧ F % 16 = 0)) ∧ (∀ r ∈ rs, apartR (F, S) r) ∧ Hid (Apart (putP x s next).1 (next + N) (rs ++ [(F, S)])) := by
  obtain ⟨hx, hp, hb, hf⟩ := h
  have hl := Pl.left_range hx
  rcases putP_cases x s next hx with ⟨⟨_, e1⟩, e2⟩ | ⟨⟨h1, h2, e1⟩, e2⟩ | ⟨⟨_, h3, e1⟩, e2⟩ | ⟨⟨h1, h2, e1⟩, e2⟩ | ⟨⟨h1, h2, e1⟩, e2⟩
  · rw [e2.out] at hn; simp at hn
  · rw [e2.out] at hn
    simp only [Prod.mk.injEq, and_true] at hn
    subst hn
    obtain ⟨P, hP⟩ := Int.eq_ofNat_of_zero_le h2.1
    obtain ⟨U, hU⟩ := Int.eq_ofNat_of_zero_le (show 0 ≤ x.u by omega)
    obtain ⟨S, rfl⟩ := Int.eq_ofNat_of_zero_le (show 0 ≤ s by omega)
    rw [hP, hU] at h2
    have hpn : P + 1 ≤ next := by omega
    refine ⟨16 * P + U, S, 0, rfl, rfl, by omega, by omega, by omega, ?_, by omega, .inl ⟨by omega, by omega⟩, fun r hr => ?_, ?_⟩
    · show _ = _
      rw [e1.out, hP, hU]; rfl
    · have := hf r hr
      unfold Pl.free at this
      unfold apartR
      simp only
      omega
    · rw [e1.out]
      refine ⟨.inr ⟨by simp only; omega, by simp only; omega, by simp only; omega, by simp only; omega⟩, .inr (by simp only; omega), fun r hr => ?_, fun r hr => ?_⟩
      · rcases List.mem_append.1 hr with hr | hr
        · have := hb r hr; omega
        · simp at hr; subst hr; simp only; omega
      · unfold Pl.free
        simp only
        rcases List.mem_append.1 hr with hr | hr
        · have := hf r hr
          unfold Pl.free at this
          omega
        · simp at hr; subst hr; simp only; omega
  · exfalso
    rw [e2.out] at hn
    simp only [Prod.mk.injEq, and_true] at hn
    omega
  · rw [e2.out] at hn
    simp only [Prod.mk.injEq, and_true] at hn
    subst hn
    obtain ⟨S, rfl⟩ := Int.eq_ofNat_of_zero_le (show 0 ≤ s by omega)
    refine ⟨16 * next, S, (S + 15) / 16, rfl, by omega, by omega, by omega, by omega, ?_, by omega, .inl ⟨by omega, by omega⟩, fun r hr => ?_, ?_⟩
    · show _ = _
      rw [e1.out]; simp
    · have := hb r hr
      unfold apartR
      simp only
      omega
    · rw [e1.out]
      refine ⟨.inr ⟨by simp only; omega, by simp only; omega, by simp only; omega, by simp only; omega⟩, .inr (by simp only; omega), fun r hr => ?_, fun r hr => ?_⟩
      · rcases List.mem_append.1 hr with hr | hr
        · have := hb r hr; omega
        · simp at hr; subst hr; simp only; omega
      · unfold Pl.free
        simp only
        rcases List.mem_append.1 hr with hr | hr
        · have := hb r hr; omega
        · simp at hr; subst hr; simp only; omega
  · rw [e2.out] at hn
    simp only [Prod.mk.injEq, and_true] at hn
    subst hn
    obtain ⟨S, rfl⟩ := Int.eq_ofNat_of_zero_le (show 0 ≤ s by omega)
    refine ⟨16 * next, S, (S + 15) / 16, rfl, by omega, by omega, by omega, by omega, ?_, by omega, .inr ⟨by omega, by omega⟩, fun r hr => ?_, ?_⟩
    · show _ = _
      rw [e1.out]; simp
    · have := hb r hr
      unfold apartR
      simp only
      omega
    · rw [e1.out]
      refine ⟨hx, hp.imp id (fun h => by simp only; omega), fun r hr => ?_, fun r hr => ?_⟩
      · rcases List.mem_append.1 hr with hr | hr
        · have := hb r hr; omega
        · simp at hr; subst hr; simp only; omega
      · rcases List.mem_append.1 hr with hr | hr
        · exact hf r hr
        · simp at hr; subst hr
          unfold Pl.free
          rcases hp with hp | hp
          · exact .inl hp
          · right; right; simp only; omega
end Go.Proofs.Ytenhelbmcapfkaa
