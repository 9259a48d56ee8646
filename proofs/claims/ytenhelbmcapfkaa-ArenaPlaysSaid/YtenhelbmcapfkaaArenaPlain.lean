/- Arenas as plain things: a plan, runs of pages, things; what Alloc does, way by way. -/
import Derived.Test.YtenhelbmcapfkaaPlanPlain
import Derived.Test.YtenhelbmcapfkaaPagesGrant
import Derived.Test.YtenhelbmcapfkaaRuns
namespace Go.Proofs.Ytenhelbmcapfkaa
open Go.RowKit

/-- An arena: the page of small things, the runs that it took, the things. -/
structure ArN where
  x : Pl
  rs : List RunN
  ts : List RunN
/-- Alloc: behind it, the marks, where it stands, the error's number. -/
def allocN (a : ArN) (xs : List Bool) (s : Int) : ArN × List Bool × Int × Int :=
  if (needP a.x.left s).2 ≠ 0 then (a, xs, 0, (needP a.x.left s).2)
  else if (needP a.x.left s).1 = 0 then (⟨(putP a.x s 0).1, a.rs, a.ts ++ [((putP a.x s 0).2.1.toNat, s.toNat)]⟩, xs, (putP a.x s 0).2.1, 0)
  else match findB xs (needP a.x.left s).1 with
    | none => (a, xs, 0, 3)
    | some A => (⟨(putP a.x s A).1, a.rs ++ [(A, (needP a.x.left s).1.toNat)], a.ts ++ [((putP a.x s A).2.1.toNat, s.toNat)]⟩, markB xs A (needP a.x.left s).1 true, (putP a.x s A).2.1, 0)
/-- Alloc: the words behind it. -/
def allocY (a : ArN) (xs : List Bool) (ys : List Int) (s : Int) : List Int := if (needP a.x.left s).2 ≠ 0 then ys else if (needP a.x.left s).1 = 0 then ys else wipeB xs ys (needP a.x.left s).1

/-- The ways through Alloc. -/
theorem allocN_cases (a : ArN) (hx : a.x.ok) (xs : List Bool) (ys : List Int) (s : Int) (hl : xs.length ≤ 1024) :
    ((s < 1 ∨ 16384 < s) ∧ Hid (needP a.x.left s = (0, 1)) ∧ Hid (allocN a xs s = (a, xs, 0, 1)) ∧ Hid (allocY a xs ys s = ys)) ∨
    (∃ F S : Nat, s = S ∧ 1 ≤ S ∧ S ≤ 15 ∧ (0 ≤ a.x.p ∧ a.x.p ≤ 1024 ∧ 1 ≤ a.x.u ∧ a.x.u + s ≤ 16) ∧ (F : Int) = 16 * a.x.p + a.x.u ∧ Hid (needP a.x.left s = (0, 0)) ∧ Hid (putP a.x s 0 = (⟨a.x.p, a.x.u + s⟩, (F : Int), 0)) ∧
      Hid (allocN a xs s = (⟨⟨a.x.p, a.x.u + s⟩, a.rs, a.ts ++ [(F, S)]⟩, xs, (F : Int), 0)) ∧ Hid (allocY a xs ys s = ys)) ∨
    (∃ N : Nat, 1 ≤ s ∧ s ≤ 16384 ∧ 1 ≤ N ∧ N ≤ 1024 ∧ (N : Int) = (s + 15) / 16 ∧ Hid (needP a.x.left s = ((N : Int), 0)) ∧ Hid (findB xs N = none) ∧ Hid (allocN a xs s = (a, xs, 0, 3)) ∧ Hid (allocY a xs ys s = ys)) ∨
    (∃ N A S : Nat, s = S ∧ 1 ≤ S ∧ S ≤ 16384 ∧ 1 ≤ N ∧ N ≤ 1024 ∧ N = (S + 15) / 16 ∧ A + N ≤ xs.length ∧ Hid (needP a.x.left s = ((N : Int), 0)) ∧ Hid (findB xs N = some A) ∧
      Hid (putP a.x s A = ((if S ≤ 16 then ⟨A, S⟩ else a.x), ((16 * A : Nat) : Int), 0)) ∧
      Hid (allocN a xs s = (⟨(if S ≤ 16 then ⟨A, S⟩ else a.x), a.rs ++ [(A, N)], a.ts ++ [(16 * A, S)]⟩, markB xs A N true, ((16 * A : Nat) : Int), 0)) ∧ Hid (allocY a xs ys s = flB ys ((A : Int) * 16) ((N : Int) * 16) 0)) := by
  rcases needP_cases a.x.left s with ⟨h1, hn⟩ | ⟨h1, h2, hn⟩ | ⟨h1, h2, h3, hn⟩ | ⟨h1, h2, h3, hn⟩
  · exact .inl ⟨.inl h1, hn, Lib.hid (by unfold allocN; rw [hn.out]; simp), Lib.hid (by unfold allocY; rw [hn.out]; simp)⟩
  · exact .inl ⟨.inr h2, hn, Lib.hid (by unfold allocN; rw [hn.out]; simp), Lib.hid (by unfold allocY; rw [hn.out]; simp)⟩
  · refine .inr (.inl ?_)
    rcases putP_cases a.x s 0 hx with ⟨⟨_, _⟩, e2⟩ | ⟨⟨_, h5, e1⟩, _⟩ | ⟨⟨h4, h5, _⟩, e2⟩ | ⟨⟨h4, _, _⟩, e2⟩ | ⟨⟨h4, _, _⟩, e2⟩
    · rw [hn.out] at e2; exact absurd e2.out (by simp)
    · obtain ⟨S, rfl⟩ := Int.eq_ofNat_of_zero_le (show 0 ≤ s by omega)
      obtain ⟨F, hF⟩ := Int.eq_ofNat_of_zero_le (show 0 ≤ 16 * a.x.p + a.x.u by omega)
      refine ⟨F, S, rfl, by omega, by omega, h5, hF.symm, hn, Lib.hid (by rw [e1.out, hF]), Lib.hid ?_, Lib.hid (by unfold allocY; rw [hn.out]; simp)⟩
      unfold allocN
      rw [hn.out, e1.out, hF]
      simp
    · rw [hn.out] at e2; have := congrArg Prod.fst e2.out; simp only at this; omega
    · rw [hn.out] at e2; have := congrArg Prod.fst e2.out; simp only at this; omega
    · rw [hn.out] at e2; have := congrArg Prod.fst e2.out; simp only at this; omega
  · refine .inr (.inr ?_)
    obtain ⟨N, hN⟩ := Int.eq_ofNat_of_zero_le (show 0 ≤ (s + 15) / 16 by omega)
    rw [hN] at hn
    have hN1 : 1 ≤ N := by omega
    have hN2 : N ≤ 1024 := by omega
    have hne : ¬ (N : Int) = 0 := by omega
    cases hf : findB xs N with
    | none =>
      refine .inl ⟨N, h1, h2, hN1, hN2, hN.symm, hn, Lib.hid hf, Lib.hid ?_, Lib.hid ?_⟩
      · unfold allocN; rw [hn.out]; simp only [ne_eq, not_true_eq_false, if_false, if_neg hne]; rw [hf]
      · unfold allocY; rw [hn.out]; simp only [ne_eq, not_true_eq_false, if_false, if_neg hne]; rw [wipeB_none hf]
    | some A =>
      obtain ⟨b1, b2, b3⟩ := ((wholeB_iff _ _ _ _).1 ((findB_some (by omega)).1 hf).2.1).1
      obtain ⟨S, rfl⟩ := Int.eq_ofNat_of_zero_le (show 0 ≤ s by omega)
      have hp : putP a.x S A = ((if S ≤ 16 then ⟨A, S⟩ else a.x), ((16 * A : Nat) : Int), 0) := by
        unfold putP
        rw [if_neg (by omega), if_neg (by omega), if_neg (by omega)]
        by_cases h16 : S ≤ 16
        · rw [if_pos (by omega), if_pos h16]; simp
        · rw [if_neg (by omega), if_neg h16]; simp
      refine .inr ⟨N, A, S, rfl, by omega, by omega, hN1, hN2, by omega, by omega, hn, Lib.hid hf, Lib.hid hp, Lib.hid ?_, Lib.hid ?_⟩
      · unfold allocN; rw [hn.out]; simp only [ne_eq, not_true_eq_false, if_false, if_neg hne]; rw [hf]; simp only; rw [hp]; simp; omega
      · unfold allocY; rw [hn.out]; simp only [ne_eq, not_true_eq_false, if_false, if_neg hne]; rw [wipeB_some hf]
theorem allocN_ok {a : ArN} (hx : a.x.ok) {xs : List Bool} (hl : xs.length ≤ 1024) (s : Int) : (allocN a xs s).1.x.ok := by
  rcases allocN_cases a hx xs [] s hl with ⟨_, _, h, _⟩ | ⟨F, S, _, _, _, _, _, _, hp, h, _⟩ | ⟨N, _, _, _, _, _, _, _, h, _⟩ | ⟨N, A, S, _, _, _, _, _, _, _, _, _, hp, h, _⟩ <;> rw [h.out]
  · exact hx
  · have := putP_ok hx s 0; rw [hp.out] at this; exact this
  · exact hx
  · have := putP_ok hx s A; rw [hp.out] at this; exact this
theorem allocN_length {a : ArN} (hx : a.x.ok) {xs : List Bool} (hl : xs.length ≤ 1024) (s : Int) : (allocN a xs s).2.1.length = xs.length := by
  rcases allocN_cases a hx xs [] s hl with ⟨_, _, h, _⟩ | ⟨F, S, _, _, _, _, _, _, hp, h, _⟩ | ⟨N, _, _, _, _, _, _, _, h, _⟩ | ⟨N, A, S, _, _, _, _, _, _, _, _, _, hp, h, _⟩ <;> rw [h.out]
  exact markB_length _ _ _ _
theorem allocN_nat {a : ArN} (hx : a.x.ok) {xs : List Bool} (hl : xs.length ≤ 1024) (s : Int) : ∃ F E : Nat, (allocN a xs s).2.2.1 = F ∧ (allocN a xs s).2.2.2 = E := by
  rcases allocN_cases a hx xs [] s hl with ⟨_, _, h, _⟩ | ⟨F, S, _, _, _, _, _, _, hp, h, _⟩ | ⟨N, _, _, _, _, _, _, _, h, _⟩ | ⟨N, A, S, _, _, _, _, _, _, _, _, _, hp, h, _⟩ <;> rw [h.out]
  · exact ⟨0, 1, rfl, rfl⟩
  · exact ⟨F, 0, rfl, rfl⟩
  · exact ⟨0, 3, rfl, rfl⟩
  · exact ⟨16 * A, 0, rfl, rfl⟩
theorem allocN_ts {a : ArN} (hx : a.x.ok) {xs : List Bool} (hl : xs.length ≤ 1024) (s : Int) : (allocN a xs s).1.ts.length ≤ a.ts.length + 1 := by
  rcases allocN_cases a hx xs [] s hl with ⟨_, _, h, _⟩ | ⟨F, S, _, _, _, _, _, _, hp, h, _⟩ | ⟨N, _, _, _, _, _, _, _, h, _⟩ | ⟨N, A, S, _, _, _, _, _, _, _, _, _, hp, h, _⟩ <;> rw [h.out] <;> simp
theorem allocN_len (a : ArN) (xs : List Bool) (s : Int) : (allocN a xs s).2.1.length = xs.length := by
  unfold allocN
  split
  · rfl
  · split
    · rfl
    · split
      · rfl
      · exact markB_length _ _ _ _
end Go.Proofs.Ytenhelbmcapfkaa
