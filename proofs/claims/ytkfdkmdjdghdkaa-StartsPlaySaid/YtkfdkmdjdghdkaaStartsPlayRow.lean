/- StartsPlay: for every input the law answers true, and its arguments read behind the call as they read before. Conditions: none. -/
import Derived.Test.YtkfdkmdjdghdkaaStartsActs
import Derived.Test.YtkfdkmdjdghdkaaStartsPlayLaw
namespace Go.Proofs.Ytkfdkmdjdghdkaa
open Go.ChangeShapes Go.WideShapes Go.ChangeAt Go.RowKit

set_option maxRecDepth 100000 in
theorem startsPlay_lifted (os : Os) (started : os.Started) (H : Type) (enc : TypeId × Value → H) :
    ReturnsInHanded {} Try.checked os 3 .any (Rows.startsPlaySpec.pre6 enc Try.prog Try.f3 Rows.startsPlayRow.domain false) (Rows.startsPlaySpec.post enc Try.prog Try.f3 false true false false) := by
  refine returnsInHanded_of_change (C := Try.checked) law_own started (by kernel_rfl) Try.func3
    (ChangeSpec.witness6 (enc := enc) (C := Try.checked) false ⟨#[], #[.int .i64 0, .slice none 0 0, .agg #[.int .i64 0, .int .i64 0]], []⟩ 8 (by kernel_rfl) (by kernel_rfl) (by kernel_rfl) (by kernel_rfl)) ?_
  intro W base args ds gs before hval0 hW hcnd _
  have hval : ∀ (j : Nat) t v, Try.f3.params[j]? = some t → args[j]? = some v → Value.okWide Try.prog W .any base t v := hval0
  have hW' := hW
  obtain ⟨p, q, hA0, hV, rfl, hfz, hnd⟩ := hW
  have hA : DataW.TrodAll enc Try.prog W 0 (fun _ => true) true Try.f3.params.toList args.toList ds p := hA0
  rw [Try.params3] at hA hval
  have hK := hA
  obtain ⟨v0, v1, v2, d0, d1, d2, p0, p1, p2, rfl, rfl, rfl, h0, h1, h2⟩ := trodAll_three hA
  obtain ⟨rfl, rfl⟩ := trodVars_none hV
  obtain ⟨n, rfl, _, _, wn⟩ := open_int Try.underlying3 (hval 0 3 v0 rfl rfl) h0
  obtain ⟨a0, cap, rows, rfl, hs0, hmx⟩ := open_flat (ls := [.int .i64, .int .i64, .bool]) 4 Try.underlying22 (by kernel_rfl) (by kernel_rfl) (by decide) (hval 1 22 v1 rfl rfl) h1
  obtain ⟨a, c, rfl, wa, wc⟩ := open_run (hval 2 24 v2 rfl rfl) h2
  obtain ⟨l, hll, hs, hbd⟩ := acts_both hs0
  clear hA0 hval0
  have hwalk : Calls Try.prog 3 #[.int .i64 n, .slice a0 rows.length cap, .agg #[.int .i64 a, .int .i64 c]] W (FixedPost W) := by
    by_cases c1 : 300 < n ∧ n ≤ 16384
    · exact startsPlay_fixed n a c a0 rows.length cap W hmx (.inl c1)
    · by_cases c2 : 60 < rows.length
      · exact startsPlay_fixed n a c a0 rows.length cap W hmx (.inr ⟨c1, c2⟩)
      · rw [← hll]
        exact startsPlay_any n a c a0 cap l W hs (by omega) c1 (i64_le wa).2 (i64_le wc) (fun x hx => (hbd x hx).2)
  refine hwalk.mono fun e W' ⟨he, hk⟩ => ?_
  subst he
  have bel : Below W.heap.size W W' := hk.below (by simp) (Nat.le_refl _)
  exact ⟨_, rfl, _, _, _, [], _, [], hW', trodAll_mk1 (shut_bool Try.underlying4 _), trodAll_below bel _ _ _ _ (by decide +kernel) hK, rfl, bel.frame _, fun h => by cases h⟩

theorem startsPlay_holds : Rows.StartsPlaySaid :=
  OpenClaim.holds_of_wide 3 Try.f3 rfl rfl rfl rfl rfl rfl rfl ⟨rfl, rfl, rfl, rfl, rfl⟩ rfl rfl rfl rfl rfl (by kernel_rfl) Try.func3 (by kernel_rfl)
    (of_decide_eq_true (by kernel_rfl)) (by unfold Func.isWrapper; first | (rw [if_pos (by decide +kernel)]; kernel_rfl) | (rw [if_neg (by decide +kernel)]; exact ⟨rfl, rfl⟩))
    (fun os started H enc _ => startsPlay_lifted os started H enc)
end Go.Proofs.Ytkfdkmdjdghdkaa
