/- WordsFills: for every input the law answers true, and its arguments read behind the call as they read before. Conditions: none. -/
import Derived.Test.YtkdojplbkhdgdaaLaw
import Derived.Test.YtkdojplbkhdgdaaFills
namespace Go.Proofs.Ytkdojplbkhdgdaa
open Go.ChangeShapes Go.WideShapes Go.ChangeAt Go.RowKit

set_option maxRecDepth 100000 in
theorem wordsFills_lifted (os : Os) (started : os.Started) (H : Type) (enc : TypeId × Value → H) :
    ReturnsInHanded {} Try.checked os 6 .any (Rows.wordsFillsSpec.pre6 enc Try.prog Try.f6 Rows.wordsFillsRow.domain false) (Rows.wordsFillsSpec.post enc Try.prog Try.f6 false true false false) := by
  refine returnsInHanded_of_change (C := Try.checked) law_own started (by kernel_rfl) Try.func6
    (ChangeSpec.witness6 (enc := enc) (C := Try.checked) false ⟨#[], #[.slice none 0 0, .agg #[.int .i64 0, .int .i64 0], .int .u64 0], []⟩ 8 (by kernel_rfl) (by kernel_rfl) (by kernel_rfl) (by kernel_rfl)) ?_
  intro W base args ds gs before hval0 hW hcnd _
  have hval : ∀ (j : Nat) t v, Try.f6.params[j]? = some t → args[j]? = some v → Value.okWide Try.prog W .any base t v := hval0
  have hW' := hW
  obtain ⟨p, q, hA0, hV, rfl, hfz, hnd⟩ := hW
  have hA : DataW.TrodAll enc Try.prog W 0 (fun _ => true) true Try.f6.params.toList args.toList ds p := hA0
  rw [Try.params6] at hA hval
  have hK := hA
  obtain ⟨v0, v1, v2, d0, d1, d2, p0, p1, p2, rfl, rfl, rfl, h0, h1, h2⟩ := trodAll_three hA
  obtain ⟨rfl, rfl⟩ := trodVars_none hV
  obtain ⟨a0, cap, zs, rfl, hs, hmx, _⟩ := open_sl Try.underlying28 Try.underlying31 (by kernel_rfl) (hval 0 28 v0 rfl rfl) h0
  obtain ⟨a, c, rfl, wa, _⟩ := open_run (hval 1 38 v1 rfl rfl) h1
  obtain ⟨v, rfl, _, _, _⟩ := open_int Try.underlying31 (hval 2 31 v2 rfl rfl) h2
  have hx := (i64_le wa).2
  clear hA0 hval0
  have hwalk : Calls Try.prog 6 #[.slice a0 zs.length cap, .agg #[.int .i64 a, .int .i64 c], .int .u64 v] W (FixedPost W) := by
    by_cases hl : zs.length ≤ 300
    · exact fills_any a0 cap zs a c v W hs hl hx
    · exact fills_big a0 zs.length cap a c v W (by omega) hmx
  refine hwalk.mono fun e W' ⟨he, hk⟩ => ?_
  subst he
  have bel : Below W.heap.size W W' := hk.below (by simp) (Nat.le_refl _)
  exact ⟨_, rfl, _, _, _, [], _, [], hW', trodAll_mk1 (shut_bool Try.underlying4 _), trodAll_below bel _ _ _ _ (by decide +kernel) hK, rfl, bel.frame _, fun h => by cases h⟩

theorem wordsFills_holds : Rows.WordsFillsSaid :=
  OpenClaim.holds_of_wide 6 Try.f6 rfl rfl rfl rfl rfl rfl rfl ⟨rfl, rfl, rfl, rfl, rfl⟩ rfl rfl rfl rfl rfl (by kernel_rfl) Try.func6 (by kernel_rfl)
    (of_decide_eq_true (by kernel_rfl)) (by unfold Func.isWrapper; first | (rw [if_pos (by decide +kernel)]; kernel_rfl) | (rw [if_neg (by decide +kernel)]; exact ⟨rfl, rfl⟩))
    (fun os started H enc _ => wordsFills_lifted os started H enc)
end Go.Proofs.Ytkdojplbkhdgdaa
