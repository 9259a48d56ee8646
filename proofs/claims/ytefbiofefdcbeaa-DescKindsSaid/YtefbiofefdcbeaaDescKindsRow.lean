/- DescKinds: for every input the law answers true, and its arguments read behind the call as they read before. Conditions: none. -/
import Derived.Test.YtefbiofefdcbeaaLaw
import Derived.Test.YtefbiofefdcbeaaDescArgs
import Derived.Test.YtefbiofefdcbeaaDescKindsLaw
namespace Go.Proofs.Ytefbiofefdcbeaa
open Go.ChangeShapes Go.WideShapes Go.ChangeAt Go.RowKit

set_option maxRecDepth 100000 in
set_option maxHeartbeats 1000000 in
theorem descKinds_lifted (os : Os) (started : os.Started) (H : Type) (enc : TypeId × Value → H) :
    ReturnsInHanded {} Try.checked os 3 .any (Rows.descKindsSpec.pre6 enc Try.prog Try.f3 Rows.descKindsRow.domain false) (Rows.descKindsSpec.post enc Try.prog Try.f3 false true false false) := by
  refine returnsInHanded_of_change (C := Try.checked) law_own started (by kernel_rfl) Try.func3
    (ChangeSpec.witness6 (enc := enc) (C := Try.checked) false ⟨#[], #[.slice none 0 0, .agg #[.bool false, .int .i64 0, .int .i64 0, .int .i64 0]], []⟩ 8 (by kernel_rfl) (by kernel_rfl) (by kernel_rfl) (by kernel_rfl)) ?_
  intro W base args ds gs before hval0 hW hcnd _
  have hval : ∀ (j : Nat) t v, Try.f3.params[j]? = some t → args[j]? = some v → Value.okWide Try.prog W .any base t v := hval0
  have hW' := hW
  obtain ⟨p, q, hA0, hV, rfl, hfz, hnd⟩ := hW
  have hA : DataW.TrodAll enc Try.prog W 0 (fun _ => true) true Try.f3.params.toList args.toList ds p := hA0
  rw [Try.params3] at hA hval
  have hK := hA
  obtain ⟨v0, v1, d0, d1, p0, p1, rfl, rfl, rfl, h0, h1⟩ := trodAll_two hA
  obtain ⟨rfl, rfl⟩ := trodVars_none hV
  obtain ⟨a0, cap, l, rfl, hs, hmx⟩ := open_types (hval 0 22 v0 rfl rfl) h0
  obtain ⟨ar, kind, ty, n, rfl⟩ := open_head (hval 1 24 v1 rfl rfl) h1
  unfold maxLen at hmx
  clear hA0 hval0
  have hwalk : Calls Try.prog 3 #[.slice a0 l.length cap, .agg #[.bool ar, .int .i64 kind, .int .i64 ty, .int .i64 n]] W (FixedPost W) := by
    cases hg : greatB (l.map Ty.ks) with
    | true => exact descKinds_great a0 cap l ar kind ty n W hs (by omega) hg
    | false =>
      obtain ⟨h1, h2⟩ := greatB_false hg
      exact descKinds_law a0 cap l ar kind ty n W hs (by simpa using h2) (fun t ht => h1 _ (List.mem_map.2 ⟨t, ht, rfl⟩)) hg
  refine hwalk.mono fun e W' ⟨he, hk⟩ => ?_
  subst he
  have bel : Below W.heap.size W W' := hk.below (by simp) (Nat.le_refl _)
  exact ⟨_, rfl, _, _, _, [], _, [], hW', trodAll_mk1 (shut_bool Try.underlying4 _), trodAll_below bel _ _ _ _ (by decide +kernel) hK, rfl, bel.frame _, fun h => by cases h⟩

theorem descKinds_holds : Rows.DescKindsSaid :=
  OpenClaim.holds_of_wide 3 Try.f3 rfl rfl rfl rfl rfl rfl rfl ⟨rfl, rfl, rfl, rfl, rfl⟩ rfl rfl rfl rfl rfl (by kernel_rfl) Try.func3 (by kernel_rfl)
    (of_decide_eq_true (by kernel_rfl)) (by unfold Func.isWrapper; first | (rw [if_pos (by decide +kernel)]; kernel_rfl) | (rw [if_neg (by decide +kernel)]; exact ⟨rfl, rfl⟩))
    (fun os started H enc _ => descKinds_lifted os started H enc)
end Go.Proofs.Ytefbiofefdcbeaa
