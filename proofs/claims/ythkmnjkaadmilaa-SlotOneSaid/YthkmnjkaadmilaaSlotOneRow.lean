/- SlotOne: for every input the law answers true, and its arguments read behind the call as they read before. Conditions: none. -/
import Derived.Test.YthkmnjkaadmilaaSlotArg
import Derived.Test.YthkmnjkaadmilaaHeaderArg
import Derived.Test.YthkmnjkaadmilaaSlotOneLaw
namespace Go.Proofs.Ythkmnjkaadmilaa
open Go.ChangeShapes Go.WideShapes Go.ChangeAt Go.RowKit

theorem three_of {ns : List Int} (h : ns.length = 3) : ∃ x0 x1 x2, ns = [x0, x1, x2] := by
  match ns, h with
  | [x0, x1, x2], _ => exact ⟨x0, x1, x2, rfl⟩

set_option maxRecDepth 100000 in
set_option maxHeartbeats 1000000 in
theorem slotOne_lifted (os : Os) (started : os.Started) (H : Type) (enc : TypeId × Value → H) :
    ReturnsInHanded {} Try.checked os 3 .any (Rows.slotOneSpec.pre6 enc Try.prog Try.f3 Rows.slotOneRow.domain false) (Rows.slotOneSpec.post enc Try.prog Try.f3 false true false false) := by
  refine returnsInHanded_of_change (C := Try.checked) law_own started (by kernel_rfl) Try.func3
    (ChangeSpec.witness6 (enc := enc) (C := Try.checked) false ⟨#[], #[.slice none 0 0, .agg #[.int .i64 0, .int .i64 0, .bool false, .int .i64 0, .int .i64 0, .int .i64 0, .slice none 0 0, .slice none 0 0], .agg #[.int .u64 0, .int .u64 0, .int .u64 0]], []⟩ 8 (by kernel_rfl) (by kernel_rfl) (by kernel_rfl) (by kernel_rfl)) ?_
  intro W base args ds gs before hval0 hW hcnd _
  have hval : ∀ (j : Nat) t v, Try.f3.params[j]? = some t → args[j]? = some v → Value.okWide Try.prog W .any base t v := hval0
  have hW' := hW
  obtain ⟨p, q, hA0, hV, rfl, hfz, hnd⟩ := hW
  have hA : DataW.TrodAll enc Try.prog W 0 (fun _ => true) true Try.f3.params.toList args.toList ds p := hA0
  rw [Try.params3] at hA hval
  have hK := hA
  obtain ⟨v0, v1, v2, d0, d1, d2, p0, p1, p2, rfl, rfl, rfl, h0, h1, h2⟩ := trodAll_three hA
  obtain ⟨rfl, rfl⟩ := trodVars_none hV
  obtain ⟨a0, cap, zs, rfl, hs, hmx, _⟩ := open_sl Try.underlying22 Try.underlying28 (by kernel_rfl) (hval 0 22 v0 rfl rfl) h0
  obtain ⟨a, r, ar, kd, ty, nn, ka, kc, ks, va, vc, vs, rfl, hk, hv, hkm, hvm⟩ : ∃ (a r : Int) (ar : Bool) (kd ty nn : Int) (ka : Option Addr) (kc : Nat) (ks : List Int) (va : Option Addr) (vc : Nat) (vs : List Int), v1 = .agg #[.int .i64 a, .int .i64 r, .bool ar, .int .i64 kd, .int .i64 ty, .int .i64 nn, .slice ka ks.length kc, .slice va vs.length vc] ∧ Sl W .i64 ka ks ∧ Sl W .u64 va vs ∧ ks.length ≤ maxLen ∧ vs.length ≤ maxLen := open_object (hval 1 27 v1 rfl rfl) h1
  obtain ⟨ns, hnl, rfl, hnw⟩ := open_arr_int (n := 3) Try.underlying29 Try.underlying28 (by kernel_rfl) (by kernel_rfl) (hval 2 29 v2 rfl rfl) h2
  obtain ⟨x0, x1, x2, rfl⟩ := three_of hnl
  have g0 := u64_le (hnw x0 (by simp))
  have g1 := u64_le (hnw x1 (by simp))
  obtain ⟨n0, rfl⟩ := Int.eq_ofNat_of_zero_le g0.1
  obtain ⟨n1, rfl⟩ := Int.eq_ofNat_of_zero_le g1.1
  clear hA0 hval0 hnw g0 g1
  have hwalk : Calls Try.prog 3 #[.slice a0 zs.length cap, .agg #[.int .i64 a, .int .i64 r, .bool ar, .int .i64 kd, .int .i64 ty, .int .i64 nn, .slice ka ks.length kc, .slice va vs.length vc], .agg #[.int .u64 (n0 : Int), .int .u64 (n1 : Int), .int .u64 x2]] W (FixedPost W) := by
    by_cases hb : 300 < zs.length ∨ 100 < ks.length ∨ 100 < vs.length
    · exact slotOne_big a0 zs.length cap a r ar kd ty nn ka kc ks va vc vs n0 n1 x2 W hmx hkm hvm hb
    · exact slotOne_law a0 cap zs a r ar kd ty nn ka kc ks va vc vs n0 n1 x2 W hs (Nat.le_of_not_lt fun h => hb (.inl h)) hk hv (Nat.le_of_not_lt fun h => hb (.inr (.inl h))) (Nat.le_of_not_lt fun h => hb (.inr (.inr h)))
  refine hwalk.mono fun e W' ⟨he, hk⟩ => ?_
  subst he
  have bel : Below W.heap.size W W' := hk.below (by simp) (Nat.le_refl _)
  exact ⟨_, rfl, _, _, _, [], _, [], hW', trodAll_mk1 (shut_bool Try.underlying4 _), trodAll_below bel _ _ _ _ (by decide +kernel) hK, rfl, bel.frame _, fun h => by cases h⟩

theorem slotOne_holds : Rows.SlotOneSaid :=
  OpenClaim.holds_of_wide 3 Try.f3 rfl rfl rfl rfl rfl rfl rfl ⟨rfl, rfl, rfl, rfl, rfl⟩ rfl rfl rfl rfl rfl (by kernel_rfl) Try.func3 (by kernel_rfl)
    (of_decide_eq_true (by kernel_rfl)) (by unfold Func.isWrapper; first | (rw [if_pos (by decide +kernel)]; kernel_rfl) | (rw [if_neg (by decide +kernel)]; exact ⟨rfl, rfl⟩))
    (fun os started H enc _ => slotOne_lifted os started H enc)
end Go.Proofs.Ythkmnjkaadmilaa
