/- SweepScalars: for every input the law answers true, and its arguments read behind the call as they read before. The package's table is read as its own initialiser lays it (tied to the program's text). Conditions: none. -/
import Derived.Test.YtionleocbjfgaaaDoorDescLaid
import Derived.Test.YtionleocbjfgaaaDoorSweepArg
import Derived.Test.YtionleocbjfgaaaDoorSweepScalarsLaw
import Derived.Test.YtionleocbjfgaaaDoorTie
import Derived.Test.YtionleocbjfgaaaDoorCards
namespace Go.Proofs.YtionleocbjfgaaaDoor
open Go.ChangeShapes Go.WideShapes Go.ChangeAt Go.RowKit

set_option maxRecDepth 100000 in
set_option maxHeartbeats 1000000 in
theorem sweepScalars_lifted (os : Os) (started : os.Started) (H : Type) (enc : TypeId × Value → H) :
    ReturnsInHanded {} Tryd.checked os 4 .any (fun w args => (Rows.sweepScalarsSpec.pre enc Tryd.prog Tryd.f4 [] false w args ∧ laidMetH Tryd.prog laidList w) ∧ sizedMet enc Tryd.prog Tryd.f4 (OpenSpec.ofChange Rows.sweepScalarsSpec) false w args)
      (Rows.sweepScalarsSpec.post enc Tryd.prog Tryd.f4 false true false false) := by
  refine returnsInHanded_of_change_and (C := Tryd.checked) (X := fun w _ => laidMetH Tryd.prog laidList w) (fun _ _ _ hh h => h.of_heap hh) law_own started (by kernel_rfl) Tryd.func4
    (ChangeSpec.witness_shaped (enc := enc) (C := Tryd.checked) (os := os) (X := fun w _ => laidMetH Tryd.prog laidList w) false (World.doorLaid Tryd.prog 18 os) #[.slice none 0 0, .slice none 0 0, .int .u64 0] 8 rfl (World.shaped_of_RefB (by kernel_rfl) (by kernel_rfl)) (by kernel_rfl) (by kernel_rfl) (by kernel_rfl) (door_met os _)) ?_
  intro W base args ds gs before hval0 hW _ _ hL _
  have hval : ∀ (j : Nat) t v, Tryd.f4.params[j]? = some t → args[j]? = some v → Value.okWide Tryd.prog W .any base t v := hval0
  have hW' := hW
  obtain ⟨p, q, hA0, hV, rfl, hfz, hnd⟩ := hW
  have hA : DataW.TrodAll enc Tryd.prog W 0 (fun _ => true) true Tryd.f4.params.toList args.toList ds p := hA0
  rw [Tryd.params4] at hA hval
  have hK := hA
  obtain ⟨v0, v1, v2, d0, d1, d2, p0, p1, p2, rfl, rfl, rfl, h0, h1, h2⟩ := trodAll_three hA
  obtain ⟨rfl, rfl⟩ := trodVars_none hV
  obtain ⟨a, cap, qs, rfl, hs, hmx, _, hnum⟩ := open_objs18 (hval 0 22 v0 rfl rfl) h0
  obtain ⟨R, rc, roots, rfl, hsr, hrm, hrw⟩ := open_sl Tryd.underlying23 Tryd.underlying36 (by kernel_rfl) (hval 1 23 v1 rfl rfl) h1
  obtain ⟨by_, rfl, _, _, _⟩ := open_int Tryd.underlying36 (hval 2 36 v2 rfl rfl) h2
  have hT := tab_of_laid hL
  clear hA0 hval0 hL
  have hwalk : Calls Tryd.prog 4 #[.slice a qs.length cap, .slice R roots.length rc, .int .u64 by_] W (FixedPost W) := by
    by_cases hg : greatQ qs = true ∨ 60 < roots.length
    · exact sweepScalars_great a R cap rc qs roots.length by_ W hs hT hmx hrm hg
    · have hg1 : greatQ qs = false := by simpa using fun h => hg (.inl h)
      have hfit : ∀ q ∈ qs, q.o.Fit := fun q hq => by
        have h1 := (greatQ_no hg1).2 q hq
        have h2 := hnum q hq
        exact ⟨h2.at_, h2.reg, h2.ks, h2.vs, by omega, by omega⟩
      exact sweepScalars_law a cap qs R rc roots by_ W hfit (fun v hv => fitU_wf (hrw v hv)) hs hsr hT hg1 (by omega)
  refine hwalk.mono fun e W' ⟨he, hk⟩ => ?_
  subst he
  have bel : Below W.heap.size W W' := hk.below (by simp) (Nat.le_refl _)
  exact ⟨_, rfl, _, _, _, [], _, [], hW', trodAll_mk1 (shut_bool Tryd.underlying4 _), trodAll_below bel _ _ _ _ (by decide +kernel) hK, rfl, bel.frame _, fun h => by cases h⟩

theorem sweepScalars_row : Rows.SweepScalarsSaid :=
  OpenClaim.holds_of_wide 4 Tryd.f4 rfl rfl rfl rfl rfl rfl rfl ⟨rfl, rfl, rfl, rfl, rfl⟩ rfl rfl rfl rfl rfl (by kernel_rfl) Tryd.func4 (by kernel_rfl)
    (of_decide_eq_true (by kernel_rfl)) (by unfold Func.isWrapper; first | (rw [if_pos (by decide +kernel)]; kernel_rfl) | (rw [if_neg (by decide +kernel)]; exact ⟨rfl, rfl⟩))
    (fun os started H enc _ => sweepScalars_lifted os started H enc)

theorem sweepScalars_holds : Rows.SweepScalarsCardSaid :=
  Claim7.holds_tied_plain_at .later [] [.data] true (true, _) false
    sweepScalars_row (fun _ h => by cases h) (by kernel_rfl) (fun _ h => by cases h) sweepScalars_row_tie rfl ⟨rfl, rfl⟩ (by kernel_rfl) rfl
    (fun f fn hf hfn => by
      obtain rfl : f = 4 := Option.some.inj ((show Tryd.prog.funcNamed "kraal/kraallaw18.SweepScalars" = some 4 by kernel_rfl).symm.trans hf) |>.symm
      obtain rfl : fn = Tryd.f4 := (Option.some.inj (Tryd.func4.symm.trans hfn)).symm
      exact ⟨by kernel_rfl, fun j t ht => by
        rw [Tryd.params4] at ht
        have hm : t ∈ [22, 23, 36] := by simpa using Array.mem_of_getElem? ht
        have hall : ([22, 23, 36].all fun u => !Tryd.prog.wantsStandIn u) = true := by kernel_rfl
        exact (show Tryd.prog.wantsStandIn t = false by simpa using List.all_eq_true.1 hall t hm)⟩)
    (by kernel_rfl)
end Go.Proofs.YtionleocbjfgaaaDoor
