/- SlotPlays: for every input the law answers true, and its arguments read behind the call as they read before. The package's table is read as its own initialiser lays it (tied to the program's text). Conditions: none. -/
import Derived.Test.YthkmnjkaadmilaaDoorDescLaid
import Derived.Test.YthkmnjkaadmilaaDoorSlotArg
import Derived.Test.YthkmnjkaadmilaaDoorHeaderArg
import Derived.Test.YthkmnjkaadmilaaDoorSlotPlaysLaw
import Derived.Test.YthkmnjkaadmilaaDoorTie
import Derived.Test.YthkmnjkaadmilaaDoorCards
namespace Go.Proofs.YthkmnjkaadmilaaDoor
open Go.ChangeShapes Go.WideShapes Go.ChangeAt Go.RowKit

theorem two_of {ns : List Int} (h : ns.length = 2) : ∃ x0 x1, ns = [x0, x1] := by
  match ns, h with
  | [x0, x1], _ => exact ⟨x0, x1, rfl⟩

set_option maxRecDepth 100000 in
set_option maxHeartbeats 1000000 in
theorem slotPlays_lifted (os : Os) (started : os.Started) (H : Type) (enc : TypeId × Value → H) :
    ReturnsInHanded {} Tryd.checked os 3 .any (fun w args => (Rows.slotPlaysSpec.pre enc Tryd.prog Tryd.f3 [] false w args ∧ laidMetH Tryd.prog laidList w) ∧ sizedMet enc Tryd.prog Tryd.f3 (OpenSpec.ofChange Rows.slotPlaysSpec) false w args)
      (Rows.slotPlaysSpec.post enc Tryd.prog Tryd.f3 false true false false) := by
  refine returnsInHanded_of_change_and (C := Tryd.checked) (X := fun w _ => laidMetH Tryd.prog laidList w) (fun _ _ _ hh h => h.of_heap hh) law_own started (by kernel_rfl) Tryd.func3
    (ChangeSpec.witness_shaped (enc := enc) (C := Tryd.checked) (os := os) (X := fun w _ => laidMetH Tryd.prog laidList w) false (World.doorLaid Tryd.prog 18 os) #[.slice none 0 0, .agg #[.int .i64 0, .int .i64 0, .bool false, .int .i64 0, .int .i64 0, .int .i64 0, .slice none 0 0, .slice none 0 0], .agg #[.int .u64 0, .int .u64 0]] 8 rfl (World.shaped_of_RefB (by kernel_rfl) (by kernel_rfl)) (by kernel_rfl) (by kernel_rfl) (by kernel_rfl) (door_met os _)) ?_
  intro W base args ds gs before hval0 hW _ _ hL _
  have hval : ∀ (j : Nat) t v, Tryd.f3.params[j]? = some t → args[j]? = some v → Value.okWide Tryd.prog W .any base t v := hval0
  have hW' := hW
  obtain ⟨p, q, hA0, hV, rfl, hfz, hnd⟩ := hW
  have hA : DataW.TrodAll enc Tryd.prog W 0 (fun _ => true) true Tryd.f3.params.toList args.toList ds p := hA0
  rw [Tryd.params3] at hA hval
  have hK := hA
  obtain ⟨v0, v1, v2, d0, d1, d2, p0, p1, p2, rfl, rfl, rfl, h0, h1, h2⟩ := trodAll_three hA
  obtain ⟨rfl, rfl⟩ := trodVars_none hV
  obtain ⟨a0, cap, zs, rfl, hs, hmx, _⟩ := open_sl Tryd.underlying22 Tryd.underlying28 (by kernel_rfl) (hval 0 22 v0 rfl rfl) h0
  obtain ⟨a, r, ar, kd, ty, nn, ka, kc, ks, va, vc, vs, rfl, hk, hv, hkm, hvm⟩ : ∃ (a r : Int) (ar : Bool) (kd ty nn : Int) (ka : Option Addr) (kc : Nat) (ks : List Int) (va : Option Addr) (vc : Nat) (vs : List Int), v1 = .agg #[.int .i64 a, .int .i64 r, .bool ar, .int .i64 kd, .int .i64 ty, .int .i64 nn, .slice ka ks.length kc, .slice va vs.length vc] ∧ Sl W .i64 ka ks ∧ Sl W .u64 va vs ∧ ks.length ≤ maxLen ∧ vs.length ≤ maxLen := open_object (hval 1 27 v1 rfl rfl) h1
  obtain ⟨ns, hnl, rfl, hnw⟩ := open_arr_int (n := 2) Tryd.underlying29 Tryd.underlying28 (by kernel_rfl) (by kernel_rfl) (hval 2 29 v2 rfl rfl) h2
  obtain ⟨x0, x1, rfl⟩ := two_of hnl
  have g0 := u64_le (hnw x0 (by simp))
  obtain ⟨n, rfl⟩ := Int.eq_ofNat_of_zero_le g0.1
  have hT := tab_of_laid hL
  clear hA0 hval0 hnw g0 hL
  have hwalk : Calls Tryd.prog 3 #[.slice a0 zs.length cap, .agg #[.int .i64 a, .int .i64 r, .bool ar, .int .i64 kd, .int .i64 ty, .int .i64 nn, .slice ka ks.length kc, .slice va vs.length vc], .agg #[.int .u64 (n : Int), .int .u64 x1]] W (FixedPost W) := by
    by_cases hb : 300 < zs.length ∨ 100 < ks.length ∨ 100 < vs.length
    · exact slotPlays_big a0 zs.length cap a r ar kd ty nn ka kc ks va vc vs n x1 W hmx hkm hvm hb
    · exact slotPlays_law a0 cap zs a r ar kd ty nn ka kc ks va vc vs n x1 W hT hs (Nat.le_of_not_lt fun h => hb (.inl h)) hk hv (Nat.le_of_not_lt fun h => hb (.inr (.inl h))) (Nat.le_of_not_lt fun h => hb (.inr (.inr h)))
  refine hwalk.mono fun e W' ⟨he, hk⟩ => ?_
  subst he
  have bel : Below W.heap.size W W' := hk.below (by simp) (Nat.le_refl _)
  exact ⟨_, rfl, _, _, _, [], _, [], hW', trodAll_mk1 (shut_bool Tryd.underlying4 _), trodAll_below bel _ _ _ _ (by decide +kernel) hK, rfl, bel.frame _, fun h => by cases h⟩

theorem slotPlays_row : Rows.SlotPlaysSaid :=
  OpenClaim.holds_of_wide 3 Tryd.f3 rfl rfl rfl rfl rfl rfl rfl ⟨rfl, rfl, rfl, rfl, rfl⟩ rfl rfl rfl rfl rfl (by kernel_rfl) Tryd.func3 (by kernel_rfl)
    (of_decide_eq_true (by kernel_rfl)) (by unfold Func.isWrapper; first | (rw [if_pos (by decide +kernel)]; kernel_rfl) | (rw [if_neg (by decide +kernel)]; exact ⟨rfl, rfl⟩))
    (fun os started H enc _ => slotPlays_lifted os started H enc)

theorem slotPlays_holds : Rows.SlotPlaysCardSaid :=
  Claim7.holds_tied_plain_at .later [] [.data] true (true, _) false
    slotPlays_row (fun _ h => by cases h) (by kernel_rfl) (fun _ h => by cases h) slotPlays_row_tie rfl ⟨rfl, rfl⟩ (by kernel_rfl) rfl
    (fun f fn hf hfn => by
      obtain rfl : f = 3 := Option.some.inj ((show Tryd.prog.funcNamed "kraal/kraallaw13.SlotPlays" = some 3 by kernel_rfl).symm.trans hf) |>.symm
      obtain rfl : fn = Tryd.f3 := (Option.some.inj (Tryd.func3.symm.trans hfn)).symm
      exact ⟨by kernel_rfl, fun j t ht => by
        rw [Tryd.params3] at ht
        have hm : t ∈ [22, 27, 29] := by simpa using Array.mem_of_getElem? ht
        have hall : ([22, 27, 29].all fun u => !Tryd.prog.wantsStandIn u) = true := by kernel_rfl
        exact (show Tryd.prog.wantsStandIn t = false by simpa using List.all_eq_true.1 hall t hm)⟩)
    (by kernel_rfl)
end Go.Proofs.YthkmnjkaadmilaaDoor
