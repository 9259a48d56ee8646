/- Package frames: All, cut, Push, Pop. -/
import Derived.Test.YtljpmckbkpoikaaFrames
import Derived.Test.YtljpmckbkpoikaaAppendPick
import Derived.Test.YtljpmckbkpoikaaStepCall
import Derived.StillTailTactics
namespace Go.Proofs.Ytljpmckbkpoikaa
open Go.RowKit

set_option maxRecDepth 100000 in
set_option maxHeartbeats 400000 in
theorem stackAll_any (b : Nat) (v : Value) (fs : List (List Int)) (w : World) (hm : IsStack w b v fs) :
    Calls Try.prog 13 #[.pointer (some ⟨b, 0, none⟩)] w (OwnPost (totF fs) (allF fs) w) := by
  have hc := hm.cellU
  have hbd := hm.small.flat.2
  rw [show fs.flatten.length = totF fs from rfl] at hbd
  have hsl : Sl w .u64 (some ⟨b, 0, none⟩) (allF fs) := by
    refine .inr ⟨b, 0, rfl, hm.lt, fun j hj => ?_⟩
    rw [allF_length] at hj
    rw [Nat.zero_add, hm.cellW j (by omega), show (wordsF fs)[j]?.getD 0 = (allF fs)[j]?.getD 0 from wordsF_flat fs j hj]
  have hal := allF_length fs
  have HSL := Lib.hid hsl
  have HAL := Lib.hid hal
  clear hm hsl hal
  generalize totF fs = T at *
  have hbdI : (T : Int) ≤ 1024 := by omega
  go_enter Try.func13, Try.ntmps13
  go_wp2_with fail
  go_still_tail 8, (by kernel_rfl)
  change wpList _ _ _ _ _ w.drew
  have k1 := (Kept.refl [] w).drew
  have H1 := Lib.hid (HSL.out.kept k1)
  have hsz : w.drew.heap.size = w.heap.size := rfl
  generalize w.drew = W at *
  go_wp2_with fail
  refine (toldF_any _ _ _ (allF fs) W H1.out HAL.out (by omega)).mono ?_
  rintro e w1 ⟨r, cap, rfl, hown, hk⟩
  rw [hsz] at hown
  go_wp2
  go_ret
  exact ⟨r, cap, rfl, hown, k1.trans hk⟩

/-- What cut leaves: the next n words as a frame. -/
def CutPost (b U n : Nat) (ws : List Int) (v : Value) (w : World) (e : Ending) (w' : World) : Prop :=
  e = .returned (.slice (some (fAt b U n)) n n) ∧ Row w' b 54 (stackC ws (U + n) v) ∧ Kept [b] w w' ∧ w'.heap.size = w.heap.size

set_option maxRecDepth 100000 in
set_option maxHeartbeats 400000 in
theorem stackCut_any (b U n : Nat) (ws : List Int) (v : Value) (w : World) (hr : Row w b 54 (stackC ws U v)) (hl : ws.length = 1024) (hU : U + n ≤ 1024) :
    Calls Try.prog 19 #[.pointer (some ⟨b, 0, none⟩), .int .i64 n] w (CutPost b U n ws v w) := by
  have hc : w.cell? ⟨b, 1024, none⟩ = some (.int .i64 U) := (hr.cell 1024).trans (stackC_used hl)
  have HSZ := Lib.hid (fun (m : Nat) => (show ((w.drewN m).setCell ⟨b, 1024, none⟩ (.int .i64 (U + n : Nat))).heap.size = w.heap.size by simp [World.setCell]))
  have HR := Lib.hid (fun (m : Nat) => by
    have := (hr.drewN m).set 1024 (.int .i64 (U + n : Nat))
    rw [stackC_setUsed hl] at this
    exact this)
  have HK := Lib.hid (fun (m : Nat) => ((Kept.refl [b] w).drewN m).set (p := ⟨b, 1024, none⟩) (.inl (by simp)) (.int .i64 (U + n : Nat)))
  have HFR := Lib.hid (fun (m : Nat) => (hr.drewN m).free 1024)
  clear hr hl
  by_cases h0 : n = 0
  · subst h0
    have hw : IntKind.i64.wrap (U : Int) = (U : Int) := IntWalk.i64_in _ (by omega)
    have hU' : (U : Int) ≤ 1024 := by omega
    go_enter Try.func19, Try.ntmps19
    go_wp2_with fail
    go_quiet (fail)
    have hf := HFR.out nq
    go_wp2
    go_ret
    exact ⟨rfl, HR.out nq, HK.out nq, HSZ.out nq⟩
  · obtain ⟨T, hT⟩ : ∃ T, U + n = T := ⟨_, rfl⟩
    have hw : IntKind.i64.wrap ((U : Int) + (n : Int)) = (T : Int) := by rw [IntWalk.i64_in _ (by omega)]; omega
    have hsub : T - U = n := by omega
    have hne : ¬ T = U := by omega
    have hT' : (T : Int) ≤ 1024 := by omega
    have hUT : (U : Int) ≤ (T : Int) := by omega
    have hU0 : (0 : Int) ≤ (U : Int) := by omega
    have HT := Lib.hid hT
    clear hT
    go_enter Try.func19, Try.ntmps19
    go_wp2_with fail
    go_quiet (fail)
    have hf := HFR.out nq
    go_wp2
    go_ret
    have e1 := HR.out nq
    have e2 := HK.out nq
    have e3 := HSZ.out nq
    rw [HT.out] at e1 e2 e3
    refine ⟨by unfold fAt; rw [if_neg h0]; rfl, ?_, e2, e3⟩
    rw [HT.out]
    exact e1

theorem info_row : (Try.prog.info? 31).map (fun i => (i.zero, i.size, i.bytes)) = some (some (.slice none 0 0), 1, 24) := by kernel_rfl

set_option maxRecDepth 100000 in
set_option maxHeartbeats 400000 in
theorem stackPush_arg (b n : Nat) (w : World) (hn : 16 < n) :
    Calls Try.prog 7 #[.pointer (some ⟨b, 0, none⟩), .int .u64 n] w fun e w' => e = .returned (.int .i64 1) ∧ w = w' := by
  have hd : decide ((16 : Int) < (n : Int)) = true := by simp; omega
  go_enter Try.func7, Try.ntmps7
  go_wp2
  go_ret
  exact ⟨rfl, rfl⟩

set_option maxRecDepth 100000 in
set_option maxHeartbeats 400000 in
theorem stackPush_full (b n : Nat) (v : Value) (fs : List (List Int)) (w : World) (hm : IsStack w b v fs) (hn : n ≤ 16) (hf : fs.length = 64) :
    Calls Try.prog 7 #[.pointer (some ⟨b, 0, none⟩), .int .u64 n] w fun e w' => e = .returned (.int .i64 3) ∧ w = w' := by
  have hc := hm.cellF
  obtain ⟨A, cap, rfl⟩ := hm.form
  rw [hf] at hc
  have hd : decide ((16 : Int) < (n : Int)) = false := by simp; omega
  clear hf hm
  go_enter Try.func7, Try.ntmps7
  go_wp2
  go_ret
  exact ⟨rfl, rfl⟩

set_option maxRecDepth 100000 in
set_option maxHeartbeats 6000000 in
theorem stackPush_ok (b n : Nat) (v : Value) (fs : List (List Int)) (w : World) (hm : IsStack w b v fs) (hn : n ≤ 16) (hf : fs.length < 64) :
    Calls Try.prog 7 #[.pointer (some ⟨b, 0, none⟩), .int .u64 n] w fun e w' => ∃ v', e = .returned (.int .i64 0) ∧ IsStack w' b v' (fs ++ [List.replicate n 0]) ∧ GoesF b v w v' w' := by
  obtain ⟨i0, hi, hz0, hz1, hz2⟩ := info_parts info_row
  have hd : decide ((16 : Int) < (n : Int)) = false := by simp; omega
  have hwi : IntKind.i64.wrap (n : Int) = (n : Int) := IntWalk.i64_in _ (by omega)
  have hfl := hm.small.flat
  rw [show fs.flatten.length = totF fs from rfl] at hfl
  have hsm : SmallF (fs ++ [List.replicate n 0]) := by
    have := hm.small.push n
    unfold pushF at this
    rwa [if_neg (by omega), if_neg (by omega)] at this
  have hU : totF fs + n ≤ 1024 := by omega
  have hnb := hm.blockLt
  have hbl := hm.lt
  obtain ⟨A, cap, hv⟩ := hm.form
  have hc : w.cell? ⟨b, 1025, none⟩ = some (.slice A fs.length cap) := by rw [← hv]; exact hm.cellF
  have hlen : ((fs.length : Int) == 64) = false := by rw [beq_eq_false_iff_ne]; omega
  have hlenN : (fs.length == 64) = false := by rw [beq_eq_false_iff_ne]; omega
  have hne : ¬ fs.length = 64 := by omega
  have hent := enters_of Try.func19 (by kernel_rfl) rfl
  have HB := Lib.hid (show Row w.drew b 54 (stackC (wordsF fs) (totF fs) v) from hm.box)
  have HO := Lib.hid hm.own
  have hwl := hm.small.words
  have hnb := Lib.hid hnb
  have HV := Lib.hid hv
  have HS := Lib.hid hsm
  have HW := Lib.hid (wordsF_push fs n hU)
  have HT := Lib.hid (totF_snoc fs (List.replicate n 0))
  have HL := Lib.hid (framesV_snoc b (List.replicate n 0) fs 0)
  clear hm hsm hv hfl
  obtain ⟨m, hm⟩ : ∃ m, fs.length = m := ⟨_, rfl⟩
  obtain ⟨T, hT⟩ : ∃ T, totF fs = T := ⟨_, rfl⟩
  obtain ⟨ws, hws⟩ : ∃ ws, wordsF fs = ws := ⟨_, rfl⟩
  obtain ⟨L, hL⟩ : ∃ L, framesV b 0 fs = L := ⟨_, rfl⟩
  rw [hm] at hc hlen hlenN hne hf HO HV
  rw [hT] at hU HB HT
  rw [hws] at HB hwl HW
  rw [hL] at HO HL
  have HM := Lib.hid hm
  have HTT := Lib.hid hT
  clear hm hT hws hL
  go_enter Try.func7, Try.ntmps7
  go_wp2_with fail
  go_region_law (first
    | (refine step_callE (by with_reducible rfl) (by rfl) 19 _ _ _ (by rfl) hent _ _ (by rfl) (by rfl) (stackCut_any b T n ws v w.drew HB.out hwl hU) ?_
       rintro e w1 ⟨rfl, rB1, k1, hs1⟩
       refine ⟨_, rfl, ?_⟩
       have hs1' : w1.heap.size = w.heap.size := hs1
       clear hs1
       have k1' : Kept [b] w w1 := ((Kept.refl [] w).drew.any).trans k1
       have ow1 := own_keptV HO.out k1' (fun j hj hm => (hnb.out j hj).2 (by simpa using hm))
       have c1 : w1.cell? ⟨b, 1025, none⟩ = some (.slice A m cap) := (by rw [← HV.out]; exact (rB1.cell 1025).trans (stackC_frames hwl))
       have HRE := Lib.hid (Row.new w1 31 [.slice (some (fAt b T n)) n n])
       have HKE := Lib.hid ((Kept.refl [] w1).alloc (.cells #[.slice (some (fAt b T n)) n n] 31))
       have HRB2 := Lib.hid (rB1.kept HKE.out (by simp))
       have HOW2 := Lib.hid (own_keptV ow1 HKE.out (by simp))
       have HKK2 := Lib.hid (k1'.trans HKE.out.any)
       have c2 := (HRB2.out.cell 1025).trans (stackC_frames hwl)
       rw [HV.out] at c2
       clear rB1 k1 k1' ow1)
    | (refine step_append_u (w1 := w1.alloc (.cells #[.slice (some (fAt b T n)) n n] 31)) (by with_reducible rfl) (by rfl) _ _ 27 (by rfl) b i0 _ 24 Try.underlying27 hi hz0 hz1 hz2 rfl (by decide) (.slice A m cap) m L (.slice (some (fAt b T n)) n n) rfl rfl w.heap.size rfl (by rw [← hs1']; exact HRE.out) (by rw [← HV.out]; exact HOW2.out) (by have := HRB2.out.lt; omega) (by omega) ?_
       intro g3 c3 w3 ow3 k3 hat
       rw [← HV.out] at k3 hat
       have HR3 := Lib.hid (HRB2.out.kept k3 (fun hm => (hnb.out b (Option.mem_toList.1 hm)).2 rfl))
       have f3 := HR3.out.free 1025
       have c3' := (HR3.out.cell 1025).trans (stackC_frames hwl)
       rw [HV.out] at c3'
       have K3 := Lib.hid k3
       have O3 := Lib.hid ow3
       have A3 := Lib.hid hat
       clear k3 ow3 hat c1 c2))
  all_goals
    have hg3 : g3 ≠ b := by
      rcases A3.out with h | h
      · exact (hnb.out g3 h).2
      · have := HRB2.out.lt; omega
    have rB4 := HR3.out.set 1025 (.slice (some ⟨g3, 0, none⟩) (m + 1) c3)
    rw [stackC_setFrames hwl] at rB4
    have ow4 := own_keptV O3.out ((Kept.refl [b] w3).set (p := ⟨b, 1025, none⟩) (.inl (by simp)) (.slice (some ⟨g3, 0, none⟩) (m + 1) c3)) (fun j hj hm => hg3 ((Option.some.inj hj).trans (by simpa using hm)))
    have HST : IsStack (w3.setCell ⟨b, 1025, none⟩ (.slice (some ⟨g3, 0, none⟩) (m + 1) c3)) b (.slice (some ⟨g3, 0, none⟩) (m + 1) c3) (fs ++ [List.replicate n 0]) := by
      refine ⟨?_, ?_, HS.out⟩
      · rw [HW.out, HT.out, List.length_replicate]
        exact rB4
      · rw [HL.out, List.length_append, List.length_singleton, HM.out, Nat.zero_add, show fs.flatten.length = T from HTT.out]
        unfold frV
        rw [List.length_replicate]
        exact ow4
    have HGO : GoesF b v w (.slice (some ⟨g3, 0, none⟩) (m + 1) c3) (w3.setCell ⟨b, 1025, none⟩ (.slice (some ⟨g3, 0, none⟩) (m + 1) c3)) := by
      refine ⟨((HKK2.out.chain K3.out (fun i hi _ => by simp at hi; simp [hi]) (fun i hi _ => by simp; exact .inr (by simpa using hi))) : Kept (b :: v.ownBlock.toList) w w3).set (.inl (by simp)) _, fun j hj => ?_⟩
      have e : g3 = j := Option.some.inj hj
      subst e
      rcases A3.out with h | h
      · exact .inl h
      · right
        have := HKK2.out.size
        omega
    have H1 := Lib.hid HST
    have H2 := Lib.hid HGO
    clear HST HGO rB4 ow4 f3 c3'
    go_wp2
    go_ret
    exact ⟨_, rfl, H1.out, H2.out⟩
end Go.Proofs.Ytljpmckbkpoikaa
