/- Package frames: Pop. -/
import Derived.Test.YtljpmckbkpoikaaFrames
import Derived.Test.YtljpmckbkpoikaaClear
import Derived.StillTailTactics
import Derived.Deep.Onto
namespace Go.Proofs.Ytljpmckbkpoikaa
open Go.RowKit

/-- What Pop leaves. -/
def PopPost (b : Nat) (v : Value) (fs : List (List Int)) (w : World) (e : Ending) (w' : World) : Prop :=
  ∃ u v', e = .returned (.tuple #[u, .int .i64 (popE fs)]) ∧ w'.ownsRow w.heap.size 23 1 u (topF fs).length ((topF fs).map (Value.int .u64)) ∧ IsStack w' b v' fs.dropLast ∧ GoesF b v w v' w' ∧ (∀ j, u.ownBlock = some j → j ∉ b :: v'.ownBlock.toList)

set_option maxRecDepth 100000 in
set_option maxHeartbeats 1000000 in
theorem stackPop_no (b : Nat) (v : Value) (w : World) (hm : IsStack w b v []) :
    Calls Try.prog 9 #[.pointer (some ⟨b, 0, none⟩)] w (PopPost b v [] w) := by
  go_enter Try.func9, Try.ntmps9
  go_wp2_with fail
  refine (stackTop_no b v w hm).mono ?_
  rintro e w' ⟨rfl, rfl⟩
  go_wp2
  go_ret2
  exact ⟨_, v, rfl, World.ownsRow_nil _ _ _ _, hm, GoesF.refl _ _ _, fun j hj => by cases hj⟩

theorem zero_u64 (w : World) : (zeroValue 23).run Try.prog w = .ok (.int .u64 0) w := (zero_of_info (P := Try.prog) (t := 23) (v := .int .u64 0) (n := 1) (by kernel_rfl)).1 w

set_option maxRecDepth 100000 in
set_option maxHeartbeats 4000000 in
theorem stackPop_yes (b : Nat) (v : Value) (gs : List (List Int)) (f : List Int) (w : World) (hm : IsStack w b v (gs ++ [f])) :
    Calls Try.prog 9 #[.pointer (some ⟨b, 0, none⟩)] w (PopPost b v (gs ++ [f]) w) := by
  have hbd := hm.bound
  have hc2 : (gs ++ [f]).dropLast = gs := by simp
  unfold PopPost
  rw [topF_snoc, popE_snoc, hc2]
  clear hc2
  obtain ⟨g, cap, rfl, _, hown, hbg, hcap⟩ := hm.snoc
  have HBD := Lib.hid hbd
  have HOWN := Lib.hid hown
  have HPRE := Lib.hid hm.small.pre
  have HWL := Lib.hid hm.small.words
  obtain ⟨n, hn⟩ : ∃ n, f.length = n := ⟨_, rfl⟩
  have HN := Lib.hid hn
  rw [hn]
  have hn16 : n ≤ 16 := by omega
  clear hbd hown hn
  go_enter Try.func9, Try.ntmps9
  go_wp2_with fail
  refine (stackTop_yes b _ gs f w hm).mono ?_
  rintro e w1 ⟨rfl, hk1⟩
  unfold frV
  rw [HN.out]
  have HM := Lib.hid hm
  have hm1 := hm.kept hk1
  have HK2 := Lib.hid hk1.drew
  have HR2 := Lib.hid (show Row w1.drew b 54 (stackC (wordsF (gs ++ [f])) (totF (gs ++ [f])) _) from (hm1.drewN 1).box)
  have c5 : w1.cell? ⟨b, 1025, none⟩ = some (.slice (some ⟨g, 0, none⟩) (gs.length + 1) cap) := hm1.cellF
  have hwK : (gs.length : Int) ≤ (cap : Int) := by omega
  have hwK2 : IntKind.i64.wrap (gs.length : Int) = (gs.length : Int) := IntWalk.i64_in _ (by have := HBD.out; omega)
  have hc0 : ¬ cap = 0 := by omega
  have HT : (totF (gs ++ [f]) : Int) = (totF gs : Int) + (n : Int) := by rw [totF_snoc, HN.out]; omega
  obtain ⟨T, hT⟩ : ∃ T, totF gs = T := ⟨_, rfl⟩
  obtain ⟨U, hU⟩ : ∃ U, totF (gs ++ [f]) = U := ⟨_, rfl⟩
  have hT1 : T + n ≤ 1024 := by have := HBD.out; have := HN.out; omega
  rw [hT, hU] at HT
  have hwU : IntKind.i64.wrap ((U : Int) - (n : Int)) = (T : Int) := by rw [IntWalk.i64_in _ (by omega)]; omega
  rw [hU] at HR2
  rw [hT]
  have HTT := Lib.hid hT
  clear hk1 hm hm1 hT hU HT
  obtain ⟨K, hK⟩ : ∃ K, gs.length = K := ⟨_, rfl⟩
  rw [hK] at c5 hwK hwK2 hcap HR2 HM HOWN
  have HKK := Lib.hid hK
  clear hK
  obtain ⟨A0, hA0⟩ : ∃ A0, fAt b T n = A0 := ⟨_, rfl⟩
  rw [hA0]
  have HA0 := Lib.hid hA0
  clear hA0
  go_wp2_with fail
  go_still_tail 14, (by kernel_rfl)
  change wpList _ _ _ _ _ w1.drew
  generalize w1.drew = W at HK2 HR2 ⊢
  clear c5
  have c4 : W.cell? ⟨b, 1024, none⟩ = some (.int .i64 U) := (HR2.out.cell 1024).trans (stackC_used HWL.out)
  have c5 : W.cell? ⟨b, 1025, none⟩ = some (.slice (some ⟨g, 0, none⟩) (K + 1) cap) := (HR2.out.cell 1025).trans (stackC_frames HWL.out)
  have f4 := HR2.out.free 1024
  have f5 := HR2.out.free 1025
  have HR3 := HR2.out.set 1025 (.slice (some ⟨g, 0, none⟩) K cap)
  rw [stackC_setFrames HWL.out] at HR3
  have HR4 := HR3.set 1024 (.int .i64 T)
  rw [stackC_setUsed HWL.out] at HR4
  have HR4 := Lib.hid HR4
  have HK4 := Lib.hid (((HK2.out.any (S := [b])).set (p := ⟨b, 1025, none⟩) (.inl (by simp)) (.slice (some ⟨g, 0, none⟩) K cap)).set (p := ⟨b, 1024, none⟩) (.inl (by simp)) (.int .i64 T))
  clear HR3
  go_wp2_with fail
  generalize (W.setCell ⟨b, 1025, none⟩ (.slice (some ⟨g, 0, none⟩) K cap)).setCell ⟨b, 1024, none⟩ (.int .i64 T) = W4 at HR4 HK4 ⊢
  clear c4 c5 f4 f5
  have hsl : Sl W4 .u64 (some A0) f := by
    by_cases h0 : n = 0
    · exact .inl (List.eq_nil_of_length_eq_zero (by rw [HN.out]; exact h0))
    · refine .inr ⟨b, T, ?_, HR4.out.lt, fun j hj => ?_⟩
      · rw [← HA0.out]; unfold fAt; rw [if_neg h0]
      · have hj' := hj
        rw [HN.out] at hj'
        rw [HR4.out.cell, stackC_word _ (by rw [HWL.out]; omega)]
        have := wordsF_get gs f j hj
        rw [show gs.flatten.length = T from HTT.out] at this
        rw [this]
  refine (toldF_any _ _ _ f W4 hsl HN.out (by omega)).mono ?_
  rintro e w5 ⟨r, cap5, rfl, hown5, hk5⟩
  have hszW : w.heap.size ≤ W4.heap.size := HK4.out.size
  have hrge := own_ge hown5
  have hrlt := own_lt hown5
  have hgl := (HM.out.blockLt g rfl).1
  have hbl := HM.out.lt
  have HR5 := Lib.hid (HR4.out.kept hk5 (by simp))
  have HK5 := Lib.hid (HK4.out.trans hk5.any)
  have HOW5 := Lib.hid hown5
  have HWC := Lib.hid (wordsF_clear gs f (by have := HBD.out; exact this.2.2))
  have hbn : b ≠ r := by omega
  have hgn : g ≠ r := by omega
  clear hown5 hk5 hsl hwU hwK hwK2
  have HEND := Lib.hid (fun (w6 : World) (r6 : Row w6 b 54 (stackC (wordsF gs) T (.slice (some ⟨g, 0, none⟩) K cap))) (k6 : Kept [b] w5 w6) =>
    (show w6.ownsRow w.heap.size 23 1 (.slice (some ⟨r, 0, none⟩) n cap5) n (f.map (Value.int .u64)) ∧ IsStack w6 b (.slice (some ⟨g, 0, none⟩) K cap) gs ∧ GoesF b (.slice (some ⟨g, 0, none⟩) (K + 1) cap) w (.slice (some ⟨g, 0, none⟩) K cap) w6 ∧
        (∀ j, (Value.slice (some ⟨r, 0, none⟩) n cap5).ownBlock = some j → j ∉ b :: (Value.slice (some ⟨g, 0, none⟩) K cap).ownBlock.toList) from by
      have kk : Kept [b] w w6 := HK5.out.trans k6
      refine ⟨World.ownsRow.mono (own_keptV HOW5.out k6 (fun j hj hm => hbn ((by simpa using hm : j = b).symm.trans (Option.some.inj hj).symm))) hszW, ⟨?_, ?_, HPRE.out⟩, ⟨kk.mono (fun i hi _ => by simp at hi; simp [hi]), fun j hj => .inl hj⟩, fun j hj hm => ?_⟩
      · rw [HTT.out]; exact r6
      · rw [HKK.out]
        exact own_keptV HOWN.out kk (fun j hj hm => hbg ((by simpa using hm : j = b).symm.trans (Option.some.inj hj).symm))
      · have e : r = j := Option.some.inj hj
        subst e
        simp [Value.ownBlock] at hm
        omega))
  have HFL := Lib.hid (show fillZ 0 (wordsF (gs ++ [f])) T n = wordsF gs by
    have := HWC.out
    rw [show gs.flatten.length = T from HTT.out, HN.out] at this
    exact this)
  by_cases h0 : n = 0
  · subst h0
    have H6 := Lib.hid (HEND.out w5 (by rw [← HFL.out]; exact HR5.out) (Kept.refl _ _))
    clear HEND
    go_wp2_with (refine wpList_clear_none rfl _ 31 rfl 23 Try.underlying31 _ 0 rfl ?_)
    go_ret2
    refine ⟨.slice (some ⟨r, 0, none⟩) 0 cap5, .slice (some ⟨g, 0, none⟩) K cap, rfl, ?_⟩
    rw [HKK.out]
    exact H6.out
  · have hA : A0 = ⟨b, T, none⟩ := by rw [← HA0.out]; unfold fAt; rw [if_neg h0]
    rw [hA]
    clear hA
    have hpos : 0 < n := Nat.pos_of_ne_zero h0
    have H6 := Lib.hid (HEND.out (w5.setCells b T (List.replicate n (.int .u64 0))) (by
      have := Row.fill b (.int .u64 0) n T _ _ HR5.out
      rw [stackC_fill T _ n _ T (by rw [HWL.out]; omega), HFL.out] at this
      exact this) (Kept.fill b (.inl (by simp)) _ _ _ (Kept.refl _ _)))
    clear HEND
    go_wp2_with (refine wpList_clear rfl _ 31 rfl 23 (.int .u64 0) Try.underlying31 zero_u64 rfl rfl b T n n rfl hpos (fun j hj => by rw [HR5.out.cell, stackC_word _ (by rw [HWL.out]; omega)]; rfl) (fun j _ => HR5.out.free _) ?_)
    go_ret2
    refine ⟨.slice (some ⟨r, 0, none⟩) n cap5, .slice (some ⟨g, 0, none⟩) K cap, rfl, ?_⟩
    rw [HKK.out]
    exact H6.out

theorem stackPop_any (b : Nat) (v : Value) (fs : List (List Int)) (w : World) (hm : IsStack w b v fs) :
    Calls Try.prog 9 #[.pointer (some ⟨b, 0, none⟩)] w (PopPost b v fs w) := by
  rcases snoc_cases fs with rfl | ⟨gs, f, rfl⟩
  · exact stackPop_no b v w hm
  · exact stackPop_yes b v gs f w hm
end Go.Proofs.Ytljpmckbkpoikaa
