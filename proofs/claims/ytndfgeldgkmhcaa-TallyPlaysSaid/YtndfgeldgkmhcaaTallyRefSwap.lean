/- The document's answer (kraalref15): Add, Swap. -/
import Derived.Test.YtndfgeldgkmhcaaTallyRef
namespace Go.Proofs.Ytndfgeldgkmhcaa
open Go.RowKit

/-- What Add and Swap leave: a slice that reads as gs, the elder one or a new one; an error's number. -/
def RefPostY (A : Option Addr) (gs : List RunZ) (n : Int) (w : World) (e : Ending) (w' : World) : Prop :=
  ∃ a c, e = .returned (.tuple #[.slice a gs.length c, .int .i64 n]) ∧ SlS cellsZ 2 w' a gs ∧ (∀ b off, a = some ⟨b, off, none⟩ → a = A ∨ w.heap.size ≤ b) ∧ Kept [] w w'

set_option maxRecDepth 100000 in
set_option maxHeartbeats 4000000 in
theorem refAdd15_any (A : Option Addr) (m cap : Nat) (gs : List RunZ) (z n : Int) (w : World) (hs : SlS cellsZ 2 w A gs) (hm : gs.length = m) (hx : m ≤ 1099511627) (hg : GoodY gs) (hn : Fit64 n) :
    Calls Try.prog 9 #[.slice A m cap, .int .i64 z, .int .i64 n] w (RefPostY A (addY gs z n).1 (addY gs z n).2 w) := by
  subst hm
  have HG := Lib.hid hg
  go_enter Try.func9, Try.ntmps9
  have hn1 := hn.1
  have hn2 := hn.2
  by_cases h1 : z < 1
  · have h1' : decide (z < 1) = true := by simpa using h1
    have HR := Lib.hid (addY_arg (gs := gs) (n := n) h1)
    clear hg
    go_wp2_with fail
    go_ret2
    rw [HR.out]
    exact ⟨A, cap, rfl, hs, fun _ _ _ => .inl rfl, Kept.refl _ _⟩
  · have h1' : decide (z < 1) = false := by simpa using h1
    clear hg
    go_wp2_with fail
    refine (refOf15_any A _ cap gs z w hs rfl (by omega)).mono ?_
    rintro e w1 ⟨rfl, rfl⟩
    have hC := HG.out.count z
    obtain ⟨c, hc⟩ : ∃ c, cntY gs z = c := ⟨_, rfl⟩
    rw [hc] at hC ⊢
    have HC := Lib.hid hc
    clear hc
    obtain ⟨c0, c1, _⟩ := hC
    by_cases h2 : n < -c
    · have h2' : decide (n < -c) = true := by simpa using h2
      have HR := Lib.hid (addY_range (gs := gs) (show ¬ z < 1 by omega) (.inl (by rw [HC.out]; exact h2)))
      clear h2
      go_wp2_with fail
      go_ret2
      rw [HR.out]
      exact ⟨A, cap, rfl, hs, fun _ _ _ => .inl rfl, Kept.refl _ _⟩
    · have h2' : decide (n < -c) = false := by simpa using h2
      by_cases h3 : 2147483647 - c < n
      · have h3' : decide (2147483647 - c < n) = true := by simpa using h3
        have HR := Lib.hid (addY_range (gs := gs) (show ¬ z < 1 by omega) (.inr (by rw [HC.out]; exact h3)))
        clear h2 h3
        go_wp2_with fail
        go_ret2
        rw [HR.out]
        exact ⟨A, cap, rfl, hs, fun _ _ _ => .inl rfl, Kept.refl _ _⟩
      · have h3' : decide (2147483647 - c < n) = false := by simpa using h3
        have HR : Hid (addY gs z n = (setY gs z (c + n), 0)) := by have := addY_ok (gs := gs) (z := z) (n := n) (by omega) (by rw [HC.out]; omega); rwa [HC.out] at this
        have hsum : 0 ≤ c + n ∧ c + n ≤ 2147483647 := by omega
        clear h2 h3
        go_wp2_with fail
        refine (refSet15_any A _ cap gs z (c + n) w hs rfl hx HG.out.rise).mono ?_
        rintro e w1 ⟨a, c2, rfl, hs1, ha, k1⟩
        go_wp2
        go_ret2
        rw [HR.out]
        exact ⟨a, c2, rfl, hs1, fun b off e => .inr (ha b off e), k1⟩

theorem addY_take {gs : List RunZ} (h : GoodY gs) {o : Int} (ho : 1 ≤ o) (hc : cntY gs o ≠ 0) : addY gs o (-1) = (takeY gs o, 0) := by
  have := h.count o
  rw [addY_ok (by omega) (by omega)]
  unfold takeY
  rw [if_neg (by omega)]
  rfl
theorem addY_take0 {gs : List RunZ} {o : Int} (ho : 1 ≤ o) (hc : cntY gs o = 0) : addY gs o (-1) = (gs, 8) := addY_range (by omega) (by omega)
theorem addY_give {gs : List RunZ} (h : GoodY gs) {f : Int} (hf : 1 ≤ f) (hc : cntY gs f ≠ 2147483647) : addY gs f 1 = (giveY gs f, 0) := by
  have := h.count f
  rw [addY_ok (by omega) (by omega)]
  unfold giveY
  rw [if_neg (by omega)]
theorem addY_most {gs : List RunZ} {f : Int} (hf : 1 ≤ f) (hc : cntY gs f = 2147483647) : addY gs f 1 = (gs, 8) := addY_range (by omega) (by omega)
theorem takeY_zero2 (gs : List RunZ) : takeY gs 0 = gs := by unfold takeY; rw [if_pos rfl]
theorem giveY_zero2 (gs : List RunZ) : giveY gs 0 = gs := by unfold giveY; rw [if_pos rfl]

set_option maxRecDepth 100000 in
set_option maxHeartbeats 4000000 in
theorem refSwap15_any (A : Option Addr) (m cap : Nat) (gs : List RunZ) (o f : Int) (w : World) (hs : SlS cellsZ 2 w A gs) (hm : gs.length = m) (hx : m ≤ 1099511000) (hg : GoodY gs) (ho : Fit64 o) (hf : Fit64 f) :
    Calls Try.prog 11 #[.slice A m cap, .int .i64 o, .int .i64 f] w (RefPostY A (swapY gs o f).1 (swapY gs o f).2 w) := by
  subst hm
  have HG := Lib.hid hg
  clear hg
  have hm1 : Fit64 (-1) := by unfold Fit64; omega
  have hp1 : Fit64 1 := by unfold Fit64; omega
  by_cases h1 : o < 0 ∨ f < 0
  · have HR := Lib.hid (swapY_arg (gs := gs) h1)
    rcases (show (decide (o < 0) = true) ∨ (decide (o < 0) = false ∧ decide (f < 0) = true) from by
      by_cases e : o < 0
      · exact .inl (by simpa using e)
      · exact .inr ⟨by simpa using e, by simp; omega⟩) with k | ⟨k1, k2⟩
    all_goals
      clear h1
      go_enter Try.func11, Try.ntmps11
      go_wp2_with fail
      go_ret2
      rw [HR.out]
      exact ⟨A, cap, rfl, hs, fun _ _ _ => .inl rfl, Kept.refl _ _⟩
  have k1 : decide (o < 0) = false := by simp; omega
  have k2 : decide (f < 0) = false := by simp; omega
  have H1 := Lib.hid h1
  clear h1
  by_cases ho0 : o = 0
  · have h2 : ¬ (o ≠ 0 ∧ cntY gs o = 0) := fun e => e.1 ho0
    by_cases hf0 : f = 0
    · have HR : Hid (swapY gs o f = (gs, 0)) := by
        show _ = _
        rw [swapY_ok H1.out h2 (fun e => e.1 (hf0.trans ho0.symm)), show o = 0 from ho0, takeY_zero2, show f = 0 from hf0, giveY_zero2]
      clear h2
      subst ho0
      subst hf0
      go_enter Try.func11, Try.ntmps11
      go_wp2_with fail
      go_ret2
      rw [HR.out]
      exact ⟨A, cap, rfl, hs, fun _ _ _ => .inl rfl, Kept.refl _ _⟩
    have hf1 : 1 ≤ f := by have := H1.out; omega
    by_cases h3 : cntY gs f = 2147483647
    · have HR := Lib.hid (swapY_most H1.out h2 ⟨fun e => hf0 (e.trans ho0), h3⟩)
      have HA := Lib.hid (addY_most hf1 h3)
      clear h2 h3
      subst ho0
      have q2 : decide (f = 0) = false := by simpa using hf0
      have q2b : (f != 0) = true := by simpa using hf0
      clear hf0
      go_enter Try.func11, Try.ntmps11
      go_wp2_with fail
      refine (refAdd15_any A _ cap gs f 1 w hs rfl (by omega) HG.out hp1).mono ?_
      rintro e w1 ⟨a, c, rfl, hs1, ha, kw1⟩
      rw [HA.out] at hs1 ⊢
      go_wp2_with fail
      go_ret2
      rw [HR.out]
      exact ⟨A, cap, rfl, hs.kept kw1, fun _ _ _ => .inl rfl, kw1⟩
    have HR : Hid (swapY gs o f = (giveY gs f, 0)) := by
      show _ = _
      rw [swapY_ok H1.out h2 (fun e => h3 e.2), show o = 0 from ho0, takeY_zero2]
    have HA := Lib.hid (addY_give HG.out hf1 h3)
    clear h2 h3
    subst ho0
    have q2 : decide (f = 0) = false := by simpa using hf0
    have q2b : (f != 0) = true := by simpa using hf0
    clear hf0
    go_enter Try.func11, Try.ntmps11
    go_wp2_with fail
    refine (refAdd15_any A _ cap gs f 1 w hs rfl (by omega) HG.out hp1).mono ?_
    rintro e w1 ⟨a, c, rfl, hs1, ha, kw1⟩
    rw [HA.out] at hs1 ⊢
    go_wp2_with fail
    go_ret2
    rw [HR.out]
    exact ⟨a, c, rfl, hs1, ha, kw1⟩
  · have ho1 : 1 ≤ o := by have := H1.out; omega
    by_cases hc : cntY gs o = 0
    · have HR := Lib.hid (swapY_none H1.out ⟨ho0, hc⟩)
      have HA := Lib.hid (addY_take0 ho1 hc)
      clear hc
      have q1 : decide (o = 0) = false := by simpa using ho0
      have q1b : (o != 0) = true := by simpa using ho0
      clear ho0
      go_enter Try.func11, Try.ntmps11
      go_wp2_with fail
      refine (refAdd15_any A _ cap gs o (-1) w hs rfl (by omega) HG.out hm1).mono ?_
      rintro e w1 ⟨a, c, rfl, hs1, ha, kw1⟩
      rw [HA.out] at hs1 ⊢
      go_wp2_with fail
      go_ret2
      rw [HR.out]
      exact ⟨A, cap, rfl, hs.kept kw1, fun _ _ _ => .inl rfl, kw1⟩
    have h2 : ¬ (o ≠ 0 ∧ cntY gs o = 0) := fun e => hc e.2
    have HA := Lib.hid (addY_take HG.out ho1 hc)
    have HGT := Lib.hid (HG.out.take (o := o) ⟨by omega, ho.2⟩ h2)
    have HLT := Lib.hid (takeY_len gs o)
    by_cases hf0 : f = 0
    · have HR : Hid (swapY gs o f = (takeY gs o, 0)) := by
        show _ = _
        have h3 : ¬ (f ≠ o ∧ cntY gs f = 2147483647) := by
          rintro ⟨_, e⟩
          have := HG.out.low (z := f) (by omega)
          omega
        rw [swapY_ok H1.out h2 h3, show f = 0 from hf0, giveY_zero2]
      clear h2 hc
      have q1 : decide (o = 0) = false := by simpa using ho0
      have q1b : (o != 0) = true := by simpa using ho0
      clear ho0
      subst hf0
      go_enter Try.func11, Try.ntmps11
      go_wp2_with fail
      refine (refAdd15_any A _ cap gs o (-1) w hs rfl (by omega) HG.out hm1).mono ?_
      rintro e w1 ⟨a, c, rfl, hs1, ha, kw1⟩
      rw [HA.out] at hs1 ⊢
      simp only at hs1
      go_wp2_with fail
      go_ret2
      rw [HR.out]
      exact ⟨a, c, rfl, hs1, ha, kw1⟩
    have hf1 : 1 ≤ f := by have := H1.out; omega
    by_cases h3 : f ≠ o ∧ cntY gs f = 2147483647
    · have HR := Lib.hid (swapY_most H1.out h2 h3)
      have HB := Lib.hid (addY_most (gs := takeY gs o) hf1 (by rw [cntY_take HG.out.rise, if_neg (fun e => h3.1 e.1), h3.2]; rfl))
      clear h2 h3 hc
      have q1 : decide (o = 0) = false := by simpa using ho0
      have q1b : (o != 0) = true := by simpa using ho0
      clear ho0
      have q2 : decide (f = 0) = false := by simpa using hf0
      have q2b : (f != 0) = true := by simpa using hf0
      clear hf0
      go_enter Try.func11, Try.ntmps11
      go_wp2_with fail
      refine (refAdd15_any A _ cap gs o (-1) w hs rfl (by omega) HG.out hm1).mono ?_
      rintro e w1 ⟨a, c, rfl, hs1, ha, kw1⟩
      rw [HA.out] at hs1 ⊢
      simp only at hs1
      have hlt := HLT.out
      generalize takeY gs o = G1 at *
      go_wp2_with fail
      refine (refAdd15_any a _ c G1 f 1 w1 hs1 rfl (by omega) HGT.out hp1).mono ?_
      rintro e w2 ⟨a2, c2, rfl, hs2, ha2, kw2⟩
      rw [HB.out] at hs2 ⊢
      go_wp2_with fail
      go_ret2
      rw [HR.out]
      exact ⟨A, cap, rfl, hs.kept (kw1.trans kw2), fun _ _ _ => .inl rfl, kw1.trans kw2⟩
    have HR := Lib.hid (swapY_ok H1.out h2 h3)
    have HB := Lib.hid (addY_give HGT.out hf1 (HG.out.room h2 h3))
    clear h2 h3 hc
    have q1 : decide (o = 0) = false := by simpa using ho0
    have q1b : (o != 0) = true := by simpa using ho0
    clear ho0
    have q2 : decide (f = 0) = false := by simpa using hf0
    have q2b : (f != 0) = true := by simpa using hf0
    clear hf0
    go_enter Try.func11, Try.ntmps11
    go_wp2_with fail
    refine (refAdd15_any A _ cap gs o (-1) w hs rfl (by omega) HG.out hm1).mono ?_
    rintro e w1 ⟨a, c, rfl, hs1, ha, kw1⟩
    rw [HA.out] at hs1 ⊢
    simp only at hs1
    have hlt := HLT.out
    generalize takeY gs o = G1 at *
    go_wp2_with fail
    refine (refAdd15_any a _ c G1 f 1 w1 hs1 rfl (by omega) HGT.out hp1).mono ?_
    rintro e w2 ⟨a2, c2, rfl, hs2, ha2, kw2⟩
    rw [HB.out] at hs2 ⊢
    go_wp2_with fail
    go_ret2
    rw [HR.out]
    refine ⟨a2, c2, rfl, hs2, fun b off e => ?_, kw1.trans kw2⟩
    rcases ha2 b off e with h | h
    · rcases ha b off (h ▸ e) with h' | h'
      · exact .inl (h.trans h')
      · exact .inr h'
    · exact .inr (Nat.le_trans kw1.size h)
end Go.Proofs.Ytndfgeldgkmhcaa
