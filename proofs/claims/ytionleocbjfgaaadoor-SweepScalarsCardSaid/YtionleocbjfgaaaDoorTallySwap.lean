/- Package tally: Swap. -/
import Derived.Test.YtionleocbjfgaaaDoorTally
namespace Go.Proofs.YtionleocbjfgaaaDoor
open Go.RowKit Go.Maps

theorem takeY_zero (gs : List RunZ) : takeY gs 0 = gs := by unfold takeY; rw [if_pos rfl]
theorem giveY_zero (gs : List RunZ) : giveY gs 0 = gs := by unfold giveY; rw [if_pos rfl]
theorem takeY_at {gs : List RunZ} {o : Int} (h : o ≠ 0) : takeY gs o = setY gs o (cntY gs o - 1) := by unfold takeY; rw [if_neg h]
theorem giveY_at {gs : List RunZ} {o : Int} (h : o ≠ 0) : giveY gs o = setY gs o (cntY gs o + 1) := by unfold giveY; rw [if_neg h]

set_option maxRecDepth 100000 in
set_option maxHeartbeats 4000000 in
theorem tallySwap_any (p g : Nat) (gs : List RunZ) (o f : Int) (w : World) (h : IsTally w p g gs) (ho : Fit64 o) (hf : Fit64 f) (hl : gs.length < 1099511627000) :
    Calls Tryd.prog 23 #[.pointer (some ⟨p, 0, none⟩), .int .i64 o, .int .i64 f] w (ErrPostY p g (swapY gs o f).1 (swapY gs o f).2 w) := by
  by_cases h1 : o < 0 ∨ f < 0
  · have HR := Lib.hid (swapY_arg (gs := gs) h1)
    rcases (show (decide (o < 0) = true) ∨ (decide (o < 0) = false ∧ decide (f < 0) = true) from by
      by_cases e : o < 0
      · exact .inl (by simpa using e)
      · exact .inr ⟨by simpa using e, by simp; omega⟩) with k | ⟨k1, k2⟩
    all_goals
      clear h1
      go_enter Tryd.func23, Tryd.ntmps23
      go_wp2_with fail
      go_ret
      rw [HR.out]
      exact ⟨rfl, h, Kept.refl _ _⟩
  have k1 : decide (o < 0) = false := by simp; omega
  have k2 : decide (f < 0) = false := by simp; omega
  have HG := Lib.hid h.good
  have hcf := h.good.count f
  have hco := h.good.count o
  obtain ⟨c, hc⟩ : ∃ c, cntY gs o = c := ⟨_, rfl⟩
  obtain ⟨d, hd⟩ : ∃ d, cntY gs f = d := ⟨_, rfl⟩
  have HC := Lib.hid hc
  have HD := Lib.hid hd
  rw [hc] at hco
  rw [hd] at hcf
  clear hc hd
  obtain ⟨co0, co1, _⟩ := hco
  obtain ⟨cf0, cf1, _⟩ := hcf
  have H1 := Lib.hid h1
  clear h1
  by_cases ho0 : o = 0
  · have h2 : ¬ (o ≠ 0 ∧ cntY gs o = 0) := fun e => e.1 ho0
    by_cases hfo : f = o
    · have h3 : ¬ (f ≠ o ∧ cntY gs f = 2147483647) := fun e => e.1 hfo
      have hf0 : f = 0 := hfo.trans ho0
      have HR := Lib.hid (swapY_ok (gs := gs) H1.out h2 h3)
      obtain ⟨G1, hG1⟩ : ∃ G1, takeY gs o = G1 := ⟨_, rfl⟩
      have hroom := HG.out.room h2 h3
      have hgd := HG.out.take (o := o) (by have := ho.2; have := H1.out; omega) h2
      have hl1 := takeY_len gs o
      rw [hG1] at hroom hgd hl1
      rw [hG1] at HR
      have HL1 := Lib.hid hl1
      rw [show takeY gs o = gs from by rw [show o = 0 from ho0]; exact takeY_zero gs] at hG1
      subst hG1
      have HZ : Hid (giveY gs f = gs) := by rw [show f = 0 from hf0]; exact giveY_zero gs
      clear h2 h3 hroom hgd hl1
      subst ho0
      subst hfo
      clear hf0
      go_enter Tryd.func23, Tryd.ntmps23
      go_wp2_with fail
      go_ret
      rw [HR.out]
      exact ⟨rfl, by rw [HZ.out]; exact h, Kept.refl _ _⟩
    by_cases h3 : f ≠ o ∧ cntY gs f = 2147483647
    · have HR := Lib.hid (swapY_most H1.out h2 h3)
      have hd0 : d = 2147483647 := HD.out.symm.trans h3.2
      clear h2 h3
      subst ho0
      have q3 : decide (f = 0) = false := by simpa using hfo
      have q3b : (f != 0) = true := by simpa using hfo
      clear hfo
      go_enter Tryd.func23, Tryd.ntmps23
      go_wp2_with fail
      refine (tallyOf_any p g gs f w h hf).mono ?_
      rintro e w' ⟨rfl, rfl⟩
      rw [HD.out, hd0]
      go_wp2_with fail
      go_ret
      rw [HR.out]
      exact ⟨rfl, h, Kept.refl _ _⟩
    have hf0 : f ≠ 0 := fun e => hfo (e.trans ho0.symm)
    have HR := Lib.hid (swapY_ok (gs := gs) H1.out h2 h3)
    obtain ⟨G1, hG1⟩ : ∃ G1, takeY gs o = G1 := ⟨_, rfl⟩
    have hroom := HG.out.room h2 h3
    have hgd := HG.out.take (o := o) (by have := ho.2; have := H1.out; omega) h2
    have hl1 := takeY_len gs o
    rw [hG1] at hroom hgd hl1
    rw [hG1] at HR
    have HL1 := Lib.hid hl1
    rw [show takeY gs o = gs from by rw [show o = 0 from ho0]; exact takeY_zero gs] at hG1
    subst hG1
    obtain ⟨d1, hd1⟩ : ∃ d1, cntY gs f = d1 := ⟨_, rfl⟩
    have HD1 := Lib.hid hd1
    have hcd := hgd.count f
    rw [hd1] at hroom hcd
    have HY : Hid ((0 ≤ d1 ∧ d1 < 2147483647) ∧ 1 ≤ f) := ⟨by omega, by have := H1.out; omega⟩
    have HZ : Hid (giveY gs f = setY gs f (d1 + 1)) := by rw [← hd1]; exact giveY_at hf0
    clear hd1 hcd
    obtain ⟨⟨d10, d11⟩, _⟩ := HY.out
    have q5 : (d == 2147483647) = false := by simp; intro e; exact h3 ⟨hfo, HD.out.trans e⟩
    clear h2 h3 hroom hgd hl1
    subst ho0
    have q2 : decide (f = 0) = false := by simpa using hf0
    have q2b : (f != 0) = true := by simpa using hf0
    have q3 : decide (f = 0) = false := by simpa using hfo
    have q3b : (f != 0) = true := by simpa using hfo
    clear hfo hf0
    go_enter Tryd.func23, Tryd.ntmps23
    go_wp2_with fail
    refine (tallyOf_any p g gs f w h hf).mono ?_
    rintro e w' ⟨rfl, rfl⟩
    rw [HD.out]
    go_wp2_with fail
    refine (tallyOf_any p g gs f w h hf).mono ?_
    rintro e w' ⟨rfl, rfl⟩
    rw [HD1.out]
    go_wp2_with fail
    refine (tallyPut_any p g gs f (d1 + 1) w h hf (by have := HY.out; omega) (fun _ => HY.out.2) (by omega)).mono ?_
    rintro e w2 ⟨rfl, h2, k2⟩
    go_wp2
    go_ret
    rw [HR.out]
    exact ⟨rfl, by rw [HZ.out]; exact h2, k2⟩
  · by_cases h2 : o ≠ 0 ∧ cntY gs o = 0
    · have HR := Lib.hid (swapY_none H1.out h2)
      have q1 : decide (o = 0) = false := by simpa using ho0
      have q1b : (o != 0) = true := by simpa using ho0
      have hc0 : c = 0 := HC.out.symm.trans h2.2
      clear h2 ho0
      go_enter Tryd.func23, Tryd.ntmps23
      go_wp2_with fail
      refine (tallyOf_any p g gs o w h ho).mono ?_
      rintro e w' ⟨rfl, rfl⟩
      rw [HC.out, hc0]
      go_wp2_with fail
      go_ret
      rw [HR.out]
      exact ⟨rfl, h, Kept.refl _ _⟩
    by_cases hfo : f = o
    · have h3 : ¬ (f ≠ o ∧ cntY gs f = 2147483647) := fun e => e.1 hfo
      have hf0 : f ≠ 0 := fun e => ho0 (hfo.symm.trans e)
      have HR := Lib.hid (swapY_ok (gs := gs) H1.out h2 h3)
      obtain ⟨G1, hG1⟩ : ∃ G1, takeY gs o = G1 := ⟨_, rfl⟩
      have hroom := HG.out.room h2 h3
      have hgd := HG.out.take (o := o) (by have := ho.2; have := H1.out; omega) h2
      have hl1 := takeY_len gs o
      rw [hG1] at hroom hgd hl1
      rw [hG1] at HR
      have HL1 := Lib.hid hl1
      have HT : Hid (setY gs o (c - 1) = G1) := by have := takeY_at (gs := gs) (o := o) ho0; rw [HC.out] at this; exact this.symm.trans hG1
      have HX : Hid ((1 ≤ c ∧ c ≤ 2147483647) ∧ 1 ≤ o) := ⟨⟨by have : c ≠ 0 := fun e => h2 ⟨ho0, HC.out.trans e⟩; omega, co1⟩, by have := H1.out; omega⟩
      obtain ⟨d1, hd1⟩ : ∃ d1, cntY G1 f = d1 := ⟨_, rfl⟩
      have HD1 := Lib.hid hd1
      have hcd := hgd.count f
      rw [hd1] at hroom hcd
      have HY : Hid ((0 ≤ d1 ∧ d1 < 2147483647) ∧ 1 ≤ f) := ⟨by omega, by have := H1.out; omega⟩
      have HZ : Hid (giveY G1 f = setY G1 f (d1 + 1)) := by rw [← hd1]; exact giveY_at hf0
      clear hd1 hcd
      obtain ⟨⟨d10, d11⟩, _⟩ := HY.out
      have q4 : (c == 0) = false := by have := HX.out; simp; omega
      clear h2 h3 hroom hgd hl1 hG1
      have q1 : decide (o = 0) = false := by simpa using ho0
      have q1b : (o != 0) = true := by simpa using ho0
      have hfo2 := hfo.symm
      subst hfo2
      clear hfo hf0 ho0
      go_enter Tryd.func23, Tryd.ntmps23
      go_wp2_with fail
      refine (tallyOf_any p g gs o w h ho).mono ?_
      rintro e w' ⟨rfl, rfl⟩
      rw [HC.out]
      go_wp2_with fail
      refine (tallyOf_any p g gs o w h ho).mono ?_
      rintro e w' ⟨rfl, rfl⟩
      rw [HC.out]
      go_wp2_with fail
      refine (tallyPut_any p g gs o (c - 1) w h ho (by have := HX.out; omega) (fun _ => HX.out.2) (by omega)).mono ?_
      rintro e w1 ⟨rfl, h1, k1⟩
      rw [HT.out] at h1
      have hl1 := HL1.out
      go_wp2_with fail
      refine (tallyOf_any p g G1 o w1 h1 ho).mono ?_
      rintro e w' ⟨rfl, rfl⟩
      rw [HD1.out]
      go_wp2_with fail
      refine (tallyPut_any p g G1 o (d1 + 1) w1 h1 ho (by have := HY.out; omega) (fun _ => HY.out.2) (by omega)).mono ?_
      rintro e w2 ⟨rfl, h2, k2⟩
      go_wp2
      go_ret
      rw [HR.out]
      exact ⟨rfl, by rw [HZ.out]; exact h2, k1.trans k2⟩
    by_cases h3 : f ≠ o ∧ cntY gs f = 2147483647
    · have HR := Lib.hid (swapY_most H1.out h2 h3)
      have hd0 : d = 2147483647 := HD.out.symm.trans h3.2
      have q4 : (c == 0) = false := by simp; intro e; exact h2 ⟨ho0, HC.out.trans e⟩
      clear h2 h3
      have q1 : decide (o = 0) = false := by simpa using ho0
      have q1b : (o != 0) = true := by simpa using ho0
      have q3 : decide (f = o) = false := by simpa using hfo
      have q3b : (f != o) = true := by simpa using hfo
      clear hfo ho0
      go_enter Tryd.func23, Tryd.ntmps23
      go_wp2_with fail
      refine (tallyOf_any p g gs o w h ho).mono ?_
      rintro e w' ⟨rfl, rfl⟩
      rw [HC.out]
      go_wp2_with fail
      refine (tallyOf_any p g gs f w h hf).mono ?_
      rintro e w' ⟨rfl, rfl⟩
      rw [HD.out, hd0]
      go_wp2_with fail
      go_ret
      rw [HR.out]
      exact ⟨rfl, h, Kept.refl _ _⟩
    by_cases hf0 : f = 0
    · have HR := Lib.hid (swapY_ok (gs := gs) H1.out h2 h3)
      obtain ⟨G1, hG1⟩ : ∃ G1, takeY gs o = G1 := ⟨_, rfl⟩
      have hroom := HG.out.room h2 h3
      have hgd := HG.out.take (o := o) (by have := ho.2; have := H1.out; omega) h2
      have hl1 := takeY_len gs o
      rw [hG1] at hroom hgd hl1
      rw [hG1] at HR
      have HL1 := Lib.hid hl1
      have HT : Hid (setY gs o (c - 1) = G1) := by have := takeY_at (gs := gs) (o := o) ho0; rw [HC.out] at this; exact this.symm.trans hG1
      have HX : Hid ((1 ≤ c ∧ c ≤ 2147483647) ∧ 1 ≤ o) := ⟨⟨by have : c ≠ 0 := fun e => h2 ⟨ho0, HC.out.trans e⟩; omega, co1⟩, by have := H1.out; omega⟩
      have HZ : Hid (giveY G1 f = G1) := by rw [show f = 0 from hf0]; exact giveY_zero G1
      have q4 : (c == 0) = false := by have := HX.out; simp; omega
      have q5 : (d == 2147483647) = false := by simp; intro e; exact h3 ⟨hfo, HD.out.trans e⟩
      clear h2 h3 hroom hgd hl1 hG1
      have q1 : decide (o = 0) = false := by simpa using ho0
      have q1b : (o != 0) = true := by simpa using ho0
      subst hf0
      have q3 : decide ((0 : Int) = o) = false := by simpa using hfo
      have q3b : ((0 : Int) != o) = true := by simpa using hfo
      clear hfo ho0
      go_enter Tryd.func23, Tryd.ntmps23
      go_wp2_with fail
      refine (tallyOf_any p g gs o w h ho).mono ?_
      rintro e w' ⟨rfl, rfl⟩
      rw [HC.out]
      go_wp2_with fail
      refine (tallyOf_any p g gs (0 : Int) w h hf).mono ?_
      rintro e w' ⟨rfl, rfl⟩
      rw [HD.out]
      go_wp2_with fail
      refine (tallyOf_any p g gs o w h ho).mono ?_
      rintro e w' ⟨rfl, rfl⟩
      rw [HC.out]
      go_wp2_with fail
      refine (tallyPut_any p g gs o (c - 1) w h ho (by have := HX.out; omega) (fun _ => HX.out.2) (by omega)).mono ?_
      rintro e w1 ⟨rfl, h1, k1⟩
      rw [HT.out] at h1
      have hl1 := HL1.out
      go_wp2_with fail
      go_ret
      rw [HR.out]
      exact ⟨rfl, by rw [HZ.out]; exact h1, k1⟩
    · have HR := Lib.hid (swapY_ok (gs := gs) H1.out h2 h3)
      obtain ⟨G1, hG1⟩ : ∃ G1, takeY gs o = G1 := ⟨_, rfl⟩
      have hroom := HG.out.room h2 h3
      have hgd := HG.out.take (o := o) (by have := ho.2; have := H1.out; omega) h2
      have hl1 := takeY_len gs o
      rw [hG1] at hroom hgd hl1
      rw [hG1] at HR
      have HL1 := Lib.hid hl1
      have HT : Hid (setY gs o (c - 1) = G1) := by have := takeY_at (gs := gs) (o := o) ho0; rw [HC.out] at this; exact this.symm.trans hG1
      have HX : Hid ((1 ≤ c ∧ c ≤ 2147483647) ∧ 1 ≤ o) := ⟨⟨by have : c ≠ 0 := fun e => h2 ⟨ho0, HC.out.trans e⟩; omega, co1⟩, by have := H1.out; omega⟩
      obtain ⟨d1, hd1⟩ : ∃ d1, cntY G1 f = d1 := ⟨_, rfl⟩
      have HD1 := Lib.hid hd1
      have hcd := hgd.count f
      rw [hd1] at hroom hcd
      have HY : Hid ((0 ≤ d1 ∧ d1 < 2147483647) ∧ 1 ≤ f) := ⟨by omega, by have := H1.out; omega⟩
      have HZ : Hid (giveY G1 f = setY G1 f (d1 + 1)) := by rw [← hd1]; exact giveY_at hf0
      clear hd1 hcd
      obtain ⟨⟨d10, d11⟩, _⟩ := HY.out
      have q4 : (c == 0) = false := by have := HX.out; simp; omega
      have q5 : (d == 2147483647) = false := by simp; intro e; exact h3 ⟨hfo, HD.out.trans e⟩
      clear h2 h3 hroom hgd hl1 hG1
      have q1 : decide (o = 0) = false := by simpa using ho0
      have q1b : (o != 0) = true := by simpa using ho0
      have q2 : decide (f = 0) = false := by simpa using hf0
      have q2b : (f != 0) = true := by simpa using hf0
      have q3 : decide (f = o) = false := by simpa using hfo
      have q3b : (f != o) = true := by simpa using hfo
      clear hfo ho0 hf0
      go_enter Tryd.func23, Tryd.ntmps23
      go_wp2_with fail
      refine (tallyOf_any p g gs o w h ho).mono ?_
      rintro e w' ⟨rfl, rfl⟩
      rw [HC.out]
      go_wp2_with fail
      refine (tallyOf_any p g gs f w h hf).mono ?_
      rintro e w' ⟨rfl, rfl⟩
      rw [HD.out]
      go_wp2_with fail
      refine (tallyOf_any p g gs o w h ho).mono ?_
      rintro e w' ⟨rfl, rfl⟩
      rw [HC.out]
      go_wp2_with fail
      refine (tallyPut_any p g gs o (c - 1) w h ho (by have := HX.out; omega) (fun _ => HX.out.2) (by omega)).mono ?_
      rintro e w1 ⟨rfl, h1, k1⟩
      rw [HT.out] at h1
      have hl1 := HL1.out
      go_wp2_with fail
      refine (tallyOf_any p g G1 f w1 h1 hf).mono ?_
      rintro e w' ⟨rfl, rfl⟩
      rw [HD1.out]
      go_wp2_with fail
      refine (tallyPut_any p g G1 f (d1 + 1) w1 h1 hf (by have := HY.out; omega) (fun _ => HY.out.2) (by omega)).mono ?_
      rintro e w2 ⟨rfl, h2, k2⟩
      go_wp2
      go_ret
      rw [HR.out]
      exact ⟨rfl, by rw [HZ.out]; exact h2, k1.trans k2⟩
end Go.Proofs.YtionleocbjfgaaaDoor
