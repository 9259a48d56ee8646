/- The law TallyPlays: its walk. -/
import Derived.Test.YtndfgeldgkmhcaaTallyAll
import Derived.Test.YtndfgeldgkmhcaaTallyRefSwap
import Derived.Test.YtndfgeldgkmhcaaTallyFixed
namespace Go.Proofs.Ytndfgeldgkmhcaa
open Go.RowKit

set_option maxRecDepth 100000 in
set_option maxHeartbeats 2000000 in
theorem tallyPlays_big (a0 : Option Addr) (len cap : Nat) (r : Int) (w : World) (hl : 100 < len) (hm : len ≤ maxLen) :
    Calls Try.prog 3 #[.slice a0 len cap, .int .i64 r] w (FixedPost w) := by
  unfold maxLen at hm
  go_enter Try.func3, Try.ntmps3
  go_wp2_with fail
  refine (fixed15_any _).mono ?_
  rintro e w5 ⟨rfl, kw5⟩
  go_wp2
  go_ret
  exact ⟨rfl, kw5⟩

/-- A slice that lay elsewhere, or is new, lies elsewhere. -/
theorem apartY {A A1 : Option Addr} {g z : Nat} (h : ∀ b off, A = some ⟨b, off, none⟩ → b ≠ g) (h1 : ∀ b off, A1 = some ⟨b, off, none⟩ → A1 = A ∨ z ≤ b) (hg : g < z) : ∀ b off, A1 = some ⟨b, off, none⟩ → b ≠ g := fun b off e => by
  rcases h1 b off e with h2 | h2
  · exact h b off (h2 ▸ e)
  · omega

set_option maxRecDepth 100000 in
set_option maxHeartbeats 16000000 in
theorem tallyPlays_any (a0 : Option Addr) (cap : Nat) (l : List I3) (r : Int) (w : World) (hs : SlI3 w a0 l) (hl : l.length ≤ 100) (hb : ∀ x ∈ l, x.fit) (hr : Fit64 r) :
    Calls Try.prog 3 #[.slice a0 l.length cap, .int .i64 r] w (FixedPost w) := by
  have h100 : decide ((100 : Int) < l.length) = false := by simp; omega
  go_enter Try.func3, Try.ntmps3
  go_wp2_with fail
  refine (tallyNew_any w).mono ?_
  rintro e w1 ⟨p, g, rfl, hnew, h1, k1⟩
  have hgl := h1.lt
  have k2 := k1.alloc (.cells #[] 41)
  have h2 := h1.kept ((Kept.refl [] w1).alloc (.cells #[] 41))
  have hs0 : SlS cellsZ 2 (w1.alloc (.cells #[] 41)) (some ⟨w1.heap.size, 0, none⟩) [] := .inl rfl
  have hA0 : Hid (∀ b off, some (⟨w1.heap.size, 0, none⟩ : Addr) = some ⟨b, off, none⟩ → b ≠ g) := fun b off e => by cases e; omega
  obtain ⟨hnp, hng⟩ := hnew
  go_wp2_with fail
  generalize w1.alloc (.cells #[] 41) = W at k2 h2 hs0 ⊢
  generalize w1.heap.size = q at hs0 hA0 hgl ⊢
  clear h1 k1 hgl
  go_loopw [6, 21] (fun x i wr => ∃ (j : Nat) (A : Option Addr) (cp : Nat) (gs : List RunZ), j ≤ l.length ∧ x = .slice A gs.length cp ∧ i = .int .i64 j ∧ gs.length ≤ 2 * j ∧ IsTally wr p g gs ∧ SlS cellsZ 2 wr A gs ∧ Hid (∀ b off, A = some ⟨b, off, none⟩ → b ≠ g) ∧ Kept [g] W wr) (fun _ i _ => l.length - (intOf i).toNat)
  case atStart => exact ⟨0, _, _, [], Nat.zero_le _, rfl, rfl, by simp, h2, hs0, hA0, Kept.refl _ _⟩
  case round =>
    obtain ⟨j, A, cp, gs, hj, rfl, rfl, hgl, hT, hsr, HA, hkr⟩ := hrel
    have kWr : Kept [] w wr := k2.chain hkr (by simp) (by simp; omega)
    clear h2 hs0 hA0
    by_cases hlt : j < l.length
    · obtain ⟨b, off, x, rfl, hx, hbl, c0, c1, c2⟩ := (hs.kept kWr).cell hlt
      obtain ⟨hfa, hfb, hfc⟩ := hb x (List.mem_of_getElem? hx)
      obtain ⟨ka, kb, kc⟩ := x
      simp only at c0 c1 c2 hfa hfb hfc
      have h1 : (j : Int) < (l.length : Int) := by omega
      have rB := Row.new wr 28 [.int .i64 ka, .int .i64 kb, .int .i64 kc]
      have kA := (Kept.refl [] wr).alloc (.cells #[.int .i64 ka, .int .i64 kb, .int .i64 kc] 28)
      have hTa := hT.kept kA
      have hsa := hsr.kept kA
      have hgr := hT.lt
      have hga := hTa.lt
      have HG := Lib.hid hT.good
      have hBg : wr.heap.size ≠ g := by omega
      have hkA : Kept [g] W (wr.alloc (.cells #[.int .i64 ka, .int .i64 kb, .int .i64 kc] 28)) := hkr.trans kA.any
      have e0 : (wr.alloc (.cells #[.int .i64 ka, .int .i64 kb, .int .i64 kc] 28)).cell? ⟨wr.heap.size, 0, none⟩ = some (.int .i64 ka) := by simp
      have e1 : (wr.alloc (.cells #[.int .i64 ka, .int .i64 kb, .int .i64 kc] 28)).cell? ⟨wr.heap.size, 1, none⟩ = some (.int .i64 kb) := by simp
      have e2 : (wr.alloc (.cells #[.int .i64 ka, .int .i64 kb, .int .i64 kc] 28)).cell? ⟨wr.heap.size, 2, none⟩ = some (.int .i64 kc) := by simp
      by_cases q0 : ka = 0
      · subst q0
        go_wp2_with fail
        generalize wr.alloc (.cells #[.int .i64 0, .int .i64 kb, .int .i64 kc] 28) = wa at rB hTa hsa hkA e0 e1 e2 hga ⊢
        refine (tallyAdd_any p g gs kb kc wa hTa hfb hfc (by omega)).mono ?_
        rintro e w3 ⟨rfl, h3, k3⟩
        have rB3 := rB.kept k3 (by simpa using hBg)
        have d1 : w3.cell? ⟨wr.heap.size, 1, none⟩ = some (.int .i64 kb) := by simpa using rB3.cell 1
        have d2 : w3.cell? ⟨wr.heap.size, 2, none⟩ = some (.int .i64 kc) := by simpa using rB3.cell 2
        have hs3 := hsa.keptS k3 (fun b off e => by simpa using HA.out b off e)
        have hg3 := h3.lt
        have hl1 := addY_len gs kb kc
        have hK3 := hkA.trans k3
        obtain ⟨gs1, hgs1⟩ : ∃ y, (addY gs kb kc).1 = y := ⟨_, rfl⟩
        obtain ⟨er, her⟩ : ∃ y, (addY gs kb kc).2 = y := ⟨_, rfl⟩
        have HS := Lib.hid hgs1
        have HE := Lib.hid her
        rw [hgs1] at h3 hl1
        rw [her]
        clear hgs1 her hTa hsa e0 e1 e2 hkA k3 hT hsr
        go_wp2_with fail
        refine (refAdd15_any A _ cp gs kb kc w3 hs3 rfl (by omega) HG.out hfc).mono ?_
        rintro e w4 ⟨A1, cp1, rfl, hs4, hA4, k4⟩
        rw [HS.out] at hs4
        rw [HS.out, HE.out]
        have h4 := h3.kept k4
        have K4 := hK3.trans k4.any
        have HA1 := Lib.hid (apartY HA.out hA4 hg3.2)
        clear hA4 hs3 d1 d2
        go_wp2_with fail
        refine (tallyAll_any p g gs1 w4 h4 (by omega)).mono ?_
        rintro e w5 ⟨G, c5, rfl, hG5, hs5, k5⟩
        have hT5 := h4.kept k5
        have hS5 := hs4.kept k5
        have K5 := K4.trans k5.any
        go_wp2_with fail
        refine (refSame06_z (some ⟨G, 0, none⟩) A1 _ _ c5 cp1 gs1 w5 hs5 hS5 rfl rfl (by omega)).mono ?_
        rintro e w6 ⟨rfl, k6⟩
        go_wp2
        go_roundw
        case rel => exact ⟨j + 1, A1, cp1, gs1, by omega, rfl, by go_num, by omega, hT5.kept k6, hS5.kept k6, HA1, K5.trans k6.any⟩
        case measure => simp [intOf]; omega
      by_cases q1 : ka = 1
      · subst q1
        go_wp2_with fail
        generalize wr.alloc (.cells #[.int .i64 1, .int .i64 kb, .int .i64 kc] 28) = wa at rB hTa hsa hkA e0 e1 e2 hga ⊢
        refine (tallySwap_any p g gs kb kc wa hTa hfb hfc (by omega)).mono ?_
        rintro e w3 ⟨rfl, h3, k3⟩
        have rB3 := rB.kept k3 (by simpa using hBg)
        have d1 : w3.cell? ⟨wr.heap.size, 1, none⟩ = some (.int .i64 kb) := by simpa using rB3.cell 1
        have d2 : w3.cell? ⟨wr.heap.size, 2, none⟩ = some (.int .i64 kc) := by simpa using rB3.cell 2
        have hs3 := hsa.keptS k3 (fun b off e => by simpa using HA.out b off e)
        have hg3 := h3.lt
        have hl1 := swapY_len gs kb kc
        have hK3 := hkA.trans k3
        obtain ⟨gs1, hgs1⟩ : ∃ y, (swapY gs kb kc).1 = y := ⟨_, rfl⟩
        obtain ⟨er, her⟩ : ∃ y, (swapY gs kb kc).2 = y := ⟨_, rfl⟩
        have HS := Lib.hid hgs1
        have HE := Lib.hid her
        rw [hgs1] at h3 hl1
        rw [her]
        clear hgs1 her hTa hsa e0 e1 e2 hkA k3 hT hsr
        go_wp2_with fail
        refine (refSwap15_any A _ cp gs kb kc w3 hs3 rfl (by omega) HG.out hfb hfc).mono ?_
        rintro e w4 ⟨A1, cp1, rfl, hs4, hA4, k4⟩
        rw [HS.out] at hs4
        rw [HS.out, HE.out]
        have h4 := h3.kept k4
        have K4 := hK3.trans k4.any
        have HA1 := Lib.hid (apartY HA.out hA4 hg3.2)
        clear hA4 hs3 d1 d2
        go_wp2_with fail
        refine (tallyAll_any p g gs1 w4 h4 (by omega)).mono ?_
        rintro e w5 ⟨G, c5, rfl, hG5, hs5, k5⟩
        have hT5 := h4.kept k5
        have hS5 := hs4.kept k5
        have K5 := K4.trans k5.any
        go_wp2_with fail
        refine (refSame06_z (some ⟨G, 0, none⟩) A1 _ _ c5 cp1 gs1 w5 hs5 hS5 rfl rfl (by omega)).mono ?_
        rintro e w6 ⟨rfl, k6⟩
        go_wp2
        go_roundw
        case rel => exact ⟨j + 1, A1, cp1, gs1, by omega, rfl, by go_num, by omega, hT5.kept k6, hS5.kept k6, HA1, K5.trans k6.any⟩
        case measure => simp [intOf]; omega
      by_cases q2 : ka = 2
      · subst q2
        go_wp2_with fail
        generalize wr.alloc (.cells #[.int .i64 2, .int .i64 kb, .int .i64 kc] 28) = wa at rB hTa hsa hkA e0 e1 e2 hga ⊢
        refine (tallyForget_any p g gs kb wa hTa hfb (by omega)).mono ?_
        rintro e w3 ⟨rfl, h3, k3⟩
        have rB3 := rB.kept k3 (by simpa using hBg)
        have d1 : w3.cell? ⟨wr.heap.size, 1, none⟩ = some (.int .i64 kb) := by simpa using rB3.cell 1
        have hs3 := hsa.keptS k3 (fun b off e => by simpa using HA.out b off e)
        have hg3 := h3.lt
        have hl1 := setY_len gs kb 0
        have hK3 := hkA.trans k3
        obtain ⟨gs1, hgs1⟩ : ∃ y, setY gs kb 0 = y := ⟨_, rfl⟩
        have HS := Lib.hid hgs1
        rw [hgs1] at h3 hl1
        clear hgs1 hTa hsa e0 e1 e2 hkA k3 hT hsr
        go_wp2_with fail
        refine (refSet15_any A _ cp gs kb 0 w3 hs3 rfl (by omega) HG.out.rise).mono ?_
        rintro e w4 ⟨A1, cp1, rfl, hs4, hA4, k4⟩
        rw [HS.out] at hs4
        rw [HS.out]
        have h4 := h3.kept k4
        have K4 := hK3.trans k4.any
        have HA1 := Lib.hid (apartY HA.out (fun b off e => .inr (hA4 b off e)) hg3.2)
        clear hA4 hs3 d1
        go_wp2_with fail
        refine (tallyAll_any p g gs1 w4 h4 (by omega)).mono ?_
        rintro e w5 ⟨G, c5, rfl, hG5, hs5, k5⟩
        have hT5 := h4.kept k5
        have hS5 := hs4.kept k5
        have K5 := K4.trans k5.any
        go_wp2_with fail
        refine (refSame06_z (some ⟨G, 0, none⟩) A1 _ _ c5 cp1 gs1 w5 hs5 hS5 rfl rfl (by omega)).mono ?_
        rintro e w6 ⟨rfl, k6⟩
        go_wp2
        go_roundw
        case rel => exact ⟨j + 1, A1, cp1, gs1, by omega, rfl, by go_num, by omega, hT5.kept k6, hS5.kept k6, HA1, K5.trans k6.any⟩
        case measure => simp [intOf]; omega
      have q0b : (ka == 0) = false := by simpa using q0
      have q1b : (ka == 1) = false := by simpa using q1
      have q2b : (ka == 2) = false := by simpa using q2
      clear q0 q1 q2
      go_wp2_with fail
      generalize wr.alloc (.cells #[.int .i64 ka, .int .i64 kb, .int .i64 kc] 28) = wa at rB hTa hsa hkA e0 e1 e2 hga ⊢
      clear hT hsr
      refine (tallyAll_any p g gs wa hTa (by omega)).mono ?_
      rintro e w5 ⟨G, c5, rfl, hG5, hs5, k5⟩
      have hT5 := hTa.kept k5
      have hS5 := hsa.kept k5
      have K5 := hkA.trans k5.any
      go_wp2_with fail
      refine (refSame06_z (some ⟨G, 0, none⟩) A _ _ c5 cp gs w5 hs5 hS5 rfl rfl (by omega)).mono ?_
      rintro e w6 ⟨rfl, k6⟩
      go_wp2
      go_roundw
      case rel => exact ⟨j + 1, A, cp, gs, by omega, rfl, by go_num, by omega, hT5.kept k6, hS5.kept k6, HA, K5.trans k6.any⟩
      case measure => simp [intOf]; omega
    · obtain rfl : j = l.length := by omega
      have hfix := hr
      clear hb hs
      go_wp2_with fail
      refine (fixed15_any wr).mono ?_
      rintro e w5 ⟨rfl, k5⟩
      have hT5 := hT.kept k5
      have hS5 := hsr.kept k5
      go_wp2_with fail
      refine (tallyOf_any p g gs r w5 hT5 hr).mono ?_
      rintro e w6 ⟨rfl, rfl⟩
      have hgl2 : gs.length ≤ 1099511627776 := by omega
      obtain ⟨cr, hcr⟩ : ∃ cr, cntY gs r = cr := ⟨_, rfl⟩
      have HC := Lib.hid hcr
      rw [hcr]
      clear hcr
      go_wp2_with fail
      refine (refOf15_any A _ cp gs r w5 hS5 rfl hgl2).mono ?_
      rintro e w6 ⟨rfl, rfl⟩
      rw [HC.out]
      go_wp2
      go_ret
      exact ⟨rfl, kWr.trans k5⟩
end Go.Proofs.Ytndfgeldgkmhcaa
