/- The law TallyBack: its walk. -/
import Derived.Test.YtndfgeldgkmhcaaTallyAll
import Derived.Test.YtndfgeldgkmhcaaTallyFixed
import Derived.Test.YtndfgeldgkmhcaaSameRunZ
namespace Go.Proofs.Ytndfgeldgkmhcaa
open Go.RowKit

set_option maxRecDepth 100000 in
set_option maxHeartbeats 2000000 in
theorem tallyBack_big (a0 : Option Addr) (len cap : Nat) (x y : Int) (w : World) (hl : 100 < len) (hm : len ≤ maxLen) :
    Calls Try.prog 5 #[.slice a0 len cap, .int .i64 x, .int .i64 y] w (FixedPost w) := by
  unfold maxLen at hm
  go_enter Try.func5, Try.ntmps5
  go_wp2_with fail
  refine (fixed15_any _).mono ?_
  rintro e w5 ⟨rfl, kw5⟩
  go_wp2
  go_ret
  exact ⟨rfl, kw5⟩

set_option maxRecDepth 100000 in
set_option maxHeartbeats 16000000 in
theorem tallyBack_any (a0 : Option Addr) (cap : Nat) (l : List I3) (x y : Int) (w : World) (hs : SlI3 w a0 l) (hl : l.length ≤ 100) (hb : ∀ x ∈ l, x.fit) (hx : Fit64 x) (hy : Fit64 y) :
    Calls Try.prog 5 #[.slice a0 l.length cap, .int .i64 x, .int .i64 y] w (FixedPost w) := by
  have h100 : decide ((100 : Int) < l.length) = false := by simp; omega
  go_enter Try.func5, Try.ntmps5
  go_wp2_with fail
  refine (tallyNew_any w).mono ?_
  rintro e w1 ⟨p, g, rfl, ⟨hnp, hng⟩, h1, k1⟩
  go_wp2_with fail
  go_loopw [20] (fun i wr => ∃ (j : Nat) (gs : List RunZ), j ≤ l.length ∧ i = .int .i64 j ∧ gs.length ≤ 2 * j ∧ IsTally wr p g gs ∧ Kept [g] w1 wr) (fun i _ => l.length - (intOf i).toNat)
  case atStart => exact ⟨0, [], Nat.zero_le _, rfl, by simp, h1, Kept.refl _ _⟩
  case round =>
    obtain ⟨j, gs, hj, rfl, hgl, hT, hkr⟩ := hrel
    have kWr : Kept [] w wr := k1.chain hkr (by simp) (by simp; omega)
    clear h1
    by_cases hlt : j < l.length
    · obtain ⟨b, off, z, rfl, hz, hbl, c0, c1, c2⟩ := (hs.kept kWr).cell hlt
      obtain ⟨hfa, hfb, hfc⟩ := hb z (List.mem_of_getElem? hz)
      obtain ⟨ka, kb, kc⟩ := z
      simp only at c0 c1 c2 hfa hfb hfc
      have h1 : (j : Int) < (l.length : Int) := by omega
      have kA := (Kept.refl [] wr).alloc (.cells #[.int .i64 ka, .int .i64 kb, .int .i64 kc] 28)
      have hTa := hT.kept kA
      have hkA : Kept [g] w1 (wr.alloc (.cells #[.int .i64 ka, .int .i64 kb, .int .i64 kc] 28)) := hkr.trans kA.any
      have e0 : (wr.alloc (.cells #[.int .i64 ka, .int .i64 kb, .int .i64 kc] 28)).cell? ⟨wr.heap.size, 0, none⟩ = some (.int .i64 ka) := by simp
      have e1 : (wr.alloc (.cells #[.int .i64 ka, .int .i64 kb, .int .i64 kc] 28)).cell? ⟨wr.heap.size, 1, none⟩ = some (.int .i64 kb) := by simp
      have e2 : (wr.alloc (.cells #[.int .i64 ka, .int .i64 kb, .int .i64 kc] 28)).cell? ⟨wr.heap.size, 2, none⟩ = some (.int .i64 kc) := by simp
      clear hT
      by_cases q0 : ka = 0
      · subst q0
        go_wp2_with fail
        generalize wr.alloc (.cells #[.int .i64 0, .int .i64 kb, .int .i64 kc] 28) = wa at hTa hkA e0 e1 e2 ⊢
        refine (tallyAdd_any p g gs kb kc wa hTa hfb hfc (by omega)).mono ?_
        rintro e w3 ⟨rfl, h3, k3⟩
        have hl1 := addY_len gs kb kc
        have hK3 := hkA.trans k3
        go_wp2
        go_roundw
        case rel => exact ⟨j + 1, _, by omega, by go_num, by omega, h3, hK3⟩
        case measure => simp [intOf]; omega
      by_cases q1 : ka = 1
      · subst q1
        go_wp2_with fail
        generalize wr.alloc (.cells #[.int .i64 1, .int .i64 kb, .int .i64 kc] 28) = wa at hTa hkA e0 e1 e2 ⊢
        refine (tallySwap_any p g gs kb kc wa hTa hfb hfc (by omega)).mono ?_
        rintro e w3 ⟨rfl, h3, k3⟩
        have hl1 := swapY_len gs kb kc
        have hK3 := hkA.trans k3
        go_wp2
        go_roundw
        case rel => exact ⟨j + 1, _, by omega, by go_num, by omega, h3, hK3⟩
        case measure => simp [intOf]; omega
      by_cases q2 : ka = 2
      · subst q2
        go_wp2_with fail
        generalize wr.alloc (.cells #[.int .i64 2, .int .i64 kb, .int .i64 kc] 28) = wa at hTa hkA e0 e1 e2 ⊢
        refine (tallyForget_any p g gs kb wa hTa hfb (by omega)).mono ?_
        rintro e w3 ⟨rfl, h3, k3⟩
        have hl1 := setY_len gs kb 0
        have hK3 := hkA.trans k3
        go_wp2
        go_roundw
        case rel => exact ⟨j + 1, _, by omega, by go_num, by omega, h3, hK3⟩
        case measure => simp [intOf]; omega
      have q0b : (ka == 0) = false := by simpa using q0
      have q1b : (ka == 1) = false := by simpa using q1
      have q2b : (ka == 2) = false := by simpa using q2
      clear q0 q1 q2
      go_wp2_with fail
      generalize wr.alloc (.cells #[.int .i64 ka, .int .i64 kb, .int .i64 kc] 28) = wa at hTa hkA e0 e1 e2 ⊢
      go_roundw
      case rel => exact ⟨j + 1, gs, by omega, by go_num, by omega, hTa, hkA⟩
      case measure => simp [intOf]; omega
    · obtain rfl : j = l.length := by omega
      clear hb hs
      have hgl2 : gs.length ≤ 200 := by omega
      go_wp2_with fail
      refine (tallyAll_any p g gs wr hT (by omega)).mono ?_
      rintro e w2 ⟨G, c2, rfl, hG2, hs2, k2⟩
      have hT2 := hT.kept k2
      have hlt2 := hT.lt
      have HG := Lib.hid hT.good
      go_wp2_with fail
      refine (tallySwap_any p g gs x y w2 hT2 hx hy (by omega)).mono ?_
      rintro e w3 ⟨rfl, h3, k3⟩
      have hs3 := hs2.keptS k3 (fun b off e => by cases e; simp; omega)
      have hK3 := (hkr.trans k2.any).trans k3
      by_cases he : (swapY gs x y).2 = 0
      · have HB := Lib.hid (swapY_back HG.out hx.2 hy.2 he)
        have hl3 := swapY_len gs x y
        rw [he]
        generalize (swapY gs x y).1 = gs1 at h3 HB hl3
        clear he hT hT2 hs2 k2 k3 hkr
        go_wp2_with fail
        refine (fixed15_any w3).mono ?_
        rintro e w4 ⟨rfl, k4⟩
        have h4 := h3.kept k4
        have hs4 := hs3.kept k4
        go_wp2_with fail
        refine (tallySwap_any p g gs1 y x w4 h4 hy hx (by omega)).mono ?_
        rintro e w5 ⟨rfl, h5, k5⟩
        rw [HB.out] at h5 ⊢
        have hs5 := hs4.keptS k5 (fun b off e => by cases e; simp; omega)
        have hK5 := (hK3.trans k4.any).trans k5
        go_wp2_with fail
        refine (tallyAll_any p g gs w5 h5 (by omega)).mono ?_
        rintro e w6 ⟨G6, c6, rfl, hG6, hs6, k6⟩
        have hs7 := hs5.kept k6
        go_wp2_with fail
        refine (refSame06_z _ _ _ _ c6 c2 gs w6 hs6 hs7 rfl rfl (by omega)).mono ?_
        rintro e w7 ⟨rfl, k7⟩
        go_wp2
        go_ret
        exact ⟨rfl, k1.chain (((hK5.trans k6.any).trans k7.any)) (by simp) (by simp; omega)⟩
      · have HB := Lib.hid (swapY_err he)
        rw [HB.out] at h3
        have he2 : ((swapY gs x y).2 != 0) = true := by simpa using he
        obtain ⟨er, her⟩ : ∃ er, (swapY gs x y).2 = er := ⟨_, rfl⟩
        rw [her] at he2 ⊢
        clear he hT hT2 hs2 k2 k3 hkr her
        go_wp2_with fail
        refine (fixed15_any w3).mono ?_
        rintro e w4 ⟨rfl, k4⟩
        have h4 := h3.kept k4
        have hs4 := hs3.kept k4
        go_wp2_with fail
        refine (tallyAll_any p g gs w4 h4 (by omega)).mono ?_
        rintro e w6 ⟨G6, c6, rfl, hG6, hs6, k6⟩
        have hs7 := hs4.kept k6
        go_wp2_with fail
        refine (refSame06_z _ _ _ _ c6 c2 gs w6 hs6 hs7 rfl rfl (by omega)).mono ?_
        rintro e w7 ⟨rfl, k7⟩
        go_wp2
        go_ret
        exact ⟨rfl, k1.chain (((hK3.trans k4.any).trans k6.any).trans k7.any) (by simp) (by simp; omega)⟩
end Go.Proofs.Ytndfgeldgkmhcaa
