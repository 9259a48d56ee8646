/- The law TallySums: its walk. -/
import Derived.Test.YtndfgeldgkmhcaaTallySum
import Derived.Test.YtndfgeldgkmhcaaTallyFixed
import Derived.Test.YtndfgeldgkmhcaaRegionPick
import Derived.Test.YtndfgeldgkmhcaaQuiet
namespace Go.Proofs.Ytndfgeldgkmhcaa
open Go.RowKit

set_option maxRecDepth 100000 in
set_option maxHeartbeats 2000000 in
theorem tallySums_big (a0 : Option Addr) (len cap : Nat) (w : World) (hl : 100 < len) (hm : len ≤ maxLen) :
    Calls Try.prog 4 #[.slice a0 len cap] w (FixedPost w) := by
  unfold maxLen at hm
  go_enter Try.func4, Try.ntmps4
  go_wp2_with fail
  refine (fixed15_any _).mono ?_
  rintro e w5 ⟨rfl, kw5⟩
  go_wp2
  go_ret
  exact ⟨rfl, kw5⟩

set_option maxRecDepth 100000 in
set_option maxHeartbeats 16000000 in
theorem tallySums_any (a0 : Option Addr) (cap : Nat) (l : List I3) (w : World) (hs : SlI3 w a0 l) (hl : l.length ≤ 100) (hb : ∀ x ∈ l, x.fit) :
    Calls Try.prog 4 #[.slice a0 l.length cap] w (FixedPost w) := by
  have h100 : decide ((100 : Int) < l.length) = false := by simp; omega
  go_enter Try.func4, Try.ntmps4
  go_wp2_with fail
  refine (tallyNew_any w).mono ?_
  rintro e w1 ⟨p, g, rfl, ⟨hnp, hng⟩, h1, k1⟩
  have rX0 := Row.new w1 24 [.pointer (some ⟨p, 0, none⟩)]
  have k2 := k1.alloc (.cells #[.pointer (some ⟨p, 0, none⟩)] 24)
  have h2 := h1.kept ((Kept.refl [] w1).alloc (.cells #[.pointer (some ⟨p, 0, none⟩)] 24))
  have hXg : g < w1.heap.size := h1.lt.2
  have cX : (w1.alloc (.cells #[.pointer (some ⟨p, 0, none⟩)] 24)).cell? ⟨w1.heap.size, 0, none⟩ = some (.pointer (some ⟨p, 0, none⟩)) := by simp
  go_wp2_with fail
  generalize w1.alloc (.cells #[.pointer (some ⟨p, 0, none⟩)] 24) = W at k2 h2 rX0 cX ⊢
  generalize w1.heap.size = X at rX0 hXg cX ⊢
  have hXg2 : X ≠ g := by omega
  clear h1 k1 hXg cX
  go_loopw [21] (fun i wr => ∃ (j : Nat) (gs : List RunZ), j ≤ l.length ∧ i = .int .i64 j ∧ gs.length ≤ 2 * j ∧ IsTally wr p g gs ∧ Row wr X 24 [.pointer (some ⟨p, 0, none⟩)] ∧ Kept [g] W wr) (fun i _ => l.length - (intOf i).toNat)
  case atStart => exact ⟨0, [], Nat.zero_le _, rfl, by simp, h2, rX0, Kept.refl _ _⟩
  case round =>
    obtain ⟨j, gs, hj, rfl, hgl, hT, rX, hkr⟩ := hrel
    have kWr : Kept [] w wr := k2.chain hkr (by simp) (by simp; omega)
    clear h2 rX0
    by_cases hlt : j < l.length
    · obtain ⟨b, off, z, rfl, hz, hbl, c0, c1, c2⟩ := (hs.kept kWr).cell hlt
      obtain ⟨hfa, hfb, hfc⟩ := hb z (List.mem_of_getElem? hz)
      obtain ⟨ka, kb, kc⟩ := z
      simp only at c0 c1 c2 hfa hfb hfc
      have h1 : (j : Int) < (l.length : Int) := by omega
      have rB := Row.new wr 28 [.int .i64 ka, .int .i64 kb, .int .i64 kc]
      have kA := (Kept.refl [] wr).alloc (.cells #[.int .i64 ka, .int .i64 kb, .int .i64 kc] 28)
      have hTa := hT.kept kA
      have rXa := rX.kept kA (by simp)
      have hkA : Kept [g] W (wr.alloc (.cells #[.int .i64 ka, .int .i64 kb, .int .i64 kc] 28)) := hkr.trans kA.any
      have hBg : wr.heap.size ≠ g := by have := hT.lt; omega
      have hG := hT.good
      have HG := Lib.hid hG
      have hsb := GoodY.sum hG.val
      have hc0 := hG.count kb
      have HGL : Hid (gs.length ≤ 200) := by show _ ≤ _; omega
      obtain ⟨sm, hsm⟩ : ∃ sm, sumY gs = sm := ⟨_, rfl⟩
      rw [hsm] at hsb
      have HSM := Lib.hid hsm
      obtain ⟨s0, s1⟩ : 0 ≤ sm ∧ sm ≤ 644245094100 := by have := HGL.out; omega
      clear hsm hsb hT rX hG
      go_wp2_with fail
      generalize wr.alloc (.cells #[.int .i64 ka, .int .i64 kb, .int .i64 kc] 28) = wa at hTa rXa rB kA hkA ⊢
      generalize wr.heap.size = B at rB hBg ⊢
      refine (sums1_any X p g gs wa rXa hTa (by have := HGL.out; omega)).mono ?_
      rintro e w2 ⟨rfl, kw2⟩
      rw [HSM.out]
      have hT2 := hTa.kept kw2
      have rX2 := rXa.kept kw2 (by simp)
      have rB2 := rB.kept kw2 (by simp)
      have hK2 := hkA.trans kw2.any
      have e0 : w2.cell? ⟨B, 0, none⟩ = some (.int .i64 ka) := by simpa using rB2.cell 0
      have e1 : w2.cell? ⟨B, 1, none⟩ = some (.int .i64 kb) := by simpa using rB2.cell 1
      have e2 : w2.cell? ⟨B, 2, none⟩ = some (.int .i64 kc) := by simpa using rB2.cell 2
      have cX2 : w2.cell? ⟨X, 0, none⟩ = some (.pointer (some ⟨p, 0, none⟩)) := by simpa using rX2.cell 0
      clear hTa rXa rB kA hkA kw2 c0 c1 c2
      by_cases q0 : ka = 0
      · by_cases he : (addY gs kb kc).2 = 0
        · subst q0
          have hsum := addY_sum HG.out he
          obtain ⟨sn, hsn⟩ : ∃ sn, sumY (addY gs kb kc).1 = sn := ⟨_, rfl⟩
          have hwr : IntKind.i64.wrap (sm + kc) = sn := by
            have h1 : -2147483648 ≤ kc ∧ kc ≤ 2147483647 := by
              by_cases z1 : kb < 1
              · rw [addY_arg z1] at he; simp at he
              · by_cases z2 : kc < -cntY gs kb ∨ 2147483647 - cntY gs kb < kc
                · rw [addY_range z1 z2] at he; simp at he
                · omega
            have h2 : sn = sm + kc := by rw [← hsn, hsum, HSM.out]
            rw [h2]
            exact IntWalk.i64_in _ (by omega)
          have HSN := Lib.hid hsn
          have HE := Lib.hid he
          clear hsum he hsn
          have hlen := addY_len gs kb kc
          have HL1 : Hid ((addY gs kb kc).1.length ≤ 2 * (j + 1)) := by show _ ≤ _; omega
          have HL2 : Hid ((addY gs kb kc).1.length ≤ 1000) := by show _ ≤ _; have := HGL.out; omega
          have HG1 := Lib.hid (HG.out.add (z := kb) (n := kc) hfb.2)
          clear hc0 hlen
          have hTd := hT2.kept (Kept.refl _ _).drew
          have rXd := rX2.drew
          have rBd := rB2.drew
          have hKd := hK2.drew
          have S1 : w2.drew.cell? ⟨X, 0, none⟩ = some (.pointer (some ⟨p, 0, none⟩)) ∧ w2.drew.cell? ⟨B, 1, none⟩ = some (.int .i64 kb) ∧ w2.drew.cell? ⟨B, 2, none⟩ = some (.int .i64 kc) := ⟨(by simpa using rXd.cell 0), (by simpa using rBd.cell 1), (by simpa using rBd.cell 2)⟩
          go_wp2_with fail
          clear hT2 rX2 rB2 hK2
          refine wp_region_pick (fun w' => w'.cell? ⟨X, 0, none⟩ = some (.pointer (some ⟨p, 0, none⟩)) ∧ w'.cell? ⟨B, 1, none⟩ = some (.int .i64 kb) ∧ w'.cell? ⟨B, 2, none⟩ = some (.int .i64 kc)) (by kernel_rfl) S1 ?_
          simp only [numbered, List.length_cons, List.length_nil, Nat.reduceAdd]
          repeat (first
            | (refine pick_take0 (v := ?_) rfl (by decide +kernel) (fun _ _ _ h => h) (by rfl) ?_ ?_; rotate_left; (intro w hSw; (try dsimp only at hSw); go_simp; try with_reducible rfl); go_frame)
            | (refine pick_skip0 (by decide +kernel) (fun _ _ _ h => h) (by rfl) ?_; go_frame)
            | (refine pick_take1 (v := ?_) rfl (by decide +kernel) (fun _ _ _ h => h) (by rfl) ?_ ?_; rotate_left; (intro w hSw; (try dsimp only at hSw); go_simp; try with_reducible rfl); go_frame)
            | (refine pick_take2 (v := ?_) rfl (by decide +kernel) (fun _ _ _ h => h) (by rfl) ?_ ?_; rotate_left; (intro w hSw; (try dsimp only at hSw); go_simp; try with_reducible rfl); go_frame)
            | (refine pick_call (by decide +kernel) (by rfl) (fun KK hKK => ?_); go_simp
               first
               | (go_at_call 8; refine (tallyAdd_any p g gs kb kc w2.drew hTd hfb hfc (by have := HGL.out; omega)).mono ?_; rintro e w3 ⟨rfl, h3, k3⟩; rw [HE.out]; have rX3 := rXd.kept k3 (by simpa using hXg2); have rB3 := rBd.kept k3 (by simpa using hBg); have hSc : w3.cell? ⟨X, 0, none⟩ = some (.pointer (some ⟨p, 0, none⟩)) ∧ w3.cell? ⟨B, 1, none⟩ = some (.int .i64 kb) ∧ w3.cell? ⟨B, 2, none⟩ = some (.int .i64 kc) := ⟨(by simpa using rX3.cell 0), (by simpa using rB3.cell 1), (by simpa using rB3.cell 2)⟩)
               | (go_at_call 18; refine (sums1_any X p g _ w3 rX3 h3 HL2.out).mono ?_; rintro e w4 ⟨rfl, k4⟩; rw [HSN.out]; have rX4 := rX3.kept k4 (by simp); have rB4 := rB3.kept k4 (by simp); have hSc : w4.cell? ⟨X, 0, none⟩ = some (.pointer (some ⟨p, 0, none⟩)) ∧ w4.cell? ⟨B, 1, none⟩ = some (.int .i64 kb) ∧ w4.cell? ⟨B, 2, none⟩ = some (.int .i64 kc) := ⟨(by simpa using rX4.cell 0), (by simpa using rB4.cell 1), (by simpa using rB4.cell 2)⟩)
               (try dsimp only)
               refine hKK _ _ hSc ?_
               clear hKK KK))
          refine pick_done (by decide +kernel) ?_
          have h4 := h3.kept k4
          have K4 := (hKd.trans k3).trans k4.any
          clear S1 e0 e1 e2 cX2 hTd rXd rBd hKd h3 rX3 rB3 k3 k4 rB4 hSc hwr HSN HE HG HSM HGL s0 s1
          generalize (addY gs kb kc).1 = gs1 at h4 HL1 HL2 HG1
          have cX4 : w4.cell? ⟨X, 0, none⟩ = some (.pointer (some ⟨p, 0, none⟩)) := by simpa using rX4.cell 0
          go_wp2_with fail
          refine (tallyAll_any p g gs1 w4 h4 (by have := HL1.out; omega)).mono ?_
          rintro e w5 ⟨G, c5, rfl, hG5, hs5, k5⟩
          have hT5 := h4.kept k5
          have rX5 := rX4.kept k5 (by simp)
          have K5 := K4.trans k5.any
          have hsm2 : gs1.length ≤ 202 := by have := HL1.out; omega
          clear hG5 k5
          go_wp2_with fail
          go_loopw [91] (fun i wq => ∃ (i2 : Nat), i2 ≤ gs1.length ∧ i = .int .i64 i2 ∧ Kept [] w5 wq) (fun i _ => gs1.length - (intOf i).toNat)
          case atStart => exact ⟨0, Nat.zero_le _, rfl, Kept.refl _ _⟩
          case round =>
            obtain ⟨i2, hi2, rfl, hkq⟩ := hrel
            by_cases hlt2 : i2 < gs1.length
            · obtain ⟨b', off', e, _, d0, d1⟩ := (hs5.kept hkq).cellZ hlt2
              cases e
              have hmem := List.getElem_mem hlt2
              have hq1 : (i2 : Int) < (gs1.length : Int) := by omega
              generalize gs1[i2] = y at d0 d1 hmem
              obtain ⟨y1, y2⟩ := y
              simp only [Nat.zero_add] at d0 d1
              have hcn := cntY_mem HG1.out.rise hmem
              have hky := HG1.out.key _ hmem
              have hvy := HG1.out.val _ hmem
              simp only at hky hvy
              have g1 : decide (y1 < 1) = false := by simp; omega
              have g2 : decide (y2 < 1) = false := by simp; omega
              have rC := Row.new wr 41 [.int .i64 y1, .int .i64 y2]
              have kC := (Kept.refl [] wr).alloc (.cells #[.int .i64 y1, .int .i64 y2] 41)
              have kq := hkq.trans kC
              have hOF : ∀ m, Calls Try.prog 16 #[.pointer (some ⟨p, 0, none⟩), .int .i64 y1] ((wr.alloc (.cells #[.int .i64 y1, .int .i64 y2] 41)).drewN m) fun e w' => e = .returned (.int .i64 y2) ∧ (wr.alloc (.cells #[.int .i64 y1, .int .i64 y2] 41)).drewN m = w' := fun m => by
                have := tallyOf_any p g gs1 y1 _ ((hT5.kept kq).drewN m) ⟨by omega, hky.2⟩
                rwa [hcn] at this
              have f0 : (wr.alloc (.cells #[.int .i64 y1, .int .i64 y2] 41)).cell? ⟨wr.heap.size, 0, none⟩ = some (.int .i64 y1) := by simp
              have f1 : (wr.alloc (.cells #[.int .i64 y1, .int .i64 y2] 41)).cell? ⟨wr.heap.size, 1, none⟩ = some (.int .i64 y2) := by simp
              have f2 : (wr.alloc (.cells #[.int .i64 y1, .int .i64 y2] 41)).cell? ⟨X, 0, none⟩ = some (.pointer (some ⟨p, 0, none⟩)) := by simpa using (rX5.kept kq (by simp)).cell 0
              clear hmem hcn hky hvy
              go_wp2_with fail
              generalize wr.alloc (.cells #[.int .i64 y1, .int .i64 y2] 41) = wc at hOF kq f0 f1 f2 ⊢
              generalize wr.heap.size = cc at f0 f1 ⊢
              go_quiet (first | (go_at_call 16; refine quiet_same (hOF _)))
              go_wp2
              go_roundw
              case rel => exact ⟨i2 + 1, by omega, by go_num, kq.drewN _⟩
              case measure => simp [intOf]; omega
            · obtain rfl : i2 = gs1.length := by omega
              go_wp2
              go_roundw
              case rel => exact ⟨j + 1, gs1, by omega, by go_num, HL1.out, hT5.kept hkq, rX5.kept hkq (by simp), K5.trans hkq.any⟩
              case measure => simp [intOf]; omega
        · subst q0
          obtain ⟨er, her⟩ : ∃ er, (addY gs kb kc).2 = er := ⟨_, rfl⟩
          rw [her] at he
          have he2 : (er == 0) = false := by simpa using he
          have HE := Lib.hid her
          clear he her
          have hlen := addY_len gs kb kc
          have HL1 : Hid ((addY gs kb kc).1.length ≤ 2 * (j + 1)) := by show _ ≤ _; omega
          have HL2 : Hid ((addY gs kb kc).1.length ≤ 1000) := by show _ ≤ _; have := HGL.out; omega
          have HG1 := Lib.hid (HG.out.add (z := kb) (n := kc) hfb.2)
          clear hc0 hlen
          have hTd := hT2.kept (Kept.refl _ _).drew
          have rXd := rX2.drew
          have rBd := rB2.drew
          have hKd := hK2.drew
          have S1 : w2.drew.cell? ⟨X, 0, none⟩ = some (.pointer (some ⟨p, 0, none⟩)) ∧ w2.drew.cell? ⟨B, 1, none⟩ = some (.int .i64 kb) ∧ w2.drew.cell? ⟨B, 2, none⟩ = some (.int .i64 kc) := ⟨(by simpa using rXd.cell 0), (by simpa using rBd.cell 1), (by simpa using rBd.cell 2)⟩
          go_wp2_with fail
          clear hT2 rX2 rB2 hK2
          refine wp_region_pick (fun w' => w'.cell? ⟨X, 0, none⟩ = some (.pointer (some ⟨p, 0, none⟩)) ∧ w'.cell? ⟨B, 1, none⟩ = some (.int .i64 kb) ∧ w'.cell? ⟨B, 2, none⟩ = some (.int .i64 kc)) (by kernel_rfl) S1 ?_
          simp only [numbered, List.length_cons, List.length_nil, Nat.reduceAdd]
          repeat (first
            | (refine pick_take0 (v := ?_) rfl (by decide +kernel) (fun _ _ _ h => h) (by rfl) ?_ ?_; rotate_left; (intro w hSw; (try dsimp only at hSw); go_simp; try with_reducible rfl); go_frame)
            | (refine pick_skip0 (by decide +kernel) (fun _ _ _ h => h) (by rfl) ?_; go_frame)
            | (refine pick_take1 (v := ?_) rfl (by decide +kernel) (fun _ _ _ h => h) (by rfl) ?_ ?_; rotate_left; (intro w hSw; (try dsimp only at hSw); go_simp; try with_reducible rfl); go_frame)
            | (refine pick_take2 (v := ?_) rfl (by decide +kernel) (fun _ _ _ h => h) (by rfl) ?_ ?_; rotate_left; (intro w hSw; (try dsimp only at hSw); go_simp; try with_reducible rfl); go_frame)
            | (refine pick_call (by decide +kernel) (by rfl) (fun KK hKK => ?_); go_simp
               first
               | (go_at_call 8; refine (tallyAdd_any p g gs kb kc w2.drew hTd hfb hfc (by have := HGL.out; omega)).mono ?_; rintro e w3 ⟨rfl, h3, k3⟩; rw [HE.out]; have rX3 := rXd.kept k3 (by simpa using hXg2); have rB3 := rBd.kept k3 (by simpa using hBg); have hSc : w3.cell? ⟨X, 0, none⟩ = some (.pointer (some ⟨p, 0, none⟩)) ∧ w3.cell? ⟨B, 1, none⟩ = some (.int .i64 kb) ∧ w3.cell? ⟨B, 2, none⟩ = some (.int .i64 kc) := ⟨(by simpa using rX3.cell 0), (by simpa using rB3.cell 1), (by simpa using rB3.cell 2)⟩)
               | (go_at_call 18; refine (sums1_any X p g _ w3 rX3 h3 HL2.out).mono ?_; rintro e w4 ⟨rfl, k4⟩; rw [HSN.out]; have rX4 := rX3.kept k4 (by simp); have rB4 := rB3.kept k4 (by simp); have hSc : w4.cell? ⟨X, 0, none⟩ = some (.pointer (some ⟨p, 0, none⟩)) ∧ w4.cell? ⟨B, 1, none⟩ = some (.int .i64 kb) ∧ w4.cell? ⟨B, 2, none⟩ = some (.int .i64 kc) := ⟨(by simpa using rX4.cell 0), (by simpa using rB4.cell 1), (by simpa using rB4.cell 2)⟩)
               (try dsimp only)
               refine hKK _ _ hSc ?_
               clear hKK KK))
          refine pick_done (by decide +kernel) ?_
          have K4 := hKd.trans k3
          clear S1 e0 e1 e2 cX2 hTd rXd rBd hKd k3 rB3 hSc HE HG HSM HGL s0 s1
          generalize (addY gs kb kc).1 = gs1 at h3 HL1 HL2 HG1
          have cX4 : w3.cell? ⟨X, 0, none⟩ = some (.pointer (some ⟨p, 0, none⟩)) := by simpa using rX3.cell 0
          go_wp2_with fail
          refine (tallyAll_any p g gs1 w3 h3 (by have := HL1.out; omega)).mono ?_
          rintro e w5 ⟨G, c5, rfl, hG5, hs5, k5⟩
          have hT5 := h3.kept k5
          have rX5 := rX3.kept k5 (by simp)
          have K5 := K4.trans k5.any
          have hsm2 : gs1.length ≤ 202 := by have := HL1.out; omega
          clear hG5 k5
          go_wp2_with fail
          go_loopw [91] (fun i wq => ∃ (i2 : Nat), i2 ≤ gs1.length ∧ i = .int .i64 i2 ∧ Kept [] w5 wq) (fun i _ => gs1.length - (intOf i).toNat)
          case atStart => exact ⟨0, Nat.zero_le _, rfl, Kept.refl _ _⟩
          case round =>
            obtain ⟨i2, hi2, rfl, hkq⟩ := hrel
            by_cases hlt2 : i2 < gs1.length
            · obtain ⟨b', off', e, _, d0, d1⟩ := (hs5.kept hkq).cellZ hlt2
              cases e
              have hmem := List.getElem_mem hlt2
              have hq1 : (i2 : Int) < (gs1.length : Int) := by omega
              generalize gs1[i2] = y at d0 d1 hmem
              obtain ⟨y1, y2⟩ := y
              simp only [Nat.zero_add] at d0 d1
              have hcn := cntY_mem HG1.out.rise hmem
              have hky := HG1.out.key _ hmem
              have hvy := HG1.out.val _ hmem
              simp only at hky hvy
              have g1 : decide (y1 < 1) = false := by simp; omega
              have g2 : decide (y2 < 1) = false := by simp; omega
              have rC := Row.new wr 41 [.int .i64 y1, .int .i64 y2]
              have kC := (Kept.refl [] wr).alloc (.cells #[.int .i64 y1, .int .i64 y2] 41)
              have kq := hkq.trans kC
              have hOF : ∀ m, Calls Try.prog 16 #[.pointer (some ⟨p, 0, none⟩), .int .i64 y1] ((wr.alloc (.cells #[.int .i64 y1, .int .i64 y2] 41)).drewN m) fun e w' => e = .returned (.int .i64 y2) ∧ (wr.alloc (.cells #[.int .i64 y1, .int .i64 y2] 41)).drewN m = w' := fun m => by
                have := tallyOf_any p g gs1 y1 _ ((hT5.kept kq).drewN m) ⟨by omega, hky.2⟩
                rwa [hcn] at this
              have f0 : (wr.alloc (.cells #[.int .i64 y1, .int .i64 y2] 41)).cell? ⟨wr.heap.size, 0, none⟩ = some (.int .i64 y1) := by simp
              have f1 : (wr.alloc (.cells #[.int .i64 y1, .int .i64 y2] 41)).cell? ⟨wr.heap.size, 1, none⟩ = some (.int .i64 y2) := by simp
              have f2 : (wr.alloc (.cells #[.int .i64 y1, .int .i64 y2] 41)).cell? ⟨X, 0, none⟩ = some (.pointer (some ⟨p, 0, none⟩)) := by simpa using (rX5.kept kq (by simp)).cell 0
              clear hmem hcn hky hvy
              go_wp2_with fail
              generalize wr.alloc (.cells #[.int .i64 y1, .int .i64 y2] 41) = wc at hOF kq f0 f1 f2 ⊢
              generalize wr.heap.size = cc at f0 f1 ⊢
              go_quiet (first | (go_at_call 16; refine quiet_same (hOF _)))
              go_wp2
              go_roundw
              case rel => exact ⟨i2 + 1, by omega, by go_num, kq.drewN _⟩
              case measure => simp [intOf]; omega
            · obtain rfl : i2 = gs1.length := by omega
              go_wp2
              go_roundw
              case rel => exact ⟨j + 1, gs1, by omega, by go_num, HL1.out, hT5.kept hkq, rX5.kept hkq (by simp), K5.trans hkq.any⟩
              case measure => simp [intOf]; omega
      by_cases q1 : ka = 1
      · subst q1
        have hlen := swapY_len gs kb kc
        have HL1 : Hid ((swapY gs kb kc).1.length ≤ 2 * (j + 1)) := by show _ ≤ _; omega
        have HL2 : Hid ((swapY gs kb kc).1.length ≤ 1000) := by show _ ≤ _; have := HGL.out; omega
        have HG1 := Lib.hid (HG.out.swap (o := kb) (f := kc) hfb.2 hfc.2)
        have HSUM : Hid ((swapY gs kb kc).2 = 0 → kb ≠ 0 → kc ≠ 0 → sumY (swapY gs kb kc).1 = sm) := fun h0 hb0 hc0 => (swapY_sum HG.out hb0 hc0 h0).trans HSM.out
        clear hc0 hlen
        go_wp2_with fail
        refine (tallySwap_any p g gs kb kc w2 hT2 hfb hfc (by have := HGL.out; omega)).mono ?_
        rintro e w3 ⟨rfl, h3, k3⟩
        have rX3 := rX2.kept k3 (by simpa using hXg2)
        have rB3 := rB2.kept k3 (by simpa using hBg)
        have K3 := hK2.trans k3
        have d1 : w3.cell? ⟨B, 1, none⟩ = some (.int .i64 kb) := by simpa using rB3.cell 1
        have d2 : w3.cell? ⟨B, 2, none⟩ = some (.int .i64 kc) := by simpa using rB3.cell 2
        have cX4 : w3.cell? ⟨X, 0, none⟩ = some (.pointer (some ⟨p, 0, none⟩)) := by simpa using rX3.cell 0
        clear hT2 rX2 rB2 hK2 k3 e0 e1 e2 cX2 HG HSM HGL
        generalize (swapY gs kb kc).1 = gs1 at h3 HL1 HL2 HG1 HSUM
        generalize (swapY gs kb kc).2 = er at HSUM ⊢
        by_cases he : er = 0
        · subst he
          by_cases hb0 : kb = 0
          · subst hb0
            clear HSUM
            go_wp2_with fail
            refine (tallyAll_any p g gs1 w3 h3 (by have := HL1.out; omega)).mono ?_
            rintro e w5 ⟨G, c5, rfl, hG5, hs5, k5⟩
            have hT5 := h3.kept k5
            have rX5 := rX3.kept k5 (by simp)
            have K5 := K3.trans k5.any
            have hsm2 : gs1.length ≤ 202 := by have := HL1.out; omega
            clear hG5 k5
            go_wp2_with fail
            go_loopw [91] (fun i wq => ∃ (i2 : Nat), i2 ≤ gs1.length ∧ i = .int .i64 i2 ∧ Kept [] w5 wq) (fun i _ => gs1.length - (intOf i).toNat)
            case atStart => exact ⟨0, Nat.zero_le _, rfl, Kept.refl _ _⟩
            case round =>
              obtain ⟨i2, hi2, rfl, hkq⟩ := hrel
              by_cases hlt2 : i2 < gs1.length
              · obtain ⟨b', off', e, _, d0, d1⟩ := (hs5.kept hkq).cellZ hlt2
                cases e
                have hmem := List.getElem_mem hlt2
                have hq1 : (i2 : Int) < (gs1.length : Int) := by omega
                generalize gs1[i2] = y at d0 d1 hmem
                obtain ⟨y1, y2⟩ := y
                simp only [Nat.zero_add] at d0 d1
                have hcn := cntY_mem HG1.out.rise hmem
                have hky := HG1.out.key _ hmem
                have hvy := HG1.out.val _ hmem
                simp only at hky hvy
                have g1 : decide (y1 < 1) = false := by simp; omega
                have g2 : decide (y2 < 1) = false := by simp; omega
                have rC := Row.new wr 41 [.int .i64 y1, .int .i64 y2]
                have kC := (Kept.refl [] wr).alloc (.cells #[.int .i64 y1, .int .i64 y2] 41)
                have kq := hkq.trans kC
                have hOF : ∀ m, Calls Try.prog 16 #[.pointer (some ⟨p, 0, none⟩), .int .i64 y1] ((wr.alloc (.cells #[.int .i64 y1, .int .i64 y2] 41)).drewN m) fun e w' => e = .returned (.int .i64 y2) ∧ (wr.alloc (.cells #[.int .i64 y1, .int .i64 y2] 41)).drewN m = w' := fun m => by
                  have := tallyOf_any p g gs1 y1 _ ((hT5.kept kq).drewN m) ⟨by omega, hky.2⟩
                  rwa [hcn] at this
                have f0 : (wr.alloc (.cells #[.int .i64 y1, .int .i64 y2] 41)).cell? ⟨wr.heap.size, 0, none⟩ = some (.int .i64 y1) := by simp
                have f1 : (wr.alloc (.cells #[.int .i64 y1, .int .i64 y2] 41)).cell? ⟨wr.heap.size, 1, none⟩ = some (.int .i64 y2) := by simp
                have f2 : (wr.alloc (.cells #[.int .i64 y1, .int .i64 y2] 41)).cell? ⟨X, 0, none⟩ = some (.pointer (some ⟨p, 0, none⟩)) := by simpa using (rX5.kept kq (by simp)).cell 0
                clear hmem hcn hky hvy
                go_wp2_with fail
                generalize wr.alloc (.cells #[.int .i64 y1, .int .i64 y2] 41) = wc at hOF kq f0 f1 f2 ⊢
                generalize wr.heap.size = cc at f0 f1 ⊢
                go_quiet (first | (go_at_call 16; refine quiet_same (hOF _)))
                go_wp2
                go_roundw
                case rel => exact ⟨i2 + 1, by omega, by go_num, kq.drewN _⟩
                case measure => simp [intOf]; omega
              · obtain rfl : i2 = gs1.length := by omega
                go_wp2
                go_roundw
                case rel => exact ⟨j + 1, gs1, by omega, by go_num, HL1.out, hT5.kept hkq, rX5.kept hkq (by simp), K5.trans hkq.any⟩
                case measure => simp [intOf]; omega
          by_cases hc0 : kc = 0
          · subst hc0
            have nb : (kb != 0) = true := by simpa using hb0
            clear HSUM hb0
            go_wp2_with fail
            refine (tallyAll_any p g gs1 w3 h3 (by have := HL1.out; omega)).mono ?_
            rintro e w5 ⟨G, c5, rfl, hG5, hs5, k5⟩
            have hT5 := h3.kept k5
            have rX5 := rX3.kept k5 (by simp)
            have K5 := K3.trans k5.any
            have hsm2 : gs1.length ≤ 202 := by have := HL1.out; omega
            clear hG5 k5
            go_wp2_with fail
            go_loopw [91] (fun i wq => ∃ (i2 : Nat), i2 ≤ gs1.length ∧ i = .int .i64 i2 ∧ Kept [] w5 wq) (fun i _ => gs1.length - (intOf i).toNat)
            case atStart => exact ⟨0, Nat.zero_le _, rfl, Kept.refl _ _⟩
            case round =>
              obtain ⟨i2, hi2, rfl, hkq⟩ := hrel
              by_cases hlt2 : i2 < gs1.length
              · obtain ⟨b', off', e, _, d0, d1⟩ := (hs5.kept hkq).cellZ hlt2
                cases e
                have hmem := List.getElem_mem hlt2
                have hq1 : (i2 : Int) < (gs1.length : Int) := by omega
                generalize gs1[i2] = y at d0 d1 hmem
                obtain ⟨y1, y2⟩ := y
                simp only [Nat.zero_add] at d0 d1
                have hcn := cntY_mem HG1.out.rise hmem
                have hky := HG1.out.key _ hmem
                have hvy := HG1.out.val _ hmem
                simp only at hky hvy
                have g1 : decide (y1 < 1) = false := by simp; omega
                have g2 : decide (y2 < 1) = false := by simp; omega
                have rC := Row.new wr 41 [.int .i64 y1, .int .i64 y2]
                have kC := (Kept.refl [] wr).alloc (.cells #[.int .i64 y1, .int .i64 y2] 41)
                have kq := hkq.trans kC
                have hOF : ∀ m, Calls Try.prog 16 #[.pointer (some ⟨p, 0, none⟩), .int .i64 y1] ((wr.alloc (.cells #[.int .i64 y1, .int .i64 y2] 41)).drewN m) fun e w' => e = .returned (.int .i64 y2) ∧ (wr.alloc (.cells #[.int .i64 y1, .int .i64 y2] 41)).drewN m = w' := fun m => by
                  have := tallyOf_any p g gs1 y1 _ ((hT5.kept kq).drewN m) ⟨by omega, hky.2⟩
                  rwa [hcn] at this
                have f0 : (wr.alloc (.cells #[.int .i64 y1, .int .i64 y2] 41)).cell? ⟨wr.heap.size, 0, none⟩ = some (.int .i64 y1) := by simp
                have f1 : (wr.alloc (.cells #[.int .i64 y1, .int .i64 y2] 41)).cell? ⟨wr.heap.size, 1, none⟩ = some (.int .i64 y2) := by simp
                have f2 : (wr.alloc (.cells #[.int .i64 y1, .int .i64 y2] 41)).cell? ⟨X, 0, none⟩ = some (.pointer (some ⟨p, 0, none⟩)) := by simpa using (rX5.kept kq (by simp)).cell 0
                clear hmem hcn hky hvy
                go_wp2_with fail
                generalize wr.alloc (.cells #[.int .i64 y1, .int .i64 y2] 41) = wc at hOF kq f0 f1 f2 ⊢
                generalize wr.heap.size = cc at f0 f1 ⊢
                go_quiet (first | (go_at_call 16; refine quiet_same (hOF _)))
                go_wp2
                go_roundw
                case rel => exact ⟨i2 + 1, by omega, by go_num, kq.drewN _⟩
                case measure => simp [intOf]; omega
              · obtain rfl : i2 = gs1.length := by omega
                go_wp2
                go_roundw
                case rel => exact ⟨j + 1, gs1, by omega, by go_num, HL1.out, hT5.kept hkq, rX5.kept hkq (by simp), K5.trans hkq.any⟩
                case measure => simp [intOf]; omega
          have nb : (kb != 0) = true := by simpa using hb0
          have nc : (kc != 0) = true := by simpa using hc0
          have HSN := Lib.hid (HSUM.out rfl hb0 hc0)
          clear HSUM hb0 hc0
          go_wp2_with fail
          refine (sums1_any X p g gs1 w3 rX3 h3 HL2.out).mono ?_
          rintro e w4 ⟨rfl, k4⟩
          rw [HSN.out]
          have h4 := h3.kept k4
          have rX4 := rX3.kept k4 (by simp)
          have K4 := K3.trans k4.any
          have cX5 : w4.cell? ⟨X, 0, none⟩ = some (.pointer (some ⟨p, 0, none⟩)) := by simpa using rX4.cell 0
          clear h3 rX3 K3 k4 rB3 d1 d2 cX4
          go_wp2_with fail
          refine (tallyAll_any p g gs1 w4 h4 (by have := HL1.out; omega)).mono ?_
          rintro e w5 ⟨G, c5, rfl, hG5, hs5, k5⟩
          have hT5 := h4.kept k5
          have rX5 := rX4.kept k5 (by simp)
          have K5 := K4.trans k5.any
          have hsm2 : gs1.length ≤ 202 := by have := HL1.out; omega
          clear hG5 k5
          go_wp2_with fail
          go_loopw [91] (fun i wq => ∃ (i2 : Nat), i2 ≤ gs1.length ∧ i = .int .i64 i2 ∧ Kept [] w5 wq) (fun i _ => gs1.length - (intOf i).toNat)
          case atStart => exact ⟨0, Nat.zero_le _, rfl, Kept.refl _ _⟩
          case round =>
            obtain ⟨i2, hi2, rfl, hkq⟩ := hrel
            by_cases hlt2 : i2 < gs1.length
            · obtain ⟨b', off', e, _, d0, d1⟩ := (hs5.kept hkq).cellZ hlt2
              cases e
              have hmem := List.getElem_mem hlt2
              have hq1 : (i2 : Int) < (gs1.length : Int) := by omega
              generalize gs1[i2] = y at d0 d1 hmem
              obtain ⟨y1, y2⟩ := y
              simp only [Nat.zero_add] at d0 d1
              have hcn := cntY_mem HG1.out.rise hmem
              have hky := HG1.out.key _ hmem
              have hvy := HG1.out.val _ hmem
              simp only at hky hvy
              have g1 : decide (y1 < 1) = false := by simp; omega
              have g2 : decide (y2 < 1) = false := by simp; omega
              have rC := Row.new wr 41 [.int .i64 y1, .int .i64 y2]
              have kC := (Kept.refl [] wr).alloc (.cells #[.int .i64 y1, .int .i64 y2] 41)
              have kq := hkq.trans kC
              have hOF : ∀ m, Calls Try.prog 16 #[.pointer (some ⟨p, 0, none⟩), .int .i64 y1] ((wr.alloc (.cells #[.int .i64 y1, .int .i64 y2] 41)).drewN m) fun e w' => e = .returned (.int .i64 y2) ∧ (wr.alloc (.cells #[.int .i64 y1, .int .i64 y2] 41)).drewN m = w' := fun m => by
                have := tallyOf_any p g gs1 y1 _ ((hT5.kept kq).drewN m) ⟨by omega, hky.2⟩
                rwa [hcn] at this
              have f0 : (wr.alloc (.cells #[.int .i64 y1, .int .i64 y2] 41)).cell? ⟨wr.heap.size, 0, none⟩ = some (.int .i64 y1) := by simp
              have f1 : (wr.alloc (.cells #[.int .i64 y1, .int .i64 y2] 41)).cell? ⟨wr.heap.size, 1, none⟩ = some (.int .i64 y2) := by simp
              have f2 : (wr.alloc (.cells #[.int .i64 y1, .int .i64 y2] 41)).cell? ⟨X, 0, none⟩ = some (.pointer (some ⟨p, 0, none⟩)) := by simpa using (rX5.kept kq (by simp)).cell 0
              clear hmem hcn hky hvy
              go_wp2_with fail
              generalize wr.alloc (.cells #[.int .i64 y1, .int .i64 y2] 41) = wc at hOF kq f0 f1 f2 ⊢
              generalize wr.heap.size = cc at f0 f1 ⊢
              go_quiet (first | (go_at_call 16; refine quiet_same (hOF _)))
              go_wp2
              go_roundw
              case rel => exact ⟨i2 + 1, by omega, by go_num, kq.drewN _⟩
              case measure => simp [intOf]; omega
            · obtain rfl : i2 = gs1.length := by omega
              go_wp2
              go_roundw
              case rel => exact ⟨j + 1, gs1, by omega, by go_num, HL1.out, hT5.kept hkq, rX5.kept hkq (by simp), K5.trans hkq.any⟩
              case measure => simp [intOf]; omega
        · have he2 : (er == 0) = false := by simpa using he
          clear he HSUM
          go_wp2_with fail
          refine (tallyAll_any p g gs1 w3 h3 (by have := HL1.out; omega)).mono ?_
          rintro e w5 ⟨G, c5, rfl, hG5, hs5, k5⟩
          have hT5 := h3.kept k5
          have rX5 := rX3.kept k5 (by simp)
          have K5 := K3.trans k5.any
          have hsm2 : gs1.length ≤ 202 := by have := HL1.out; omega
          clear hG5 k5
          go_wp2_with fail
          go_loopw [91] (fun i wq => ∃ (i2 : Nat), i2 ≤ gs1.length ∧ i = .int .i64 i2 ∧ Kept [] w5 wq) (fun i _ => gs1.length - (intOf i).toNat)
          case atStart => exact ⟨0, Nat.zero_le _, rfl, Kept.refl _ _⟩
          case round =>
            obtain ⟨i2, hi2, rfl, hkq⟩ := hrel
            by_cases hlt2 : i2 < gs1.length
            · obtain ⟨b', off', e, _, d0, d1⟩ := (hs5.kept hkq).cellZ hlt2
              cases e
              have hmem := List.getElem_mem hlt2
              have hq1 : (i2 : Int) < (gs1.length : Int) := by omega
              generalize gs1[i2] = y at d0 d1 hmem
              obtain ⟨y1, y2⟩ := y
              simp only [Nat.zero_add] at d0 d1
              have hcn := cntY_mem HG1.out.rise hmem
              have hky := HG1.out.key _ hmem
              have hvy := HG1.out.val _ hmem
              simp only at hky hvy
              have g1 : decide (y1 < 1) = false := by simp; omega
              have g2 : decide (y2 < 1) = false := by simp; omega
              have rC := Row.new wr 41 [.int .i64 y1, .int .i64 y2]
              have kC := (Kept.refl [] wr).alloc (.cells #[.int .i64 y1, .int .i64 y2] 41)
              have kq := hkq.trans kC
              have hOF : ∀ m, Calls Try.prog 16 #[.pointer (some ⟨p, 0, none⟩), .int .i64 y1] ((wr.alloc (.cells #[.int .i64 y1, .int .i64 y2] 41)).drewN m) fun e w' => e = .returned (.int .i64 y2) ∧ (wr.alloc (.cells #[.int .i64 y1, .int .i64 y2] 41)).drewN m = w' := fun m => by
                have := tallyOf_any p g gs1 y1 _ ((hT5.kept kq).drewN m) ⟨by omega, hky.2⟩
                rwa [hcn] at this
              have f0 : (wr.alloc (.cells #[.int .i64 y1, .int .i64 y2] 41)).cell? ⟨wr.heap.size, 0, none⟩ = some (.int .i64 y1) := by simp
              have f1 : (wr.alloc (.cells #[.int .i64 y1, .int .i64 y2] 41)).cell? ⟨wr.heap.size, 1, none⟩ = some (.int .i64 y2) := by simp
              have f2 : (wr.alloc (.cells #[.int .i64 y1, .int .i64 y2] 41)).cell? ⟨X, 0, none⟩ = some (.pointer (some ⟨p, 0, none⟩)) := by simpa using (rX5.kept kq (by simp)).cell 0
              clear hmem hcn hky hvy
              go_wp2_with fail
              generalize wr.alloc (.cells #[.int .i64 y1, .int .i64 y2] 41) = wc at hOF kq f0 f1 f2 ⊢
              generalize wr.heap.size = cc at f0 f1 ⊢
              go_quiet (first | (go_at_call 16; refine quiet_same (hOF _)))
              go_wp2
              go_roundw
              case rel => exact ⟨i2 + 1, by omega, by go_num, kq.drewN _⟩
              case measure => simp [intOf]; omega
            · obtain rfl : i2 = gs1.length := by omega
              go_wp2
              go_roundw
              case rel => exact ⟨j + 1, gs1, by omega, by go_num, HL1.out, hT5.kept hkq, rX5.kept hkq (by simp), K5.trans hkq.any⟩
              case measure => simp [intOf]; omega
      by_cases q2 : ka = 2
      · subst q2
        have hlen := setY_len gs kb 0
        have HL1 : Hid ((setY gs kb 0).length ≤ 2 * (j + 1)) := by show _ ≤ _; omega
        have HL2 : Hid ((setY gs kb 0).length ≤ 1000) := by show _ ≤ _; have := HGL.out; omega
        have HG1 := Lib.hid (HG.out.set (z := kb) (n := 0) hfb.2 (by omega) (fun h => absurd rfl h))
        obtain ⟨c, hc⟩ : ∃ c, cntY gs kb = c := ⟨_, rfl⟩
        have HC := Lib.hid hc
        rw [hc] at hc0
        obtain ⟨hc00, hc01, _⟩ := hc0
        have HSN : Hid (sumY (setY gs kb 0) = sm - c) := by show _ = _; rw [sumY_set HG.out.rise, HSM.out, HC.out]; omega
        clear hlen hc
        go_wp2_with fail
        refine (tallyOf_any p g gs kb w2 hT2 hfb).mono ?_
        rintro e w' ⟨rfl, rfl⟩
        rw [HC.out]
        go_wp2_with fail
        refine (tallyForget_any p g gs kb w2 hT2 hfb (by have := HGL.out; omega)).mono ?_
        rintro e w3 ⟨rfl, h3, k3⟩
        have rX3 := rX2.kept k3 (by simpa using hXg2)
        have K3 := hK2.trans k3
        clear hT2 rX2 rB2 hK2 k3 e0 e1 e2 cX2 HG HSM HGL HC
        generalize setY gs kb 0 = gs1 at h3 HL1 HL2 HG1 HSN
        go_wp2_with fail
        refine (sums1_any X p g gs1 w3 rX3 h3 HL2.out).mono ?_
        rintro e w4 ⟨rfl, k4⟩
        rw [HSN.out]
        have h4 := h3.kept k4
        have rX4 := rX3.kept k4 (by simp)
        have K4 := K3.trans k4.any
        have cX5 : w4.cell? ⟨X, 0, none⟩ = some (.pointer (some ⟨p, 0, none⟩)) := by simpa using rX4.cell 0
        clear h3 rX3 K3 k4 HSN
        go_wp2_with fail
        refine (tallyAll_any p g gs1 w4 h4 (by have := HL1.out; omega)).mono ?_
        rintro e w5 ⟨G, c5, rfl, hG5, hs5, k5⟩
        have hT5 := h4.kept k5
        have rX5 := rX4.kept k5 (by simp)
        have K5 := K4.trans k5.any
        have hsm2 : gs1.length ≤ 202 := by have := HL1.out; omega
        clear hG5 k5
        go_wp2_with fail
        go_loopw [91] (fun i wq => ∃ (i2 : Nat), i2 ≤ gs1.length ∧ i = .int .i64 i2 ∧ Kept [] w5 wq) (fun i _ => gs1.length - (intOf i).toNat)
        case atStart => exact ⟨0, Nat.zero_le _, rfl, Kept.refl _ _⟩
        case round =>
          obtain ⟨i2, hi2, rfl, hkq⟩ := hrel
          by_cases hlt2 : i2 < gs1.length
          · obtain ⟨b', off', e, _, d0, d1⟩ := (hs5.kept hkq).cellZ hlt2
            cases e
            have hmem := List.getElem_mem hlt2
            have hq1 : (i2 : Int) < (gs1.length : Int) := by omega
            generalize gs1[i2] = y at d0 d1 hmem
            obtain ⟨y1, y2⟩ := y
            simp only [Nat.zero_add] at d0 d1
            have hcn := cntY_mem HG1.out.rise hmem
            have hky := HG1.out.key _ hmem
            have hvy := HG1.out.val _ hmem
            simp only at hky hvy
            have g1 : decide (y1 < 1) = false := by simp; omega
            have g2 : decide (y2 < 1) = false := by simp; omega
            have rC := Row.new wr 41 [.int .i64 y1, .int .i64 y2]
            have kC := (Kept.refl [] wr).alloc (.cells #[.int .i64 y1, .int .i64 y2] 41)
            have kq := hkq.trans kC
            have hOF : ∀ m, Calls Try.prog 16 #[.pointer (some ⟨p, 0, none⟩), .int .i64 y1] ((wr.alloc (.cells #[.int .i64 y1, .int .i64 y2] 41)).drewN m) fun e w' => e = .returned (.int .i64 y2) ∧ (wr.alloc (.cells #[.int .i64 y1, .int .i64 y2] 41)).drewN m = w' := fun m => by
              have := tallyOf_any p g gs1 y1 _ ((hT5.kept kq).drewN m) ⟨by omega, hky.2⟩
              rwa [hcn] at this
            have f0 : (wr.alloc (.cells #[.int .i64 y1, .int .i64 y2] 41)).cell? ⟨wr.heap.size, 0, none⟩ = some (.int .i64 y1) := by simp
            have f1 : (wr.alloc (.cells #[.int .i64 y1, .int .i64 y2] 41)).cell? ⟨wr.heap.size, 1, none⟩ = some (.int .i64 y2) := by simp
            have f2 : (wr.alloc (.cells #[.int .i64 y1, .int .i64 y2] 41)).cell? ⟨X, 0, none⟩ = some (.pointer (some ⟨p, 0, none⟩)) := by simpa using (rX5.kept kq (by simp)).cell 0
            clear hmem hcn hky hvy
            go_wp2_with fail
            generalize wr.alloc (.cells #[.int .i64 y1, .int .i64 y2] 41) = wc at hOF kq f0 f1 f2 ⊢
            generalize wr.heap.size = cc at f0 f1 ⊢
            go_quiet (first | (go_at_call 16; refine quiet_same (hOF _)))
            go_wp2
            go_roundw
            case rel => exact ⟨i2 + 1, by omega, by go_num, kq.drewN _⟩
            case measure => simp [intOf]; omega
          · obtain rfl : i2 = gs1.length := by omega
            go_wp2
            go_roundw
            case rel => exact ⟨j + 1, gs1, by omega, by go_num, HL1.out, hT5.kept hkq, rX5.kept hkq (by simp), K5.trans hkq.any⟩
            case measure => simp [intOf]; omega
      have q0b : (ka == 0) = false := by simpa using q0
      have q1b : (ka == 1) = false := by simpa using q1
      have q2b : (ka == 2) = false := by simpa using q2
      have HL1 : Hid (gs.length ≤ 2 * (j + 1)) := by show _ ≤ _; omega
      clear q0 q1 q2 hc0 HSM HGL rB2
      go_wp2_with fail
      refine (tallyAll_any p g gs w2 hT2 (by have := HL1.out; omega)).mono ?_
      rintro e w5 ⟨G, c5, rfl, hG5, hs5, k5⟩
      have hT5 := hT2.kept k5
      have rX5 := rX2.kept k5 (by simp)
      have K5 := hK2.trans k5.any
      have hsm2 : gs.length ≤ 202 := by have := HL1.out; omega
      clear hG5 k5
      go_wp2_with fail
      go_loopw [91] (fun i wq => ∃ (i2 : Nat), i2 ≤ gs.length ∧ i = .int .i64 i2 ∧ Kept [] w5 wq) (fun i _ => gs.length - (intOf i).toNat)
      case atStart => exact ⟨0, Nat.zero_le _, rfl, Kept.refl _ _⟩
      case round =>
        obtain ⟨i2, hi2, rfl, hkq⟩ := hrel
        by_cases hlt2 : i2 < gs.length
        · obtain ⟨b', off', e, _, d0, d1⟩ := (hs5.kept hkq).cellZ hlt2
          cases e
          have hmem := List.getElem_mem hlt2
          have hq1 : (i2 : Int) < (gs.length : Int) := by omega
          generalize gs[i2] = y at d0 d1 hmem
          obtain ⟨y1, y2⟩ := y
          simp only [Nat.zero_add] at d0 d1
          have hcn := cntY_mem HG.out.rise hmem
          have hky := HG.out.key _ hmem
          have hvy := HG.out.val _ hmem
          simp only at hky hvy
          have g1 : decide (y1 < 1) = false := by simp; omega
          have g2 : decide (y2 < 1) = false := by simp; omega
          have rC := Row.new wr 41 [.int .i64 y1, .int .i64 y2]
          have kC := (Kept.refl [] wr).alloc (.cells #[.int .i64 y1, .int .i64 y2] 41)
          have kq := hkq.trans kC
          have hOF : ∀ m, Calls Try.prog 16 #[.pointer (some ⟨p, 0, none⟩), .int .i64 y1] ((wr.alloc (.cells #[.int .i64 y1, .int .i64 y2] 41)).drewN m) fun e w' => e = .returned (.int .i64 y2) ∧ (wr.alloc (.cells #[.int .i64 y1, .int .i64 y2] 41)).drewN m = w' := fun m => by
            have := tallyOf_any p g gs y1 _ ((hT5.kept kq).drewN m) ⟨by omega, hky.2⟩
            rwa [hcn] at this
          have f0 : (wr.alloc (.cells #[.int .i64 y1, .int .i64 y2] 41)).cell? ⟨wr.heap.size, 0, none⟩ = some (.int .i64 y1) := by simp
          have f1 : (wr.alloc (.cells #[.int .i64 y1, .int .i64 y2] 41)).cell? ⟨wr.heap.size, 1, none⟩ = some (.int .i64 y2) := by simp
          have f2 : (wr.alloc (.cells #[.int .i64 y1, .int .i64 y2] 41)).cell? ⟨X, 0, none⟩ = some (.pointer (some ⟨p, 0, none⟩)) := by simpa using (rX5.kept kq (by simp)).cell 0
          clear hmem hcn hky hvy
          go_wp2_with fail
          generalize wr.alloc (.cells #[.int .i64 y1, .int .i64 y2] 41) = wc at hOF kq f0 f1 f2 ⊢
          generalize wr.heap.size = cc at f0 f1 ⊢
          go_quiet (first | (go_at_call 16; refine quiet_same (hOF _)))
          go_wp2
          go_roundw
          case rel => exact ⟨i2 + 1, by omega, by go_num, kq.drewN _⟩
          case measure => simp [intOf]; omega
        · obtain rfl : i2 = gs.length := by omega
          go_wp2
          go_roundw
          case rel => exact ⟨j + 1, gs, by omega, by go_num, HL1.out, hT5.kept hkq, rX5.kept hkq (by simp), K5.trans hkq.any⟩
          case measure => simp [intOf]; omega
    · obtain rfl : j = l.length := by omega
      clear hb hs
      go_wp2_with fail
      refine (fixed15_any wr).mono ?_
      rintro e w5 ⟨rfl, k5⟩
      go_wp2
      go_ret
      exact ⟨rfl, kWr.trans k5⟩
end Go.Proofs.Ytndfgeldgkmhcaa
