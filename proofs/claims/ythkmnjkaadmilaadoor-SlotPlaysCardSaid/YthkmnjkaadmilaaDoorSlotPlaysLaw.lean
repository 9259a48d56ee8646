/- The law SlotPlays: its walk. -/
import Derived.Test.YthkmnjkaadmilaaDoorSlotRef
import Derived.Test.YthkmnjkaadmilaaDoorSlotSame
import Derived.Test.YthkmnjkaadmilaaDoorSlotPtrs
import Derived.Test.YthkmnjkaadmilaaDoorSlotLaid
import Derived.Test.YthkmnjkaadmilaaDoorSame
import Derived.Test.YthkmnjkaadmilaaDoorAll
import Derived.Test.YthkmnjkaadmilaaDoorRegionPick
namespace Go.Proofs.YthkmnjkaadmilaaDoor
open Go.RowKit

theorem resK_small (xs : List Int) (a r : Int) (ar : Bool) (kd ty nn : Int) (ks vs : List Int) (n : Nat) (v : Int) : (resK xs a r ar kd ty nn ks vs n v).ks.length ≤ ks.length ∧ (resK xs a r ar kd ty nn ks vs n v).vs.length ≤ vs.length := by
  unfold resK
  split
  · simp
  · simp [Pj.zero]

set_option maxRecDepth 100000 in
set_option maxHeartbeats 2000000 in
theorem slotPlays_big (a0 : Option Addr) (len cap : Nat) (a r : Int) (ar : Bool) (kd ty nn : Int) (ka : Option Addr) (kc : Nat) (ks : List Int) (va : Option Addr) (vc : Nat) (vs : List Int) (n : Nat) (v : Int) (w : World) (hm : len ≤ maxLen) (hk : ks.length ≤ maxLen) (hv : vs.length ≤ maxLen) (h : 300 < len ∨ 100 < ks.length ∨ 100 < vs.length) :
    Calls Tryd.prog 3 #[.slice a0 len cap, .agg #[.int .i64 a, .int .i64 r, .bool ar, .int .i64 kd, .int .i64 ty, .int .i64 nn, .slice ka ks.length kc, .slice va vs.length vc], .agg #[.int .u64 (n : Int), .int .u64 v]] w (FixedPost w) := by
  unfold maxLen at hm hk hv
  have k0 := ((Kept.refl [] w).alloc (.cells #[.int .i64 a, .int .i64 r, .bool ar, .int .i64 kd, .int .i64 ty, .int .i64 nn, .slice ka ks.length kc, .slice va vs.length vc] 27)).alloc (.cells #[.int .u64 (n : Int), .int .u64 v] 29)
  obtain ⟨KL, hKL⟩ : ∃ KL, ks.length = KL := ⟨_, rfl⟩
  obtain ⟨VL, hVL⟩ : ∃ VL, vs.length = VL := ⟨_, rfl⟩
  rw [hKL, hVL] at k0 ⊢
  rw [hKL] at hk h
  rw [hVL] at hv h
  clear hKL hVL
  by_cases h1 : 300 < len
  · have h1' : decide ((300 : Int) < (len : Int)) = true := by simp; omega
    clear h h1
    go_enter Tryd.func3, Tryd.ntmps3
    go_wp2_with fail
    refine (fixed13_any _).mono ?_
    rintro e w5 ⟨rfl, kw5⟩
    go_wp2
    go_ret
    exact ⟨rfl, k0.trans kw5⟩
  · have h1' : decide ((300 : Int) < (len : Int)) = false := by simp; omega
    by_cases h2 : 100 < KL
    · have h2' : decide ((100 : Int) < (KL : Int)) = true := by simp; omega
      clear h h1 h2
      go_enter Tryd.func3, Tryd.ntmps3
      go_wp2_with fail
      refine (fixed13_any _).mono ?_
      rintro e w5 ⟨rfl, kw5⟩
      go_wp2
      go_ret
      exact ⟨rfl, k0.trans kw5⟩
    · have h2' : decide ((100 : Int) < (KL : Int)) = false := by simp; omega
      have h3' : decide ((100 : Int) < (VL : Int)) = true := by simp; omega
      clear h h1 h2
      go_enter Tryd.func3, Tryd.ntmps3
      go_wp2_with fail
      refine (fixed13_any _).mono ?_
      rintro e w5 ⟨rfl, kw5⟩
      go_wp2
      go_ret
      exact ⟨rfl, k0.trans kw5⟩

set_option maxRecDepth 100000 in
set_option maxHeartbeats 16000000 in
theorem slotPlays_law (a0 : Option Addr) (cap : Nat) (zs : List Int) (a r : Int) (ar : Bool) (kd ty nn : Int) (ka : Option Addr) (kc : Nat) (ks : List Int) (va : Option Addr) (vc : Nat) (vs : List Int) (n : Nat) (v : Int) (w : World) (hT : Tab w) (hs : Sl w .u64 a0 zs) (hl : zs.length ≤ 300) (hsk : Sl w .i64 ka ks) (hsv : Sl w .u64 va vs) (hk : ks.length ≤ 100) (hv : vs.length ≤ 100) :
    Calls Tryd.prog 3 #[.slice a0 zs.length cap, .agg #[.int .i64 a, .int .i64 r, .bool ar, .int .i64 kd, .int .i64 ty, .int .i64 nn, .slice ka ks.length kc, .slice va vs.length vc], .agg #[.int .u64 (n : Int), .int .u64 v]] w (FixedPost w) := by
  have k0 := ((Kept.refl [] w).alloc (.cells #[.int .i64 a, .int .i64 r, .bool ar, .int .i64 kd, .int .i64 ty, .int .i64 nn, .slice ka ks.length kc, .slice va vs.length vc] 27)).alloc (.cells #[.int .u64 (n : Int), .int .u64 v] 29)
  have rB := (Row.new w 27 [.int .i64 a, .int .i64 r, .bool ar, .int .i64 kd, .int .i64 ty, .int .i64 nn, .slice ka ks.length kc, .slice va vs.length vc]).alloc (.cells #[.int .u64 (n : Int), .int .u64 v] 29)
  have rP := Row.new (w.alloc (.cells #[.int .i64 a, .int .i64 r, .bool ar, .int .i64 kd, .int .i64 ty, .int .i64 nn, .slice ka ks.length kc, .slice va vs.length vc] 27)) 29 [.int .u64 (n : Int), .int .u64 v]
  rw [World.size_alloc] at rP
  have h1' : decide ((300 : Int) < (zs.length : Int)) = false := by simp; omega
  have h2' : decide ((100 : Int) < (ks.length : Int)) = false := by simp; omega
  have h3' : decide ((100 : Int) < (vs.length : Int)) = false := by simp; omega
  obtain ⟨i0, hi, hz0, hz1, hz2⟩ := info_parts Tryd.info28
  go_enter Tryd.func3, Tryd.ntmps3
  go_wp2_with fail
  obtain ⟨R, hR⟩ : ∃ R, w.heap.size = R := ⟨_, rfl⟩
  have HR := Lib.hid hR
  rw [hR] at rB rP ⊢
  generalize (w.alloc (.cells #[.int .i64 a, .int .i64 r, .bool ar, .int .i64 kd, .int .i64 ty, .int .i64 nn, .slice ka ks.length kc, .slice va vs.length vc] 27)).alloc (.cells #[.int .u64 (n : Int), .int .u64 v] 29) = W at k0 rB rP ⊢
  clear hR h1' h2' h3'
  have cells : ∀ (W : World), Row W R 27 [.int .i64 a, .int .i64 r, .bool ar, .int .i64 kd, .int .i64 ty, .int .i64 nn, .slice ka ks.length kc, .slice va vs.length vc] → Row W (R + 1) 29 [.int .u64 (n : Int), .int .u64 v] →
      W.cell? ⟨R, 0, none⟩ = some (.int .i64 a) ∧ W.cell? ⟨R, 1, none⟩ = some (.int .i64 r) ∧ W.cell? ⟨R, 2, none⟩ = some (.bool ar) ∧ W.cell? ⟨R, 3, none⟩ = some (.int .i64 kd) ∧ W.cell? ⟨R, 4, none⟩ = some (.int .i64 ty) ∧ W.cell? ⟨R, 5, none⟩ = some (.int .i64 nn) ∧ W.cell? ⟨R, 6, none⟩ = some (.slice ka ks.length kc) ∧ W.cell? ⟨R, 7, none⟩ = some (.slice va vs.length vc) ∧ W.cell? ⟨R + 1, 0, none⟩ = some (.int .u64 (n : Int)) ∧ W.cell? ⟨R + 1, 1, none⟩ = some (.int .u64 v) :=
    fun W h1 h2 => ⟨by simpa using h1.cell 0, by simpa using h1.cell 1, by simpa using h1.cell 2, by simpa using h1.cell 3, by simpa using h1.cell 4, by simpa using h1.cell 5, by simpa using h1.cell 6, by simpa using h1.cell 7, by simpa using h2.cell 0, by simpa using h2.cell 1⟩
  have CELLS := Lib.hid cells
  clear cells
  have hRl := rP.lt
  have hzW := k0.size
  refine (laid13_any a0 cap zs W (hs.kept k0) hl).mono ?_
  rintro e w1 ⟨mb, mg, rfl, hmb, hmg, hm1, k1⟩
  have kk1 := k0.trans k1
  have rB1 := rB.kept k1 (by simp)
  have rP1 := rP.kept k1 (by simp)
  obtain ⟨b0, b1, b2, b3, b4, b5, b6, b7, p0, p1⟩ := CELLS.out w1 rB1 rP1
  have hz1' := k1.size
  have hgl := hm1.2.1.lt
  have hXk := (SlX.of_sl hsk).mono (Y := fun q => q ≠ mg) (fun b hb _ => by omega)
  have hXv := (SlX.of_sl hsv).mono (Y := fun q => q ≠ mg) (fun b hb _ => by omega)
  -- the calls, ahead of the walk
  have hat := fun W (hW : Kept [] w W) => slotAt_any a r ar kd ty nn ka kc ks va vc vs n W (hsk.kept hW) (by omega)
  have hra := fun W (hW : Kept [] w W) => refAt13_any a r ar kd ty nn ka kc ks va vc vs n W (hsk.kept hW) (by omega)
  have hld := fun W (hM : IsMem W mb mg zs) (hW : Kept [] w W) => slotLoad_any mb mg zs a r ar kd ty nn ka kc ks va vc vs n W hM (hsk.kept hW) (by omega)
  have hrl := fun W (hW : Kept [] w W) => refLoad13_any a0 cap zs a r ar kd ty nn ka kc ks va vc vs n W (hs.kept hW) (hsk.kept hW) (by omega)
  have hst := fun W (hM : IsMem W mb mg zs) (hW : Kept [] w W) => slotStore_any mb mg zs a r ar kd ty nn ka kc ks va vc vs n v W hM (hsk.kept hW) (hXv.kept (S := []) hW (by simp)) (hXk.kept (S := []) hW (by simp)) (by omega) (by omega)
  have hrs := fun W (hW : Kept [] w W) => refStore13_any a0 cap zs a r ar kd ty nn ka kc ks va vc vs n v W (hs.kept hW) (hsk.kept hW) (hsv.kept hW) (by omega) (by omega) (by omega)
  have hln := fun W (hW : Kept [] w W) => slotLoad_nil a r ar kd ty nn ka kc ks va vc vs n W (hsk.kept hW) (by omega)
  have hsn := fun W (hW : Kept [] w W) => slotStore_nil a r ar kd ty nn ka kc ks va vc vs n v W (hsk.kept hW) (by omega)
  have hpt := fun W (hW : Kept [] w W) => slotPointers_any a r ar kd ty nn ka kc ks va vc vs W (hT.kept hW) (hsk.kept hW) (by omega)
  have hrp := fun W (hW : Kept [] w W) => refPointers13_any a r ar kd ty nn ka kc ks va vc vs W (hsk.kept hW) (by omega)
  have hyl := storeK_length zs a ks n v
  have hsm := resK_small zs a r ar kd ty nn ks vs n v
  have hei : (errB (inK ks n) = 0 ∧ nilK ks n = 1) ∨ (errB (inK ks n) = 8 ∧ nilK ks n = 8) := by cases h : inK ks n <;> simp [nilK, h, errB]
  unfold PtrsAns at hpt hrp
  generalize placeK a ks n = at_ at hat hra
  generalize kindK ks n = kn at hat hra
  generalize errB (inK ks n) = ei at hat hra hei
  generalize nilK ks n = nk at hln hsn hei
  generalize loadK zs a ks n = ld at hld hrl
  generalize errB (okK zs a ks n) = er at hld hrl hst hrs
  generalize storeK zs a ks n v = ys at hst hrs hyl
  generalize resK zs a r ar kd ty nn ks vs n v = pj at hst hrs hsm
  obtain ⟨pa, pr, ⟨ph, pk, pt, pn⟩, pks, pvs⟩ := pj
  simp only at hsm
  have hptl := ptrsK_length ks ks.length
  generalize ptrsK ks ks.length = ps at hpt hrp hptl
  have HAT := Lib.hid hat
  have HRA := Lib.hid hra
  have HLD := Lib.hid hld
  have HRL := Lib.hid hrl
  have HST := Lib.hid hst
  have HRS := Lib.hid hrs
  have HLN := Lib.hid hln
  have HSN := Lib.hid hsn
  have HPT := Lib.hid hpt
  have HRP := Lib.hid hrp
  have HYL := Lib.hid hyl
  have HEI := Lib.hid hei
  have HVS := Lib.hid hsv
  have ne1 : (at_ != at_) = false := by simp
  have ne2 : (kn != kn) = false := by simp
  have ne3 : (ei != ei) = false := by simp
  have ne4 : (ld != ld) = false := by simp
  have ne5 : (er != er) = false := by simp
  clear hat hra hld hrl hst hrs hln hsn hpt hrp hyl hei hXk hXv hs hT rB rP k1 k0 hzW hz1' hmb
  go_wp2_with fail
  refine (HAT.out w1 kk1).mono ?_
  rintro e w2 ⟨rfl, k2⟩
  have kk2 := kk1.trans k2
  have hm2 := hm1.kept k2 (by simp) (by simp)
  have rB2 := rB1.kept k2 (by simp)
  have rP2 := rP1.kept k2 (by simp)
  clear b0 b1 b2 b3 b4 b5 b6 b7 p0 p1 rB1 rP1 kk1
  obtain ⟨b0, b1, b2, b3, b4, b5, b6, b7, p0, p1⟩ := CELLS.out w2 rB2 rP2
  go_wp2_with fail
  refine (HRA.out w2 kk2).mono ?_
  rintro e w3 ⟨rfl, k3⟩
  have kk3 := kk2.trans k3
  have hm3 := hm2.kept k3 (by simp) (by simp)
  have rB3 := rB2.kept k3 (by simp)
  have rP3 := rP2.kept k3 (by simp)
  clear b0 b1 b2 b3 b4 b5 b6 b7 p0 p1 rB2 rP2 kk2
  obtain ⟨b0, b1, b2, b3, b4, b5, b6, b7, p0, p1⟩ := CELLS.out w3 rB3 rP3
  go_wp2_with fail
  refine (HLD.out w3 hm3 kk3).mono ?_
  rintro e w4 ⟨rfl, k4⟩
  have kk4 := kk3.trans k4
  have hm4 := hm3.kept k4 (by simp) (by simp)
  have rB4 := rB3.kept k4 (by simp)
  have rP4 := rP3.kept k4 (by simp)
  clear b0 b1 b2 b3 b4 b5 b6 b7 p0 p1 rB3 rP3 kk3
  obtain ⟨b0, b1, b2, b3, b4, b5, b6, b7, p0, p1⟩ := CELLS.out w4 rB4 rP4
  go_wp2_with fail
  refine (HRL.out w4 kk4).mono ?_
  rintro e w5 ⟨rfl, k5⟩
  have kk5 := kk4.trans k5
  have hm5 := hm4.kept k5 (by simp) (by simp)
  have rB5 := rB4.kept k5 (by simp)
  have rP5 := rP4.kept k5 (by simp)
  clear b0 b1 b2 b3 b4 b5 b6 b7 p0 p1 rB4 rP4 kk4
  obtain ⟨b0, b1, b2, b3, b4, b5, b6, b7, p0, p1⟩ := CELLS.out w5 rB5 rP5
  have own0 := own_empty w5 28 1 w5.heap.size (Nat.le_refl _)
  have kE := (Kept.refl [] w5).alloc (.cells #[] 28)
  have s0 := ((hsv.kept kk5).kept kE).toV
  have b7' : (w5.alloc (.cells #[] 28)).cell? ⟨R, 7, none⟩ = some (.slice va vs.length vc) := by simpa using (rB5.kept kE (by simp)).cell 7
  clear k2 k3 k4 k5 hm1 hm2 hm3 hm4 HAT HRA HLD HRL
  go_wp2_with (first
    | (at_builtin; refine wpList_append_on _ rfl _ _ 22 rfl w5.heap.size 28 i0 (.int .u64 0) 1 8 Tryd.underlying22 hi hz0 hz1 hz2 rfl (by omega) w5.heap.size 0 0 [] rfl own0 va vs.length vc _ rfl s0 int_oneCell (by unfold maxLen; omega) (by omega) kE.size ?_; intro g6 cw6 w6 hown6 hk6 _; rw [Nat.zero_add, List.nil_append] at hown6; rw [Nat.zero_add]
       have k6 : Kept [] w5 w6 := kE.chain hk6 (by simp) (by simp)
       have rB6 := rB5.kept k6 (by simp)
       have rP6 := rP5.kept k6 (by simp)
       obtain ⟨z0, z1, z2, z3, z4, z5, z6, z7, y0, y1⟩ := CELLS.out w6 rB6 rP6)
    | fail)
  have hmg5 := hm5.2.1.lt
  have kk6 := kk5.trans k6
  have hm6 := hm5.kept k6 (by simp) (by simp)
  have hWS := (SlX.of_own1 hown6).mono (Y := fun q => q ≠ mg) (fun b _ h => by have : w5.heap.size ≤ b := h; omega)
  clear b0 b1 b2 b3 b4 b5 b6 b7 p0 p1 b7' own0 kE s0 hown6 hk6 k6 hm5 rB5 rP5 kk5 hmg5 hi hz0 hz1 hz2
  refine (HST.out w6 hm6 kk6).mono ?_
  rintro e w7 ⟨x, rfl, ⟨ka2, kc2, va2, vc2, rfl, hx1, hx2⟩, hm7, k7⟩
  simp only at hx1 hx2 ⊢
  have kk7 : Kept [] w w7 := kk6.chain k7 (by simp) (by have := HR.out; simp; omega)
  have rB7 := rB6.kept k7 (by simp; omega)
  have rP7 := rP6.kept k7 (by simp; omega)
  have hWS7 := (hWS.kept k7 (by intro q hq h; obtain rfl := List.mem_singleton.1 hq; exact h rfl)).sl
  have hx1 := hx1.sl
  have hx2 := hx2.sl
  clear z0 z1 z2 z3 z4 z5 z6 z7 y0 y1 rB6 rP6 kk6 hm6 hWS k7
  have kX := (Kept.refl [] w7).alloc (.cells #[.int .i64 pa, .int .i64 pr, .bool ph, .int .i64 pk, .int .i64 pt, .int .i64 pn, .slice ka2 pks.length kc2, .slice va2 pvs.length vc2] 27)
  have kkV7 := kk7.trans kX
  have rBV7 := rB7.kept kX (by simp)
  have rPV7 := rP7.kept kX (by simp)
  have rA7 := Row.new w7 27 [.int .i64 pa, .int .i64 pr, .bool ph, .int .i64 pk, .int .i64 pt, .int .i64 pn, .slice ka2 pks.length kc2, .slice va2 pvs.length vc2]
  have hWSV := hWS7.kept kX
  have hx1V := hx1.kept kX
  have hx2V := hx2.kept kX
  have hmV := hm7.kept kX (by simp) (by simp)
  obtain ⟨b0, b1, b2, b3, b4, b5, b6, b7, p0, p1⟩ := CELLS.out _ rBV7 rPV7
  clear rB7 rP7 kk7 hWS7 hx1 hx2 hm7 HST
  go_wp2_with fail
  obtain ⟨NA, hNA⟩ : ∃ NA, w7.heap.size = NA := ⟨_, rfl⟩
  rw [hNA] at rA7 ⊢
  generalize w7.alloc (.cells #[.int .i64 pa, .int .i64 pr, .bool ph, .int .i64 pk, .int .i64 pt, .int .i64 pn, .slice ka2 pks.length kc2, .slice va2 pvs.length vc2] 27) = V7 at kX kkV7 rBV7 rPV7 rA7 hWSV hx1V hx2V hmV ⊢
  clear b0 b1 b2 b3 b4 b5 b6 b7 p0 p1 kX hNA
  refine (HRS.out V7 kkV7).mono ?_
  rintro e w8 ⟨A8, cc8, x, rfl, hy8, ⟨kb, kcb, vb, vcb, rfl, hv1, hv2⟩, k8⟩
  simp only at hv1 hv2 ⊢
  rw [← HYL.out]
  have kk8 := kkV7.trans k8
  have rB8 := rBV7.kept k8 (by simp)
  have rP8 := rPV7.kept k8 (by simp)
  have rA8 := rA7.kept k8 (by simp)
  have hW8 := hWSV.kept k8
  have hx18 := hx1V.kept k8
  have hx28 := hx2V.kept k8
  have hm8 := hmV.kept k8 (by simp) (by simp)
  clear rBV7 rPV7 rA7 kkV7 hWSV hx1V hx2V hmV k8 HRS
  have kX := (Kept.refl [] w8).alloc (.cells #[.int .i64 pa, .int .i64 pr, .bool ph, .int .i64 pk, .int .i64 pt, .int .i64 pn, .slice kb pks.length kcb, .slice vb pvs.length vcb] 27)
  have kkV8 := kk8.trans kX
  have rBV8 := rB8.kept kX (by simp)
  have rPV8 := rP8.kept kX (by simp)
  have rD8 := Row.new w8 27 [.int .i64 pa, .int .i64 pr, .bool ph, .int .i64 pk, .int .i64 pt, .int .i64 pn, .slice kb pks.length kcb, .slice vb pvs.length vcb]
  have rAV := rA8.kept kX (by simp)
  have hWSV := hW8.kept kX
  have hx1V := hx18.kept kX
  have hx2V := hx28.kept kX
  have hv1V := hv1.kept kX
  have hv2V := hv2.kept kX
  have hyV := hy8.kept kX
  have hmV := hm8.kept kX (by simp) (by simp)
  obtain ⟨b0, b1, b2, b3, b4, b5, b6, b7, p0, p1⟩ := CELLS.out _ rBV8 rPV8
  clear rB8 rP8 kk8 hW8 hx18 hx28 hm8 hv1 hv2 hy8 rA8
  go_wp2_with fail
  obtain ⟨NB, hNB⟩ : ∃ NB, w8.heap.size = NB := ⟨_, rfl⟩
  rw [hNB] at rD8 ⊢
  generalize w8.alloc (.cells #[.int .i64 pa, .int .i64 pr, .bool ph, .int .i64 pk, .int .i64 pt, .int .i64 pn, .slice kb pks.length kcb, .slice vb pvs.length vcb] 27) = V8 at kX kkV8 rBV8 rPV8 rD8 rAV hWSV hx1V hx2V hv1V hv2V hyV hmV ⊢
  clear b0 b1 b2 b3 b4 b5 b6 b7 p0 p1 kX hNB
  refine (HLN.out V8 kkV8).mono ?_
  rintro e w9 ⟨rfl, k9⟩
  have kk9 := kkV8.trans k9
  have rB9 := rBV8.kept k9 (by simp)
  have rP9 := rPV8.kept k9 (by simp)
  obtain ⟨b0, b1, b2, b3, b4, b5, b6, b7, p0, p1⟩ := CELLS.out w9 rB9 rP9
  clear HLN
  go_wp2_with fail
  refine (HSN.out w9 kk9).mono ?_
  rintro e w10 ⟨rfl, k10⟩
  have k1c := (k9.trans k10).alloc (.cells #[.int .i64 0, .int .i64 0, .bool false, .int .i64 0, .int .i64 0, .int .i64 0, .slice none 0 0, .slice none 0 0] 27)
  have kkF := kkV8.trans k1c
  have rBF := rBV8.kept k1c (by simp)
  have rAF := rAV.kept k1c (by simp)
  have rDF := rD8.kept k1c (by simp)
  have hWSF := hWSV.kept k1c
  have hx1F := hx1V.kept k1c
  have hx2F := hx2V.kept k1c
  have hv1F := hv1V.kept k1c
  have hv2F := hv2V.kept k1c
  have hyF := hyV.kept k1c
  have hmF := hmV.kept k1c (by simp) (by simp)
  clear b0 b1 b2 b3 b4 b5 b6 b7 p0 p1 rB9 rP9 kk9 k9 k10 rBV8 rPV8 rD8 rAV kkV8 hWSV hx1V hx2V hv1V hv2V hyV hmV HSN CELLS
  rcases HEI.out with ⟨rfl, rfl⟩ | ⟨rfl, rfl⟩
  all_goals
    go_wp2_with fail
    generalize w10.alloc (.cells #[.int .i64 0, .int .i64 0, .bool false, .int .i64 0, .int .i64 0, .int .i64 0, .slice none 0 0, .slice none 0 0] 27) = WF at kkF k1c rBF rAF rDF hWSF hx1F hx2F hv1F hv2F hyF hmF ⊢
    clear k1c
    have hold := Lib.hid (show ∀ W', Kept [] WF W' → (fun w' => Kept [] WF w' ∧ w'.cell? ⟨R, 0, none⟩ = some (.int .i64 a) ∧ w'.cell? ⟨R, 1, none⟩ = some (.int .i64 r) ∧ w'.cell? ⟨R, 2, none⟩ = some (.bool ar) ∧ w'.cell? ⟨R, 3, none⟩ = some (.int .i64 kd) ∧ w'.cell? ⟨R, 4, none⟩ = some (.int .i64 ty) ∧ w'.cell? ⟨R, 5, none⟩ = some (.int .i64 nn) ∧ w'.cell? ⟨R, 6, none⟩ = some (.slice ka ks.length kc) ∧ w'.cell? ⟨R, 7, none⟩ = some (.slice va vs.length vc) ∧ w'.cell? ⟨NA, 0, none⟩ = some (.int .i64 pa) ∧ w'.cell? ⟨NA, 1, none⟩ = some (.int .i64 pr) ∧ w'.cell? ⟨NA, 2, none⟩ = some (.bool ph) ∧ w'.cell? ⟨NA, 3, none⟩ = some (.int .i64 pk) ∧ w'.cell? ⟨NA, 4, none⟩ = some (.int .i64 pt) ∧ w'.cell? ⟨NA, 5, none⟩ = some (.int .i64 pn) ∧ w'.cell? ⟨NA, 6, none⟩ = some (.slice ka2 pks.length kc2) ∧ w'.cell? ⟨NA, 7, none⟩ = some (.slice va2 pvs.length vc2) ∧ w'.cell? ⟨NB, 0, none⟩ = some (.int .i64 pa) ∧ w'.cell? ⟨NB, 1, none⟩ = some (.int .i64 pr) ∧ w'.cell? ⟨NB, 2, none⟩ = some (.bool ph) ∧ w'.cell? ⟨NB, 3, none⟩ = some (.int .i64 pk) ∧ w'.cell? ⟨NB, 4, none⟩ = some (.int .i64 pt) ∧ w'.cell? ⟨NB, 5, none⟩ = some (.int .i64 pn) ∧ w'.cell? ⟨NB, 6, none⟩ = some (.slice kb pks.length kcb) ∧ w'.cell? ⟨NB, 7, none⟩ = some (.slice vb pvs.length vcb)) W' from fun W' kq => ⟨kq, by simpa using (rBF.kept kq (by simp)).cell 0, by simpa using (rBF.kept kq (by simp)).cell 1, by simpa using (rBF.kept kq (by simp)).cell 2, by simpa using (rBF.kept kq (by simp)).cell 3, by simpa using (rBF.kept kq (by simp)).cell 4, by simpa using (rBF.kept kq (by simp)).cell 5, by simpa using (rBF.kept kq (by simp)).cell 6, by simpa using (rBF.kept kq (by simp)).cell 7, by simpa using (rAF.kept kq (by simp)).cell 0, by simpa using (rAF.kept kq (by simp)).cell 1, by simpa using (rAF.kept kq (by simp)).cell 2, by simpa using (rAF.kept kq (by simp)).cell 3, by simpa using (rAF.kept kq (by simp)).cell 4, by simpa using (rAF.kept kq (by simp)).cell 5, by simpa using (rAF.kept kq (by simp)).cell 6, by simpa using (rAF.kept kq (by simp)).cell 7, by simpa using (rDF.kept kq (by simp)).cell 0, by simpa using (rDF.kept kq (by simp)).cell 1, by simpa using (rDF.kept kq (by simp)).cell 2, by simpa using (rDF.kept kq (by simp)).cell 3, by simpa using (rDF.kept kq (by simp)).cell 4, by simpa using (rDF.kept kq (by simp)).cell 5, by simpa using (rDF.kept kq (by simp)).cell 6, by simpa using (rDF.kept kq (by simp)).cell 7⟩)
    have kq0 : Kept [] WF WF.drew := (Kept.refl _ _).drew
    refine wp_region_pick (fun w' => Kept [] WF w' ∧ w'.cell? ⟨R, 0, none⟩ = some (.int .i64 a) ∧ w'.cell? ⟨R, 1, none⟩ = some (.int .i64 r) ∧ w'.cell? ⟨R, 2, none⟩ = some (.bool ar) ∧ w'.cell? ⟨R, 3, none⟩ = some (.int .i64 kd) ∧ w'.cell? ⟨R, 4, none⟩ = some (.int .i64 ty) ∧ w'.cell? ⟨R, 5, none⟩ = some (.int .i64 nn) ∧ w'.cell? ⟨R, 6, none⟩ = some (.slice ka ks.length kc) ∧ w'.cell? ⟨R, 7, none⟩ = some (.slice va vs.length vc) ∧ w'.cell? ⟨NA, 0, none⟩ = some (.int .i64 pa) ∧ w'.cell? ⟨NA, 1, none⟩ = some (.int .i64 pr) ∧ w'.cell? ⟨NA, 2, none⟩ = some (.bool ph) ∧ w'.cell? ⟨NA, 3, none⟩ = some (.int .i64 pk) ∧ w'.cell? ⟨NA, 4, none⟩ = some (.int .i64 pt) ∧ w'.cell? ⟨NA, 5, none⟩ = some (.int .i64 pn) ∧ w'.cell? ⟨NA, 6, none⟩ = some (.slice ka2 pks.length kc2) ∧ w'.cell? ⟨NA, 7, none⟩ = some (.slice va2 pvs.length vc2) ∧ w'.cell? ⟨NB, 0, none⟩ = some (.int .i64 pa) ∧ w'.cell? ⟨NB, 1, none⟩ = some (.int .i64 pr) ∧ w'.cell? ⟨NB, 2, none⟩ = some (.bool ph) ∧ w'.cell? ⟨NB, 3, none⟩ = some (.int .i64 pk) ∧ w'.cell? ⟨NB, 4, none⟩ = some (.int .i64 pt) ∧ w'.cell? ⟨NB, 5, none⟩ = some (.int .i64 pn) ∧ w'.cell? ⟨NB, 6, none⟩ = some (.slice kb pks.length kcb) ∧ w'.cell? ⟨NB, 7, none⟩ = some (.slice vb pvs.length vcb)) (by kernel_rfl) (hold.out _ kq0) ?_
    simp only [numbered, List.length_cons, List.length_nil, Nat.reduceAdd]
    clear rBF rAF rDF
    refine pick_call (by decide +kernel) (by rfl) (fun K hK => ?_)
    go_simp
    go_at_call 4
    refine (fixed13_any _).mono ?_
    rintro e q1 ⟨rfl, j1⟩
    have kq1 : Kept [] WF q1 := kq0.trans j1
    (try dsimp only)
    refine hK _ _ (hold.out _ kq1) ?_
    clear hK K
    repeat (first
      | (refine pick_take0 (v := ?_) rfl (by decide +kernel) (fun _ _ _ h => h) (by rfl) ?_ ?_; rotate_left; (intro w hSw; (try dsimp only at hSw); go_simp; try with_reducible rfl); go_frame)
      | (refine pick_skip0 (by decide +kernel) (fun _ _ _ h => h) (by rfl) ?_; go_frame)
      | (refine pick_take1 (v := ?_) rfl (by decide +kernel) (fun _ _ _ h => h) (by rfl) ?_ ?_; rotate_left; (intro w hSw; (try dsimp only at hSw); go_simp; try with_reducible rfl); go_frame)
      | (refine pick_take2 (v := ?_) rfl (by decide +kernel) (fun _ _ _ h => h) (by rfl) ?_ ?_; rotate_left; (intro w hSw; (try dsimp only at hSw); go_simp; try with_reducible rfl); go_frame))
    refine pick_call (by decide +kernel) (by rfl) (fun K hK => ?_)
    go_simp
    go_at_call 12
    refine (refSame13_any pa pr ph pk pt pn pks pvs ka2 kc2 va2 vc2 kb kcb vb vcb q1 (hx1F.kept kq1) (hx2F.kept kq1) (hv1F.kept kq1) (hv2F.kept kq1) (by omega) (by omega)).mono ?_
    rintro e q2 ⟨rfl, j2⟩
    have kq2 : Kept [] WF q2 := kq1.trans j2
    (try dsimp only)
    refine hK _ _ (hold.out _ kq2) ?_
    clear hK K
    repeat (first
      | (refine pick_take0 (v := ?_) rfl (by decide +kernel) (fun _ _ _ h => h) (by rfl) ?_ ?_; rotate_left; (intro w hSw; (try dsimp only at hSw); go_simp; try with_reducible rfl); go_frame)
      | (refine pick_skip0 (by decide +kernel) (fun _ _ _ h => h) (by rfl) ?_; go_frame)
      | (refine pick_take1 (v := ?_) rfl (by decide +kernel) (fun _ _ _ h => h) (by rfl) ?_ ?_; rotate_left; (intro w hSw; (try dsimp only at hSw); go_simp; try with_reducible rfl); go_frame)
      | (refine pick_take2 (v := ?_) rfl (by decide +kernel) (fun _ _ _ h => h) (by rfl) ?_ ?_; rotate_left; (intro w hSw; (try dsimp only at hSw); go_simp; try with_reducible rfl); go_frame))
    refine pick_call (by decide +kernel) (by rfl) (fun K hK => ?_)
    go_simp
    go_at_call 14
    refine (all_any mb mg ys q2 (hmF.kept kq2 (by simp) (by simp))).mono ?_
    rintro e q3 ⟨rr, rfl, hrr, rA, j3⟩
    have kq3 : Kept [] WF q3 := kq2.trans j3
    (try dsimp only)
    refine hK _ _ (hold.out _ kq3) ?_
    clear hK K
    repeat (first
      | (refine pick_take0 (v := ?_) rfl (by decide +kernel) (fun _ _ _ h => h) (by rfl) ?_ ?_; rotate_left; (intro w hSw; (try dsimp only at hSw); go_simp; try with_reducible rfl); go_frame)
      | (refine pick_skip0 (by decide +kernel) (fun _ _ _ h => h) (by rfl) ?_; go_frame)
      | (refine pick_take1 (v := ?_) rfl (by decide +kernel) (fun _ _ _ h => h) (by rfl) ?_ ?_; rotate_left; (intro w hSw; (try dsimp only at hSw); go_simp; try with_reducible rfl); go_frame)
      | (refine pick_take2 (v := ?_) rfl (by decide +kernel) (fun _ _ _ h => h) (by rfl) ?_ ?_; rotate_left; (intro w hSw; (try dsimp only at hSw); go_simp; try with_reducible rfl); go_frame))
    refine pick_call (by decide +kernel) (by rfl) (fun K hK => ?_)
    go_simp
    go_at_call 13
    refine (refSame_any (some ⟨rr, 0, none⟩) A8 ys.length cc8 ys ys q3 (Sl.of_row rA) (hyF.kept kq3) (by have := HYL.out; omega)).mono ?_
    rintro e q4 ⟨rfl, j4⟩
    have kq4 : Kept [] WF q4 := kq3.trans j4
    rw [show decide (ys = ys) = true by simp]
    (try dsimp only)
    refine hK _ _ (hold.out _ kq4) ?_
    clear hK K
    repeat (first
      | (refine pick_take0 (v := ?_) rfl (by decide +kernel) (fun _ _ _ h => h) (by rfl) ?_ ?_; rotate_left; (intro w hSw; (try dsimp only at hSw); go_simp; try with_reducible rfl); go_frame)
      | (refine pick_skip0 (by decide +kernel) (fun _ _ _ h => h) (by rfl) ?_; go_frame)
      | (refine pick_take1 (v := ?_) rfl (by decide +kernel) (fun _ _ _ h => h) (by rfl) ?_ ?_; rotate_left; (intro w hSw; (try dsimp only at hSw); go_simp; try with_reducible rfl); go_frame)
      | (refine pick_take2 (v := ?_) rfl (by decide +kernel) (fun _ _ _ h => h) (by rfl) ?_ ?_; rotate_left; (intro w hSw; (try dsimp only at hSw); go_simp; try with_reducible rfl); go_frame))
    refine pick_call (by decide +kernel) (by rfl) (fun K hK => ?_)
    go_simp
    go_at_call 13
    refine (refSame_any va (some ⟨g6, 0, none⟩) vc cw6 vs vs q4 (HVS.out.kept (kkF.trans kq4)) (hWSF.kept kq4) (by omega)).mono ?_
    rintro e q5 ⟨rfl, j5⟩
    have kq5 : Kept [] WF q5 := kq4.trans j5
    rw [show decide (vs = vs) = true by simp]
    (try dsimp only)
    refine hK _ _ (hold.out _ kq5) ?_
    clear hK K
    repeat (first
      | (refine pick_take0 (v := ?_) rfl (by decide +kernel) (fun _ _ _ h => h) (by rfl) ?_ ?_; rotate_left; (intro w hSw; (try dsimp only at hSw); go_simp; try with_reducible rfl); go_frame)
      | (refine pick_skip0 (by decide +kernel) (fun _ _ _ h => h) (by rfl) ?_; go_frame)
      | (refine pick_take1 (v := ?_) rfl (by decide +kernel) (fun _ _ _ h => h) (by rfl) ?_ ?_; rotate_left; (intro w hSw; (try dsimp only at hSw); go_simp; try with_reducible rfl); go_frame)
      | (refine pick_take2 (v := ?_) rfl (by decide +kernel) (fun _ _ _ h => h) (by rfl) ?_ ?_; rotate_left; (intro w hSw; (try dsimp only at hSw); go_simp; try with_reducible rfl); go_frame))
    refine pick_call (by decide +kernel) (by rfl) (fun K hK => ?_)
    go_simp
    go_at_call 16
    refine (HPT.out q5 (kkF.trans kq5)).mono ?_
    rintro e q6 ⟨v6, rfl, hown6, j6⟩
    have kq6 : Kept [] WF q6 := kq5.trans j6
    obtain ⟨A6, c6, rfl, hX6⟩ := SlX.of_own hown6
    clear hown6
    (try dsimp only)
    refine hK _ _ (hold.out _ kq6) ?_
    clear hK K
    repeat (first
      | (refine pick_take0 (v := ?_) rfl (by decide +kernel) (fun _ _ _ h => h) (by rfl) ?_ ?_; rotate_left; (intro w hSw; (try dsimp only at hSw); go_simp; try with_reducible rfl); go_frame)
      | (refine pick_skip0 (by decide +kernel) (fun _ _ _ h => h) (by rfl) ?_; go_frame)
      | (refine pick_take1 (v := ?_) rfl (by decide +kernel) (fun _ _ _ h => h) (by rfl) ?_ ?_; rotate_left; (intro w hSw; (try dsimp only at hSw); go_simp; try with_reducible rfl); go_frame)
      | (refine pick_take2 (v := ?_) rfl (by decide +kernel) (fun _ _ _ h => h) (by rfl) ?_ ?_; rotate_left; (intro w hSw; (try dsimp only at hSw); go_simp; try with_reducible rfl); go_frame))
    refine pick_call (by decide +kernel) (by rfl) (fun K hK => ?_)
    go_simp
    go_at_call 17
    refine (HRP.out q6 (kkF.trans kq6)).mono ?_
    rintro e q7 ⟨v7, rfl, hown7, j7⟩
    have kq7 : Kept [] WF q7 := kq6.trans j7
    obtain ⟨A7, c7, rfl, hX7⟩ := SlX.of_own hown7
    have hX67 := hX6.kept (S := []) j7 (by simp)
    clear hown7 hX6
    (try dsimp only)
    refine hK _ _ (hold.out _ kq7) ?_
    clear hK K
    repeat (first
      | (refine pick_take0 (v := ?_) rfl (by decide +kernel) (fun _ _ _ h => h) (by rfl) ?_ ?_; rotate_left; (intro w hSw; (try dsimp only at hSw); go_simp; try with_reducible rfl); go_frame)
      | (refine pick_skip0 (by decide +kernel) (fun _ _ _ h => h) (by rfl) ?_; go_frame)
      | (refine pick_take1 (v := ?_) rfl (by decide +kernel) (fun _ _ _ h => h) (by rfl) ?_ ?_; rotate_left; (intro w hSw; (try dsimp only at hSw); go_simp; try with_reducible rfl); go_frame)
      | (refine pick_take2 (v := ?_) rfl (by decide +kernel) (fun _ _ _ h => h) (by rfl) ?_ ?_; rotate_left; (intro w hSw; (try dsimp only at hSw); go_simp; try with_reducible rfl); go_frame))
    refine pick_call (by decide +kernel) (by rfl) (fun K hK => ?_)
    go_simp
    go_at_call 15
    refine (refSame04_yes A6 A7 ps.length ps.length c6 c7 ps q7 hX67.sl hX7.sl rfl rfl (by omega)).mono ?_
    rintro e q8 ⟨rfl, j8⟩
    have kq8 : Kept [] WF q8 := kq7.trans j8
    (try dsimp only)
    refine hK _ _ (hold.out _ kq8) ?_
    clear hK K
    repeat (first
      | (refine pick_take0 (v := ?_) rfl (by decide +kernel) (fun _ _ _ h => h) (by rfl) ?_ ?_; rotate_left; (intro w hSw; (try dsimp only at hSw); go_simp; try with_reducible rfl); go_frame)
      | (refine pick_skip0 (by decide +kernel) (fun _ _ _ h => h) (by rfl) ?_; go_frame)
      | (refine pick_take1 (v := ?_) rfl (by decide +kernel) (fun _ _ _ h => h) (by rfl) ?_ ?_; rotate_left; (intro w hSw; (try dsimp only at hSw); go_simp; try with_reducible rfl); go_frame)
      | (refine pick_take2 (v := ?_) rfl (by decide +kernel) (fun _ _ _ h => h) (by rfl) ?_ ?_; rotate_left; (intro w hSw; (try dsimp only at hSw); go_simp; try with_reducible rfl); go_frame))
    refine pick_done (by decide +kernel) ?_
    clear hold
    go_wp2
    go_ret
    exact ⟨rfl, kkF.trans kq8⟩
end Go.Proofs.YthkmnjkaadmilaaDoor
