/- The law SlotOne: its walk. -/
import Derived.Test.YthkmnjkaadmilaaSlotStore
import Derived.Test.YthkmnjkaadmilaaSlotLaid
import Derived.Test.YthkmnjkaadmilaaAll
namespace Go.Proofs.Ythkmnjkaadmilaa
open Go.RowKit

theorem okK_len {xs ys : List Int} (h : ys.length = xs.length) (a : Int) (ks : List Int) (n : Nat) : okK ys a ks n = okK xs a ks n := by simp [okK, h]
theorem okK_place {xs : List Int} {a : Int} {ks : List Int} {n : Nat} (h : okK xs a ks n = true) : n < ks.length ∧ 0 ≤ wrap64 (a + n) ∧ wrap64 (a + n) < (xs.length : Int) ∧ placeK a ks n = wrap64 (a + n) := by
  simp only [okK, Bool.and_eq_true] at h
  have h1 := inK_true h.1
  have hp : placeK a ks n = wrap64 (a + n) := if_pos h1
  have h2 := h.2
  rw [hp] at h2
  simp only [hasB, decide_eq_true_eq] at h2
  exact ⟨h1, h2.1, h2.2, hp⟩
theorem load_same {xs : List Int} {a : Int} {ks : List Int} {n : Nat} (v : Int) (h : okK xs a ks n = true) : loadK (storeK xs a ks n v) a ks n = v := by
  obtain ⟨_, h0, h1, hp⟩ := okK_place h
  unfold loadK
  rw [okK_len (storeK_length xs a ks n v), if_pos h]
  unfold storeK
  rw [if_pos h, hp, List.getElem?_set, if_pos rfl, if_pos (by omega)]
  rfl
theorem load_other {xs : List Int} {a : Int} {ks : List Int} {n m : Nat} (v : Int) (hk : ks.length ≤ 100) (hne : n ≠ m) : loadK (storeK xs a ks n v) a ks m = loadK xs a ks m := by
  unfold loadK
  rw [okK_len (storeK_length xs a ks n v)]
  cases hm : okK xs a ks m with
  | false => simp
  | true =>
    simp only [if_true]
    unfold storeK
    cases hn : okK xs a ks n with
    | false => simp
    | true =>
      simp only [if_true]
      obtain ⟨m1, m2, m3, m4⟩ := okK_place hm
      obtain ⟨n1, n2, n3, n4⟩ := okK_place hn
      rw [m4, n4, List.getElem?_set, if_neg]
      unfold wrap64 at *
      omega
theorem store_get {xs : List Int} {a : Int} {ks : List Int} {n : Nat} {v : Int} {j : Nat} (h : (storeK xs a ks n v)[j]?.getD 0 ≠ xs[j]?.getD 0) : okK xs a ks n = true ∧ (placeK a ks n).toNat = j := by
  unfold storeK at h
  cases hn : okK xs a ks n with
  | false => rw [hn] at h; simp at h
  | true =>
    refine ⟨rfl, ?_⟩
    rw [hn, if_pos rfl, List.getElem?_set] at h
    by_cases e : (placeK a ks n).toNat = j
    · exact e
    · rw [if_neg e] at h; exact absurd rfl h

set_option maxRecDepth 100000 in
set_option maxHeartbeats 2000000 in
theorem slotOne_big (a0 : Option Addr) (len cap : Nat) (a r : Int) (ar : Bool) (kd ty nn : Int) (ka : Option Addr) (kc : Nat) (ks : List Int) (va : Option Addr) (vc : Nat) (vs : List Int) (n0 n1 : Nat) (v : Int) (w : World) (hm : len ≤ maxLen) (hk : ks.length ≤ maxLen) (hv : vs.length ≤ maxLen) (h : 300 < len ∨ 100 < ks.length ∨ 100 < vs.length) :
    Calls Try.prog 3 #[.slice a0 len cap, .agg #[.int .i64 a, .int .i64 r, .bool ar, .int .i64 kd, .int .i64 ty, .int .i64 nn, .slice ka ks.length kc, .slice va vs.length vc], .agg #[.int .u64 (n0 : Int), .int .u64 (n1 : Int), .int .u64 v]] w (FixedPost w) := by
  unfold maxLen at hm hk hv
  have k0 := ((Kept.refl [] w).alloc (.cells #[.int .i64 a, .int .i64 r, .bool ar, .int .i64 kd, .int .i64 ty, .int .i64 nn, .slice ka ks.length kc, .slice va vs.length vc] 27)).alloc (.cells #[.int .u64 (n0 : Int), .int .u64 (n1 : Int), .int .u64 v] 29)
  obtain ⟨KL, hKL⟩ : ∃ KL, ks.length = KL := ⟨_, rfl⟩
  obtain ⟨VL, hVL⟩ : ∃ VL, vs.length = VL := ⟨_, rfl⟩
  rw [hKL, hVL] at k0 ⊢
  rw [hKL] at hk h
  rw [hVL] at hv h
  clear hKL hVL
  by_cases h1 : 300 < len
  · have h1' : decide ((300 : Int) < (len : Int)) = true := by simp; omega
    clear h h1
    go_enter Try.func3, Try.ntmps3
    go_wp2_with fail
    refine (fixed13_any _).mono ?_
    rintro e w5 ⟨rfl, kw5⟩
    go_wp2
    go_ret
    exact ⟨rfl, k0.trans kw5⟩
  · have h1' : decide ((300 : Int) < (len : Int)) = false := by simp; omega
    by_cases h2 : 100 < KL
    · have h2' : decide ((100 : Int) < (KL : Int)) = true := by simp; omega
      clear h h1 h2
      go_enter Try.func3, Try.ntmps3
      go_wp2_with fail
      refine (fixed13_any _).mono ?_
      rintro e w5 ⟨rfl, kw5⟩
      go_wp2
      go_ret
      exact ⟨rfl, k0.trans kw5⟩
    · have h2' : decide ((100 : Int) < (KL : Int)) = false := by simp; omega
      have h3' : decide ((100 : Int) < (VL : Int)) = true := by simp; omega
      clear h h1 h2
      go_enter Try.func3, Try.ntmps3
      go_wp2_with fail
      refine (fixed13_any _).mono ?_
      rintro e w5 ⟨rfl, kw5⟩
      go_wp2
      go_ret
      exact ⟨rfl, k0.trans kw5⟩

set_option maxRecDepth 100000 in
set_option maxHeartbeats 8000000 in
theorem slotOne_law (a0 : Option Addr) (cap : Nat) (zs : List Int) (a r : Int) (ar : Bool) (kd ty nn : Int) (ka : Option Addr) (kc : Nat) (ks : List Int) (va : Option Addr) (vc : Nat) (vs : List Int) (n0 n1 : Nat) (v : Int) (w : World) (hs : Sl w .u64 a0 zs) (hl : zs.length ≤ 300) (hsk : Sl w .i64 ka ks) (hsv : Sl w .u64 va vs) (hk : ks.length ≤ 100) (hv : vs.length ≤ 100) :
    Calls Try.prog 3 #[.slice a0 zs.length cap, .agg #[.int .i64 a, .int .i64 r, .bool ar, .int .i64 kd, .int .i64 ty, .int .i64 nn, .slice ka ks.length kc, .slice va vs.length vc], .agg #[.int .u64 (n0 : Int), .int .u64 (n1 : Int), .int .u64 v]] w (FixedPost w) := by
  have k0 := ((Kept.refl [] w).alloc (.cells #[.int .i64 a, .int .i64 r, .bool ar, .int .i64 kd, .int .i64 ty, .int .i64 nn, .slice ka ks.length kc, .slice va vs.length vc] 27)).alloc (.cells #[.int .u64 (n0 : Int), .int .u64 (n1 : Int), .int .u64 v] 29)
  have rB := (Row.new w 27 [.int .i64 a, .int .i64 r, .bool ar, .int .i64 kd, .int .i64 ty, .int .i64 nn, .slice ka ks.length kc, .slice va vs.length vc]).alloc (.cells #[.int .u64 (n0 : Int), .int .u64 (n1 : Int), .int .u64 v] 29)
  have rP := Row.new (w.alloc (.cells #[.int .i64 a, .int .i64 r, .bool ar, .int .i64 kd, .int .i64 ty, .int .i64 nn, .slice ka ks.length kc, .slice va vs.length vc] 27)) 29 [.int .u64 (n0 : Int), .int .u64 (n1 : Int), .int .u64 v]
  rw [World.size_alloc] at rP
  have h1' : decide ((300 : Int) < (zs.length : Int)) = false := by simp; omega
  have h2' : decide ((100 : Int) < (ks.length : Int)) = false := by simp; omega
  have h3' : decide ((100 : Int) < (vs.length : Int)) = false := by simp; omega
  go_enter Try.func3, Try.ntmps3
  go_wp2_with fail
  obtain ⟨R, hR⟩ : ∃ R, w.heap.size = R := ⟨_, rfl⟩
  have HR := Lib.hid hR
  rw [hR] at rB rP ⊢
  generalize (w.alloc (.cells #[.int .i64 a, .int .i64 r, .bool ar, .int .i64 kd, .int .i64 ty, .int .i64 nn, .slice ka ks.length kc, .slice va vs.length vc] 27)).alloc (.cells #[.int .u64 (n0 : Int), .int .u64 (n1 : Int), .int .u64 v] 29) = W at k0 rB rP ⊢
  clear hR h1' h2' h3'
  have cells : ∀ (W : World), Row W R 27 [.int .i64 a, .int .i64 r, .bool ar, .int .i64 kd, .int .i64 ty, .int .i64 nn, .slice ka ks.length kc, .slice va vs.length vc] → Row W (R + 1) 29 [.int .u64 (n0 : Int), .int .u64 (n1 : Int), .int .u64 v] →
      W.cell? ⟨R, 0, none⟩ = some (.int .i64 a) ∧ W.cell? ⟨R, 1, none⟩ = some (.int .i64 r) ∧ W.cell? ⟨R, 2, none⟩ = some (.bool ar) ∧ W.cell? ⟨R, 3, none⟩ = some (.int .i64 kd) ∧ W.cell? ⟨R, 4, none⟩ = some (.int .i64 ty) ∧ W.cell? ⟨R, 5, none⟩ = some (.int .i64 nn) ∧ W.cell? ⟨R, 6, none⟩ = some (.slice ka ks.length kc) ∧ W.cell? ⟨R, 7, none⟩ = some (.slice va vs.length vc) ∧ W.cell? ⟨R + 1, 0, none⟩ = some (.int .u64 (n0 : Int)) ∧ W.cell? ⟨R + 1, 1, none⟩ = some (.int .u64 (n1 : Int)) ∧ W.cell? ⟨R + 1, 2, none⟩ = some (.int .u64 v) :=
    fun W h1 h2 => ⟨by simpa using h1.cell 0, by simpa using h1.cell 1, by simpa using h1.cell 2, by simpa using h1.cell 3, by simpa using h1.cell 4, by simpa using h1.cell 5, by simpa using h1.cell 6, by simpa using h1.cell 7, by simpa using h2.cell 0, by simpa using h2.cell 1, by simpa using h2.cell 2⟩
  have CELLS := Lib.hid cells
  clear cells
  have hRl := rP.lt
  have hzW := k0.size
  refine (laid13_any a0 cap zs W (hs.kept k0) hl).mono ?_
  rintro e w1 ⟨mb, mg, rfl, hmb, hmg, hm1, k1⟩
  have kk1 := k0.trans k1
  have rB1 := rB.kept k1 (by simp)
  have rP1 := rP.kept k1 (by simp)
  obtain ⟨b0, b1, b2, b3, b4, b5, b6, b7, p0, p1, p2⟩ := CELLS.out w1 rB1 rP1
  have hz1 := k1.size
  have hXk := (SlX.of_sl hsk).mono (Y := fun q => q ≠ mg) (fun b hb _ => by omega)
  have hXv := (SlX.of_sl hsv).mono (Y := fun q => q ≠ mg) (fun b hb _ => by omega)
  clear rB rP k1 k0
  go_wp2_with fail
  refine (slotLoad_any mb mg zs a r ar kd ty nn ka kc ks va vc vs n1 w1 hm1 (hsk.kept kk1) (by omega)).mono ?_
  rintro e w2 ⟨rfl, k2⟩
  have kk2 := kk1.trans k2
  have rB2 := rB1.kept k2 (by simp)
  have rP2 := rP1.kept k2 (by simp)
  have hm2 := hm1.kept k2 (by simp) (by simp)
  clear b0 b1 b2 b3 b4 b5 b6 b7 p0 p1 p2 rB1 rP1 kk1 k2 hm1
  obtain ⟨b0, b1, b2, b3, b4, b5, b6, b7, p0, p1, p2⟩ := CELLS.out w2 rB2 rP2
  obtain ⟨old, hold⟩ : ∃ old, loadK zs a ks n1 = old := ⟨_, rfl⟩
  obtain ⟨okB, hokB⟩ : ∃ okB, okK zs a ks n1 = okB := ⟨_, rfl⟩
  rw [hold, hokB]
  have HOLD := Lib.hid hold
  have HOKB := Lib.hid hokB
  clear hold hokB
  go_wp2_with fail
  refine (slotStore_any mb mg zs a r ar kd ty nn ka kc ks va vc vs n0 v w2 hm2 (hsk.kept kk2) (hXv.kept (S := []) kk2 (by simp)) (hXk.kept (S := []) kk2 (by simp)) (by omega) (by omega)).mono ?_
  rintro e w3 ⟨x, rfl, ⟨ka2, kc2, va2, vc2, rfl, _, _⟩, hm3, k3⟩
  generalize resK zs a r ar kd ty nn ks vs n0 v = pj
  obtain ⟨pa, pr, ⟨ph, pk, pt, pn⟩, pks, pvs⟩ := pj
  simp only
  have kX := (Kept.refl [] w3).alloc (.cells #[.int .i64 pa, .int .i64 pr, .bool ph, .int .i64 pk, .int .i64 pt, .int .i64 pn, .slice ka2 pks.length kc2, .slice va2 pvs.length vc2] 27)
  have kk3 := (kk2.chain k3 (by simp) (by simp; omega) : Kept [] w w3).trans kX
  have rB3 := (rB2.kept k3 (by simp; omega)).kept kX (by simp)
  have rP3 := (rP2.kept k3 (by simp; omega)).kept kX (by simp)
  have hm3 := hm3.kept kX (by simp) (by simp)
  clear b0 b1 b2 b3 b4 b5 b6 b7 p0 p1 p2 rB2 rP2 kk2 k3 hm2
  have hsg := fun j h => store_get (xs := zs) (a := a) (ks := ks) (n := n0) (v := v) (j := j) h
  have hl0 := fun h => load_same (xs := zs) (a := a) (ks := ks) (n := n0) v h
  have hl1 := fun h => load_other (xs := zs) (a := a) (ks := ks) (n := n0) (m := n1) v hk h
  rw [HOLD.out] at hl1
  have hyl := storeK_length zs a ks n0 v
  obtain ⟨ys, hys⟩ : ∃ ys, storeK zs a ks n0 v = ys := ⟨_, rfl⟩
  rw [hys] at hl0 hl1 hyl hm3
  simp only [hys] at hsg
  have hoA := okK_len hyl a ks n0
  have hoB := okK_len hyl a ks n1
  rw [HOKB.out] at hoB
  obtain ⟨okA, hokA⟩ : ∃ okA, okK zs a ks n0 = okA := ⟨_, rfl⟩
  rw [hokA] at hoA ⊢
  simp only [hokA] at hsg hl0
  obtain ⟨K, hK⟩ : ∃ K, (placeK a ks n0).toNat = K := ⟨_, rfl⟩
  simp only [hK] at hsg
  obtain ⟨er, her⟩ : ∃ er, errB okA = er := ⟨_, rfl⟩
  rw [her]
  have HSG := Lib.hid hsg
  have HL0 := Lib.hid hl0
  have HL1 := Lib.hid hl1
  have HYL := Lib.hid hyl
  have HOA := Lib.hid hoA
  have HOB := Lib.hid hoB
  have HER := Lib.hid her
  clear hsg hl0 hl1 hyl hoA hoB her hK hokA hys
  go_wp2_with fail
  generalize w3.alloc (.cells #[.int .i64 pa, .int .i64 pr, .bool ph, .int .i64 pk, .int .i64 pt, .int .i64 pn, .slice ka2 pks.length kc2, .slice va2 pvs.length vc2] 27) = W3 at kX kk3 rB3 rP3 hm3 ⊢
  clear kX
  refine (all_any mb mg ys W3 hm3).mono ?_
  rintro e w4 ⟨rr, rfl, _, rA, k4⟩
  rw [HYL.out]
  have hcell : ∀ j, j < zs.length → w4.cell? ⟨rr, j, none⟩ = some (.int .u64 (ys[j]?.getD 0)) := fun j hj => rA.cellInt j (by rw [HYL.out]; exact hj)
  have HC := Lib.hid hcell
  have kk4 := kk3.trans k4
  have rB4 := rB3.kept k4 (by simp)
  have rP4 := rP3.kept k4 (by simp)
  have hm4 := hm3.kept k4 (by simp) (by simp)
  clear hcell rA k4 kk3 rB3 rP3 hm3
  go_wp2_with fail
  go_loopw [12, 60] (fun c i wr => ∃ (j cn : Nat), j ≤ zs.length ∧ c = .int .i64 cn ∧ i = .int .i64 j ∧ Hid (cn = 0 ∨ (okA = true ∧ K < j)) ∧ cn ≤ 1 ∧ w4 = wr) (fun _ i _ => zs.length - (intOf i).toNat)
  case atStart => exact ⟨0, 0, Nat.zero_le _, rfl, rfl, .inl rfl, Nat.zero_le _, rfl⟩
  case round =>
    obtain ⟨j, cn, hj, rfl, rfl, hcn, hc1, rfl⟩ := hrel
    by_cases hlt : j < zs.length
    · have hc := HC.out j hlt
      obtain ⟨b', off, rfl, hz⟩ := (hs.kept kk4).cell hlt
      have hg := HSG.out j
      have hd : decide (zs.length ≤ j) = false := by simp; omega
      have hjl : (j : Int) < (zs.length : Int) := by omega
      obtain ⟨y, hy⟩ : ∃ y, ys[j]?.getD 0 = y := ⟨_, rfl⟩
      obtain ⟨z, hzz⟩ : ∃ z, zs[j]?.getD 0 = z := ⟨_, rfl⟩
      rw [hy] at hc hg
      rw [hzz] at hz hg
      clear hy hzz hm4
      cases hne : (y != z) with
      | false =>
        clear hg
        go_wp2
        go_roundw
        case rel => exact ⟨j + 1, cn, by omega, rfl, by go_num, hcn.elim .inl (fun h => .inr ⟨h.1, by omega⟩), hc1, by trivial⟩
        case measure => simp [intOf]; omega
      | true =>
        have hg2 := hg (by simpa using hne)
        have h0 : cn = 0 := hcn.elim id (fun h => by have := h.2; omega)
        subst h0
        have HG := Lib.hid hg2
        clear hg hg2
        go_wp2
        go_roundw
        case rel => exact ⟨j + 1, 1, by omega, by go_num, by go_num, .inr ⟨HG.out.1, by have := HG.out.2; omega⟩, Nat.le_refl _, by trivial⟩
        case measure => simp [intOf]; omega
    · obtain rfl : j = zs.length := by omega
      obtain ⟨b0, b1, b2, b3, b4, b5, b6, b7, p0, p1, p2⟩ := CELLS.out w4 rB4 rP4
      cases okA with
      | false =>
        have h8 : er = 8 := HER.out.symm
        subst h8
        have h0 : cn = 0 := hcn.elim id (fun h => by simp at h)
        subst h0
        go_wp2_with fail
        refine (fixed13_any _).mono ?_
        rintro e w5 ⟨rfl, kw5⟩
        go_wp2
        go_ret
        exact ⟨rfl, kk4.trans kw5⟩
      | true =>
        have h8 : er = 0 := HER.out.symm
        subst h8
        have hL0 := HL0.out rfl
        have hd1 : decide ((cn : Int) ≤ 1) = true := by simp; omega
        go_wp2_with fail
        refine (slotLoad_any mb mg ys a r ar kd ty nn ka kc ks va vc vs n0 w4 hm4 (hsk.kept kk4) (by omega)).mono ?_
        rintro e w5 ⟨rfl, k5⟩
        have kk5 := kk4.trans k5
        have rB5 := rB4.kept k5 (by simp)
        have rP5 := rP4.kept k5 (by simp)
        have hm5 := hm4.kept k5 (by simp) (by simp)
        rw [hL0, HOA.out, show errB true = 0 from rfl]
        clear b0 b1 b2 b3 b4 b5 b6 b7 p0 p1 p2 rB4 rP4 kk4 k5 hm4 hL0
        obtain ⟨b0, b1, b2, b3, b4, b5, b6, b7, p0, p1, p2⟩ := CELLS.out w5 rB5 rP5
        go_wp2_with fail
        refine (slotLoad_any mb mg ys a r ar kd ty nn ka kc ks va vc vs n1 w5 hm5 (hsk.kept kk5) (by omega)).mono ?_
        rintro e w6 ⟨rfl, k6⟩
        have kk6 := kk5.trans k6
        have rB6 := rB5.kept k6 (by simp)
        have rP6 := rP5.kept k6 (by simp)
        rw [HOB.out]
        clear b0 b1 b2 b3 b4 b5 b6 b7 p0 p1 p2 rB5 rP5 kk5 k6 hm5
        obtain ⟨now, hnow⟩ : ∃ now, loadK ys a ks n1 = now := ⟨_, rfl⟩
        have hl1 := HL1.out
        rw [hnow] at hl1 ⊢
        generalize errB okB = eb
        clear hnow
        go_wp2_with fail
        refine (fixed13_any w6).mono ?_
        rintro e w7 ⟨rfl, k7⟩
        have kk7 := kk6.trans k7
        have rB7 := rB6.kept k7 (by simp)
        have rP7 := rP6.kept k7 (by simp)
        obtain ⟨b0, b1, b2, b3, b4, b5, b6, b7, p0, p1, p2⟩ := CELLS.out w7 rB7 rP7
        clear rB6 rP6 kk6 k7 rB7 rP7
        by_cases hn : n0 = n1
        · subst hn
          clear hl1
          go_wp2
          go_ret
          exact ⟨rfl, kk7⟩
        · have hnw := hl1 hn
          subst hnw
          have hn' : ((n0 : Int) == (n1 : Int)) = false := by simp; omega
          clear hn hl1
          go_wp2
          go_ret
          exact ⟨rfl, kk7⟩
end Go.Proofs.Ythkmnjkaadmilaa
