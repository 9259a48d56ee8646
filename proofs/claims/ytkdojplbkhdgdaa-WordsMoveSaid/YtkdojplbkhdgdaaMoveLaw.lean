/- The law WordsMove: its walk. -/
import Derived.Test.YtkdojplbkhdgdaaRef2
namespace Go.Proofs.Ytkdojplbkhdgdaa
open Go.RowKit

theorem sofar_get (zs : List Int) (m j : Nat) (hj : j < zs.length) : (sofar zs m zs.length)[j]?.getD 0 = zs[j]?.getD 0 := by
  unfold sofar
  rw [List.getElem?_append_left (by simp; omega)]; simp

theorem there_back (zs : List Int) (f k : Nat) (v : Int) (hk : f + k ≤ zs.length) (ys : List Int) (hy : ys = moved (setAll (moved (sofar zs (2 * zs.length) zs.length) f k zs.length) v (handed (fun i => (f : Int) + (i : Nat)) k)) zs.length k f) :
    ys.length = 2 * zs.length ∧ ys.take zs.length = zs := by
  have l0 : (sofar zs (2 * zs.length) zs.length).length = 2 * zs.length := sofar_length _ _ _ (Nat.le_refl _) (by omega)
  have l1 : ys.length = 2 * zs.length := by rw [hy, moved_length, setAll_length, moved_length, l0]
  refine ⟨l1, ext_getD (by simp; omega) fun j hj => ?_⟩
  have hj' : j < zs.length := by simp at hj; omega
  rw [List.getElem?_take, if_pos hj', hy, moved_get _ _ _ _ _ (by rw [setAll_length, moved_length, l0]; omega)]
  by_cases h : f ≤ j ∧ j < f + k
  · rw [if_pos h, setAll_get _ _ _ _ _ (by rw [moved_length, l0]; omega) (by rw [moved_length, l0]; omega), if_neg (by omega), moved_get _ _ _ _ _ (by rw [l0]; omega), if_pos (by omega),
      show j - f + zs.length - zs.length + f = j from by omega, sofar_get _ _ _ hj']
  · rw [if_neg h, setAll_get _ _ _ _ _ (by rw [moved_length, l0]; omega) (by rw [moved_length, l0]; omega), if_neg h, moved_get _ _ _ _ _ (by rw [l0]; omega), if_neg (by omega), sofar_get _ _ _ hj']

set_option maxRecDepth 100000 in
set_option maxHeartbeats 2000000 in
theorem moves_big (a0 : Option Addr) (len cap : Nat) (f n : Int) (w : World) (hl : 150 < len) (hm : len ≤ maxLen) :
    Calls Try.prog 5 #[.slice a0 len cap, .int .u8 f, .int .u8 n] w (FixedPost w) := by
  unfold maxLen at hm
  go_enter Try.func5, Try.ntmps5
  go_wp2_with fail
  refine (fixed_any _).mono ?_
  rintro e w5 ⟨rfl, kw5⟩
  go_wp2
  go_ret
  exact ⟨rfl, kw5⟩

set_option maxRecDepth 100000 in
set_option maxHeartbeats 4000000 in
theorem moves_any (a0 : Option Addr) (cap : Nat) (zs : List Int) (f n : Nat) (w : World) (hs : Sl w .u64 a0 zs) (hl : zs.length ≤ 150) (hf : f ≤ 255) (hn : n ≤ 255) :
    Calls Try.prog 5 #[.slice a0 zs.length cap, .int .u8 f, .int .u8 n] w (FixedPost w) := by
  go_enter Try.func5, Try.ntmps5
  go_wp2_with fail
  rw [show (2 : Int) * (zs.length : Int) = ((2 * zs.length : Nat) : Int) from by omega]
  refine (new_yes (2 * zs.length) w (by omega)).mono ?_
  rintro e w1 ⟨mb, mg, rfl, hmb, hmg, hm1, kw1⟩
  rw [← sofar_zero zs] at hm1
  go_wp2_with fail
  go_loopw [33] (fun i wr => ∃ j : Nat, j ≤ zs.length ∧ i = .int .i64 j ∧ IsMem wr mb mg (sofar zs (2 * zs.length) j) ∧ Kept [mg] w1 wr) (fun i _ => zs.length - (intOf i).toNat)
  case atStart => exact ⟨0, Nat.zero_le _, rfl, hm1, Kept.refl _ _⟩
  case round =>
    obtain ⟨j, hj, rfl, hmr, hkr⟩ := hrel
    have kWr : Kept [] w wr := kw1.chain hkr (by simp) (by simp; omega)
    by_cases hlt : j < zs.length
    · obtain ⟨b, off, rfl, hc⟩ := (hs.kept kWr).cell hlt
      go_wp2_with fail
      rw [show zs[j] = zs[j]?.getD 0 from by simp [hlt]]
      refine (write_any mb mg _ j _ wr hmr).mono ?_
      rintro e w2 ⟨rfl, hm2, kw2⟩
      rw [sofar_succ zs _ j hlt (by omega)] at hm2
      go_wp2
      go_roundw
      case rel => exact ⟨j + 1, by omega, by go_num, hm2, hkr.trans kw2⟩
      case measure => simp [intOf]; omega
    · obtain rfl : j = zs.length := by omega
      have hsl := sofar_length zs (2 * zs.length) zs.length (Nat.le_refl _) (by omega)
      have HSL := Lib.hid hsl
      clear hsl
      by_cases h1 : zs.length < f
      · by_cases h2 : 0 < n
        · go_wp2_with fail
          have hmay1 : mayMove (sofar zs (2 * zs.length) zs.length).length ((zs.length) : Nat) ((0) : Nat) zs.length = true := by rw [HSL.out]; simp [mayMove, holdsB]; omega
          refine (move_any mb mg _ ((zs.length) : Nat) ((0) : Nat) zs.length wr hmr (by omega) (by omega)).mono ?_
          rintro e w3 ⟨rfl, hm3, kw3⟩
          rw [hmay1, show errB true = 0 from rfl]
          have e3 : mvB (sofar zs (2 * zs.length) zs.length) ((zs.length) : Nat) ((0) : Nat) zs.length = moved (sofar zs (2 * zs.length) zs.length) (zs.length) (0) zs.length := by simp only [mvB, hmay1, if_true, Int.toNat_natCast]
          rw [e3] at hm3
          clear e3 hmay1
          have l3 : (moved (sofar zs (2 * zs.length) zs.length) (zs.length) (0) zs.length).length = 2 * zs.length := by rw [moved_length, HSL.out]
          have L3 := Lib.hid l3
          clear l3
          have K3 := hkr.trans kw3
          go_wp2_with fail
          have hmay2 : holdsB (moved (sofar zs (2 * zs.length) zs.length) (zs.length) (0) zs.length).length ((zs.length) : Nat) ((0) : Nat) = true := by rw [L3.out]; simp [holdsB]; omega
          refine (fill_any mb mg _ ((zs.length) : Nat) ((0) : Nat) 9223372036854775808 w3 hm3 (by omega)).mono ?_
          rintro e w4 ⟨rfl, hm4, kw4⟩
          rw [hmay2, show errB true = 0 from rfl]
          generalize hv : (9223372036854775808 : Int) = bigv at hm4
          clear hv
          have e4 : flB (moved (sofar zs (2 * zs.length) zs.length) (zs.length) (0) zs.length) ((zs.length) : Nat) ((0) : Nat) bigv = setAll (moved (sofar zs (2 * zs.length) zs.length) (zs.length) (0) zs.length) bigv (handed (fun i => (((zs.length) : Nat) : Int) + (i : Nat)) (0)) := by simp only [flB, hmay2, if_true, Int.toNat_natCast]
          rw [e4] at hm4
          clear e4 hmay2
          have K4 := K3.trans kw4
          generalize hX : setAll (moved (sofar zs (2 * zs.length) zs.length) (zs.length) (0) zs.length) bigv (handed (fun i => (((zs.length) : Nat) : Int) + (i : Nat)) (0)) = X at hm4
          have lX : X.length = 2 * zs.length := by rw [← hX, setAll_length, L3.out]
          have HX := Lib.hid hX
          have LX := Lib.hid lX
          clear hX lX
          go_wp2_with fail
          have hmay3 : mayMove X.length zs.length ((0) : Nat) ((zs.length) : Nat) = true := by rw [LX.out]; simp [mayMove, holdsB]; omega
          refine (move_any mb mg _ zs.length ((0) : Nat) ((zs.length) : Nat) w4 hm4 (by omega) (by omega)).mono ?_
          rintro e w5 ⟨rfl, hm5, kw5⟩
          rw [hmay3, show errB true = 0 from rfl]
          have e5 : mvB X zs.length ((0) : Nat) ((zs.length) : Nat) = moved X zs.length (0) (zs.length) := by simp only [mvB, hmay3, if_true, Int.toNat_natCast]
          rw [e5] at hm5
          clear e5 hmay3
          have tb := there_back zs (zs.length) (0) bigv (by omega) (moved X zs.length (0) (zs.length)) (by rw [← HX.out])
          generalize moved X zs.length (0) (zs.length) = Y at hm5 tb
          have K5 := K4.trans kw5
          have kw : Kept [] w w5 := kw1.chain K5 (by simp) (by simp; omega)
          obtain ⟨tb1, tb2⟩ := tb
          have T1 := Lib.hid tb1
          have T2 := Lib.hid tb2
          clear tb1 tb2
          go_wp2_with fail
          refine (all_any mb mg _ w5 hm5).mono ?_
          rintro e w6 ⟨r, rfl, hr, rA, kw6⟩
          rw [T1.out]
          go_wp2_with fail
          refine (fixed_any w6).mono ?_
          rintro e w7 ⟨rfl, kw7⟩
          have rA7 := rA.kept kw7 (by simp)
          have kf := (kw.trans kw6).trans kw7
          have sB := hs.kept kf
          have sA : Sl w7 .u64 (some ⟨r, 0, none⟩) zs := by
            have := Sl.of_row rA7
            rw [← T2.out]
            exact this.take zs.length
          go_wp2_with fail
          refine (refSame_any (some ⟨r, 0, none⟩) a0 _ _ zs zs w7 sA sB (by omega)).mono ?_
          rintro e w8 ⟨rfl, kw8⟩
          rw [show decide (zs = zs) = true from by simp]
          go_wp2
          go_ret
          exact ⟨rfl, kf.trans kw8⟩
        · obtain rfl : n = 0 := by omega
          go_wp2_with fail
          have hmay1 : mayMove (sofar zs (2 * zs.length) zs.length).length ((zs.length) : Nat) ((0) : Nat) zs.length = true := by rw [HSL.out]; simp [mayMove, holdsB]; omega
          refine (move_any mb mg _ ((zs.length) : Nat) ((0) : Nat) zs.length wr hmr (by omega) (by omega)).mono ?_
          rintro e w3 ⟨rfl, hm3, kw3⟩
          rw [hmay1, show errB true = 0 from rfl]
          have e3 : mvB (sofar zs (2 * zs.length) zs.length) ((zs.length) : Nat) ((0) : Nat) zs.length = moved (sofar zs (2 * zs.length) zs.length) (zs.length) (0) zs.length := by simp only [mvB, hmay1, if_true, Int.toNat_natCast]
          rw [e3] at hm3
          clear e3 hmay1
          have l3 : (moved (sofar zs (2 * zs.length) zs.length) (zs.length) (0) zs.length).length = 2 * zs.length := by rw [moved_length, HSL.out]
          have L3 := Lib.hid l3
          clear l3
          have K3 := hkr.trans kw3
          go_wp2_with fail
          have hmay2 : holdsB (moved (sofar zs (2 * zs.length) zs.length) (zs.length) (0) zs.length).length ((zs.length) : Nat) ((0) : Nat) = true := by rw [L3.out]; simp [holdsB]; omega
          refine (fill_any mb mg _ ((zs.length) : Nat) ((0) : Nat) 9223372036854775808 w3 hm3 (by omega)).mono ?_
          rintro e w4 ⟨rfl, hm4, kw4⟩
          rw [hmay2, show errB true = 0 from rfl]
          generalize hv : (9223372036854775808 : Int) = bigv at hm4
          clear hv
          have e4 : flB (moved (sofar zs (2 * zs.length) zs.length) (zs.length) (0) zs.length) ((zs.length) : Nat) ((0) : Nat) bigv = setAll (moved (sofar zs (2 * zs.length) zs.length) (zs.length) (0) zs.length) bigv (handed (fun i => (((zs.length) : Nat) : Int) + (i : Nat)) (0)) := by simp only [flB, hmay2, if_true, Int.toNat_natCast]
          rw [e4] at hm4
          clear e4 hmay2
          have K4 := K3.trans kw4
          generalize hX : setAll (moved (sofar zs (2 * zs.length) zs.length) (zs.length) (0) zs.length) bigv (handed (fun i => (((zs.length) : Nat) : Int) + (i : Nat)) (0)) = X at hm4
          have lX : X.length = 2 * zs.length := by rw [← hX, setAll_length, L3.out]
          have HX := Lib.hid hX
          have LX := Lib.hid lX
          clear hX lX
          go_wp2_with fail
          have hmay3 : mayMove X.length zs.length ((0) : Nat) ((zs.length) : Nat) = true := by rw [LX.out]; simp [mayMove, holdsB]; omega
          refine (move_any mb mg _ zs.length ((0) : Nat) ((zs.length) : Nat) w4 hm4 (by omega) (by omega)).mono ?_
          rintro e w5 ⟨rfl, hm5, kw5⟩
          rw [hmay3, show errB true = 0 from rfl]
          have e5 : mvB X zs.length ((0) : Nat) ((zs.length) : Nat) = moved X zs.length (0) (zs.length) := by simp only [mvB, hmay3, if_true, Int.toNat_natCast]
          rw [e5] at hm5
          clear e5 hmay3
          have tb := there_back zs (zs.length) (0) bigv (by omega) (moved X zs.length (0) (zs.length)) (by rw [← HX.out])
          generalize moved X zs.length (0) (zs.length) = Y at hm5 tb
          have K5 := K4.trans kw5
          have kw : Kept [] w w5 := kw1.chain K5 (by simp) (by simp; omega)
          obtain ⟨tb1, tb2⟩ := tb
          have T1 := Lib.hid tb1
          have T2 := Lib.hid tb2
          clear tb1 tb2
          go_wp2_with fail
          refine (all_any mb mg _ w5 hm5).mono ?_
          rintro e w6 ⟨r, rfl, hr, rA, kw6⟩
          rw [T1.out]
          go_wp2_with fail
          refine (fixed_any w6).mono ?_
          rintro e w7 ⟨rfl, kw7⟩
          have rA7 := rA.kept kw7 (by simp)
          have kf := (kw.trans kw6).trans kw7
          have sB := hs.kept kf
          have sA : Sl w7 .u64 (some ⟨r, 0, none⟩) zs := by
            have := Sl.of_row rA7
            rw [← T2.out]
            exact this.take zs.length
          go_wp2_with fail
          refine (refSame_any (some ⟨r, 0, none⟩) a0 _ _ zs zs w7 sA sB (by omega)).mono ?_
          rintro e w8 ⟨rfl, kw8⟩
          rw [show decide (zs = zs) = true from by simp]
          go_wp2
          go_ret
          exact ⟨rfl, kf.trans kw8⟩
      · by_cases h2 : (zs.length : Int) - f < n
        · go_wp2_with fail
          obtain ⟨k, hk⟩ : ∃ k : Nat, (zs.length : Int) - f = k := ⟨zs.length - f, by omega⟩
          have hfk : f + k ≤ zs.length := by omega
          rw [hk]
          clear hk h2
          have hmay1 : mayMove (sofar zs (2 * zs.length) zs.length).length ((f) : Nat) ((k) : Nat) zs.length = true := by rw [HSL.out]; simp [mayMove, holdsB]; omega
          refine (move_any mb mg _ ((f) : Nat) ((k) : Nat) zs.length wr hmr (by omega) (by omega)).mono ?_
          rintro e w3 ⟨rfl, hm3, kw3⟩
          rw [hmay1, show errB true = 0 from rfl]
          have e3 : mvB (sofar zs (2 * zs.length) zs.length) ((f) : Nat) ((k) : Nat) zs.length = moved (sofar zs (2 * zs.length) zs.length) (f) (k) zs.length := by simp only [mvB, hmay1, if_true, Int.toNat_natCast]
          rw [e3] at hm3
          clear e3 hmay1
          have l3 : (moved (sofar zs (2 * zs.length) zs.length) (f) (k) zs.length).length = 2 * zs.length := by rw [moved_length, HSL.out]
          have L3 := Lib.hid l3
          clear l3
          have K3 := hkr.trans kw3
          go_wp2_with fail
          have hmay2 : holdsB (moved (sofar zs (2 * zs.length) zs.length) (f) (k) zs.length).length ((f) : Nat) ((k) : Nat) = true := by rw [L3.out]; simp [holdsB]; omega
          refine (fill_any mb mg _ ((f) : Nat) ((k) : Nat) 9223372036854775808 w3 hm3 (by omega)).mono ?_
          rintro e w4 ⟨rfl, hm4, kw4⟩
          rw [hmay2, show errB true = 0 from rfl]
          generalize hv : (9223372036854775808 : Int) = bigv at hm4
          clear hv
          have e4 : flB (moved (sofar zs (2 * zs.length) zs.length) (f) (k) zs.length) ((f) : Nat) ((k) : Nat) bigv = setAll (moved (sofar zs (2 * zs.length) zs.length) (f) (k) zs.length) bigv (handed (fun i => (((f) : Nat) : Int) + (i : Nat)) (k)) := by simp only [flB, hmay2, if_true, Int.toNat_natCast]
          rw [e4] at hm4
          clear e4 hmay2
          have K4 := K3.trans kw4
          generalize hX : setAll (moved (sofar zs (2 * zs.length) zs.length) (f) (k) zs.length) bigv (handed (fun i => (((f) : Nat) : Int) + (i : Nat)) (k)) = X at hm4
          have lX : X.length = 2 * zs.length := by rw [← hX, setAll_length, L3.out]
          have HX := Lib.hid hX
          have LX := Lib.hid lX
          clear hX lX
          go_wp2_with fail
          have hmay3 : mayMove X.length zs.length ((k) : Nat) ((f) : Nat) = true := by rw [LX.out]; simp [mayMove, holdsB]; omega
          refine (move_any mb mg _ zs.length ((k) : Nat) ((f) : Nat) w4 hm4 (by omega) (by omega)).mono ?_
          rintro e w5 ⟨rfl, hm5, kw5⟩
          rw [hmay3, show errB true = 0 from rfl]
          have e5 : mvB X zs.length ((k) : Nat) ((f) : Nat) = moved X zs.length (k) (f) := by simp only [mvB, hmay3, if_true, Int.toNat_natCast]
          rw [e5] at hm5
          clear e5 hmay3
          have tb := there_back zs (f) (k) bigv (by omega) (moved X zs.length (k) (f)) (by rw [← HX.out])
          generalize moved X zs.length (k) (f) = Y at hm5 tb
          have K5 := K4.trans kw5
          have kw : Kept [] w w5 := kw1.chain K5 (by simp) (by simp; omega)
          obtain ⟨tb1, tb2⟩ := tb
          have T1 := Lib.hid tb1
          have T2 := Lib.hid tb2
          clear tb1 tb2
          go_wp2_with fail
          refine (all_any mb mg _ w5 hm5).mono ?_
          rintro e w6 ⟨r, rfl, hr, rA, kw6⟩
          rw [T1.out]
          go_wp2_with fail
          refine (fixed_any w6).mono ?_
          rintro e w7 ⟨rfl, kw7⟩
          have rA7 := rA.kept kw7 (by simp)
          have kf := (kw.trans kw6).trans kw7
          have sB := hs.kept kf
          have sA : Sl w7 .u64 (some ⟨r, 0, none⟩) zs := by
            have := Sl.of_row rA7
            rw [← T2.out]
            exact this.take zs.length
          go_wp2_with fail
          refine (refSame_any (some ⟨r, 0, none⟩) a0 _ _ zs zs w7 sA sB (by omega)).mono ?_
          rintro e w8 ⟨rfl, kw8⟩
          rw [show decide (zs = zs) = true from by simp]
          go_wp2
          go_ret
          exact ⟨rfl, kf.trans kw8⟩
        · have hfk : f + n ≤ zs.length := by omega
          go_wp2_with fail
          have hmay1 : mayMove (sofar zs (2 * zs.length) zs.length).length ((f) : Nat) ((n) : Nat) zs.length = true := by rw [HSL.out]; simp [mayMove, holdsB]; omega
          refine (move_any mb mg _ ((f) : Nat) ((n) : Nat) zs.length wr hmr (by omega) (by omega)).mono ?_
          rintro e w3 ⟨rfl, hm3, kw3⟩
          rw [hmay1, show errB true = 0 from rfl]
          have e3 : mvB (sofar zs (2 * zs.length) zs.length) ((f) : Nat) ((n) : Nat) zs.length = moved (sofar zs (2 * zs.length) zs.length) (f) (n) zs.length := by simp only [mvB, hmay1, if_true, Int.toNat_natCast]
          rw [e3] at hm3
          clear e3 hmay1
          have l3 : (moved (sofar zs (2 * zs.length) zs.length) (f) (n) zs.length).length = 2 * zs.length := by rw [moved_length, HSL.out]
          have L3 := Lib.hid l3
          clear l3
          have K3 := hkr.trans kw3
          go_wp2_with fail
          have hmay2 : holdsB (moved (sofar zs (2 * zs.length) zs.length) (f) (n) zs.length).length ((f) : Nat) ((n) : Nat) = true := by rw [L3.out]; simp [holdsB]; omega
          refine (fill_any mb mg _ ((f) : Nat) ((n) : Nat) 9223372036854775808 w3 hm3 (by omega)).mono ?_
          rintro e w4 ⟨rfl, hm4, kw4⟩
          rw [hmay2, show errB true = 0 from rfl]
          generalize hv : (9223372036854775808 : Int) = bigv at hm4
          clear hv
          have e4 : flB (moved (sofar zs (2 * zs.length) zs.length) (f) (n) zs.length) ((f) : Nat) ((n) : Nat) bigv = setAll (moved (sofar zs (2 * zs.length) zs.length) (f) (n) zs.length) bigv (handed (fun i => (((f) : Nat) : Int) + (i : Nat)) (n)) := by simp only [flB, hmay2, if_true, Int.toNat_natCast]
          rw [e4] at hm4
          clear e4 hmay2
          have K4 := K3.trans kw4
          generalize hX : setAll (moved (sofar zs (2 * zs.length) zs.length) (f) (n) zs.length) bigv (handed (fun i => (((f) : Nat) : Int) + (i : Nat)) (n)) = X at hm4
          have lX : X.length = 2 * zs.length := by rw [← hX, setAll_length, L3.out]
          have HX := Lib.hid hX
          have LX := Lib.hid lX
          clear hX lX
          go_wp2_with fail
          have hmay3 : mayMove X.length zs.length ((n) : Nat) ((f) : Nat) = true := by rw [LX.out]; simp [mayMove, holdsB]; omega
          refine (move_any mb mg _ zs.length ((n) : Nat) ((f) : Nat) w4 hm4 (by omega) (by omega)).mono ?_
          rintro e w5 ⟨rfl, hm5, kw5⟩
          rw [hmay3, show errB true = 0 from rfl]
          have e5 : mvB X zs.length ((n) : Nat) ((f) : Nat) = moved X zs.length (n) (f) := by simp only [mvB, hmay3, if_true, Int.toNat_natCast]
          rw [e5] at hm5
          clear e5 hmay3
          have tb := there_back zs (f) (n) bigv (by omega) (moved X zs.length (n) (f)) (by rw [← HX.out])
          generalize moved X zs.length (n) (f) = Y at hm5 tb
          have K5 := K4.trans kw5
          have kw : Kept [] w w5 := kw1.chain K5 (by simp) (by simp; omega)
          obtain ⟨tb1, tb2⟩ := tb
          have T1 := Lib.hid tb1
          have T2 := Lib.hid tb2
          clear tb1 tb2
          go_wp2_with fail
          refine (all_any mb mg _ w5 hm5).mono ?_
          rintro e w6 ⟨r, rfl, hr, rA, kw6⟩
          rw [T1.out]
          go_wp2_with fail
          refine (fixed_any w6).mono ?_
          rintro e w7 ⟨rfl, kw7⟩
          have rA7 := rA.kept kw7 (by simp)
          have kf := (kw.trans kw6).trans kw7
          have sB := hs.kept kf
          have sA : Sl w7 .u64 (some ⟨r, 0, none⟩) zs := by
            have := Sl.of_row rA7
            rw [← T2.out]
            exact this.take zs.length
          go_wp2_with fail
          refine (refSame_any (some ⟨r, 0, none⟩) a0 _ _ zs zs w7 sA sB (by omega)).mono ?_
          rintro e w8 ⟨rfl, kw8⟩
          rw [show decide (zs = zs) = true from by simp]
          go_wp2
          go_ret
          exact ⟨rfl, kf.trans kw8⟩
end Go.Proofs.Ytkdojplbkhdgdaa
