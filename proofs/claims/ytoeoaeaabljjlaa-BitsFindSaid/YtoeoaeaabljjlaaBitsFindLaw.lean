/- The law BitsFind: its walk. -/
import Derived.Test.YtoeoaeaabljjlaaBitsFixed
namespace Go.Proofs.Ytoeoaeaabljjlaa
open Go.RowKit

set_option maxRecDepth 100000 in
set_option maxHeartbeats 2000000 in
theorem findLaw_big (n k : Int) (a0 : Option Addr) (len cap : Nat) (w : World) (hl : 60 < len) (hm : len ≤ maxLen) :
    Calls Try.prog 4 #[.int .u16 n, .slice a0 len cap, .int .u8 k] w (FixedPost w) := by
  unfold maxLen at hm
  go_enter Try.func4, Try.ntmps4
  go_wp2_with fail
  refine (fixed02_any _).mono ?_
  rintro e w5 ⟨rfl, kw5⟩
  go_wp2
  go_ret
  exact ⟨rfl, kw5⟩

set_option maxRecDepth 100000 in
set_option maxHeartbeats 4000000 in
theorem findLaw_any (n k : Int) (a0 : Option Addr) (cap : Nat) (l : List ActB) (w : World) (hs : SlActs w a0 l) (hl : l.length ≤ 60) (hn0 : 0 ≤ n) (hn1 : n < 65536) (hk0 : 0 ≤ k) (hk1 : k < 256) (hb : ∀ x ∈ l, x.a ≤ 9223372036854775807) :
    Calls Try.prog 4 #[.int .u16 n, .slice a0 l.length cap, .int .u8 k] w (FixedPost w) := by
  go_enter Try.func4, Try.ntmps4
  go_wp2_with fail
  obtain ⟨m, hm⟩ : ∃ m : Nat, n % 300 = (m : Int) := ⟨(n % 300).toNat, by omega⟩
  have hm300 : m < 300 := by omega
  rw [hm]
  clear hm
  refine (bitsNew_yes m w (by omega)).mono ?_
  rintro e w1 ⟨mb, mg, rfl, hmb, hmg, hm1, kw1⟩
  go_wp2_with fail
  go_loopw [34] (fun i wr => ∃ (j : Nat) (xs : List Bool), j ≤ l.length ∧ i = .int .i64 j ∧ xs.length = m ∧ IsRow wr mb 0 mg xs ∧ Kept [mg] w1 wr) (fun i _ => l.length - (intOf i).toNat)
  case atStart => exact ⟨0, _, Nat.zero_le _, rfl, List.length_replicate, hm1, Kept.refl _ _⟩
  case round =>
    obtain ⟨j, xs, hj, rfl, hlen, hmr, hkr⟩ := hrel
    have kWr : Kept [] w wr := kw1.chain hkr (by simp) (by simp; omega)
    have HL := Lib.hid hlen
    clear hlen
    by_cases hlt : j < l.length
    · obtain ⟨b, off, x, rfl, hx, hbl, c0, c1, c2⟩ := (hs.kept kWr).cell hlt
      have hbx := hb x (List.mem_of_getElem? hx)
      have kA := (Kept.refl [] wr).alloc (.cells #[.int .i64 x.a, .int .i64 x.c, .bool x.on] 34)
      have hmA := hmr.kept kA (by simp) (by simp)
      go_wp2_with fail
      generalize wr.alloc (.cells #[.int .i64 x.a, .int .i64 x.c, .bool x.on] 34) = wa at kA hmA ⊢
      refine (bitsMark_any mb 0 mg xs x.a x.c x.on wa hmA hbx).mono ?_
      rintro e w3 ⟨rfl, hm3, kw3⟩
      go_wp2
      go_roundw
      case rel => exact ⟨j + 1, _, by omega, by go_num, by rw [markB_length]; exact HL.out, hm3, (hkr.trans kA.any).trans kw3⟩
      case measure => simp [intOf]; omega
    · obtain ⟨K, hK⟩ : ∃ K : Nat, 1 + k = (K : Int) := ⟨(1 + k).toNat, by omega⟩
      have hK1 : 1 ≤ K := by omega
      have hK2 : K ≤ 256 := by omega
      have hmb' : mb ≠ mg := hmr.ne
      go_wp2_with fail
      clear hK
      refine (bitsFind_any mb 0 mg xs K wr hmr (by omega)).mono ?_
      rintro e w3 ⟨rfl, rfl⟩
      cases hf : findB xs K with
      | some A =>
        rw [optV_some]
        obtain ⟨hA, hwh, hbad⟩ := (findB_some (by omega)).1 hf
        have HB := Lib.hid hbad
        have HW := Lib.hid hwh
        have hAl : A ≤ 300 := by have := HL.out; omega
        clear hbad hwh hf
        go_wp2_with fail
        refine (bitsWhole_any mb 0 mg xs A K false wr hmr (by omega)).mono ?_
        rintro e w4 ⟨rfl, kw4⟩
        rw [HW.out]
        go_wp2_with fail
        go_loopw [65] (fun i wq => ∃ q : Nat, q ≤ A ∧ i = .int .i64 q ∧ Kept [] wr wq) (fun i _ => A - (intOf i).toNat)
        case atStart => exact ⟨0, Nat.zero_le _, rfl, kw4⟩
        case round =>
          obtain ⟨q, hq, rfl, hkq⟩ := hrel
          by_cases hqA : q < A
          · go_wp2_with fail
            refine (bitsWhole_any mb 0 mg xs q K false _ (hmr.kept hkq (by simp) (by simp)) (by omega)).mono ?_
            rintro e w6 ⟨rfl, kw6⟩
            rw [HB.out q hqA]
            go_wp2
            go_roundw
            case rel => exact ⟨q + 1, by omega, by go_num, hkq.trans kw6⟩
            case measure => simp [intOf]; omega
          · go_wp2_with fail
            refine (fixed02_any _).mono ?_
            rintro e w5 ⟨rfl, kw5⟩
            go_wp2
            go_ret
            exact ⟨rfl, (kWr.trans hkq).trans kw5⟩
      | none =>
        rw [optV_none]
        have hbad := (findB_none (by omega)).1 hf
        have HB := Lib.hid hbad
        clear hbad hf
        have hml : xs.length ≤ 300 := by have := HL.out; omega
        go_wp2_with fail
        refine (bitsLen_any mb 0 mg xs wr hmr).mono ?_
        rintro e w4 ⟨rfl, rfl⟩
        go_wp2_with fail
        go_loopw [65] (fun i wq => ∃ q : Nat, q ≤ xs.length ∧ i = .int .i64 q ∧ Kept [] wr wq) (fun i _ => xs.length - (intOf i).toNat)
        case atStart => exact ⟨0, Nat.zero_le _, rfl, Kept.refl _ _⟩
        case round =>
          obtain ⟨q, hq, rfl, hkq⟩ := hrel
          by_cases hqA : q < xs.length
          · go_wp2_with fail
            refine (bitsWhole_any mb 0 mg xs q K false _ (hmr.kept hkq (by simp) (by simp)) (by omega)).mono ?_
            rintro e w6 ⟨rfl, kw6⟩
            rw [HB.out q hqA]
            go_wp2
            go_roundw
            case rel => exact ⟨q + 1, by omega, by go_num, hkq.trans kw6⟩
            case measure => simp [intOf]; omega
          · go_wp2_with fail
            refine (fixed02_any _).mono ?_
            rintro e w5 ⟨rfl, kw5⟩
            go_wp2
            go_ret
            exact ⟨rfl, (kWr.trans hkq).trans kw5⟩
end Go.Proofs.Ytoeoaeaabljjlaa
