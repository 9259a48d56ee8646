/- The law BitsNext: its walk. -/
import Derived.Test.YtoeoaeaabljjlaaBitsFixed
import Derived.Test.YtoeoaeaabljjlaaBitsPlain2
namespace Go.Proofs.Ytoeoaeaabljjlaa
open Go.RowKit

set_option maxRecDepth 100000 in
set_option maxHeartbeats 2000000 in
theorem nextLaw_big (n : Int) (a0 : Option Addr) (len cap : Nat) (w : World) (hl : 60 < len) (hm : len ≤ maxLen) :
    Calls Try.prog 5 #[.int .u16 n, .slice a0 len cap] w (FixedPost w) := by
  unfold maxLen at hm
  go_enter Try.func5, Try.ntmps5
  go_wp2_with fail
  refine (fixed02_any _).mono ?_
  rintro e w5 ⟨rfl, kw5⟩
  go_wp2
  go_ret
  exact ⟨rfl, kw5⟩

set_option maxRecDepth 100000 in
set_option maxHeartbeats 4000000 in
theorem nextLaw_any (n : Int) (a0 : Option Addr) (cap : Nat) (l : List ActB) (w : World) (hs : SlActs w a0 l) (hl : l.length ≤ 60) (hn0 : 0 ≤ n) (hn1 : n < 65536) (hb : ∀ x ∈ l, x.a ≤ 9223372036854775807) :
    Calls Try.prog 5 #[.int .u16 n, .slice a0 l.length cap] w (FixedPost w) := by
  go_enter Try.func5, Try.ntmps5
  go_wp2_with fail
  obtain ⟨m, hm⟩ : ∃ m : Nat, n % 300 = (m : Int) := ⟨(n % 300).toNat, by omega⟩
  have hm300 : m < 300 := by omega
  rw [hm]
  clear hm
  refine (bitsNew_yes m w (by omega)).mono ?_
  rintro e w1 ⟨mb, mg, rfl, hmb, hmg, hm1, kw1⟩
  go_wp2_with fail
  go_loopw [32] (fun i wr => ∃ (j : Nat) (xs : List Bool), j ≤ l.length ∧ i = .int .i64 j ∧ xs.length = m ∧ IsRow wr mb 0 mg xs ∧ Kept [mg] w1 wr) (fun i _ => l.length - (intOf i).toNat)
  case atStart => exact ⟨0, _, Nat.zero_le _, rfl, List.length_replicate, hm1, Kept.refl _ _⟩
  case round =>
    obtain ⟨j, xs, hj, rfl, hlen, hmr, hkr⟩ := hrel
    have kWr : Kept [] w wr := kw1.chain hkr (by simp) (by simp; omega)
    have HL := Lib.hid hlen
    clear hlen
    by_cases hlt : j < l.length
    · obtain ⟨b, off, x, rfl, hx, hbl, c0, c1, c2⟩ := (hs.kept kWr).cell hlt
      have hbx := hb x (List.mem_of_getElem? hx)
      have kA := (Kept.refl [] wr).alloc (.cells #[.int .i64 x.a, .int .i64 x.c, .bool x.on] 34)
      have hmA := hmr.kept kA (by simp) (by simp)
      go_wp2_with fail
      generalize wr.alloc (.cells #[.int .i64 x.a, .int .i64 x.c, .bool x.on] 34) = wa at kA hmA ⊢
      refine (bitsMark_any mb 0 mg xs x.a x.c x.on wa hmA hbx).mono ?_
      rintro e w3 ⟨rfl, hm3, kw3⟩
      go_wp2
      go_roundw
      case rel => exact ⟨j + 1, _, by omega, by go_num, by rw [markB_length]; exact HL.out, hm3, (hkr.trans kA.any).trans kw3⟩
      case measure => simp [intOf]; omega
    · have hml : xs.length ≤ 300 := by have := HL.out; omega
      go_wp2_with fail
      go_loopw [9, 10] (fun mt f wq => ∃ F M : Nat, F ≤ xs.length ∧ M ≤ F ∧ mt = .int .i64 M ∧ f = .int .i64 F ∧ Hid (M = countB (xs.take F)) ∧ wr = wq) (fun _ f _ => xs.length + 1 - (intOf f).toNat)
      case atStart => exact ⟨0, 0, Nat.zero_le _, Nat.le_refl _, rfl, rfl, by simp [Hid, countB], rfl⟩
      case round =>
        obtain ⟨F, M, hF, hM, rfl, rfl, HM, rfl⟩ := hrel
        go_wp2_with fail
        refine (bitsNext_any mb 0 mg xs F wr hmr (by omega)).mono ?_
        rintro e w4 ⟨rfl, rfl⟩
        cases hf : nextB xs F with
        | none =>
          rw [optV_none]
          have hno := nextB_none.1 hf
          have hc : M = countB xs := by
            rw [HM.out, ← countB_gap xs F xs.length hF (Nat.le_refl _) (fun j h1 h2 => hno j h2 (by omega)), List.take_length]
          have HC := Lib.hid hc
          clear hno hf hc
          go_wp2_with fail
          refine (fixed02_any _).mono ?_
          rintro e w5 ⟨rfl, kw5⟩
          go_wp2_with fail
          refine (bitsCount_any mb 0 mg xs w5 (hmr.kept kw5 (by simp) (by simp))).mono ?_
          rintro e w6 ⟨rfl, rfl⟩
          rw [← HC.out]
          go_wp2
          go_ret
          exact ⟨rfl, kWr.trans kw5⟩
        | some A =>
          rw [optV_some]
          obtain ⟨hA, ⟨hFA, hv⟩, hno⟩ := nextB_some.1 hf
          have hs2 := countB_take_succ xs A hA
          rw [countB_gap xs F A (by omega) (by omega) (fun j h1 h2 => hno j h2 (by omega)), ← HM.out, hv] at hs2
          have HS := Lib.hid hs2
          have HV := Lib.hid hv
          clear hs2 hv hno hf
          have t1 : decide ((A : Int) < F) = false := by simp; omega
          have t2 : decide ((xs.length : Int) ≤ A) = false := by simp; omega
          have t3 : decide (xs.length ≤ A) = false := by simp; omega
          have t4 : decide (A < F) = false := by simp; omega
          go_wp2_with fail
          refine (bitsHas_any mb 0 mg xs A wr hmr).mono ?_
          rintro e w6 ⟨rfl, rfl⟩
          rw [show hasM xs (A : Int) = true from by simp [hasM, HV.out]]
          go_wp2_with fail
          refine (bitsLen_any mb 0 mg xs wr hmr).mono ?_
          rintro e w6 ⟨rfl, rfl⟩
          go_wp2
          go_roundw
          case rel => exact ⟨A + 1, M + 1, by omega, by omega, by go_num, by go_num, HS.out.symm, trivial⟩
          case measure => simp [intOf]; omega
end Go.Proofs.Ytoeoaeaabljjlaa
