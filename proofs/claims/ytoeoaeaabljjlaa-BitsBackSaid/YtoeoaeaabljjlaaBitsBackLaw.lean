/- The law BitsBack: its walk. -/
import Derived.Test.YtoeoaeaabljjlaaBitsFixed
import Derived.Test.YtoeoaeaabljjlaaBitsPlain2
namespace Go.Proofs.Ytoeoaeaabljjlaa
open Go.RowKit

set_option maxRecDepth 100000 in
set_option maxHeartbeats 2000000 in
theorem backLaw_big (n a c : Int) (a0 : Option Addr) (len cap : Nat) (w : World) (hl : 60 < len) (hm : len ≤ maxLen) :
    Calls Try.prog 6 #[.int .u16 n, .slice a0 len cap, .agg #[.int .i64 a, .int .i64 c]] w (FixedPost w) := by
  unfold maxLen at hm
  go_enter Try.func6, Try.ntmps6
  go_wp2_with fail
  refine (fixed02_any _).mono ?_
  rintro e w5 ⟨rfl, kw5⟩
  go_wp2
  go_ret
  exact ⟨rfl, ((Kept.refl [] w).alloc _).trans kw5⟩

set_option maxRecDepth 100000 in
set_option maxHeartbeats 8000000 in
theorem backLaw_any (n a c : Int) (a0 : Option Addr) (cap : Nat) (l : List ActB) (w : World) (hs : SlActs w a0 l) (hl : l.length ≤ 60) (hn0 : 0 ≤ n) (hn1 : n < 65536) (ha : a ≤ 9223372036854775807) (hb : ∀ x ∈ l, x.a ≤ 9223372036854775807) :
    Calls Try.prog 6 #[.int .u16 n, .slice a0 l.length cap, .agg #[.int .i64 a, .int .i64 c]] w (FixedPost w) := by
  have rR := Row.new w 24 [.int .i64 a, .int .i64 c]
  have kW := (Kept.refl [] w).alloc (.cells #[.int .i64 a, .int .i64 c] 24)
  go_enter Try.func6, Try.ntmps6
  go_wp2_with fail
  generalize w.alloc (.cells #[.int .i64 a, .int .i64 c] 24) = W at rR kW ⊢
  obtain ⟨m, hm⟩ : ∃ m : Nat, n % 300 = (m : Int) := ⟨(n % 300).toNat, by omega⟩
  have hm300 : m < 300 := by omega
  rw [hm]
  clear hm
  refine (bitsNew_yes m W (by omega)).mono ?_
  rintro e w1 ⟨mb, mg, rfl, hmb, hmg, hm1, kw1⟩
  go_wp2_with fail
  go_loopw [35] (fun i wr => ∃ (j : Nat) (xs : List Bool), j ≤ l.length ∧ i = .int .i64 j ∧ xs.length = m ∧ IsRow wr mb 0 mg xs ∧ Kept [mg] w1 wr) (fun i _ => l.length - (intOf i).toNat)
  case atStart => exact ⟨0, _, Nat.zero_le _, rfl, List.length_replicate, hm1, Kept.refl _ _⟩
  case round =>
    obtain ⟨j, xs, hj, rfl, hlen, hmr, hkr⟩ := hrel
    have kWr : Kept [] w wr := (kW.trans kw1).chain hkr (by simp) (by have := kW.size; simp; omega)
    have HL := Lib.hid hlen
    clear hlen
    by_cases hlt : j < l.length
    · obtain ⟨b, off, x, rfl, hx, hbl, c0, c1, c2⟩ := (hs.kept kWr).cell hlt
      have hbx := hb x (List.mem_of_getElem? hx)
      have kA := (Kept.refl [] wr).alloc (.cells #[.int .i64 x.a, .int .i64 x.c, .bool x.on] 34)
      have hmA := hmr.kept kA (by simp) (by simp)
      go_wp2_with fail
      generalize wr.alloc (.cells #[.int .i64 x.a, .int .i64 x.c, .bool x.on] 34) = wa at kA hmA ⊢
      refine (bitsMark_any mb 0 mg xs x.a x.c x.on wa hmA hbx).mono ?_
      rintro e w3 ⟨rfl, hm3, kw3⟩
      go_wp2
      go_roundw
      case rel => exact ⟨j + 1, _, by omega, by go_num, by rw [markB_length]; exact HL.out, hm3, (hkr.trans kA.any).trans kw3⟩
      case measure => simp [intOf]; omega
    · have hml : xs.length ≤ 300 := by have := HL.out; omega
      have hWz := kW.size
      have hRz := rR.lt
      have rRr := (rR.kept kw1 (by simp)).kept hkr (by simp; omega)
      have cR0 : wr.cell? ⟨w.heap.size, 0, none⟩ = some (.int .i64 a) := by simpa using rRr.cell 0
      have cR1 : wr.cell? ⟨w.heap.size, 1, none⟩ = some (.int .i64 c) := by simpa using rRr.cell 1
      go_wp2_with fail
      refine (bitsWhole_any mb 0 mg xs a c false wr hmr ha).mono ?_
      rintro e w3 ⟨rfl, kw3⟩
      have rR3 := rRr.kept kw3 (by simp)
      have cR0 : w3.cell? ⟨w.heap.size, 0, none⟩ = some (.int .i64 a) := by simpa using rR3.cell 0
      have cR1 : w3.cell? ⟨w.heap.size, 1, none⟩ = some (.int .i64 c) := by simpa using rR3.cell 1
      have hm3 := hmr.kept kw3 (by simp) (by simp)
      have kW3 := kWr.trans kw3
      cases hwh : wholeB xs a c false with
      | false =>
        go_wp2_with fail
        refine (fixed02_any _).mono ?_
        rintro e w5 ⟨rfl, kw5⟩
        go_wp2
        go_ret
        exact ⟨rfl, kW3.trans kw5⟩
      | true =>
        obtain ⟨⟨d0, d1, d2⟩, hall⟩ := (wholeB_iff _ _ _ _).1 hwh
        obtain ⟨A, rfl⟩ := Int.eq_ofNat_of_zero_le d0
        obtain ⟨N, rfl⟩ := Int.eq_ofNat_of_zero_le d1
        have hall' : ∀ i, i < N → mk xs (A + i) = false := by simpa using hall
        have hho : holdsB xs.length A N = true := (holdsB_iff _ _ _).2 (by omega)
        have hm1' : markB xs A N true = setFrom xs A true N := by simp [markB, hho]
        have hcnt : countB (setFrom xs A true N) = countB xs + N := countB_setFrom xs A N (by omega) hall'
        have hbk : markB (setFrom xs A true N) A N false = xs := by
          unfold markB
          rw [setFrom_length, hho]
          simpa using setFrom_back xs A N (by omega) hall'
        have hwt : wholeB (setFrom xs A true N) A N true = true := by
          refine wholeB_true (by rw [setFrom_length]; exact hho) fun i hi => ?_
          rw [setFrom_mk _ _ _ _ (by omega), if_pos (by omega)]
        have hsl := setFrom_length xs A true N
        have hcl := countB_le xs
        have HO := Lib.hid hho
        have H1 := Lib.hid hm1'
        have HC := Lib.hid hcnt
        have HBK := Lib.hid hbk
        have HWT := Lib.hid hwt
        have HWH := Lib.hid hwh
        have HSL := Lib.hid hsl
        clear hho hm1' hcnt hbk hwt hsl hall hall' hwh
        generalize hCC : countB xs = C at hcl
        have HCC := Lib.hid hCC
        clear hCC
        have hC300 : C ≤ 300 := by omega
        go_wp2_with fail
        refine (bitsCount_any mb 0 mg xs w3 hm3).mono ?_
        rintro e w4 ⟨rfl, rfl⟩
        rw [HCC.out]
        go_wp2_with fail
        refine (bitsMark_any mb 0 mg xs A N true w3 hm3 (by omega)).mono ?_
        rintro e w4 ⟨rfl, hm4, kw4⟩
        rw [HO.out, show errB true = 0 from rfl]
        rw [H1.out] at hm4
        have rR4 := rR3.kept kw4 (by simp; omega)
        have cR0 : w4.cell? ⟨w.heap.size, 0, none⟩ = some (.int .i64 A) := by simpa using rR4.cell 0
        have cR1 : w4.cell? ⟨w.heap.size, 1, none⟩ = some (.int .i64 N) := by simpa using rR4.cell 1
        go_wp2_with fail
        refine (bitsCount_any mb 0 mg _ w4 hm4).mono ?_
        rintro e w5 ⟨rfl, rfl⟩
        rw [HC.out, HCC.out]
        go_wp2_with fail
        refine (bitsWhole_any mb 0 mg _ A N true w4 hm4 (by omega)).mono ?_
        rintro e w5 ⟨rfl, kw5⟩
        rw [HWT.out]
        have hm5 := hm4.kept kw5 (by simp) (by simp)
        have rR5 := rR4.kept kw5 (by simp)
        have cR0 : w5.cell? ⟨w.heap.size, 0, none⟩ = some (.int .i64 A) := by simpa using rR5.cell 0
        have cR1 : w5.cell? ⟨w.heap.size, 1, none⟩ = some (.int .i64 N) := by simpa using rR5.cell 1
        go_wp2_with fail
        refine (bitsMark_any mb 0 mg _ A N false w5 hm5 (by omega)).mono ?_
        rintro e w6 ⟨rfl, hm6, kw6⟩
        rw [HSL.out, HO.out, show errB true = 0 from rfl]
        rw [HBK.out] at hm6
        have rR6 := rR5.kept kw6 (by simp; omega)
        go_wp2_with fail
        refine (fixed02_any _).mono ?_
        rintro e w7 ⟨rfl, kw7⟩
        have hm7 := hm6.kept kw7 (by simp) (by simp)
        have rR7 := rR6.kept kw7 (by simp)
        have cR0 : w7.cell? ⟨w.heap.size, 0, none⟩ = some (.int .i64 A) := by simpa using rR7.cell 0
        have cR1 : w7.cell? ⟨w.heap.size, 1, none⟩ = some (.int .i64 N) := by simpa using rR7.cell 1
        have kfin : Kept [] w w7 := (kW3.chain (U := []) (((kw4.trans kw5.any).trans kw6).trans kw7.any) (by simp) (by simp; omega))
        have te : ((C + N : Nat) : Int) = (C : Int) + N := by omega
        go_wp2_with fail
        refine (bitsCount_any mb 0 mg _ w7 hm7).mono ?_
        rintro e w8 ⟨rfl, rfl⟩
        rw [HCC.out]
        go_wp2_with fail
        refine (bitsWhole_any mb 0 mg _ A N false w7 hm7 (by omega)).mono ?_
        rintro e w8 ⟨rfl, kw8⟩
        rw [HWH.out]
        go_wp2
        go_ret
        exact ⟨rfl, kfin.trans kw8⟩
end Go.Proofs.Ytoeoaeaabljjlaa
