/- The law StartsBefore: its walk. -/
import Derived.Test.YtkfdkmdjdghdkaaBitsFixed
import Derived.Test.YtkfdkmdjdghdkaaStartsFixed
import Derived.Test.YtkfdkmdjdghdkaaStartsDrop
namespace Go.Proofs.Ytkfdkmdjdghdkaa
open Go.RowKit

set_option maxRecDepth 100000 in
set_option maxHeartbeats 2000000 in
theorem beforeLaw_big (n at_ : Int) (a0 : Option Addr) (len cap : Nat) (w : World) (hl : 60 < len) (hm : len ≤ maxLen) :
    Calls Try.prog 4 #[.int .u16 n, .slice a0 len cap, .int .i64 at_] w (FixedPost w) := by
  unfold maxLen at hm
  go_enter Try.func4, Try.ntmps4
  go_wp2_with fail
  refine (fixed09_any _).mono ?_
  rintro e w5 ⟨rfl, kw5⟩
  go_wp2
  go_ret
  exact ⟨rfl, kw5⟩

/-- Dropped, none of them begins there. -/
theorem inL_drop (xs : List Bool) (a c : Int) : inL (placesB (dropB xs a c)) a c = [] := by
  refine List.eq_nil_iff_forall_not_mem.2 fun x hx => ?_
  have h := inL_mem.1 hx
  have h2 := h.1
  rw [dropB_places, List.mem_filter] at h2
  have h3 : x ∈ inL (placesB xs) a c := inL_mem.2 ⟨h2.1, h.2⟩
  simp [h3] at h2

/-- What a Put meets. -/
theorem put_cases {xs : List Bool} (h0 : Zero0 xs) (a : Int) : (hasM xs a = true ∧ 1 ≤ a ∧ a < xs.length ∧ putE xs a = 6) ∨ (hasM xs a = false ∧ (a < 1 ∨ (xs.length : Int) ≤ a) ∧ putE xs a = 8) ∨ (hasM xs a = false ∧ 1 ≤ a ∧ a < xs.length ∧ putE xs a = 0 ∧ hasM (putB xs a) a = true) := by
  cases h : hasM xs a with
  | true =>
    have hb := hasM_lt h
    have h1 : 1 ≤ a := h0.pos (placesB_mem.2 h)
    refine .inl ⟨rfl, h1, hb.2, ?_⟩
    unfold putE
    rw [if_neg (by omega), if_pos h]
  | false =>
    by_cases hr : a < 1 ∨ (xs.length : Int) ≤ a
    · refine .inr (.inl ⟨rfl, hr, ?_⟩)
      unfold putE
      rw [if_pos hr]
    · have e : putE xs a = 0 := by
        unfold putE
        rw [if_neg hr, if_neg (by simp [h])]
      exact .inr (.inr ⟨rfl, by omega, by omega, e, by rw [putB_has e, if_pos rfl]⟩)

set_option maxRecDepth 100000 in
set_option maxHeartbeats 4000000 in
theorem beforeLaw_any (n at_ : Int) (a0 : Option Addr) (cap : Nat) (l : List ActB) (w : World) (hs : SlActs w a0 l) (hl : l.length ≤ 60) (hn0 : 0 ≤ n) (hn1 : n < 65536) (hat : -9223372036854775808 ≤ at_ ∧ at_ ≤ 9223372036854775807) (hb : ∀ x ∈ l, x.a ≤ 9223372036854775807) (hb2 : ∀ x ∈ l, -9223372036854775808 ≤ x.a) :
    Calls Try.prog 4 #[.int .u16 n, .slice a0 l.length cap, .int .i64 at_] w (FixedPost w) := by
  go_enter Try.func4, Try.ntmps4
  go_wp2_with fail
  obtain ⟨m, hm⟩ : ∃ m : Nat, n % 300 = (m : Int) := ⟨(n % 300).toNat, by omega⟩
  have hm300 : m < 300 := by omega
  rw [hm]
  clear hm
  have hcl : clampB (m : Int) = m := by unfold clampB; omega
  refine (startsNew_any m w).mono ?_
  rintro e w1 ⟨p, b, g, rfl, ⟨hp, hb', hg⟩, hS1, kw1⟩
  rw [hcl] at hS1
  have hZ0 : Zero0 (List.replicate m false) := Zero0.new m
  have HL0 : Hid ((List.replicate m false).length = m) := List.length_replicate
  generalize List.replicate m false = xs0 at hS1 hZ0 HL0
  clear hcl
  go_wp2_with fail
  go_loopw [30] (fun i wr => ∃ (j : Nat) (xs : List Bool), j ≤ l.length ∧ i = .int .i64 j ∧ Hid (xs.length = m) ∧ IsStarts wr p b g xs ∧ Zero0 xs ∧ Kept [g] w1 wr) (fun i _ => l.length - (intOf i).toNat)
  case atStart => exact ⟨0, xs0, Nat.zero_le _, rfl, HL0, hS1, hZ0, Kept.refl _ _⟩
  case round =>
    obtain ⟨j, xs, hj, rfl, HL, hSr, hZr, hkr⟩ := hrel
    have kWr : Kept [] w wr := kw1.chain hkr (by simp) (by simp; omega)
    obtain ⟨lp, lb, lg⟩ := hSr.lt
    by_cases hlt : j < l.length
    · obtain ⟨b', off, x, rfl, hx, hbl, c0, c1, c2⟩ := (hs.kept kWr).cell hlt
      have hbx := hb x (List.mem_of_getElem? hx)
      have hbx2 := hb2 x (List.mem_of_getElem? hx)
      have rB := Row.new wr 33 [.int .i64 x.a, .int .i64 x.c, .bool x.on]
      have kA := (Kept.refl [] wr).alloc (.cells #[.int .i64 x.a, .int .i64 x.c, .bool x.on] 33)
      have hSA := hSr.kept kA
      cases hon : x.on with
      | true =>
        rw [hon] at c2 rB kA hSA
        have hq := inL_len (placesB xs) x.a x.c
        have hpl := placesB_length xs
        have hxl : xs.length ≤ 16384 := hSr.le
        have HD0 : Hid ((inL (placesB (dropB xs x.a x.c)) x.a x.c).length = 0) := by show _ = _; rw [inL_drop]; rfl
        have hdl := dropB_length xs x.a x.c
        have hZd := hZr.drop x.a x.c
        go_wp2_with fail
        generalize wr.alloc (.cells #[.int .i64 x.a, .int .i64 x.c, .bool true] 33) = wa at rB kA hSA ⊢
        refine (startsIn_any p b g xs x.a x.c wa hSA hbx).mono ?_
        rintro e w3 ⟨A1, cp1, rfl, _, _, k3⟩
        have rB3 := rB.kept k3 (by simp)
        have hS3 := hSA.kept k3
        have d0 : w3.cell? ⟨wr.heap.size, 0, none⟩ = some (.int .i64 x.a) := by simpa using rB3.cell 0
        have d1 : w3.cell? ⟨wr.heap.size, 1, none⟩ = some (.int .i64 x.c) := by simpa using rB3.cell 1
        obtain ⟨q, hqq⟩ : ∃ q, (inL (placesB xs) x.a x.c).length = q := ⟨_, rfl⟩
        have HQ := Lib.hid hqq
        rw [hqq] at hq ⊢
        clear hqq
        go_wp2_with fail
        refine (startsDrop_any p b g xs x.a x.c w3 hS3 hbx).mono ?_
        rintro e w4 ⟨rfl, hS4, k4⟩
        rw [HQ.out]
        have rB4 := rB3.kept k4 (by simp; omega)
        have e0 : w4.cell? ⟨wr.heap.size, 0, none⟩ = some (.int .i64 x.a) := by simpa using rB4.cell 0
        have e1 : w4.cell? ⟨wr.heap.size, 1, none⟩ = some (.int .i64 x.c) := by simpa using rB4.cell 1
        go_wp2_with fail
        refine (startsIn_any p b g _ x.a x.c w4 hS4 hbx).mono ?_
        rintro e w5 ⟨A2, cp2, rfl, _, _, k5⟩
        rw [HD0.out]
        go_wp2
        go_roundw
        case rel => exact ⟨j + 1, _, by omega, by go_num, by show _ = _; rw [hdl]; exact HL.out, hS4.kept k5, hZd, ((hkr.trans kA.any).trans k3.any).trans (k4.trans k5.any)⟩
        case measure => simp [intOf]; omega
      | false =>
        rw [hon] at c2 rB kA hSA
        have hpl := putB_length xs x.a
        have hZp := hZr.put x.a
        have hxl : xs.length ≤ 16384 := hSr.le
        rcases put_cases hZr x.a with ⟨h1, h2, h3, h4⟩ | ⟨h1, h2, h4⟩ | ⟨h1, h2, h3, h4, h5⟩
        · have hwc : IntKind.u64.wrap x.a = x.a := by rw [IntKind.wrap_u64]; omega
          have ha0 : 0 ≤ x.a := by omega
          have H1 := Lib.hid h1
          have H4 := Lib.hid h4
          clear h1 h4
          go_wp2_with fail
          generalize wr.alloc (.cells #[.int .i64 x.a, .int .i64 x.c, .bool false] 33) = wa at rB kA hSA ⊢
          have d0 : wa.cell? ⟨wr.heap.size, 0, none⟩ = some (.int .i64 x.a) := by simpa using rB.cell 0
          refine (startsIs_any p b g xs x.a wa hSA ha0 (by omega)).mono ?_
          rintro e w3 ⟨rfl, hw3⟩
          subst hw3
          rw [H1.out]
          go_wp2_with fail
          refine (startsPut_any p b g xs x.a wa hSA hbx).mono ?_
          rintro e w4 ⟨rfl, hS4, k4⟩
          rw [H4.out]
          go_wp2
          go_roundw
          case rel => exact ⟨j + 1, _, by omega, by go_num, by show _ = _; rw [hpl]; exact HL.out, hS4, hZp, (hkr.trans kA.any).trans k4⟩
          case measure => simp [intOf]; omega
        · have H1 := Lib.hid h1
          have H4 := Lib.hid h4
          clear h1 h4
          by_cases ha0 : 0 ≤ x.a
          · have hwc : IntKind.u64.wrap x.a = x.a := by rw [IntKind.wrap_u64]; omega
            go_wp2_with fail
            generalize wr.alloc (.cells #[.int .i64 x.a, .int .i64 x.c, .bool false] 33) = wa at rB kA hSA ⊢
            have d0 : wa.cell? ⟨wr.heap.size, 0, none⟩ = some (.int .i64 x.a) := by simpa using rB.cell 0
            refine (startsIs_any p b g xs x.a wa hSA ha0 (by omega)).mono ?_
            rintro e w3 ⟨rfl, hw3⟩
            subst hw3
            rw [H1.out]
            go_wp2_with fail
            refine (startsPut_any p b g xs x.a wa hSA hbx).mono ?_
            rintro e w4 ⟨rfl, hS4, k4⟩
            rw [H4.out]
            go_wp2
            go_roundw
            case rel => exact ⟨j + 1, _, by omega, by go_num, by show _ = _; rw [hpl]; exact HL.out, hS4, hZp, (hkr.trans kA.any).trans k4⟩
            case measure => simp [intOf]; omega
          · have ha0' : decide (0 ≤ x.a) = false := by simpa using ha0
            go_wp2_with fail
            generalize wr.alloc (.cells #[.int .i64 x.a, .int .i64 x.c, .bool false] 33) = wa at rB kA hSA ⊢
            have d0 : wa.cell? ⟨wr.heap.size, 0, none⟩ = some (.int .i64 x.a) := by simpa using rB.cell 0
            refine (startsPut_any p b g xs x.a wa hSA hbx).mono ?_
            rintro e w4 ⟨rfl, hS4, k4⟩
            rw [H4.out]
            go_wp2
            go_roundw
            case rel => exact ⟨j + 1, _, by omega, by go_num, by show _ = _; rw [hpl]; exact HL.out, hS4, hZp, (hkr.trans kA.any).trans k4⟩
            case measure => simp [intOf]; omega
        · have hwc : IntKind.u64.wrap x.a = x.a := by rw [IntKind.wrap_u64]; omega
          have ha0 : 0 ≤ x.a := by omega
          have H1 := Lib.hid h1
          have H4 := Lib.hid h4
          have H5 := Lib.hid h5
          clear h1 h4 h5
          go_wp2_with fail
          generalize wr.alloc (.cells #[.int .i64 x.a, .int .i64 x.c, .bool false] 33) = wa at rB kA hSA ⊢
          have d0 : wa.cell? ⟨wr.heap.size, 0, none⟩ = some (.int .i64 x.a) := by simpa using rB.cell 0
          refine (startsIs_any p b g xs x.a wa hSA ha0 (by omega)).mono ?_
          rintro e w3 ⟨rfl, hw3⟩
          subst hw3
          rw [H1.out]
          go_wp2_with fail
          refine (startsPut_any p b g xs x.a wa hSA hbx).mono ?_
          rintro e w4 ⟨rfl, hS4, k4⟩
          rw [H4.out]
          have rB4 := rB.kept k4 (by simp; omega)
          have e0 : w4.cell? ⟨wr.heap.size, 0, none⟩ = some (.int .i64 x.a) := by simpa using rB4.cell 0
          go_wp2_with fail
          refine (startsIs_any p b g _ x.a w4 hS4 ha0 (by omega)).mono ?_
          rintro e w5 ⟨rfl, hw5⟩
          subst hw5
          rw [H5.out]
          go_wp2
          go_roundw
          case rel => exact ⟨j + 1, _, by omega, by go_num, by show _ = _; rw [hpl]; exact HL.out, hS4, hZp, (hkr.trans kA.any).trans k4⟩
          case measure => simp [intOf]; omega
    · have hml : (xs.length : Int) = m := by rw [HL.out]
      have hrise := placesB_rise xs
      clear hs hb hb2 hS1 hZ0 hkr
      go_wp2_with fail
      refine (startsBefore_any p b g xs at_ wr hSr).mono ?_
      rintro e w3 ⟨rfl, k3⟩
      have hS3 := hSr.kept k3
      have kW3 := kWr.trans k3
      clear hSr kWr k3
      cases hla : lastL (placesB xs) at_ with
      | none =>
        have HN : Hid (∀ k : Int, 0 < k → k ≤ at_ → hasM xs k = false) := by
          intro k _ hk
          cases e : hasM xs k with
          | false => rfl
          | true => exact absurd hk (lastL_none.1 hla k (placesB_mem.2 e))
        rw [show optI none = .tuple #[.int .i64 0, .bool false] from rfl]
        clear hla hrise
        go_wp2_with fail
        go_loop [16] (fun i => ∃ k : Int, 0 + 1 ≤ k ∧ k ≤ 301 ∧ i = .int .i64 k) (fun i => (302 - intOf i).toNat)
        case atStart => exact ⟨0 + 1, by omega, by omega, rfl⟩
        case round =>
          obtain ⟨k, hk1, hk2, rfl⟩ := hrel
          by_cases hmn : at_ ≤ (m : Int)
          · have hmn2 : decide ((m : Int) < at_) = false := by simp; omega
            by_cases hk : k ≤ at_
            · have hwk : IntKind.u64.wrap k = k := by rw [IntKind.wrap_u64]; omega
              have HK := Lib.hid (HN.out k (by omega) hk)
              go_wp2_with fail
              refine (startsIs_any p b g xs k w3 hS3 (by omega) (by omega)).mono ?_
              rintro e w5 ⟨rfl, hw5⟩
              subst hw5
              rw [HK.out]
              go_wp2
              go_round
              case rel => exact ⟨k + 1, by omega, by omega, by go_num⟩
              case measure => simp [intOf]; omega
            · have hk' : decide (k ≤ at_) = false := by simpa using hk
              go_wp2_with fail
              refine (fixed09_any _).mono ?_
              rintro e w5 ⟨rfl, kw5⟩
              go_wp2
              go_ret
              exact ⟨rfl, kW3.trans kw5⟩
          · have hmn1 : decide (at_ ≤ (m : Int)) = false := by simpa using hmn
            by_cases hk : k ≤ (m : Int)
            · have hwk : IntKind.u64.wrap k = k := by rw [IntKind.wrap_u64]; omega
              have HK := Lib.hid (HN.out k (by omega) (by omega))
              go_wp2_with fail
              refine (startsIs_any p b g xs k w3 hS3 (by omega) (by omega)).mono ?_
              rintro e w5 ⟨rfl, hw5⟩
              subst hw5
              rw [HK.out]
              go_wp2
              go_round
              case rel => exact ⟨k + 1, by omega, by omega, by go_num⟩
              case measure => simp [intOf]; omega
            · have hk' : decide (k ≤ (m : Int)) = false := by simpa using hk
              go_wp2_with fail
              refine (fixed09_any _).mono ?_
              rintro e w5 ⟨rfl, kw5⟩
              go_wp2
              go_ret
              exact ⟨rfl, kW3.trans kw5⟩
      | some x =>
        obtain ⟨hx1, hx2, hx3⟩ := (lastL_some hrise).1 hla
        have hx0 := hZr.pos hx1
        have hxb := placesB_bound hx1
        have HX := Lib.hid (placesB_mem.1 hx1)
        have HN : Hid (∀ k : Int, x < k → k ≤ at_ → hasM xs k = false) := by
          intro k hk hk2
          cases e : hasM xs k with
          | false => rfl
          | true => have := hx3 k (placesB_mem.2 e) hk2; omega
        have hwx : IntKind.u64.wrap x = x := by rw [IntKind.wrap_u64]; omega
        rw [show optI (some x) = .tuple #[.int .i64 x, .bool true] from rfl]
        clear hla hrise hx1 hx3
        have t1 : decide (at_ < x) = false := by simp; omega
        have t2 : decide (x < 1) = false := by simp; omega
        go_wp2_with fail
        refine (startsIs_any p b g xs x w3 hS3 (by omega) (by omega)).mono ?_
        rintro e w4 ⟨rfl, hw4⟩
        subst hw4
        rw [HX.out]
        go_wp2_with fail
        go_loop [16] (fun i => ∃ k : Int, x + 1 ≤ k ∧ k ≤ 301 ∧ i = .int .i64 k) (fun i => (302 - intOf i).toNat)
        case atStart => exact ⟨x + 1, by omega, by omega, rfl⟩
        case round =>
          obtain ⟨k, hk1, hk2, rfl⟩ := hrel
          by_cases hmn : at_ ≤ (m : Int)
          · have hmn2 : decide ((m : Int) < at_) = false := by simp; omega
            by_cases hk : k ≤ at_
            · have hwk : IntKind.u64.wrap k = k := by rw [IntKind.wrap_u64]; omega
              have HK := Lib.hid (HN.out k (by omega) hk)
              go_wp2_with fail
              refine (startsIs_any p b g xs k w3 hS3 (by omega) (by omega)).mono ?_
              rintro e w5 ⟨rfl, hw5⟩
              subst hw5
              rw [HK.out]
              go_wp2
              go_round
              case rel => exact ⟨k + 1, by omega, by omega, by go_num⟩
              case measure => simp [intOf]; omega
            · have hk' : decide (k ≤ at_) = false := by simpa using hk
              go_wp2_with fail
              refine (fixed09_any _).mono ?_
              rintro e w5 ⟨rfl, kw5⟩
              go_wp2
              go_ret
              exact ⟨rfl, kW3.trans kw5⟩
          · have hmn1 : decide (at_ ≤ (m : Int)) = false := by simpa using hmn
            by_cases hk : k ≤ (m : Int)
            · have hwk : IntKind.u64.wrap k = k := by rw [IntKind.wrap_u64]; omega
              have HK := Lib.hid (HN.out k (by omega) (by omega))
              go_wp2_with fail
              refine (startsIs_any p b g xs k w3 hS3 (by omega) (by omega)).mono ?_
              rintro e w5 ⟨rfl, hw5⟩
              subst hw5
              rw [HK.out]
              go_wp2
              go_round
              case rel => exact ⟨k + 1, by omega, by omega, by go_num⟩
              case measure => simp [intOf]; omega
            · have hk' : decide (k ≤ (m : Int)) = false := by simpa using hk
              go_wp2_with fail
              refine (fixed09_any _).mono ?_
              rintro e w5 ⟨rfl, kw5⟩
              go_wp2
              go_ret
              exact ⟨rfl, kW3.trans kw5⟩
end Go.Proofs.Ytkfdkmdjdghdkaa
