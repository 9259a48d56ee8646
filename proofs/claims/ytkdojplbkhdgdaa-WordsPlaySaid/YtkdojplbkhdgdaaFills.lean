/- The law WordsFills: its walk. -/
import Derived.Test.YtkdojplbkhdgdaaFixed
import Derived.Test.YtkdojplbkhdgdaaAll
import Derived.Test.YtkdojplbkhdgdaaFill
import Derived.Test.YtkdojplbkhdgdaaMoved
import Derived.Test.YtkdojplbkhdgdaaSl
namespace Go.Proofs.Ytkdojplbkhdgdaa
open Go.RowKit

/-- The first j of zs are written, the others are 0. -/
def sofar (zs : List Int) (m j : Nat) : List Int := zs.take j ++ List.replicate (m - j) 0
theorem sofar_length (zs : List Int) (m j : Nat) (hj : j ≤ zs.length) (hm : zs.length ≤ m) : (sofar zs m j).length = m := by simp [sofar]; omega
theorem sofar_zero (zs : List Int) (m : Nat) : sofar zs m 0 = List.replicate m 0 := by simp [sofar]
theorem sofar_succ (zs : List Int) (m j : Nat) (hj : j < zs.length) (hm : zs.length ≤ m) : wrB (sofar zs m j) (j : Int) (zs[j]?.getD 0) = sofar zs m (j + 1) := by
  have hb : hasB (sofar zs m j).length (j : Int) = true := by rw [sofar_length zs m j (by omega) hm]; simp [hasB]; omega
  unfold wrB
  rw [if_pos hb, Int.toNat_natCast]
  refine ext_getD (by rw [List.length_set, sofar_length zs m j (by omega) hm, sofar_length zs m (j + 1) (by omega) hm]) fun i hi => ?_
  rw [List.length_set] at hi
  rw [set_getD _ _ _ _ hi]
  rw [sofar_length zs m j (by omega) hm] at hi
  unfold sofar
  by_cases e : j = i
  · subst e
    rw [if_pos rfl, List.getElem?_append_left (by simp; omega), List.getElem?_take, if_pos (by omega)]
  · rw [if_neg e]
    by_cases h : i < j
    · rw [List.getElem?_append_left (by simp; omega), List.getElem?_append_left (by simp; omega), List.getElem?_take, List.getElem?_take, if_pos h, if_pos (by omega)]
    · rw [List.getElem?_append_right (by simp; omega), List.getElem?_append_right (by simp; omega)]
      simp only [List.getElem?_replicate, List.length_take]
      split <;> split <;> first | rfl | omega
theorem sofar_all (zs : List Int) : sofar zs zs.length zs.length = zs := by simp [sofar]

theorem setAll_get (xs : List Int) (v : Int) (A : Nat) : ∀ (N : Nat) (j : Nat), A + N ≤ xs.length → j < xs.length →
    (setAll xs v (handed (fun i => (A : Int) + (i : Nat)) N))[j]?.getD 0 = if A ≤ j ∧ j < A + N then v else xs[j]?.getD 0 := by
  intro N
  induction N with
  | zero => intro j _ _; rw [if_neg (by omega)]; rfl
  | succ N ih =>
    intro j hN hj
    rw [handed_succ, setAll_snoc, set_getD _ _ _ _ (by rw [setAll_length]; exact hj), ih j (by omega) hj, show ((A : Int) + (N : Nat)).toNat = A + N from by omega]
    by_cases e : A + N = j
    · rw [if_pos e, if_pos (by omega)]
    · rw [if_neg e]
      by_cases h : A ≤ j ∧ j < A + N
      · rw [if_pos h, if_pos (by omega)]
      · rw [if_neg h, if_neg (by omega)]

set_option maxRecDepth 100000 in
set_option maxHeartbeats 2000000 in
theorem fills_big (a0 : Option Addr) (len cap : Nat) (a c v : Int) (w : World) (hl : 300 < len) (hm : len ≤ maxLen) :
    Calls Try.prog 6 #[.slice a0 len cap, .agg #[.int .i64 a, .int .i64 c], .int .u64 v] w (FixedPost w) := by
  unfold maxLen at hm
  go_enter Try.func6, Try.ntmps6
  go_wp2_with fail
  refine (fixed_any _).mono ?_
  rintro e w5 ⟨rfl, kw5⟩
  go_wp2
  go_ret
  exact ⟨rfl, ((Kept.refl [] w).alloc _).trans kw5⟩

set_option maxRecDepth 100000 in
set_option maxHeartbeats 4000000 in
theorem fills_any (a0 : Option Addr) (cap : Nat) (zs : List Int) (a c v : Int) (w : World) (hs : Sl w .u64 a0 zs) (hl : zs.length ≤ 300) (ha : a ≤ 9223372036854775807) :
    Calls Try.prog 6 #[.slice a0 zs.length cap, .agg #[.int .i64 a, .int .i64 c], .int .u64 v] w (FixedPost w) := by
  have rR := Row.new w 38 [.int .i64 a, .int .i64 c]
  have kW := (Kept.refl [] w).alloc (.cells #[.int .i64 a, .int .i64 c] 38)
  go_enter Try.func6, Try.ntmps6
  go_wp2_with fail
  generalize w.alloc (.cells #[.int .i64 a, .int .i64 c] 38) = W at rR kW ⊢
  refine (new_yes zs.length W (by omega)).mono ?_
  rintro e w1 ⟨mb, mg, rfl, hmb, hmg, hm1, kw1⟩
  have rR1 := rR.kept kw1 (by simp)
  have kW1 := kW.trans kw1
  have hWz := kW.size
  have hRz := rR.lt
  rw [← sofar_zero zs] at hm1
  go_wp2_with fail
  go_loopw [33] (fun i wr => ∃ j : Nat, j ≤ zs.length ∧ i = .int .i64 j ∧ IsMem wr mb mg (sofar zs zs.length j) ∧ Kept [mg] w1 wr) (fun i _ => zs.length - (intOf i).toNat)
  case atStart => exact ⟨0, Nat.zero_le _, rfl, hm1, Kept.refl _ _⟩
  case round =>
    obtain ⟨j, hj, rfl, hmr, hkr⟩ := hrel
    have kWr : Kept [] w wr := kW1.chain hkr (by simp) (by simp; omega)
    by_cases hlt : j < zs.length
    · obtain ⟨b, off, rfl, hc⟩ := (hs.kept kWr).cell hlt
      go_wp2_with fail
      rw [show zs[j] = zs[j]?.getD 0 from by simp [hlt]]
      refine (write_any mb mg _ j _ wr hmr).mono ?_
      rintro e w2 ⟨rfl, hm2, kw2⟩
      rw [sofar_succ zs _ j hlt (Nat.le_refl _)] at hm2
      go_wp2
      go_roundw
      case rel => exact ⟨j + 1, by omega, by go_num, hm2, hkr.trans kw2⟩
      case measure => simp [intOf]; omega
    · obtain rfl : j = zs.length := by omega
      rw [sofar_all] at hmr
      have rRr := rR1.kept hkr (by simp; omega)
      have cR0 : wr.cell? ⟨w.heap.size, 0, none⟩ = some (.int .i64 a) := by simpa using rRr.cell 0
      have cR1 : wr.cell? ⟨w.heap.size, 1, none⟩ = some (.int .i64 c) := by simpa using rRr.cell 1
      go_wp2_with fail
      refine (fill_any mb mg zs a c v wr hmr ha).mono ?_
      rintro e w3 ⟨rfl, hm3, kw3⟩
      have rR3 := rRr.kept kw3 (by simp; omega)
      have kW3 : Kept [] w w3 := kWr.chain kw3 (by simp) (by simp; omega)
      have hs3 := hs.kept kW3
      go_wp2_with fail
      refine (all_any mb mg _ w3 hm3).mono ?_
      rintro e w4 ⟨r, rfl, hr, rA, kw4⟩
      rw [flB_length]
      have rR4 := rR3.kept kw4 (by simp)
      have kW4 := kW3.trans kw4
      have hs4 := hs3.kept kw4
      have cR0 : w4.cell? ⟨w.heap.size, 0, none⟩ = some (.int .i64 a) := by simpa using rR4.cell 0
      have cR1 : w4.cell? ⟨w.heap.size, 1, none⟩ = some (.int .i64 c) := by simpa using rR4.cell 1
      clear hs3 kW3 rR3 hm3 kw3 kw4 hmr rRr hs hm1 kw1 rR1 kW1 rR kW hkr kWr
      cases hh : holdsB zs.length a c with
      | false =>
        have hfl : flB zs a c v = zs := by simp [flB, hh]
        rw [hfl] at rA
        clear hfl
        have H := Lib.hid hh
        clear hh
        rw [show errB false = 8 from rfl]
        go_wp2_with fail
        go_loop [50] (fun i => ∃ j : Nat, j ≤ zs.length ∧ i = .int .i64 j) (fun i => zs.length - (intOf i).toNat)
        case atStart => exact ⟨0, Nat.zero_le _, rfl⟩
        case round =>
          obtain ⟨j, hj, rfl⟩ := hrel
          by_cases hlt : j < zs.length
          · obtain ⟨b, off, rfl, hc⟩ := hs4.cell hlt
            have hc2 := rA.cellInt j hlt
            go_wp2
            go_round
            case rel => exact ⟨j + 1, by omega, by go_num⟩
            case measure => simp [intOf]; omega
          · go_wp2_with fail
            refine (fixed_any w4).mono ?_
            rintro e w5 ⟨rfl, kw5⟩
            go_wp2
            go_ret
            exact ⟨rfl, kW4.trans kw5⟩
      | true =>
        have hd : 0 ≤ a ∧ 0 ≤ c ∧ c ≤ (zs.length : Int) - a := by simpa [holdsB] using hh
        obtain ⟨d0, d1, d2⟩ := hd
        obtain ⟨A, rfl⟩ := Int.eq_ofNat_of_zero_le d0
        obtain ⟨N, rfl⟩ := Int.eq_ofNat_of_zero_le d1
        have hfl : flB zs A N v = setAll zs v (handed (fun i => (A : Int) + (i : Nat)) N) := by simp [flB, hh]
        rw [hfl] at rA
        clear hfl
        have H := Lib.hid hh
        clear hh
        rw [show errB true = 0 from rfl]
        go_wp2_with fail
        go_loop [50] (fun i => ∃ j : Nat, j ≤ zs.length ∧ i = .int .i64 j) (fun i => zs.length - (intOf i).toNat)
        case atStart => exact ⟨0, Nat.zero_le _, rfl⟩
        case round =>
          obtain ⟨j, hj, rfl⟩ := hrel
          by_cases hlt : j < zs.length
          · obtain ⟨b, off, rfl, hc⟩ := hs4.cell hlt
            have hc2 := rA.cellInt j (by rw [setAll_length]; exact hlt)
            rw [setAll_get zs v A N j (by omega) hlt] at hc2
            by_cases h1 : A ≤ j
            · by_cases h2 : j < A + N
              · rw [if_pos ⟨h1, h2⟩] at hc2
                have h3 : (j : Int) - A < N := by omega
                go_wp2
                go_round
                case rel => exact ⟨j + 1, by omega, by go_num⟩
                case measure => simp [intOf]; omega
              · rw [if_neg (fun h => h2 h.2)] at hc2
                have h3 : decide ((j : Int) - A < N) = false := by simp; omega
                go_wp2
                go_round
                case rel => exact ⟨j + 1, by omega, by go_num⟩
                case measure => simp [intOf]; omega
            · rw [if_neg (fun h => h1 h.1)] at hc2
              have h3 : decide (A ≤ j) = false := by simpa using h1
              go_wp2
              go_round
              case rel => exact ⟨j + 1, by omega, by go_num⟩
              case measure => simp [intOf]; omega
          · go_wp2_with fail
            refine (fixed_any w4).mono ?_
            rintro e w5 ⟨rfl, kw5⟩
            go_wp2
            go_ret
            exact ⟨rfl, kW4.trans kw5⟩
end Go.Proofs.Ytkdojplbkhdgdaa
