/- The law WordsApart: its walk. -/
import Derived.Test.YtkdojplbkhdgdaaFixed
import Derived.Test.YtkdojplbkhdgdaaAll
namespace Go.Proofs.Ytkdojplbkhdgdaa
open Go.RowKit

theorem in_any (k : Nat) (at_ : Int) (B : Nat) (w : World) (hB : Row w B 3 [.int .i64 k]) :
    Calls Try.prog 20 #[.int .i64 at_, .pointer (some ⟨B, 0, none⟩)] w fun e w' => e = .returned (.bool (hasB k at_)) ∧ w = w' := by
  have hc : w.cell? ⟨B, 0, none⟩ = some (.int .i64 k) := by simpa using hB.cell 0
  by_cases h0 : 0 ≤ at_
  · go_enter Try.func20, Try.ntmps20
    go_wp2
    go_ret
    exact ⟨by simp [hasB, h0], rfl⟩
  · have h1 : decide (0 ≤ at_) = false := by simpa using h0
    go_enter Try.func20, Try.ntmps20
    go_wp2
    go_ret
    exact ⟨by simp [hasB]; omega, rfl⟩

theorem wrB_get (xs : List Int) (a v : Int) (j : Nat) (hj : j < xs.length) : (wrB xs a v)[j]?.getD 0 = if (j : Int) = a then v else xs[j]?.getD 0 := by
  unfold wrB
  by_cases h : hasB xs.length a = true
  · rw [if_pos h]
    have hd : 0 ≤ a ∧ a < (xs.length : Int) := by simpa [hasB] using h
    rw [List.getElem?_set]
    by_cases e : (j : Int) = a
    · subst e
      rw [if_pos (by omega), if_pos (by omega), if_pos rfl]; rfl
    · rw [if_neg (by omega), if_neg e]
  · rw [if_neg h, if_neg]
    intro e
    subst e
    simp [hasB] at h
    omega
theorem apart_get (k : Nat) (a v b u : Int) (j : Nat) (hj : j < k) : (wrB (wrB (List.replicate k 0) a v) b u)[j]?.getD 0 = if (j : Int) = b then u else if (j : Int) = a then v else 0 := by
  rw [wrB_get _ _ _ _ (by rw [wrB_length, List.length_replicate]; exact hj), wrB_get _ _ _ _ (by rw [List.length_replicate]; exact hj)]
  simp [hj]
theorem errB_ok (c : Bool) : (errB c == 0) = c := by cases c <;> rfl

set_option maxHeartbeats 1000000 in
theorem apart_any (n : Int) (a b v u : Int) (w : World) (hn0 : 0 ≤ n) (hn1 : n < 65536) :
    Calls Try.prog 4 #[.int .u16 n, .agg #[.int .i64 a, .int .i64 b], .agg #[.int .u64 v, .int .u64 u]] w (FixedPost w) := by
  go_enter Try.func4, Try.ntmps4
  go_wp2_with fail
  go_quiet (fail)
  go_wp2_with fail
  obtain ⟨k, hk⟩ : ∃ k : Nat, 1 + n % 300 = (k : Int) := ⟨(1 + n % 300).toNat, by omega⟩
  have hk1 : 1 ≤ k := by omega
  have hk2 : k ≤ 300 := by omega
  rw [hk]
  clear hk
  have rK := Row.new (((w.alloc (.cells #[.int .i64 a, .int .i64 b] 49)).alloc (.cells #[.int .u64 v, .int .u64 u] 50)).drewN nq) 3 [.int .i64 k]
  have kW : Kept [] w ((((w.alloc (.cells #[.int .i64 a, .int .i64 b] 49)).alloc (.cells #[.int .u64 v, .int .u64 u] 50)).drewN nq).alloc (.cells #[.int .i64 k] 3)) :=
    Kept.alloc (Kept.drewN (((Kept.refl [] w).alloc _).alloc _) nq) _
  rw [show ((((w.alloc (.cells #[.int .i64 a, .int .i64 b] 49)).alloc (.cells #[.int .u64 v, .int .u64 u] 50)).drewN nq)).heap.size = w.heap.size + 1 + 1 from by simp] at rK
  generalize (((w.alloc (.cells #[.int .i64 a, .int .i64 b] 49)).alloc (.cells #[.int .u64 v, .int .u64 u] 50)).drewN nq).alloc (.cells #[.int .i64 k] 3) = W at rK kW ⊢
  refine (new_yes k W (by omega)).mono ?_
  rintro e w1 ⟨mb, mg, rfl, hmb, hmg, hm1, kw1⟩
  have rK1 := rK.kept kw1 (by simp)
  have cK1 : w1.cell? ⟨w.heap.size + 1 + 1, 0, none⟩ = some (.int .i64 k) := by simpa using rK1.cell 0
  go_wp2_with fail
  refine (write_any mb mg _ a v w1 hm1).mono ?_
  rintro e w2 ⟨rfl, hm2, kw2⟩
  have rK2 := rK1.kept kw2 (by have := rK.lt; simp; omega)
  go_wp2_with fail
  refine (write_any mb mg _ b u w2 hm2).mono ?_
  rintro e w3 ⟨rfl, hm3, kw3⟩
  have rK3 := rK2.kept kw3 (by have := rK.lt; simp; omega)
  rw [wrB_length, List.length_replicate]
  have ea := errB_ok (hasB k a)
  have eb := errB_ok (hasB k b)
  go_wp2_with fail
  refine (in_any k a _ w3 rK3).mono ?_
  rintro e w4 ⟨rfl, rfl⟩
  go_wp2_with fail
  refine (in_any k b _ w3 rK3).mono ?_
  rintro e w4 ⟨rfl, rfl⟩
  go_wp2_with fail
  refine (all_any mb mg _ w3 hm3).mono ?_
  rintro e w4 ⟨r, rfl, hr, rA, kw4⟩
  rw [wrB_length, wrB_length, List.length_replicate]
  have hlen : (wrB (wrB (List.replicate k 0) a v) b u).length = k := by rw [wrB_length, wrB_length, List.length_replicate]
  have hget : ∀ j : Nat, j < k → w4.cell? ⟨r, j, none⟩ = some (.int .u64 (if (j : Int) = b then u else if (j : Int) = a then v else 0)) := by
    intro j hj
    rw [rA.cellInt j (by omega), apart_get k a v b u j hj]
  have HG := Lib.hid hget
  have HL := Lib.hid hlen
  have kfin : Kept [] w w4 := ((kW.trans kw1).chain (U := []) (kw2.trans kw3) (by simp) (by have := kW.size; simp; omega)).trans kw4
  clear hget hlen ea eb
  go_wp2_with fail
  go_loop [69] (fun i => ∃ j : Nat, j ≤ k ∧ i = .int .i64 j) (fun i => k - (intOf i).toNat)
  case atStart => exact ⟨0, Nat.zero_le _, rfl⟩
  case round =>
    obtain ⟨j, hj, rfl⟩ := hrel
    by_cases hlt : j < k
    · have hc := HG.out j hlt
      by_cases hb : (j : Int) = b
      · rw [if_pos hb] at hc
        have hb' : ((j : Int) == b) = true := by simpa using hb
        have HB := Lib.hid hb
        clear hb
        by_cases ha : (j : Int) = a
        · have ha' : ((j : Int) == a) = true := by simpa using ha
          have HA := Lib.hid ha
          clear ha
          go_wp2
          go_round
          case rel => exact ⟨j + 1, by omega, by go_num⟩
          case measure => simp [intOf]; omega
        · have ha' : ((j : Int) == a) = false := by simpa using ha
          clear ha
          go_wp2
          go_round
          case rel => exact ⟨j + 1, by omega, by go_num⟩
          case measure => simp [intOf]; omega
      · rw [if_neg hb] at hc
        have hb' : ((j : Int) == b) = false := by simpa using hb
        clear hb
        by_cases ha : (j : Int) = a
        · have ha' : ((j : Int) == a) = true := by simpa using ha
          rw [if_pos ha] at hc
          have HA := Lib.hid ha
          clear ha
          go_wp2
          go_round
          case rel => exact ⟨j + 1, by omega, by go_num⟩
          case measure => simp [intOf]; omega
        · have ha' : ((j : Int) == a) = false := by simpa using ha
          rw [if_neg ha] at hc
          clear ha
          go_wp2
          go_round
          case rel => exact ⟨j + 1, by omega, by go_num⟩
          case measure => simp [intOf]; omega
    · go_wp2_with fail
      refine (fixed_any w4).mono ?_
      rintro e w5 ⟨rfl, kw5⟩
      go_wp2
      go_ret
      exact ⟨rfl, kfin.trans kw5⟩
end Go.Proofs.Ytkdojplbkhdgdaa
