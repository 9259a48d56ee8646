/- The law GlobalsApart: its walk. -/
import Derived.Test.YtploelfgmlpdeaaGlobalsFixed
namespace Go.Proofs.Ytploelfgmlpdeaa
open Go.RowKit

theorem setU_get (xs : List Int) (i : Nat) (v : Int) (j : Nat) (hj : j < xs.length) : (xs.set i v)[j]?.getD 0 = if j = i then v else xs[j]?.getD 0 := by
  rw [List.getElem?_set]
  by_cases e : i = j
  · subst e
    rw [if_pos rfl, if_pos hj, if_pos rfl]; rfl
  · rw [if_neg e, if_neg (fun h => e h.symm)]
theorem apart16_get (k : Nat) (a : Nat) (v : Int) (b : Nat) (u : Int) (j : Nat) (hj : j < k) : (((List.replicate k (0 : Int)).set a v).set b u)[j]?.getD 0 = if j = b then u else if j = a then v else 0 := by
  rw [setU_get _ _ _ _ (by simp; exact hj), setU_get _ _ _ _ (by simp; exact hj)]
  simp [hj]

set_option maxRecDepth 100000 in
set_option maxHeartbeats 2000000 in
theorem apart16_any (n : Int) (a b : Nat) (v u : Int) (w : World) (hn0 : 0 ≤ n) (hn1 : n < 256) :
    Calls Try.prog 4 #[.int .u8 n, .agg #[.int .u64 a, .int .u64 v, .int .u64 b, .int .u64 u]] w (FixedPost w) := by
  have rP := Row.new w 44 [.int .u64 a, .int .u64 v, .int .u64 b, .int .u64 u]
  have kP := (Kept.refl [] w).alloc (.cells #[.int .u64 a, .int .u64 v, .int .u64 b, .int .u64 u] 44)
  obtain ⟨P, hP⟩ : ∃ P, w.heap.size = P := ⟨_, rfl⟩
  rw [hP] at rP
  go_enter Try.func4, Try.ntmps4
  go_wp2_with fail
  clear hP
  obtain ⟨k, hk⟩ : ∃ k : Nat, 1 + n % 64 = (k : Int) := ⟨(1 + n % 64).toNat, by omega⟩
  have hk1 : 1 ≤ k := by omega
  have hk2 : k ≤ 64 := by omega
  rw [hk]
  clear hk
  generalize w.alloc (.cells #[.int .u64 a, .int .u64 v, .int .u64 b, .int .u64 u] 44) = W at rP kP ⊢
  refine (slotsNew_yes k W hk2).mono ?_
  rintro e w1 ⟨mb, mg, rfl, hmb, hmg, hm1, kw1⟩
  have hPl := rP.lt
  have rP1 := rP.kept kw1 (by simp)
  have p0 : w1.cell? ⟨P, 0, none⟩ = some (.int .u64 a) := by simpa using rP1.cell 0
  have p1 : w1.cell? ⟨P, 1, none⟩ = some (.int .u64 v) := by simpa using rP1.cell 1
  go_wp2_with fail
  refine (slotsSet_any mb mg _ a v w1 hm1).mono ?_
  rintro e w2 ⟨rfl, hm2, kw2⟩
  have rP2 := rP1.kept kw2 (by simp; omega)
  clear p0 p1
  have p2 : w2.cell? ⟨P, 2, none⟩ = some (.int .u64 b) := by simpa using rP2.cell 2
  have p3 : w2.cell? ⟨P, 3, none⟩ = some (.int .u64 u) := by simpa using rP2.cell 3
  go_wp2_with fail
  refine (slotsSet_any mb mg _ b u w2 hm2).mono ?_
  rintro e w3 ⟨rfl, hm3, kw3⟩
  have rP3 := rP2.kept kw3 (by simp; omega)
  clear p2 p3
  go_wp2_with fail
  refine (slotsLen_any mb mg _ w3 hm3).mono ?_
  rintro e w4 ⟨rfl, rfl⟩
  have hlen2 : (((List.replicate k (0 : Int)).set a v).set b u).length = k := by simp
  rw [hlen2]
  have hwg : w.heap.size ≤ mg := Nat.le_trans kP.size hmg
  have k3 : Kept [] w w3 := (kP.trans kw1).chain (U := []) (kw2.trans kw3) (by simp) (by have := kP.size; simp; omega)
  have p0 : w3.cell? ⟨P, 0, none⟩ = some (.int .u64 a) := by simpa using rP3.cell 0
  have p1 : w3.cell? ⟨P, 1, none⟩ = some (.int .u64 v) := by simpa using rP3.cell 1
  have p2 : w3.cell? ⟨P, 2, none⟩ = some (.int .u64 b) := by simpa using rP3.cell 2
  have p3 : w3.cell? ⟨P, 3, none⟩ = some (.int .u64 u) := by simpa using rP3.cell 3
  have ea : (errB (slotB k a) == 0) = decide (a < k) := by unfold slotB; cases decide (a < k) <;> rfl
  have eb : (errB (slotB k b) == 0) = decide (b < k) := by unfold slotB; cases decide (b < k) <;> rfl
  have hwk : IntKind.u64.wrap (k : Int) = (k : Int) := by rw [IntKind.wrap_u64]; omega
  have HEB : Hid (errB (slotB k b) = (if b < k then 0 else 8)) := by unfold slotB errB; by_cases h : b < k <;> simp [Hid, h]
  go_wp2_with fail
  refine (slotsAll_any mb mg _ w3 hm3).mono ?_
  rintro e w4 ⟨r, cap, rfl, hown, kw4⟩
  rw [hlen2] at hown ⊢
  have hget : ∀ j : Nat, j < k → w4.cell? ⟨r, j, none⟩ = some (.int .u64 (if j = b then u else if j = a then v else 0)) := by
    intro j hj
    rw [hown.cellAt j (by omega), ← apart16_get k a v b u j hj, List.getElem?_map, List.getElem?_eq_getElem (by simp; omega)]
    rfl
  have HG := Lib.hid hget
  have HL := Lib.hid hlen2
  have rP4 := rP3.kept kw4 (by simp)
  have hm4 := hm3.kept kw4 (by simp) (by simp)
  have k4 := k3.trans kw4
  have HU : Hid (b < k → (((List.replicate k (0 : Int)).set a v).set b u)[b]?.getD 0 = u) := fun h => by rw [apart16_get k a v b u b h, if_pos rfl]
  clear hget hlen2 ea eb p0 p1 p2 p3 hown rP3 hm3 hm2 hm1 rP1 rP2 rP kP kw1 kw2 kw3 k3
  have p0 : w4.cell? ⟨P, 0, none⟩ = some (.int .u64 a) := by simpa using rP4.cell 0
  have p1 : w4.cell? ⟨P, 1, none⟩ = some (.int .u64 v) := by simpa using rP4.cell 1
  have p2 : w4.cell? ⟨P, 2, none⟩ = some (.int .u64 b) := by simpa using rP4.cell 2
  have p3 : w4.cell? ⟨P, 3, none⟩ = some (.int .u64 u) := by simpa using rP4.cell 3
  go_wp2_with fail
  go_loop [71] (fun i => ∃ j : Nat, j ≤ k ∧ i = .int .i64 j) (fun i => k - (intOf i).toNat)
  case atStart => exact ⟨0, Nat.zero_le _, rfl⟩
  case round =>
    obtain ⟨j, hj, rfl⟩ := hrel
    by_cases hlt : j < k
    · have hc := HG.out j hlt
      have hwj : IntKind.u64.wrap (j : Int) = (j : Int) := by rw [IntKind.wrap_u64]; omega
      by_cases hb1 : j = b
      · rw [if_pos hb1] at hc
        have hb2 : ((j : Int) == (b : Int)) = true := by rw [beq_iff_eq]; omega
        have HB := Lib.hid hb1
        clear hb1
        by_cases ha1 : j = a
        · have ha2 : ((j : Int) == (a : Int)) = true := by rw [beq_iff_eq]; omega
          have HA := Lib.hid ha1
          clear ha1
          go_wp2
          go_round
          case rel => exact ⟨j + 1, by omega, by go_num⟩
          case measure => simp [intOf]; omega
        · have ha2 : ((j : Int) == (a : Int)) = false := by rw [beq_eq_false_iff_ne]; omega
          clear ha1
          go_wp2
          go_round
          case rel => exact ⟨j + 1, by omega, by go_num⟩
          case measure => simp [intOf]; omega
      · rw [if_neg hb1] at hc
        have hb2 : ((j : Int) == (b : Int)) = false := by rw [beq_eq_false_iff_ne]; omega
        clear hb1
        by_cases ha1 : j = a
        · have ha2 : ((j : Int) == (a : Int)) = true := by rw [beq_iff_eq]; omega
          rw [if_pos ha1] at hc
          have HA := Lib.hid ha1
          clear ha1
          go_wp2
          go_round
          case rel => exact ⟨j + 1, by omega, by go_num⟩
          case measure => simp [intOf]; omega
        · have ha2 : ((j : Int) == (a : Int)) = false := by rw [beq_eq_false_iff_ne]; omega
          rw [if_neg ha1] at hc
          clear ha1
          go_wp2
          go_round
          case rel => exact ⟨j + 1, by omega, by go_num⟩
          case measure => simp [intOf]; omega
    · go_wp2_with fail
      refine (slotsSet_any mb mg _ b 0 w4 hm4).mono ?_
      rintro e w5 ⟨rfl, _, kw5⟩
      rw [HL.out]
      have rP5 := rP4.kept kw5 (by simp; omega)
      have k5 : Kept [] w w5 := k4.chain kw5 (by simp) (by simp; omega)
      clear p0 p1 p2 p3
      have p3 : w5.cell? ⟨P, 3, none⟩ = some (.int .u64 u) := by simpa using rP5.cell 3
      go_wp2_with fail
      refine (fixed16_any w5).mono ?_
      rintro e w6 ⟨rfl, kw6⟩
      have p3' : w6.cell? ⟨P, 3, none⟩ = some (.int .u64 u) := by simpa using (rP5.kept kw6 (by simp)).cell 3
      clear p3
      by_cases hbk : b < k
      · have h1 := HU.out hbk
        have h2 := HEB.out
        rw [if_pos hbk] at h2
        rw [h1, h2]
        clear h1 h2
        go_wp2
        go_ret
        exact ⟨rfl, k5.trans kw6⟩
      · have h2 := HEB.out
        rw [if_neg hbk] at h2
        rw [h2]
        clear h2
        go_wp2
        go_ret
        exact ⟨rfl, k5.trans kw6⟩
end Go.Proofs.Ytploelfgmlpdeaa
