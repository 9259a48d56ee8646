/- Package owner: put and Set. -/
import Derived.Test.YthlkammoinokoaaOwner
namespace Go.Proofs.Ythlkammoinokoaa
open Go.RowKit

theorem guard_grp : Try.prog.eqGuardType Try.prog.depth 54 = false := by kernel_rfl
theorem built_zero : Value.agg ((Try.prog.built 54 []).getD #[]) = grpV zeroG := by kernel_rfl
theorem built_some : (Try.prog.built 54 []).isSome = true := by kernel_rfl
theorem wpList_build_grp {ops : Array Oper} {rest : List Oper} {o : Oper} {a : Act} {w : World} {Q : Exit → Act → World → Prop} (hg : o.guard = none) (ho : o.op = .build 54 #[])
    (h : wpList Try.prog ops Q rest (a.put o.dst (grpV zeroG)) w) : wpList Try.prog ops Q (o :: rest) a w := by
  refine wpList_build hg 54 #[] ho (by simpa using built_some) ?_
  rw [← built_zero] at h
  simpa using h

/-- What put and Set leave. -/
def PutPost (p g : Nat) (xs' : List Int) (w : World) (e : Ending) (w' : World) : Prop := e = .returned (.tuple #[]) ∧ IsOwner w' p g xs' ∧ Kept [g] w w'

set_option maxHeartbeats 4000000 in
theorem ownerPut_any (p g : Nat) (xs : List Int) (q : Nat) (o : Int) (w : World) (h : IsOwner w p g xs) (hq : q < xs.length) (h0 : 0 ≤ o) (ho : o ≤ 9223372036854775807) :
    Calls Try.prog 18 #[.pointer (some ⟨p, 0, none⟩), .int .i64 q, .int .i64 o] w (PutPost p g (xs.set q o) w) := by
  have hc1 := h.cell1
  have hle := h.le
  have hlt := h.lt
  have hap := h.apart
  obtain ⟨k, hk⟩ : ∃ k, q / 32 = k := ⟨_, rfl⟩
  obtain ⟨j, hj⟩ : ∃ j, q % 32 = j := ⟨_, rfl⟩
  have hqk : (q : Int).tdiv 32 = (k : Int) := by rw [← hk]; exact (Int.ofNat_tdiv q 32).symm
  have hm : (q : Int).tmod 32 = (j : Int) := by rw [← hj]; exact (Int.ofNat_tmod q 32).symm
  have hlook := h.look (k := k) (by omega)
  have hk32 : k ≤ 32 := by omega
  have hj32 : j < 32 := by omega
  obtain ⟨gs, hown, hrep⟩ := h.own
  have hput := hrep.put hq o
  have hdel := hrep.del hq o
  have hgl := hrep.len hle
  rw [hk, hj] at hput hdel
  have HP := Lib.hid hput
  have HD := Lib.hid hdel
  clear hput hdel hk hj
  have HL := Lib.hid (grp_length xs k)
  obtain ⟨B, hB⟩ : ∃ B, w.heap.size = B := ⟨_, rfl⟩
  obtain ⟨V, hV⟩ : ∃ V, (grp xs k).set j o = V := ⟨_, rfl⟩
  have HV := Lib.hid hV
  have HVL := Lib.hid (show V.length = 32 by rw [← hV, List.length_set, grp_length])
  rw [hV] at HP HD
  clear hV
  have finish : ∀ w2 w4 gs', Kept [] w w2 → IsOwner w2 p g xs → OwnL grpV w4 g gs' → Rep (xs.set q o) gs' → Kept [g] w2 w4 → PutPost p g (xs.set q o) w (.returned (.tuple #[])) w4 := by
    intro w2 w4 gs' k2 h2 own4 rep4 k4
    refine ⟨rfl, ⟨by simpa using h2.box.kept k4 (by simpa using hap), ⟨gs', own4, rep4⟩, hap, by simpa using hle, fun x hx => ?_⟩, k2.any.trans k4⟩
    rcases List.mem_or_eq_of_mem_set hx with hx | rfl
    · exact h.fit x hx
    · exact ⟨h0, ho⟩
  have HF := Lib.hid finish
  clear finish
  go_enter Try.func18, Try.ntmps18
  have hkf : Fit64 (k : Int) := by unfold Fit64; omega
  cases hb : V == zeroG with
  | true =>
    have HB := Lib.hid (show V = zeroG by simpa using hb)
    go_wp2_with (first
      | (refine wpList_alloc_arr rfl 54 rfl .i64 32 zero_grp ?_; intro w1 row1 k1 hz1)
      | (refine wpList_store_arr rfl 54 _ _ rfl .i64 32 size_grp B 54 _ (grp xs k) (by rw [← hB]; rfl) rfl (hB ▸ row1) (by simp) HL.out ?_; intro w2 row2 k2 hz2; have d2 := row2.cellInt (k := .i64) j (by rw [HL.out]; omega); have f2 := row2.free j; have row3 := row2.set j (.int .i64 o); rw [← List.map_set, HV.out] at row3
         have k3 : Kept [] w (w2.setCell ⟨B, j, none⟩ (.int .i64 o)) := (k1.chain k2 (by simp) (by simp; omega)).set (.inr (by simp; omega)) _; have h3 := h.kept k3; have own3 := hown.kept k3 (by simp); have hc3 := h3.cell1)
      | (refine wpList_load_arr rfl 54 _ rfl 3 .i64 32 Try.underlying54 size_grp B 54 V rfl row3 HVL.out ?_)
      | (refine wpList_build_grp rfl rfl ?_)
      | (refine wpList_eql_arr rfl 54 _ _ _ rfl 3 32 .i64 Try.underlying54 Try.underlying3 size_int guard_grp V zeroG rfl rfl HVL.out zeroG_length ?_; rw [hb]; go_frame)
      | (at_delete; refine wpList_delete_L Try.underlying48 _ rfl _ _ rfl g gs rfl own3 (k : Int) hkf rfl ?_; intro w4 own4 k4)
      | fail)
    go_end0
    exact HF.out _ _ _ k3 h3 own4 (HD.out HB.out) k4
  | false =>
    have HB := Lib.hid (show V ≠ zeroG by simpa using hb)
    go_wp2_with (first
      | (refine wpList_alloc_arr rfl 54 rfl .i64 32 zero_grp ?_; intro w1 row1 k1 hz1)
      | (refine wpList_store_arr rfl 54 _ _ rfl .i64 32 size_grp B 54 _ (grp xs k) (by rw [← hB]; rfl) rfl (hB ▸ row1) (by simp) HL.out ?_; intro w2 row2 k2 hz2; have d2 := row2.cellInt (k := .i64) j (by rw [HL.out]; omega); have f2 := row2.free j; have row3 := row2.set j (.int .i64 o); rw [← List.map_set, HV.out] at row3
         have k3 : Kept [] w (w2.setCell ⟨B, j, none⟩ (.int .i64 o)) := (k1.chain k2 (by simp) (by simp; omega)).set (.inr (by simp; omega)) _; have h3 := h.kept k3; have own3 := hown.kept k3 (by simp); have hc3 := h3.cell1)
      | (refine wpList_load_arr rfl 54 _ rfl 3 .i64 32 Try.underlying54 size_grp B 54 V rfl row3 HVL.out ?_)
      | (refine wpList_build_grp rfl rfl ?_)
      | (refine wpList_eql_arr rfl 54 _ _ _ rfl 3 32 .i64 Try.underlying54 Try.underlying3 size_int guard_grp V zeroG rfl rfl HVL.out zeroG_length ?_; rw [hb]; go_frame)
      | fail)
    generalize w2.setCell ⟨B, j, none⟩ (.int .i64 o) = w3 at row3 k3 h3 own3 hc3 ⊢
    go_still_tail 6, (by kernel_rfl)
    refine wpStill_load_arr rfl 54 _ rfl 3 .i64 32 Try.underlying54 size_grp B 54 V rfl row3 HVL.out ?_
    refine wpStill_nil ?_
    change wpList _ _ _ _ _ w3.drew
    have k3d := k3.drew
    have h3d := h.kept k3d
    have own3d := hown.kept k3d (by simp)
    generalize w3.drew = W at k3d h3d own3d ⊢
    go_wp2_with (at_mapUpdate; refine wpList_mapUpdate_L Try.underlying48 _ rfl _ _ _ rfl g gs rfl own3d (by unfold maxLen; omega) (k : Int) hkf V rfl rfl ?_; intro w4 own4 k4)
    go_end0
    exact HF.out _ _ _ k3d h3d own4 (HP.out HB.out) k4

/-- Pages behind n of a run's are given. -/
theorem giveP_step (xs : List Int) (a : Nat) (o : Int) (n : Nat) : giveP xs a o (n + 1) = (giveP xs a o n).set (a + n) o := rfl

/-- What Set leaves. -/
def SetPost (p g : Nat) (xs' : List Int) (n : Int) (w : World) (e : Ending) (w' : World) : Prop := e = .returned (.int .i64 n) ∧ IsOwner w' p g xs' ∧ Kept [g] w w'

set_option maxRecDepth 100000 in
set_option maxHeartbeats 4000000 in
theorem ownerSet_any (p g : Nat) (xs : List Int) (a c o : Int) (w : World) (h : IsOwner w p g xs) (ha : Fit64 a) (hcf : Fit64 c) (ho : o ≤ 9223372036854775807) :
    Calls Try.prog 8 #[.pointer (some ⟨p, 0, none⟩), .agg #[.int .i64 a, .int .i64 c], .int .i64 o] w (SetPost p g (setB xs a c o).1 (setB xs a c o).2 w) := by
  have hle := h.le
  have hlt := h.lt
  have hA := h.kept ((Kept.refl [] w).alloc (.cells #[.int .i64 a, .int .i64 c] 30))
  have k1 := (Kept.refl [] w).alloc (.cells #[.int .i64 a, .int .i64 c] 30)
  have rB := Row.new w 30 [.int .i64 a, .int .i64 c]
  go_enter Try.func8, Try.ntmps8
  by_cases h1 : o < 0
  · have h1' : decide (o < 0) = true := by simpa using h1
    have HS := Lib.hid (show setB xs a c o = (xs, 1) by unfold setB; rw [if_pos h1])
    go_wp2_with fail
    go_ret
    rw [HS.out]
    exact ⟨rfl, hA, k1.any⟩
  · have h1' : decide (o < 0) = false := by simpa using h1
    go_wp2_with fail
    generalize w.alloc (.cells #[.int .i64 a, .int .i64 c] 30) = W at hA k1 rB ⊢
    have b0 : W.cell? ⟨w.heap.size, 0, none⟩ = some (.int .i64 a) := by simpa using rB.cell 0
    have b1 : W.cell? ⟨w.heap.size, 1, none⟩ = some (.int .i64 c) := by simpa using rB.cell 1
    go_wp2_with fail
    refine (ownerHolds_any p g xs a c W hA ha hcf).mono ?_
    rintro e w2 ⟨rfl, k2⟩
    have hA2 := hA.kept k2
    have rB2 := rB.kept k2 (by simp)
    have kW2 := k1.trans k2
    have hz := k1.size
    have b0 : w2.cell? ⟨w.heap.size, 0, none⟩ = some (.int .i64 a) := by simpa using rB2.cell 0
    have b1 : w2.cell? ⟨w.heap.size, 1, none⟩ = some (.int .i64 c) := by simpa using rB2.cell 1
    clear rB k1 k2 hA
    cases hh : holdsB xs.length a c with
    | false =>
      have hn : ¬ (0 ≤ a ∧ 0 ≤ c ∧ c ≤ (xs.length : Int) - a) := fun e => by rw [(holdsB_iff _ _ _).2 e] at hh; cases hh
      have HS := Lib.hid (show setB xs a c o = (xs, 8) by unfold setB; rw [if_neg (by omega), if_neg hn])
      go_wp2_with fail
      go_ret
      rw [HS.out]
      exact ⟨rfl, hA2, kW2.any⟩
    | true =>
      have hy := (holdsB_iff _ _ _).1 hh
      obtain ⟨A, rfl⟩ := Int.eq_ofNat_of_zero_le hy.1
      obtain ⟨N, rfl⟩ := Int.eq_ofNat_of_zero_le hy.2.1
      have hAN : A + N ≤ xs.length := by omega
      have HS := Lib.hid (show setB xs A N o = (giveP xs A o N, 0) by unfold setB; rw [if_neg (by omega), if_pos hy]; simp)
      clear hy hh
      go_wp2_with fail
      go_loopw [16] (fun i wr => ∃ d : Nat, d ≤ N ∧ i = .int .i64 d ∧ IsOwner wr p g (giveP xs A o d) ∧ Kept [g] w2 wr) (fun i _ => N - (intOf i).toNat)
      case atStart => exact ⟨0, Nat.zero_le _, rfl, hA2, Kept.refl _ _⟩
      case round =>
        obtain ⟨d, hd, rfl, hr, kr⟩ := hrel
        have rBr := rB2.kept kr (by simp; omega)
        have b0 : wr.cell? ⟨w.heap.size, 0, none⟩ = some (.int .i64 A) := by simpa using rBr.cell 0
        clear hA2
        by_cases hdN : d < N
        · go_wp2_with fail
          rw [show (A : Int) + (d : Int) = ((A + d : Nat) : Int) by omega]
          refine (ownerPut_any p g (giveP xs A o d) (A + d) o wr hr (by rw [giveP_length]; omega) (by omega) ho).mono ?_
          rintro e w3 ⟨rfl, h3, k3⟩
          go_wp2
          go_roundw
          case rel => exact ⟨d + 1, by omega, by go_num, h3, kr.trans k3⟩
          case measure => simp [intOf]; omega
        · obtain rfl : d = N := by omega
          go_wp2
          go_ret
          rw [HS.out]
          exact ⟨rfl, hr, kW2.any.trans kr⟩
end Go.Proofs.Ythlkammoinokoaa
