/- Package owner: Owned. -/
import Derived.Test.YthlkammoinokoaaOwnerSet
namespace Go.Proofs.Ythlkammoinokoaa
open Go.RowKit Go.Maps

theorem Kept.grownS {a b : World} {g : Nat} (h : Kept [g] a b) : a.grownBy b (some g) := ⟨h.os, h.tape, h.output, h.size, fun k hk hn => h.block k hk (fun e => hn (by simp at e; rw [e]))⟩
theorem Kept.grown0 {a b : World} (h : Kept [] a b) : a.grownBy b none := ⟨h.os, h.tape, h.output, h.size, fun k hk _ => h.block k hk (by simp)⟩
theorem cntG_step {v : List Int} {i : Nat} (hi : i < v.length) : cntG (v.take (i + 1)) = cntG (v.take i) + if v[i]?.getD 0 = 0 then 0 else 1 := by
  rw [List.take_add_one, List.getElem?_eq_getElem hi]
  unfold cntG
  rw [List.countP_append]
  by_cases e : v[i] = 0 <;> simp [e]

def OwnedPost (xs : List Int) (w : World) (e : Ending) (w' : World) : Prop := e = .returned (.int .i64 (cntG xs)) ∧ Kept [] w w'

set_option maxRecDepth 100000 in
set_option maxHeartbeats 4000000 in
theorem ownerOwned_any (p g : Nat) (xs : List Int) (w : World) (h : IsOwner w p g xs) :
    Calls Try.prog 13 #[.pointer (some ⟨p, 0, none⟩)] w (OwnedPost xs w) := by
  have hc1 := h.cell1
  have hgl := h.lt
  obtain ⟨gs, hown, hrep⟩ := h.own
  have hl32 := hrep.len h.le
  have HR := Lib.hid hrep.rise
  have HM := Lib.hid hrep.mem
  have HS := Lib.hid (hrep.sum h.le)
  have hsz := Lib.hid (size_setL (f := grpV) gs)
  clear hrep
  go_enter Try.func13, Try.ntmps13
  go_wp2_with (first
    | (at_range; refine wpList_range_own _ rfl _ 48 rfl 3 54 keyed_int Try.underlying48 rawL g gs.length (setL grpV gs) rfl hown ?_; intro w0 hrg0 hg0 hs0)
    | go_in)
  go_frame
  have k0 : Kept [] w w0 := Kept.of_grown0 hg0
  obtain ⟨B, hB⟩ : ∃ B, w.heap.size = B := ⟨_, rfl⟩
  have HB := Lib.hid hB
  rw [hB] at hrg0 hgl hs0 ⊢
  clear hg0 hB hc1 hown
  go_loopw [3] (fun n wr => ∃ (left : Lit → Bool) (cnt : Nat) (ss : List (Int × List Int)) (m : Nat), wr.ranges Try.prog 3 rawL g B gs.length (setL grpV gs) left cnt ∧ ss.length + cnt ≤ gs.length ∧
      n = .int .i64 m ∧ Hid (m = sumG ss) ∧ m ≤ 32 * ss.length ∧ CollL gs left ss ∧ Kept [] w wr ∧ B + 1 ≤ wr.heap.size)
    (fun _ wr => wr.rangeLeft g B)
  case atStart => exact ⟨_, _, [], 0, hrg0, by simp [hsz.out], rfl, rfl, by simp, CollL.start gs, k0, by omega⟩
  case round =>
    obtain ⟨left, cnt, ss, m, hrg, hcs, rfl, hm, hm32, hC, hkr, hBs⟩ := hrel
    clear hrg0 k0 hs0
    go_wp2_with (first
      | (at_next; refine wpList_next_ranges _ rfl _ rfl 3 keyed_int rawL (Value.int .i64) (fun v : Value => v) (fun key kl hk => by obtain ⟨x, hx, _⟩ := Maps.keyOf_int_inv Try.underlying3 hk; exact ⟨x, hx⟩) (fun v y hv => ⟨v, rfl⟩) g B gs.length _ _ _ rfl hrg ?_ ?_)
      | go_in)
    · intro hc0 hl0
      have hP := hC.perm HR.out hl0
      have hsum : m = cntG xs := by
        rw [hm.out, ← HS.out]
        exact (hP.map _).sum_nat
      subst hsum
      clear hc0 hl0 hm hP
      go_wp2_with fail
      go_ret
      exact ⟨rfl, hkr⟩
    · intro x v kl yd yp w2 cnt2 hkey hlk hv hatx hrg2 hlt hg2 hs2 hen
      obtain ⟨x', ex, rfl, _⟩ := Maps.keyOf_int_inv Try.underlying3 hkey
      cases ex
      have hyd := rawL_inv hv
      simp only [Prod.mk.injEq] at hyd
      obtain ⟨rfl, rfl⟩ := hyd
      obtain ⟨c, hmem, rfl⟩ := entryL HR.out hatx
      have hcl : c.length = 32 := by
        have := ((HM.out _ _).1 hmem).2.1
        rw [this, grp_length]
      have HCL := Lib.hid hcl
      have hC2 := hC.step HR.out hlk hmem
      have hk2 : Kept [] w w2 := hkr.chain (Kept.of_grown hg2) (by simp) (by have := HB.out; simp; omega)
      have HH := Lib.hid (show ss.length + cnt2 + 1 ≤ gs.length by omega)
      have HT := Lib.hid hlt
      have HC2 := Lib.hid hC2
      have HM2 := Lib.hid hmem
      have hss : ss.length ≤ 32 := by omega
      have HL2 := Lib.hid hrg.left_eq
      have hz2 : B + 1 ≤ w2.heap.size := by omega
      clear hkey hlk hv hatx hC hrg hcl hmem hcs hlt hs2 hkr hg2 hC2
      go_wp2_with (first
        | (refine wpList_alloc_arr rfl 54 rfl .i64 32 zero_grp ?_; intro w3 row3 k3 hz3)
        | (refine wpList_store_arr rfl 54 _ _ rfl .i64 32 size_grp w2.heap.size 54 _ c rfl rfl row3 (by simp) HCL.out ?_; intro w4 row4 k4 hz4)
        | (refine wpList_load_arr rfl 54 _ rfl 3 .i64 32 Try.underlying54 size_grp w2.heap.size 54 c rfl row4 HCL.out ?_)
        | fail)
      have hk4 : Kept [] w2 w4 := k3.chain k4 (by simp) (by simp)
      have hrg4 := (hrg2.kept (Kept.grown0 k3) (by simp) (by simp)).kept (Kept.grownS k4) (by simp; omega) (by simp; omega)
      have hz5 : B + 1 ≤ w4.heap.size := by omega
      have hm4 : m ≤ 1024 := by omega
      clear hrg2 row3 row4 k3 k4 hz3 hz4 hen
      go_loop [3, 18] (fun n i => ∃ (j m' : Nat), j ≤ 32 ∧ n = .int .i64 m' ∧ i = .int .i64 j ∧ Hid (m' = m + cntG (c.take j)) ∧ m' ≤ m + j) (fun _ i => 32 - (intOf i).toNat)
      case atStart => exact ⟨0, m, by omega, rfl, rfl, by show m = m + 0; omega, by omega⟩
      case round =>
        obtain ⟨j, m', hj, rfl, rfl, hm', hmj⟩ := hrel
        by_cases hlt : j < 32
        · have hidx := fun w => run_index_arr (P := Try.prog) w 54 3 32 .i64 Try.underlying54 Try.underlying3 size_int c HCL.out j hlt
          have HST := Lib.hid (cntG_step (v := c) (i := j) (by rw [HCL.out]; exact hlt))
          obtain ⟨y, hy⟩ : ∃ y, c[j]?.getD 0 = y := ⟨_, rfl⟩
          rw [hy] at hidx HST
          clear hy
          by_cases hv : y = 0
          · subst hv
            have e1 : Hid (m' = m + cntG (c.take (j + 1))) := by
              have := HST.out; rw [if_pos rfl] at this; rw [this]; exact hm'.out
            go_wp2
            go_round
            case rel => exact ⟨j + 1, m', by omega, rfl, by go_num, e1, by omega⟩
            case measure => simp [intOf]; omega
          · have hv' : (y == 0) = false := by simpa using hv
            have e1 : Hid (m' + 1 = m + cntG (c.take (j + 1))) := by
              have := HST.out; rw [if_neg hv] at this; rw [this, hm'.out]; rfl
            clear hv
            go_wp2
            go_round
            case rel => exact ⟨j + 1, m' + 1, by omega, by go_num, by go_num, e1, by omega⟩
            case measure => simp [intOf]; omega
        · obtain rfl : j = 32 := by omega
          have e1 : Hid (m' = sumG (ss ++ [(x, c)])) := by
            rw [sumG_snoc, ← hm.out]
            have := hm'.out
            rwa [List.take_of_length_le (by rw [HCL.out]; omega)] at this
          go_wp2
          go_roundw
          case rel => exact ⟨_, cnt2, ss ++ [(x, c)], m', hrg4, by have := HH.out; simp; omega, rfl, e1, by simp; omega, HC2.out, hk2.trans hk4, hz5⟩
          case measure => rw [hrg4.left_eq, HL2.out]; exact HT.out
end Go.Proofs.Ythlkammoinokoaa
