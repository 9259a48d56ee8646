/- The law IdsNever: its walk. -/
import Derived.Test.YtbncfpglofmejaaIdsFixed
namespace Go.Proofs.Ytbncfpglofmejaa
open Go.RowKit

set_option maxRecDepth 100000 in
set_option maxHeartbeats 1000000 in
theorem idsNever_big (most : Int) (a0 : Option Addr) (len cap : Nat) (w : World) (hl : 100 < len) (hm : len ≤ maxLen) :
    Calls Try.prog 4 #[.int .u8 most, .slice a0 len cap] w (FixedPost w) := by
  unfold maxLen at hm
  go_enter Try.func4, Try.ntmps4
  go_wp2_with fail
  refine (fixed04_any _).mono ?_
  rintro e w5 ⟨rfl, kw5⟩
  go_wp2
  go_ret
  exact ⟨rfl, kw5⟩

set_option maxRecDepth 100000 in
set_option maxHeartbeats 16000000 in
theorem idsNever_any (most : Int) (a0 : Option Addr) (cap : Nat) (l : List Int) (w : World) (hs : Sl w .i64 a0 l) (hl : l.length ≤ 100) (hb : ∀ z ∈ l, Fit64 z) (hm0 : 0 ≤ most) (hm : most < 256) :
    Calls Try.prog 4 #[.int .u8 most, .slice a0 l.length cap] w (FixedPost w) := by
  have h5 : decide ((100 : Int) < l.length) = false := by simp; omega
  go_enter Try.func4, Try.ntmps4
  go_wp2_with fail
  refine (idsNew_any most w).mono ?_
  rintro e w1 ⟨p, g, rfl, hnew, hb1, kw1⟩
  rw [show max most 0 = most by omega] at hb1
  go_wp2_with fail
  go_loopw [6, 24] (fun q i wr => ∃ (j last : Nat) (xs : List Int), j ≤ l.length ∧ last ≤ j ∧ q = .int .i64 last ∧ i = .int .i64 j ∧ (xs.length : Int) ≤ most ∧ IsBook wr p g most last xs ∧ Kept [] w wr) (fun _ i _ => l.length - (intOf i).toNat)
  case atStart => exact ⟨0, 0, [], Nat.zero_le _, Nat.le_refl _, rfl, rfl, by simpa using hm0, hb1, kw1⟩
  case round =>
    obtain ⟨j, last, xs, hj, hlast, rfl, rfl, hmx, hbr, kWr⟩ := hrel
    clear hb1 kw1
    have hll := hbr.len_le
    by_cases hlt : j < l.length
    · obtain ⟨b, off, rfl, cz⟩ := (hs.kept kWr).cell hlt
      have hfz : Fit64 (l[j]?.getD 0) := hb _ (by rw [List.getElem?_eq_getElem hlt]; exact List.getElem_mem hlt)
      generalize l[j]?.getD 0 = z at cz hfz
      by_cases hz : 1 ≤ z
      · go_wp2_with fail
        refine (idsLives_any p g most last xs z wr hbr hfz).mono ?_
        rintro e w2 ⟨rfl, rfl⟩
        go_wp2_with fail
        refine (idsTake_any p g most last xs z wr hbr hfz).mono ?_
        rintro e w3 ⟨rfl, hb3, kw3⟩
        have hgone : z ∉ (xs.filter fun x => !decide (x = z)) := by simp
        have hln : (xs.filter fun x => !decide (x = z)).length ≤ xs.length := List.length_filter_le _ _
        have kW3 : Kept [] w w3 := kWr.chain kw3 (by simp) (by intro i hi hlt; simp at hi; omega)
        generalize (xs.filter fun x => !decide (x = z)) = xs' at hb3 hgone hln
        have HG := Lib.hid hgone
        by_cases hin : z ∈ xs
        · rw [decide_eq_true hin, if_pos hin]
          clear hin hgone kw3
          go_wp2_with fail
          refine (idsLives_any p g most last xs' z w3 hb3 hfz).mono ?_
          rintro e w4 ⟨rfl, rfl⟩
          rw [decide_eq_false HG.out]
          go_wp2
          go_roundw
          case rel => exact ⟨j + 1, last, xs', by omega, by omega, rfl, by go_num, by omega, hb3, kW3⟩
          case measure => simp [intOf]; omega
        · rw [decide_eq_false hin, if_neg hin]
          clear hin hgone kw3
          go_wp2_with fail
          refine (idsLives_any p g most last xs' z w3 hb3 hfz).mono ?_
          rintro e w4 ⟨rfl, rfl⟩
          rw [decide_eq_false HG.out]
          go_wp2
          go_roundw
          case rel => exact ⟨j + 1, last, xs', by omega, by omega, rfl, by go_num, by omega, hb3, kW3⟩
          case measure => simp [intOf]; omega
      · have hz' : decide (1 ≤ z) = false := by simpa using hz
        go_wp2_with fail
        refine (idsAll_any p g most last xs wr hbr (by omega)).mono ?_
        rintro e w2 ⟨ga, ca, rfl, hown, kw2⟩
        have hb2 := hbr.kept kw2
        have kW2 := kWr.trans kw2
        clear hown
        go_wp2_with fail
        refine (idsGive_any p g most last xs w2 hb2 (by omega)).mono ?_
        rintro e w3 ⟨rfl, hb3, kw3⟩
        have kW3 : Kept [] w w3 := kW2.chain kw3 (by simp) (by intro i hi hlt; simp at hi; omega)
        clear kw3 kw2 kW2 hb2 hbr kWr
        by_cases hfull : most ≤ xs.length
        · have hf' : decide ((xs.length : Int) < most) = false := by simp; omega
          rw [giveB_no hfull] at hb3 ⊢
          go_wp2_with fail
          go_roundw
          case rel => exact ⟨j + 1, last, xs, by omega, by omega, rfl, by go_num, hmx, hb3, kW3⟩
          case measure => simp [intOf]; omega
        · have hf' : (xs.length : Int) < most := by omega
          rw [giveB_yes hfull] at hb3 ⊢
          have HI : Hid ((last : Int) + 1 ∈ xs ++ [(last : Int) + 1]) := by show _ ∈ _; simp
          dsimp only at hb3 ⊢
          go_wp2_with fail
          refine (idsLives_any p g most (last + 1) _ ((last : Int) + 1) w3 hb3 (by unfold Fit64; omega)).mono ?_
          rintro e w4 ⟨rfl, rfl⟩
          rw [decide_eq_true HI.out]
          go_wp2
          go_roundw
          case rel => exact ⟨j + 1, last + 1, _, by omega, by omega, by simp, by go_num, by simp; omega, hb3, kW3⟩
          case measure => simp [intOf]; omega
    · go_wp2_with fail
      refine (fixed04_any _).mono ?_
      rintro e w2 ⟨rfl, kw2⟩
      have hb2 := hbr.kept kw2
      go_wp2_with fail
      refine (idsLast_any p g most last xs w2 hb2).mono ?_
      rintro e w3 ⟨rfl, rfl⟩
      go_wp2_with fail
      refine (idsAll_any p g most last xs w2 hb2 (by omega)).mono ?_
      rintro e w4 ⟨ga, ca, rfl, hown, kw4⟩
      go_wp2
      go_ret
      exact ⟨rfl, (kWr.trans kw2).trans kw4⟩
end Go.Proofs.Ytbncfpglofmejaa
