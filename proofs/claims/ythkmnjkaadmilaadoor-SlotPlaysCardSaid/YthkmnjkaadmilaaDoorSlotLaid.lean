/- kraallaw13's own: laid, fixed. -/
import Derived.Test.YthkmnjkaadmilaaDoorSlotAt
import Derived.Test.YthkmnjkaadmilaaDoorFills
import Derived.Test.YthkmnjkaadmilaaDoorNum
namespace Go.Proofs.YthkmnjkaadmilaaDoor
open Go.RowKit

/-- What laid leaves: a memory of these words in new blocks. -/
def LaidPost13 (w : World) (zs : List Int) (e : Ending) (w' : World) : Prop :=
  ∃ b g, e = .returned (.pointer (some ⟨b, 0, none⟩)) ∧ w.heap.size ≤ b ∧ w.heap.size ≤ g ∧ IsMem w' b g zs ∧ Kept [] w w'

set_option maxRecDepth 100000 in
set_option maxHeartbeats 2000000 in
theorem laid13_any (a0 : Option Addr) (cap : Nat) (zs : List Int) (w : World) (hs : Sl w .u64 a0 zs) (hl : zs.length ≤ 300) :
    Calls Tryd.prog 5 #[.slice a0 zs.length cap] w (LaidPost13 w zs) := by
  go_enter Tryd.func5, Tryd.ntmps5
  go_wp2_with fail
  refine (new_yes zs.length w (by omega)).mono ?_
  rintro e w1 ⟨mb, mg, rfl, hmb, hmg, hm1, kw1⟩
  rw [← sofar_zero zs] at hm1
  go_wp2_with fail
  go_loopw [21] (fun i wr => ∃ j : Nat, j ≤ zs.length ∧ i = .int .i64 j ∧ IsMem wr mb mg (sofar zs zs.length j) ∧ Kept [mg] w1 wr) (fun i _ => zs.length - (intOf i).toNat)
  case atStart => exact ⟨0, Nat.zero_le _, rfl, hm1, Kept.refl _ _⟩
  case round =>
    obtain ⟨j, hj, rfl, hmr, hkr⟩ := hrel
    have kWr : Kept [] w wr := kw1.chain hkr (by simp) (by simp; omega)
    by_cases hlt : j < zs.length
    · obtain ⟨b, off, rfl, hc⟩ := (hs.kept kWr).cell hlt
      go_wp2_with fail
      rw [show zs[j] = zs[j]?.getD 0 from by simp [hlt]]
      refine (write_any mb mg _ j _ wr hmr).mono ?_
      rintro e w2 ⟨rfl, hm2, kw2⟩
      rw [sofar_succ zs _ j hlt (Nat.le_refl _)] at hm2
      go_wp2
      go_roundw
      case rel => exact ⟨j + 1, by omega, by go_num, hm2, hkr.trans kw2⟩
      case measure => simp [intOf]; omega
    · obtain rfl : j = zs.length := by omega
      rw [sofar_all] at hmr
      go_wp2
      go_ret
      exact ⟨mb, mg, rfl, hmb, hmg, hmr, kWr⟩

set_option maxRecDepth 100000 in
set_option maxHeartbeats 2000000 in
theorem fixed13_any (w : World) : Calls Tryd.prog 4 #[] w (FixedPost w) := by
  have r0 := Row.new w 3 [.int .i64 0, .int .i64 1]
  have k0 := (Kept.refl [] w).alloc (.cells #[.int .i64 0, .int .i64 1] 3)
  have s0 : Sl (w.alloc (.cells #[.int .i64 0, .int .i64 1] 3)) .i64 (some ⟨w.heap.size, 0, none⟩) [0, 1] := Sl.of_row r0
  have hat := slotAt_any 5 0 false 0 0 0 (some ⟨w.heap.size, 0, none⟩) 2 [0, 1] none 0 [] 1 _ s0 (by simp)
  rw [show placeK 5 [0, 1] 1 = 6 by unfold placeK wrap64; decide, show kindK [0, 1] 1 = 1 from rfl, show inK [0, 1] 1 = true from rfl, show errB true = 0 from rfl] at hat
  simp only [List.length_cons, List.length_nil, Nat.reduceAdd] at hat
  go_enter Tryd.func4, Tryd.ntmps4
  go_wp2_with fail
  refine hat.mono ?_
  rintro e w2 ⟨rfl, k2⟩
  go_wp2
  go_ret
  exact ⟨rfl, k0.trans k2⟩
end Go.Proofs.YthkmnjkaadmilaaDoor
