/- kraallaw15's TallySums$1: all counts together, of the tally that a variable holds. -/
import Derived.Test.YtndfgeldgkmhcaaTallyAll
import Derived.Test.YtndfgeldgkmhcaaSameRunZ
namespace Go.Proofs.Ytndfgeldgkmhcaa
open Go.RowKit

theorem sumY_take {gs : List RunZ} {j : Nat} (h : j < gs.length) : sumY (gs.take (j + 1)) = sumY (gs.take j) + gs[j].2 := by
  rw [List.take_add_one, List.getElem?_eq_getElem h, sumY_append]
  simp [sumY]

/-- What a call leaves that answers a number, and makes new blocks alone. -/
def NumPostY (n : Int) (w : World) (e : Ending) (w' : World) : Prop := e = .returned (.int .i64 n) ∧ Kept [] w w'

set_option maxRecDepth 100000 in
set_option maxHeartbeats 4000000 in
theorem sums1_any (X p g : Nat) (gs : List RunZ) (w : World) (rX : Row w X 24 [.pointer (some ⟨p, 0, none⟩)]) (h : IsTally w p g gs) (hl : gs.length ≤ 1000) :
    Calls Try.prog 18 #[.pointer (some ⟨X, 0, none⟩)] w (NumPostY (sumY gs) w) := by
  have cX : w.cell? ⟨X, 0, none⟩ = some (.pointer (some ⟨p, 0, none⟩)) := by simpa using rX.cell 0
  have HG := Lib.hid h.good
  go_enter Try.func18, Try.ntmps18
  go_wp2_with fail
  refine (tallyAll_any p g gs w h (by omega)).mono ?_
  rintro e w1 ⟨G, c1, rfl, hG, hs, k1⟩
  clear cX rX h
  go_wp2_with fail
  go_loopw [2, 8] (fun n i wr => ∃ (j : Nat) (m : Int), j ≤ gs.length ∧ n = .int .i64 m ∧ i = .int .i64 j ∧ Hid (m = sumY (gs.take j)) ∧ 0 ≤ m ∧ m ≤ 2147483647 * j ∧ Kept [] w1 wr) (fun _ i _ => gs.length - (intOf i).toNat)
  case atStart => exact ⟨0, 0, Nat.zero_le _, rfl, rfl, rfl, by omega, by omega, Kept.refl _ _⟩
  case round =>
    obtain ⟨j, m, hj, rfl, rfl, hm, m0, m1, hkr⟩ := hrel
    by_cases hlt : j < gs.length
    · obtain ⟨b, off, e, _, c0, c1⟩ := (hs.kept hkr).cellZ hlt
      cases e
      have hst := sumY_take hlt
      have hv := HG.out.val _ (List.getElem_mem hlt)
      have h1 : (j : Int) < (gs.length : Int) := by omega
      generalize gs[j] = y at c0 c1 hst hv
      obtain ⟨y1, y2⟩ := y
      simp only [Nat.zero_add] at c0 c1 hst hv
      have HS : Hid (m + y2 = sumY (gs.take (j + 1))) := by show _ = _; rw [hst, hm.out]
      have kA := (Kept.refl [] wr).alloc (.cells #[.int .i64 y1, .int .i64 y2] 41)
      have d1 : (wr.alloc (.cells #[.int .i64 y1, .int .i64 y2] 41)).cell? ⟨wr.heap.size, 1, none⟩ = some (.int .i64 y2) := by simp
      have hw : m + y2 ≤ 2147483647 * ((j : Int) + 1) := by omega
      have hw2 : m + y2 ≤ 2147483647000 := by omega
      obtain ⟨v1, v2⟩ := hv
      clear hst hm
      go_wp2_with fail
      go_roundw
      case rel => exact ⟨j + 1, m + y2, by omega, rfl, by go_num, HS, by omega, by omega, hkr.trans kA⟩
      case measure => simp [intOf]; omega
    · obtain rfl : j = gs.length := by omega
      have HS : Hid (m = sumY gs) := by have := hm.out; rwa [List.take_length] at this
      go_wp2
      go_ret
      rw [← HS.out]
      exact ⟨rfl, k1.trans hkr⟩
end Go.Proofs.Ytndfgeldgkmhcaa
