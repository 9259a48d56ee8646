/- The document's answer (kraalref15): Of, Set. -/
import Derived.Test.YtionleocbjfgaaaDoorTallyPlain
import Derived.Test.YtionleocbjfgaaaDoorSameRunZ
import Derived.Test.YtionleocbjfgaaaDoorI3
import Derived.WalkMore
namespace Go.Proofs.YtionleocbjfgaaaDoor
open Go.RowKit

theorem cntY_drop {gs : List RunZ} {j : Nat} (hj : j < gs.length) (z : Int) : cntY (gs.drop j) z = if gs[j].1 = z then gs[j].2 else cntY (gs.drop (j + 1)) z := by
  rw [List.drop_eq_getElem_cons hj, cntY_cons]

set_option maxRecDepth 100000 in
set_option maxHeartbeats 2000000 in
theorem refOf15_any (A : Option Addr) (n cap : Nat) (gs : List RunZ) (z : Int) (w : World) (hs : SlS cellsZ 2 w A gs) (hn : gs.length = n) (hx : n ≤ 1099511627776) :
    Calls Tryd.prog 9 #[.slice A n cap, .int .i64 z] w fun e w' => e = .returned (.int .i64 (cntY gs z)) ∧ w = w' := by
  subst hn
  go_enter Tryd.func9, Tryd.ntmps9
  go_wp2_with fail
  go_loopw [5] (fun i wr => ∃ j : Nat, j ≤ gs.length ∧ i = .int .i64 j ∧ Hid (cntY gs z = cntY (gs.drop j) z) ∧ w = wr) (fun i _ => gs.length - (intOf i).toNat)
  case atStart => exact ⟨0, Nat.zero_le _, rfl, rfl, rfl⟩
  case round =>
    obtain ⟨j, hj, rfl, HC, rfl⟩ := hrel
    by_cases hlt : j < gs.length
    · obtain ⟨b, off, rfl, _, c0, c1⟩ := hs.cellZ hlt
      have hst := cntY_drop hlt z
      have h1 : (j : Int) < (gs.length : Int) := by omega
      generalize gs[j] = y at c0 c1 hst
      obtain ⟨y1, y2⟩ := y
      simp only at c0 c1 hst
      by_cases e : y1 = z
      · rw [if_pos e] at hst
        have HS : Hid (cntY gs z = y2) := HC.out.trans hst
        subst e
        clear hst
        go_wp2_with fail
        go_ret
        rw [HS.out]
        exact ⟨rfl, rfl⟩
      · rw [if_neg e] at hst
        have HS : Hid (cntY gs z = cntY (gs.drop (j + 1)) z) := HC.out.trans hst
        have e' : decide (y1 = z) = false := by simpa using e
        have e2 : (y1 == z) = false := by simpa using e
        clear hst e
        go_wp2_with fail
        go_roundw
        case rel => exact ⟨j + 1, by omega, by go_num, HS, trivial⟩
        case measure => simp [intOf]; omega
    · obtain rfl : j = gs.length := by omega
      have HS : Hid (cntY gs z = 0) := by have := HC.out; rwa [List.drop_length] at this
      go_wp2
      go_ret
      rw [HS.out]
      exact ⟨rfl, rfl⟩

/-- What Set leaves: a slice in a new block that reads as gs. -/
def SetPostY (gs : List RunZ) (w : World) (e : Ending) (w' : World) : Prop :=
  ∃ a c, e = .returned (.slice a gs.length c) ∧ SlS cellsZ 2 w' a gs ∧ (∀ b off, a = some ⟨b, off, none⟩ → w.heap.size ≤ b) ∧ Kept [] w w'
theorem setW_drop {gs : List RunZ} {j : Nat} (hj : j < gs.length) (z n : Int) (laid : Bool) (y1 y2 : Int) (hy : gs[j] = (y1, y2)) :
    setW z n laid (gs.drop j) = (if laid = false ∧ z < y1 then [(z, n)] else []) ++ (if y1 = z then [] else [(y1, y2)]) ++ setW z n (laid || decide (z < y1)) (gs.drop (j + 1)) := by
  rw [List.drop_eq_getElem_cons hj, hy]; rfl

end Go.Proofs.YtionleocbjfgaaaDoor
