/- Package tally: New, put, Of, Forget, Add, Swap. -/
import Derived.Test.YtionleocbjfgaaaDoorTallyPlain
import Derived.Test.YtionleocbjfgaaaDoorNum
import Derived.Test.YtionleocbjfgaaaDoorQuiet
import Derived.WalkMore
namespace Go.Proofs.YtionleocbjfgaaaDoor
open Go.RowKit Go.Maps

theorem zero_intY (w : World) : (zeroValue 3).run Tryd.prog w = .ok (.int .i64 0) w := by kernel_rfl
/-- A count as it stands in the map. -/
def cntV (n : Int) : Value := .int .i64 n
theorem getY (gs : List RunZ) (z : Int) : ((atL gs z).map cntV).getD (.int .i64 0) = .int .i64 (cntY gs z) := by
  unfold cntY
  cases atL gs z <;> rfl

/-- The tally in block p: its counts are gs (in the map at g). -/
structure IsTally (w : World) (p g : Nat) (gs : List RunZ) : Prop where
  box : Row w p 59 [.map (some g)]
  own : OwnL cntV w g gs
  apart : p ≠ g
  good : GoodY gs
section
variable {w w' : World} {p g : Nat} {gs : List RunZ}
theorem IsTally.cell (h : IsTally w p g gs) : w.cell? ⟨p, 0, none⟩ = some (.map (some g)) := by simpa using h.box.cell 0
theorem IsTally.keptS {S : List Nat} (h : IsTally w p g gs) (hk : Kept S w w') (hp : p ∉ S) (hg : g ∉ S) : IsTally w' p g gs :=
  ⟨h.box.kept hk hp, h.own.kept hk hg, h.apart, h.good⟩
theorem IsTally.kept (h : IsTally w p g gs) (hk : Kept [] w w') : IsTally w' p g gs := h.keptS hk (by simp) (by simp)
theorem IsTally.lt (h : IsTally w p g gs) : p < w.heap.size ∧ g < w.heap.size := ⟨h.box.lt, h.own.lt⟩
theorem IsTally.drewN (h : IsTally w p g gs) (n : Nat) : IsTally (w.drewN n) p g gs := h.kept ((Kept.refl [] w).drewN n)
theorem IsTally.look (h : IsTally w p g gs) {z : Int} (hz : Fit64 z) : (Instr.lookup 57 (.map (some g)) (.int .i64 z) false).run Tryd.prog w = .ok (.int .i64 (cntY gs z)) w := by
  rw [OwnL.look Tryd.underlying57 zero_intY h.own hz, getY]
end

/-- What New leaves: a tally in new blocks. -/
def NewTally (w : World) (e : Ending) (w' : World) : Prop :=
  ∃ p g, e = .returned (.pointer (some ⟨p, 0, none⟩)) ∧ (w.heap.size ≤ p ∧ w.heap.size ≤ g) ∧ IsTally w' p g [] ∧ Kept [] w w'

set_option maxRecDepth 100000 in
set_option maxHeartbeats 1000000 in
theorem tallyNew_any (w : World) : Calls Tryd.prog 13 #[] w (NewTally w) := by
  have hmm := @run_makeMap Tryd.prog
  go_enter Tryd.func13, Tryd.ntmps13
  go_wp2
  go_ret
  have hr := Row.new (w.alloc (.map #[] 0)) 59 [.map (some w.heap.size)]
  have hz : (w.alloc (.map #[] 0)).heap.size = w.heap.size + 1 := by simp
  rw [hz] at hr
  exact ⟨w.heap.size + 1, w.heap.size, by simp, by omega, ⟨hr, (OwnL.made cntV w).kept ((Kept.refl [] _).alloc _) (by simp), by omega, GoodY.nil⟩, ((Kept.refl [] w).alloc _).alloc _⟩

theorem tallyOf_any (p g : Nat) (gs : List RunZ) (z : Int) (w : World) (h : IsTally w p g gs) (hz : Fit64 z) :
    Calls Tryd.prog 18 #[.pointer (some ⟨p, 0, none⟩), .int .i64 z] w fun e w' => e = .returned (.int .i64 (cntY gs z)) ∧ w = w' := by
  have hc := h.cell
  have hlook := h.look hz
  go_enter Tryd.func18, Tryd.ntmps18
  go_wp2
  go_ret
  exact ⟨rfl, rfl⟩

/-- What a call that may write the tally's map leaves: no result. -/
def PutPostY (p g : Nat) (gs : List RunZ) (w : World) (e : Ending) (w' : World) : Prop := e = .returned (.tuple #[]) ∧ IsTally w' p g gs ∧ Kept [g] w w'
/-- .. an error's number. -/
def ErrPostY (p g : Nat) (gs : List RunZ) (n : Int) (w : World) (e : Ending) (w' : World) : Prop := e = .returned (.int .i64 n) ∧ IsTally w' p g gs ∧ Kept [g] w w'

set_option maxRecDepth 100000 in
set_option maxHeartbeats 1000000 in
theorem tallyPut_any (p g : Nat) (gs : List RunZ) (z n : Int) (w : World) (h : IsTally w p g gs) (hz : Fit64 z) (hn : 0 ≤ n ∧ n ≤ 2147483647) (h1 : n ≠ 0 → 1 ≤ z) (hl : gs.length < 1099511627776) :
    Calls Tryd.prog 29 #[.pointer (some ⟨p, 0, none⟩), .int .i64 z, .int .i64 n] w (PutPostY p g (setY gs z n) w) := by
  have hc := h.cell
  have hG := Lib.hid (h.good.set hz.2 hn h1)
  go_enter Tryd.func29, Tryd.ntmps29
  by_cases h0 : n = 0
  · subst h0
    have e : setY gs z 0 = delL gs z := by unfold setY; rw [if_pos rfl]
    rw [e] at hG ⊢
    clear e h1
    go_wp2_with (first
      | (at_delete; refine wpList_delete_L Tryd.underlying57 _ rfl _ _ rfl g gs rfl h.own z hz rfl ?_; intro w2 own2 kw2)
      | fail)
    (try simp only [Exit.inBlock, Exit.then])
    refine bodyPost_ret (results_none rfl _ _ _) rfl ?_
    exact ⟨rfl, ⟨h.box.kept kw2 (by simpa using h.apart), own2, h.apart, hG.out⟩, kw2⟩
  · have h0' : decide (n = 0) = false := by simpa using h0
    have e : setY gs z n = putL gs z n := by unfold setY; rw [if_neg h0]
    rw [e] at hG ⊢
    clear e h1
    go_wp2_with (first
      | (at_mapUpdate; refine wpList_mapUpdate_L Tryd.underlying57 _ rfl _ _ _ rfl g gs rfl h.own (by unfold maxLen; omega) z hz n rfl rfl ?_; intro w2 own2 kw2)
      | fail)
    go_end0
    exact ⟨rfl, ⟨h.box.kept kw2 (by simpa using h.apart), own2, h.apart, hG.out⟩, kw2⟩

end Go.Proofs.YtionleocbjfgaaaDoor
