/- Package words: the places of a run, handed on one by one, rising or falling. -/
import Derived.RangeFuncNested
import Derived.RangeFuncBound
import Derived.RangeFuncCalls
import Derived.RangeFuncLeaves
import Derived.Shelf.Abstract
import Derived.Shelf.RegionOpen
import Derived.OwnWalkIn
import Derived.TacticsInMore
import Derived.LoopNIn
import Derived.LoopIn
import Derived.Test.YthkmnjkaadmilaaDoorMem
import Derived.Test.YthkmnjkaadmilaaDoorRange
namespace Go.Proofs.YthkmnjkaadmilaaDoor
open Go.RowKit Go.Shelf

attribute [local go_sem] Oper.semAt_some

/-- The places of the run: From, From + 1, .. -/
abbrev PlI (from_ : Int) (N : Nat) := { x : Int // from_ ≤ x ∧ x < from_ + N }
/-- The first k that are handed on. -/
def handed {α : Type} (f : Nat → α) (k : Nat) : List α := (List.range k).map f
theorem handed_succ {α : Type} (f : Nat → α) (k : Nat) : handed f (k + 1) = handed f k ++ [f k] := by simp [handed, List.range_succ]
theorem handed_length {α : Type} (f : Nat → α) (k : Nat) : (handed f k).length = k := by simp [handed]

/-- What a round that goes on keeps: block B. -/
def KeepsB (B : Nat) (W W' : World) : Prop := W'.heap[B]? = W.heap[B]?
theorem KeepsB.trans {B : Nat} {A C D : World} (h : KeepsB B A C) (k : KeepsB B C D) : KeepsB B A D := Eq.trans k h
theorem KeepsB.put {B : Nat} {w : World} (hB : B < w.heap.size) (W : World) (l : Nat) (o o' : Obj) (hl : w.heap.size ≤ l) (_ : W.heap[l]? = some o) (_ : o.isCells = false) (_ : o.isWalk = false) : KeepsB B W (W.putObj l o') :=
  World.putObj_heap_other (by omega)

theorem own_mem {β : Type} {b g : Nat} (f : β → List Int) : Own (fun (s : β) W => IsMem W b g (f s)) :=
  fun _ _ _ _ hs hg hr => ⟨(grownBy_keeps_cells hg hr hs.1 rfl).trans hs.1, (grownBy_keeps_cells hg hr hs.2.1 rfl).trans hs.2.1, hs.2.2⟩

theorem rising_in (F : Fence) (n : Nat) (h : F.fn 24) (hro : F.round = none) (a c : Int) (w : World) :
    CallsIn F n Tryd.prog 24 #[.agg #[.int .i64 a, .int .i64 c]] w fun e w' => e = .returned (.func (.func 30) #[] #[.pointer (some ⟨w.heap.size, 0, none⟩)]) ∧ w' = w.alloc (.cells #[.int .i64 a, .int .i64 c] 66) := by
  refine callsIn_of_wp Tryd.func24 rfl h ?_ hro
  simp only [Tryd.ntmps24, List.size_toArray, List.length_cons, List.length_nil, Nat.reduceAdd, Nat.reduceSub, Array.replicate_succ, Array.replicate_zero, List.push_toArray, List.append_toArray, List.nil_append, List.cons_append]
  gi_wp2
  go_ret
  exact ⟨rfl, rfl⟩

set_option maxRecDepth 100000 in
set_option maxHeartbeats 1000000 in
theorem rising1_in (F : Fence) (n : Nat) (h : F.fn 30) (hro : F.round = none) (hn : 1 ≤ n) (l B : Nat) (from_ : Int) (N : Nat) (h0 : 0 ≤ from_) (hN : from_ + N ≤ 16384)
    (J Jx : List (PlI from_ N) → World → Prop)
    (hY : ∀ pre x W, J pre W → pre.length < N → YieldAt F (n - 1) Tryd.prog l #[.int .i64 x.1] W fun e W' =>
      (e = .returned (.bool true) ∧ J (pre ++ [x]) W' ∧ KeepsB B W W') ∨ (e = .returned (.bool false) ∧ Jx (pre ++ [x]) W'))
    (W : World) (hB : Row W B 66 [.int .i64 from_, .int .i64 N]) (hJ0 : J [] W) :
    CallsIn F n Tryd.prog 30 #[.func (.yield l) #[] #[], .pointer (some ⟨B, 0, none⟩)] W fun e W' => (∃ v, e = .returned v) ∧
      ((∃ ys, ys.map (·.1) = handed (fun i => from_ + (i : Nat)) N ∧ J ys W') ∨ (∃ pre, True ∧ Jx pre W')) := by
  have c0 : W.cell? ⟨B, 0, none⟩ = some (.int .i64 from_) := by simpa using hB.cell 0
  have c1 : W.cell? ⟨B, 1, none⟩ = some (.int .i64 N) := by simpa using hB.cell 1
  refine callsIn_of_wp Tryd.func30 rfl h ?_ hro
  simp only [Tryd.ntmps30, List.size_toArray, List.length_cons, List.length_nil, Nat.reduceAdd, Nat.reduceSub, Array.replicate_succ, Array.replicate_zero, List.push_toArray, List.append_toArray, List.nil_append, List.cons_append]
  gi_wp2
  gi_loopw [6] (fun i wr => ∃ (k : Nat) (ys : List (PlI from_ N)), k ≤ N ∧ i = .int .i64 k ∧ ys.map (·.1) = handed (fun i => from_ + (i : Nat)) k ∧ J ys wr ∧ KeepsB B W wr)
    (fun i _ => N - (intOf i).toNat)
  case atStart => exact ⟨0, [], Nat.zero_le _, rfl, rfl, hJ0, rfl⟩
  case round =>
    obtain ⟨k, ys, hk, rfl, hys, hJs, hkb⟩ := hrel
    have d0 : wr.cell? ⟨B, 0, none⟩ = some (.int .i64 from_) := (World.cell?_of_block (w := W) (a := ⟨B, 0, none⟩) hkb).trans c0
    have hlen : ys.length = k := by have := congrArg List.length hys; simpa [handed_length] using this
    have HYS := Lib.hid hys
    have HL := Lib.hid hlen
    clear hys hlen
    by_cases hlt : k < N
    · obtain ⟨fn, tmps, assign, body, hy, hR⟩ := hY ys ⟨from_ + k, by omega, by omega⟩ wr hJs (by rw [HL.out]; exact hlt)
      dsimp only at hy
      gi_wp2
      refine hR.mono ?_
      rintro e W3 (⟨rfl, hJ3, hk3⟩ | ⟨rfl, hJx3⟩)
      · gi_wp2
        go_roundw
        case rel => exact ⟨k + 1, _, by omega, by simp, by rw [List.map_append, HYS.out, handed_succ]; rfl, hJ3, hkb.trans hk3⟩
        case measure => simp [intOf]; omega
      · gi_wp2
        refine bodyPost_ret (results_none rfl _ _ _) rfl ?_
        exact ⟨⟨_, rfl⟩, .inr ⟨_, trivial, hJx3⟩⟩
    · obtain rfl : k = N := by omega
      gi_wp2
      go_end0
      exact ⟨⟨_, rfl⟩, .inl ⟨_, HYS.out, hJs⟩⟩

/-- The run's places, rising: all of them, in order. -/
theorem rising_stops (F : Fence) (n : Nat) (h : F.fn 30) (hro : F.round = none) (hn : 1 ≤ n) (B : Nat) (from_ : Int) (N : Nat) (h0 : 0 ≤ from_) (hN : from_ + N ≤ 16384) (w : World)
    (hB : Row w B 66 [.int .i64 from_, .int .i64 N]) :
    SeqStopsK F n Tryd.prog 30 #[.pointer (some ⟨B, 0, none⟩)] (fun x : PlI from_ N => #[Value.int .i64 x.1]) (KeepsB B) (fun ys => ys.map (·.1) = handed (fun i => from_ + (i : Nat)) N) (fun _ => True) N w :=
  fun l J Jx W hW _ _ hY hJ0 => rising1_in F n h hro hn l B from_ N h0 hN J Jx hY W ((hW.block B hB.lt).trans hB) hJ0
end Go.Proofs.YthkmnjkaadmilaaDoor
