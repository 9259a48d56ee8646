/- Package words: All. -/
import Derived.Test.YthkmnjkaadmilaaDoorIter
import Derived.Test.YthkmnjkaadmilaaDoorRegion
namespace Go.Proofs.YthkmnjkaadmilaaDoor
open Go.RowKit Go.Shelf

attribute [local go_sem] Oper.semAt_some

/-- The words that were copied so far. -/
def copied (xs : List Int) (l : List Int) : List Int := l.foldl (fun ys at_ => ys.set at_.toNat (xs[at_.toNat]?.getD 0)) (List.replicate xs.length 0)
theorem foldl_set_length (f : Int → Int) (l : List Int) : ∀ ys : List Int, (l.foldl (fun ys at_ => ys.set at_.toNat (f at_)) ys).length = ys.length := by
  induction l with
  | nil => intro ys; rfl
  | cons x r ih => intro ys; rw [List.foldl_cons, ih, List.length_set]
theorem copied_length (xs l : List Int) : (copied xs l).length = xs.length := by
  unfold copied
  rw [foldl_set_length (fun at_ => xs[at_.toNat]?.getD 0)]; simp
theorem copied_snoc (xs l : List Int) (x : Int) : copied xs (l ++ [x]) = (copied xs l).set x.toNat (xs[x.toNat]?.getD 0) := by simp [copied]
theorem copied_upto (xs : List Int) (k : Nat) : k ≤ xs.length → copied xs (handed (fun i => (0 : Int) + (i : Nat)) k) = xs.take k ++ List.replicate (xs.length - k) 0 := by
  induction k with
  | zero => intro _; simp [copied, handed]
  | succ k ih =>
    intro h
    rw [handed_succ, copied_snoc, ih (by omega)]
    apply List.ext_getElem?
    intro i
    rw [show ((0 : Int) + (k : Nat)).toNat = k from by omega, List.getElem?_set]
    by_cases e : k = i
    · subst e
      rw [if_pos rfl, if_pos (by simp; omega), List.getElem?_append_left (by simp; omega), List.getElem?_take, if_pos (by omega)]
      simp [List.getElem?_eq_getElem (show k < xs.length by omega)]
    · rw [if_neg e]
      by_cases hi : i < k
      · rw [List.getElem?_append_left (by simp; omega), List.getElem?_append_left (by simp; omega), List.getElem?_take, List.getElem?_take, if_pos hi, if_pos (by omega)]
      · rw [List.getElem?_append_right (by simp; omega), List.getElem?_append_right (by simp; omega)]
        simp only [List.length_take, Nat.min_eq_left (show k ≤ xs.length by omega), Nat.min_eq_left (show k + 1 ≤ xs.length by omega), List.getElem?_replicate]
        split <;> split <;> first | rfl | omega
theorem copied_all (xs : List Int) : copied xs (handed (fun i => (0 : Int) + (i : Nat)) xs.length) = xs := by
  rw [copied_upto xs _ (Nat.le_refl _)]; simp

/-- What All leaves: a new row of the same words. -/
def NewAll (w : World) (xs : List Int) (e : Ending) (w' : World) : Prop :=
  ∃ r, e = .returned (.slice (some ⟨r, 0, none⟩) xs.length xs.length) ∧ w.heap.size ≤ r ∧ Row w' r 28 (xs.map (Value.int .u64)) ∧ Kept [] w w'

set_option maxRecDepth 100000 in
set_option maxHeartbeats 1000000 in
theorem all_in (n : Nat) (hn : 3 ≤ n) (b g : Nat) (xs : List Int) (w : World) (hm : IsMem w b g xs) :
    CallsIn Fence.wide n Tryd.prog 14 #[.pointer (some ⟨b, 0, none⟩)] w (NewAll w xs) := by
  have h1 : 1 ≤ n := by omega
  obtain ⟨i0, hi, hz0, hz1, hz2⟩ := info_parts Tryd.info28
  have hx := hm.2.2
  have hm1 := hm.kept ((Kept.refl [] w).alloc (.cells #[.pointer (some ⟨b, 0, none⟩)] 31)) (by simp) (by simp)
  have hc := hm1.cellB
  refine callsIn_of_wp_marks Tryd.func14 rfl trivial ?_ rfl
  simp only [Tryd.ntmps14, List.size_toArray, List.length_cons, List.length_nil, Nat.reduceAdd, Nat.reduceSub, Array.replicate_succ, Array.replicate_zero, List.push_toArray, List.append_toArray, List.nil_append, List.cons_append]
  gi_wp2_with (first
    | (gi_at_make; refine wpListIn_make_row _ rfl _ _ 22 rfl 28 i0 (.int .u64 0) Tryd.underlying22 hi hz0 hz1 rfl .i64 .i64 xs.length xs.length xs.length rfl rfl rfl rfl (by rw [hz2]; omega) (by unfold maxLen; omega) ?_; intro w1 hr1 hk1 hs1; have Hs1 := Lib.hid hs1; clear hs1; have hp := (Row.new w 31 [.pointer (some ⟨b, 0, none⟩)]).kept hk1 (by simp); have hm2 := hm1.kept hk1 (by simp) (by simp); have c1 : w1.cell? ⟨w.heap.size, 0, none⟩ = some (.pointer (some ⟨b, 0, none⟩)) := (by simpa using hp.cell 0); have c2 := hm2.cellB; have l1 := hp.lt; have l2 := hm2.1.lt)
    | (refine ⟨trivial, ?_⟩; gi_at_call 24; refine (rising_in Fence.wide (n - 1) trivial rfl _ _ _).mono ?_; rintro e w' ⟨rfl, rfl⟩))
  have rP := (hp.alloc (.cells #[.slice (some ⟨w.heap.size + 1, 0, none⟩) xs.length xs.length] 22)).alloc (.cells #[.int .i64 0, .int .i64 xs.length] 66)
  have hM := (hm2.kept ((Kept.refl [] w1).alloc (.cells #[.slice (some ⟨w.heap.size + 1, 0, none⟩) xs.length xs.length] 22)) (by simp) (by simp)).kept ((Kept.refl [] _).alloc (.cells #[.int .i64 0, .int .i64 xs.length] 66)) (by simp) (by simp)
  have rA := (hr1.alloc (.cells #[.slice (some ⟨w.heap.size + 1, 0, none⟩) xs.length xs.length] 22)).alloc (.cells #[.int .i64 0, .int .i64 xs.length] 66)
  have rV := (Row.new w1 22 [.slice (some ⟨w.heap.size + 1, 0, none⟩) xs.length xs.length]).alloc (.cells #[.int .i64 0, .int .i64 xs.length] 66)
  have rR := Row.new (w1.alloc (.cells #[.slice (some ⟨w.heap.size + 1, 0, none⟩) xs.length xs.length] 22)) 66 [.int .i64 0, .int .i64 xs.length]
  have kW : Kept [] w _ := ((((Kept.refl [] w).alloc (.cells #[.pointer (some ⟨b, 0, none⟩)] 31)).trans hk1).alloc (.cells #[.slice (some ⟨w.heap.size + 1, 0, none⟩) xs.length xs.length] 22)).alloc (.cells #[.int .i64 0, .int .i64 xs.length] 66)
  rw [World.size_alloc] at rA rR
  have e1 := Hs1.out
  rw [World.size_alloc] at e1
  rw [e1] at rV rR ⊢
  rw [zeros_ints] at rA
  clear hc hr1 hk1 hp hm2 c1 c2 l1 l2 hm1 Hs1
  generalize (w1.alloc (.cells #[.slice (some ⟨w.heap.size + 1, 0, none⟩) xs.length xs.length] 22)).alloc (.cells #[.int .i64 0, .int .i64 xs.length] 66) = W0 at rP hM rA rV rR kW ⊢
  clear e1
  clear w1
  refine wpIn_range_all 4 rfl h1 rfl trivial (enters_of Tryd.func30 (by kernel_rfl) rfl) (rising_stops Fence.wide (n - 1) trivial rfl (by omega) (w.heap.size + 3) 0 xs.length (by omega) (by omega) W0 rR) KeepsB.trans (KeepsB.put rR.lt)
    (fun pre W => Row W (w.heap.size + 1) 28 ((copied xs (pre.map (·.1))).map (Value.int .u64)) ∧ Kept [w.heap.size + 1] W0 W)
    (OwnFrom.and (Own.from (own_row _) _) (ownFrom_kept (Nat.le_refl _))) ⟨rA, Kept.refl _ _⟩ ?assign ?body ?done
  case assign =>
    intro l x W K hK
    simp only [List.setIfInBounds_toArray, List.set_cons_succ, List.set_cons_zero] at hK ⊢
    gi_wp2
    exact hK
  case body =>
    rintro l pre ⟨x, hx0, hx1⟩ W ⟨hr, hk⟩ _
    obtain ⟨k, rfl⟩ := Int.eq_ofNat_of_zero_le hx0
    have hkl : k < xs.length := by omega
    have nP : w.heap.size ∉ [w.heap.size + 1] := by simp
    have hMW := hM.kept hk (by simp; have := hm.1.lt; omega) (by simp; have := hm.2.1.lt; omega)
    have rVW := rV.kept hk (by simp)
    have cP : W.cell? ⟨w.heap.size, 0, none⟩ = some (.pointer (some ⟨b, 0, none⟩)) := by simpa using (rP.kept hk nP).cell 0
    have cV : W.cell? ⟨w.heap.size + 1 + 1, 0, none⟩ = some (.slice (some ⟨w.heap.size + 1, 0, none⟩) xs.length xs.length) := by simpa using rVW.cell 0
    have cB := hMW.cellB
    have cG := hMW.cellG k hkl
    have fA := hr.free k
    have cA : W.cell? ⟨w.heap.size + 1, k, none⟩ = some (.int .u64 ((copied xs (pre.map (·.1)))[k]?.getD 0)) := by
      rw [hr.cell k]; simp [copied_length, hkl]
    simp only [List.setIfInBounds_toArray, List.set_cons_succ, List.set_cons_zero]
    gi_wp2
    refine wpIn_region_still_tail 10 (by kernel_rfl) (by kernel_rfl) (by kernel_rfl) ?_
    simp only [List.take_succ_cons, List.take_zero, List.drop_succ_cons, List.drop_zero]
    repeat still_step
    refine wpStill_nil ?_
    gi_wp2
    refine ⟨(KeepsOthers.setCell _ _ _).trans (KeepsOthers.drew _), ?_, ?_, ?_⟩
    · exact heap_setCell_other W _ _ _ (by simp)
    · rw [List.map_append, List.map_cons, List.map_nil, copied_snoc]
      have := hr.set k (.int .u64 xs[k])
      rw [← List.map_set] at this
      simpa [hkl] using this.drew
    · exact (hk.set (p := ⟨w.heap.size + 1, k, none⟩) (.inl (by simp)) _).drew
  case done =>
    rintro D ys W hD hys ⟨hr, hk⟩ hK
    rw [hys, copied_all] at hr
    have cV : W.cell? ⟨w.heap.size + 1 + 1, 0, none⟩ = some (.slice (some ⟨w.heap.size + 1, 0, none⟩) xs.length xs.length) := by simpa using (rV.kept hk (by simp)).cell 0
    gi_wp2
    refine ⟨by simp, .inl ⟨_, _, rfl, run_takeDeferred hK, ?_⟩⟩
    refine ⟨_, results_tmp rfl _ _ _, ⟨w.heap.size + 1, rfl, by omega, ?_, ?_⟩⟩
    · exact (World.putObj_heap_other (fun e => by subst e; rw [hr] at hK; simp at hK)).trans hr
    · have hk2 : Kept [] w W := ⟨hk.os.trans kW.os, hk.tape.trans kW.tape, hk.output.trans kW.output, Nat.le_trans kW.size hk.size, fun i hi _ => (hk.block i (Nat.lt_of_lt_of_le hi kW.size) (by simp; omega)).trans (kW.block i hi (by simp))⟩
      exact hk2.put (.inr (by have := kW.size; omega)) _

theorem all_any (b g : Nat) (xs : List Int) (w : World) (hm : IsMem w b g xs) :
    Calls Tryd.prog 14 #[.pointer (some ⟨b, 0, none⟩)] w (NewAll w xs) := (callsIn_wide (n := 3)).1 (all_in 3 (by omega) b g xs w hm)
end Go.Proofs.YthkmnjkaadmilaaDoor
