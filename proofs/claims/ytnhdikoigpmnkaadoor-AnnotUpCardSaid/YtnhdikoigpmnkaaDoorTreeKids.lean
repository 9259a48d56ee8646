/- Package tree: Kids, Remove; the library's sort on a slice of the call's own. -/
import Derived.Test.YtnhdikoigpmnkaaDoorTree
import Derived.Test.YtnhdikoigpmnkaaDoorAppendOne
import Derived.Test.YtnhdikoigpmnkaaDoorSortLay
import Derived.Sort.OwnSortedInts
namespace Go.Proofs.YtnhdikoigpmnkaaDoor
open Go.RowKit Go.Maps Go.Sort

theorem info_tint : (Tryd.prog.info? 3).map (fun i => (i.zero, i.size, i.bytes)) = some (some (.int .i64 0), 1, 8) := by kernel_rfl

/-- What the sort leaves in a slice of the call's own: sorted, in the same row. -/
def SortPost (B g cp : Nat) (xs : List Int) (w : World) (e : Ending) (w' : World) : Prop :=
  e = .returned (.tuple #[]) ∧ w'.ownsRow B 3 1 (.slice (some ⟨g, 0, none⟩) xs.length cp) xs.length (xs.map (Value.int .i64)) ∧ Kept [g] w w'
theorem sortOwn_any (B g cp : Nat) (ss xs : List Int) (w : World) (hrow : w.ownsRow B 3 1 (.slice (some ⟨g, 0, none⟩) ss.length cp) ss.length (ss.map (Value.int .i64)))
    (hs : ss.mergeSort (fun x y => decide (x ≤ y)) = xs) (hn : ss.length < 1099511627776) :
    Calls Tryd.prog 27 #[.slice (some ⟨g, 0, none⟩) ss.length cp] w (SortPost B g cp xs w) := by
  have hl : ss.length = xs.length := by rw [← hs, List.length_mergeSort]
  rcases hrow.2 with ⟨hnil, _⟩ | ⟨g', cap', cur, hv, hbase, hb, h1, h2, h3, h4⟩
  · cases hnil
  cases hv
  have hH : Holds (Value.int .i64) w g 0 ss.toArray := holds_of_blockI hb (by simpa using h4)
  have hgA : g < w.heap.size := (Array.getElem?_eq_some_iff.1 hb).1
  refine (slicesSort_any g 0 cp ss w hH hgA (by omega)).mono ?_
  rintro e w' ⟨rfl, nn, os, rfl⟩
  rw [hs]
  have hown := ownsRow_sortedI (n := nn) (os := os) (ts := xs) hl.symm hbase hb h1 h2 h3
  rw [hl] at hown
  exact ⟨rfl, hown, Kept.of_grown (grownBy_sortedI (n := nn) (os := os) xs.toArray)⟩
theorem insertNil_any (w : World) : Calls Tryd.prog 42 #[.slice none 0 0, .int .i64 0, .int .i64 0] w fun e w' => e = .returned (.tuple #[]) ∧ w = w' := by
  go_enter Tryd.func42, Tryd.ntmps42
  go_wp2
  refine wp_loop_rounds 1 ?_
  rw [rounds_succ]
  go_wp2
  go_end0
  exact ⟨rfl, rfl⟩
theorem len64_any (w : World) : Calls Tryd.prog 52 #[.int .u64 0] w fun e w' => e = .returned (.int .i64 0) ∧ w = w' := by
  go_enter Tryd.func52, Tryd.ntmps52
  go_wp2
  go_ret
  have h0 : wrap64 0 = 0 := by kernel_rfl
  exact ⟨by rw [show Lib.len8 0 = 0 from by kernel_rfl]; simp only [h0]; rfl, rfl⟩
theorem bitsLen_any (w : World) : Calls Tryd.prog 37 #[.int .u64 0] w fun e w' => e = .returned (.int .i64 0) ∧ w = w' := by
  go_enter Tryd.func37, Tryd.ntmps37
  go_wp2_with fail
  refine (len64_any w).mono ?_
  rintro e w1 ⟨rfl, rfl⟩
  go_wp2
  go_ret
  exact ⟨rfl, rfl⟩
set_option maxRecDepth 100000 in
set_option maxHeartbeats 2000000 in
theorem pdqNil_any (w : World) : Calls Tryd.prog 36 #[.slice none 0 0, .int .i64 0, .int .i64 0, .int .i64 0] w fun e w' => e = .returned (.tuple #[]) ∧ w = w' := by
  go_enter Tryd.func36, Tryd.ntmps36
  go_wp2
  refine wp_loop_rounds 1 ?_
  rw [rounds_succ]
  go_wp2_with fail
  refine (insertNil_any w).mono ?_
  rintro e w1 ⟨rfl, rfl⟩
  go_wp2
  (try simp only [Exit.inBlock, Exit.then])
  refine bodyPost_ret (results_none rfl _ _ _) rfl ?_
  exact ⟨rfl, rfl⟩
/-- Of no element: nothing is done. -/
theorem sortNil_any (w : World) : Calls Tryd.prog 27 #[.slice none 0 0] w fun e w' => e = .returned (.tuple #[]) ∧ w = w' := by
  go_enter Tryd.func27, Tryd.ntmps27
  go_wp2_with fail
  refine (bitsLen_any w).mono ?_
  rintro e w1 ⟨rfl, rfl⟩
  go_wp2_with fail
  refine (pdqNil_any w).mono ?_
  rintro e w1 ⟨rfl, rfl⟩
  go_wp2
  go_end0
  exact ⟨rfl, rfl⟩
/-- What Kids and Walk leave: a slice that reads as xs. -/
def ListPost (xs : List Int) (w : World) (e : Ending) (w' : World) : Prop :=
  ∃ a c, e = .returned (.slice a xs.length c) ∧ Sl w' .i64 a xs ∧ Kept [] w w'

/-- The same, in a block that is new. -/
def FreshPost (xs : List Int) (w : World) (e : Ending) (w' : World) : Prop :=
  ∃ G c, e = .returned (.slice (some ⟨G, 0, none⟩) xs.length c) ∧ w.heap.size ≤ G ∧ Sl w' .i64 (some ⟨G, 0, none⟩) xs ∧ Kept [] w w'

/-- A slice of the call's own, or nil. -/
def OwnK (w : World) (B : Nat) (v : Value) (ss : List Int) : Prop :=
  (v = .slice none 0 0 ∧ ss = []) ∨ ∃ g cp, v = .slice (some ⟨g, 0, none⟩) ss.length cp ∧ w.ownsRow B 3 1 v ss.length (ss.map (Value.int .i64))
theorem OwnK.row {w : World} {B : Nat} {v : Value} {ss : List Int} (h : OwnK w B v ss) : w.ownsRow B 3 1 v ss.length (ss.map (Value.int .i64)) := by
  rcases h with ⟨rfl, rfl⟩ | ⟨g, cp, rfl, h⟩
  · exact World.ownsRow_nil _ _ _ _
  · exact h
theorem OwnK.of_row {w : World} {B : Nat} {v : Value} {ss : List Int} (h : w.ownsRow B 3 1 v ss.length (ss.map (Value.int .i64))) : OwnK w B v ss := by
  rcases h.2 with ⟨hv, h0⟩ | ⟨g, cap, cur, hv, _⟩
  · exact .inl ⟨hv, List.length_eq_zero_iff.1 h0⟩
  · exact .inr ⟨g, cap, hv, h⟩
theorem OwnK.kept {w w' : World} {S : List Nat} {B : Nat} {v : Value} {ss : List Int} (h : OwnK w B v ss) (hk : Kept S w w') (hn : ∀ g, v.ownBlock = some g → g ∉ S) : OwnK w' B v ss := by
  rcases h with h | ⟨g, cp, rfl, h⟩
  · exact .inl h
  · exact .inr ⟨g, cp, rfl, own_kept h hk (hn g rfl)⟩

/-- The numbers of those whose parent is z. -/
def kidO (z : Int) (ss : List Rw) : List Int := (ss.filter fun r => decide (r.2 = z)).map (·.1)
theorem kidO_snoc (z : Int) (ss : List Rw) (x c : Int) : kidO z (ss ++ [(x, c)]) = if c = z then kidO z ss ++ [x] else kidO z ss := by
  unfold kidO; rw [List.filter_append]; by_cases h : c = z <;> simp [h]
theorem kidO_perm {z : Int} {ss rs : List Rw} (h : ss.Perm rs) : (kidO z ss).Perm (kidsB rs z) := (h.filter _).map _
theorem kidO_len (z : Int) (ss : List Rw) : (kidO z ss).length ≤ ss.length := by unfold kidO; rw [List.length_map]; exact List.length_filter_le _ _

set_option maxRecDepth 100000 in
set_option maxHeartbeats 4000000 in
theorem treeKids_any (p g : Nat) (rs : List Rw) (z : Int) (w : World) (h : IsTree w p g rs) (hr : rs.Pairwise (fun a b => a.1 < b.1)) (hn : rs.length < 1099511627776) :
    Calls Tryd.prog 29 #[.pointer (some ⟨p, 0, none⟩), .int .i64 z] w (ListPost (kidsB rs z) w) := by
  obtain ⟨i0, hi, hz0, hz1, hz2⟩ := info_parts info_tint
  have hc := h.cell
  have hsz := Lib.hid (size_setT rs)
  go_enter Tryd.func29, Tryd.ntmps29
  go_wp2_with (first
    | (at_range; refine wpList_range_own _ rfl _ 61 rfl 3 3 keyed_int Tryd.underlying61 _ g rs.length (setT rs) rfl h.own ?_; intro w0 hrg0 hg0 hs0)
    | go_in)
  go_frame
  have k0 : Kept [] w w0 := Kept.of_grown0 hg0
  have hrl := hrg0.lt
  have hgl := h.lt
  obtain ⟨B, hB⟩ : ∃ B, w.heap.size = B := ⟨_, rfl⟩
  have HB := Lib.hid hB
  rw [hB] at hrg0 hrl ⊢
  clear hg0 hs0 hB
  go_loopw [5] (fun v wr => ∃ (left : Lit → Bool) (cnt : Nat) (ss : List Rw), wr.ranges Tryd.prog 3 (plainElem Tryd.prog 3) g B rs.length (setT rs) left cnt ∧ ss.length + cnt ≤ rs.length ∧
      OwnK wr (B + 1) v (kidO z ss) ∧ CollT rs left ss ∧ Kept [] w wr ∧ B + 1 ≤ wr.heap.size)
    (fun _ wr => wr.rangeLeft g B)
  case atStart => exact ⟨_, _, [], hrg0, by simp [hsz.out], .inl ⟨rfl, rfl⟩, CollT.start rs, k0, hrl⟩
  case round =>
    obtain ⟨left, cnt, ss, hrg, hcs, hrow, hC, hkr, hBs⟩ := hrel
    clear hrg0 k0 hrl
    go_wp2_with (first
      | (at_next; refine wpList_next_ranges_ii _ rfl _ rfl 3 3 .i64 .i64 keyed_int Tryd.underlying3 Tryd.underlying3 g B rs.length _ _ _ rfl hrg ?_ ?_)
      | go_in)
    · intro hc0 hl0
      have hp := kidO_perm (z := z) (hC.perm hr hl0)
      have hks := kids_rise hr z
      clear hc0 hl0 hc
      rcases hrow with ⟨rfl, he⟩ | ⟨gA, cp, rfl, hrow⟩
      · have hk0 : kidsB rs z = [] := by rw [he] at hp; exact hp.nil_eq.symm
        have HK := Lib.hid hk0
        clear he hp hk0
        go_wp2_with fail
        refine (sortNil_any wr).mono ?_
        rintro e w1 ⟨rfl, rfl⟩
        go_wp2
        go_ret
        exact ⟨none, 0, by rw [HK.out]; rfl, .inl HK.out, hkr⟩
      · have hge := own_ge hrow
        have HL := Lib.hid hp.length_eq
        have hlen := Lib.hid (show (kidO z ss).length < 1099511627776 by have := kidO_len z ss; omega)
        go_wp2_with fail
        refine (sortOwn_any (B + 1) gA cp (kidO z ss) (kidsB rs z) wr hrow (sorted_of_perm hp hks) hlen.out).mono ?_
        rintro e w1 ⟨rfl, hrow1, hk1⟩
        go_wp2
        go_ret
        refine ⟨some ⟨gA, 0, none⟩, cp, by rw [← HL.out]; rfl, Sl.of_own hrow1, ?_⟩
        exact hkr.chain hk1 (by simp) (by simp; have := HB.out; omega)
    · intro x c w2 cnt2 hwx hwc hlk hat hrg2 hlt hg2 hs2 hen
      have hm := entry_mem hr hat
      have hC2 := hC.step hr hlk hm
      have kw2 := Kept.of_grown hg2
      have hBe := HB.out
      have hkr2 : Kept [] w w2 := hkr.chain kw2 (by simp) (by simp; omega)
      have hrow2 := hrow.kept kw2 (by
        rcases hrow with ⟨rfl, _⟩ | ⟨gA, cp, rfl, ho⟩
        · simp [Value.ownBlock]
        · have := own_ge ho
          simp [Value.ownBlock]; omega)
      have hB2 : B + 1 ≤ w2.heap.size := by omega
      clear hs2 hwx hwc hlk hat
      by_cases e : c = z
      · subst e
        have hrowA := hrow2.row.alloc (.cells #[.int .i64 x] 3)
        have hl2 := kidO_len c ss
        go_wp2_with (first
          | (at_builtin; refine wpList_append_own_at _ rfl _ _ 34 rfl (B + 1) 3 i0 (.int .i64 0) 1 8 Tryd.underlying34 hi hz0 hz1 hz2 rfl (by decide) _ _ _ rfl hrowA ⟨w2.heap.size, 0, none⟩ 1 1 [.int .i64 x] rfl rfl (cell_one_new _ _ _) (by simp [Value.oneCell']) (by unfold maxLen; omega) (by omega) (by simp; omega) ?_; intro v' w3 hown3 hg3 hnil3 hat3; go_frame)
          | go_in)
        have hk3 := Kept.of_own hg3
        have hvb := fun (j : Nat) (hj : _ = some j) => (hrow2.row.lt j hj).1
        have hrg3 := (hrg2.alloc (.cells #[.int .i64 x] 3)).kept hg3 (fun e => by have := hvb g e.symm; omega) (fun e => by have := hvb B e.symm; omega)
        go_roundw
        case rel =>
          refine ⟨_, cnt2, ss ++ [(x, c)], hrg3, by simp; omega, ?_, hC2, ?_, ?_⟩
          · rw [kidO_snoc, if_pos rfl]
            exact OwnK.of_row (by simpa using hown3)
          · exact (hkr2.alloc _).chain hk3 (by simp) (fun i hi hlt => by
              rw [Option.mem_toList] at hi
              have := hvb i hi; omega)
          · have := hk3.size; simp at this; omega
        case measure => rw [hrg3.left_eq, hrg.left_eq]; exact hlt
      · have e' : decide (c = z) = false := by simpa using e
        go_wp2_with fail
        go_roundw
        case rel => exact ⟨_, cnt2, ss ++ [(x, c)], hrg2, by simp; omega, by rw [kidO_snoc, if_neg (by simpa using e)]; exact hrow2, hC2, hkr2, hB2⟩
        case measure => rw [hrg2.left_eq, hrg.left_eq]; exact hlt
end Go.Proofs.YtnhdikoigpmnkaaDoor
