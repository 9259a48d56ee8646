/- Package kraalref04: the document's answers on books. -/
import Derived.Test.YtbncfpglofmejaaIdsAll
import Derived.Test.YtbncfpglofmejaaNum
import Derived.Test.YtbncfpglofmejaaRet
import Derived.Deep.RegionHeld3
namespace Go.Proofs.Ytbncfpglofmejaa
open Go.RowKit

/-- A book of the document: those that live (a slice at A), the last number, how many may live. -/
def refB (A : Option Addr) (n cap : Nat) (last most : Int) : Value := .agg #[.slice A n cap, .int .i64 last, .int .i64 most]

theorem refB_load {w : World} {g : Nat} {vs : List Value} (h : Row w g 27 vs) (hl : vs.length = 3) : (loadVar 27 ⟨g, 0, none⟩).run Try.prog w = .ok (.agg vs.toArray) w :=
  h.load Try.underlying27 rfl (by rw [hl]; kernel_rfl)

set_option maxHeartbeats 1000000 in
theorem refNew04_any (most : Int) (w : World) :
    Calls Try.prog 7 #[.int .i64 most] w fun e w' => e = .returned (refB none 0 0 0 (max most 0)) ∧ Kept [] w w' := by
  by_cases h : most < 0
  · go_enter Try.func7, Try.ntmps7
    go_wp2
    (try simp only [Exit.inBlock, Exit.then])
    refine bodyPost_ret (results_cell1 rfl rfl (refB_load (Row.new w _ [_, _, _]) rfl)) rfl ?_
    exact ⟨by rw [show max most 0 = 0 by omega]; rfl, (Kept.refl [] w).alloc _⟩
  · have h' : decide (most < 0) = false := by simpa using h
    go_enter Try.func7, Try.ntmps7
    go_wp2
    (try simp only [Exit.inBlock, Exit.then])
    refine bodyPost_ret (results_cell1 rfl rfl (refB_load (Row.new w _ [_, _, _]) rfl)) rfl ?_
    exact ⟨by rw [show max most 0 = most by omega]; rfl, (Kept.refl [] w).alloc _⟩

def LivesPost (xs : List Int) (z : Int) (w : World) (e : Ending) (w' : World) : Prop := e = .returned (.bool (decide (z ∈ xs))) ∧ Kept [] w w'

set_option maxHeartbeats 1000000 in
theorem refLives04_any (A : Option Addr) (n cap : Nat) (last most z : Int) (xs : List Int) (w : World) (hs : Sl w .i64 A xs) (hn : xs.length = n) (hx : n ≤ 1099511627776) :
    Calls Try.prog 16 #[refB A n cap last most, .int .i64 z] w (LivesPost xs z w) := by
  subst hn
  have rB := Row.new w 27 [.slice A xs.length cap, .int .i64 last, .int .i64 most]
  have kB := (Kept.refl [] w).alloc (.cells #[.slice A xs.length cap, .int .i64 last, .int .i64 most] 27)
  have hsB := hs.kept kB
  unfold refB
  go_enter Try.func16, Try.ntmps16
  go_wp2_with fail
  generalize w.alloc (.cells #[.slice A xs.length cap, .int .i64 last, .int .i64 most] 27) = W at rB kB hsB ⊢
  have c0 : W.cell? ⟨w.heap.size, 0, none⟩ = some (.slice A xs.length cap) := by simpa using rB.cell 0
  clear hs
  go_loop [5] (fun i => ∃ j : Nat, j ≤ xs.length ∧ i = .int .i64 j ∧ Hid (∀ i, i < j → xs[i]?.getD 0 ≠ z)) (fun i => xs.length - (intOf i).toNat)
  case atStart => exact ⟨0, Nat.zero_le _, rfl, fun i hi => by omega⟩
  case round =>
    obtain ⟨j, hj, rfl, HA⟩ := hrel
    by_cases hlt : j < xs.length
    · obtain ⟨b, off, rfl, cG⟩ := hsB.cell hlt
      by_cases hv : xs[j]?.getD 0 = z
      · rw [hv] at cG
        have HV := Lib.hid hv
        clear hv
        go_wp2
        go_ret
        refine ⟨?_, kB⟩
        have hm : z ∈ xs := by
          have := HV.out
          rw [List.getElem?_eq_getElem hlt] at this
          rw [← this]
          exact List.getElem_mem hlt
        rw [decide_eq_true hm]; rfl
      · have hv' : (xs[j]?.getD 0 == z) = false := by simpa using hv
        have HV := Lib.hid hv
        generalize xs[j]?.getD 0 = y at cG hv'
        clear hv
        go_wp2
        go_round
        case rel => exact ⟨j + 1, by omega, by go_num, fun i hi => by by_cases e : i = j; subst e; exact HV.out; exact HA.out i (by omega)⟩
        case measure => simp [intOf]; omega
    · obtain rfl : j = xs.length := by omega
      go_wp2
      go_ret
      refine ⟨?_, kB⟩
      have hm : z ∉ xs := fun hm => by
        obtain ⟨i, hi, e⟩ := List.getElem_of_mem hm
        exact HA.out i hi (by rw [List.getElem?_eq_getElem hi]; exact e)
      rw [decide_eq_false hm]; rfl

set_option maxHeartbeats 1000000 in
/-- Two slices that hold the same. -/
theorem refSame04_yes (A B : Option Addr) (n m ca cb : Nat) (xs : List Int) (w : World) (ha : Sl w .i64 A xs) (hb : Sl w .i64 B xs) (hn : xs.length = n) (hm : xs.length = m) (hx : n ≤ 1099511627776) :
    Calls Try.prog 12 #[.slice A n ca, .slice B m cb] w (FixedPost w) := by
  subst hn
  subst hm
  go_enter Try.func12, Try.ntmps12
  go_wp2_with fail
  go_loopw [5] (fun i wr => ∃ j : Nat, j ≤ xs.length ∧ i = .int .i64 j ∧ Kept [] w wr) (fun i _ => xs.length - (intOf i).toNat)
  case atStart => exact ⟨0, Nat.zero_le _, rfl, Kept.refl _ _⟩
  case round =>
    obtain ⟨j, hj, rfl, hkr⟩ := hrel
    by_cases hlt : j < xs.length
    · obtain ⟨b, off, rfl, cA⟩ := (ha.kept hkr).cell hlt
      obtain ⟨b', off', rfl, cB⟩ := (hb.kept hkr).cell hlt
      generalize xs[j]?.getD 0 = y at cA cB
      have h1 : (j : Int) < (xs.length : Int) := by omega
      go_wp2_with fail
      go_quiet (fail)
      go_wp2
      go_roundw
      case rel => exact ⟨j + 1, by omega, by go_num, hkr.drewN _⟩
      case measure => simp [intOf]; omega
    · obtain rfl : j = xs.length := by omega
      go_wp2
      go_ret
      exact ⟨rfl, hkr⟩

/-- Two new blocks of one type. -/
theorem two_rows (w : World) (t : TypeId) (vs us : List Value) : Row ((w.alloc (.cells vs.toArray t)).alloc (.cells us.toArray t)) w.heap.size t vs ∧ Row ((w.alloc (.cells vs.toArray t)).alloc (.cells us.toArray t)) (w.heap.size + 1) t us ∧
    Kept [] w ((w.alloc (.cells vs.toArray t)).alloc (.cells us.toArray t)) ∧ ((w.alloc (.cells vs.toArray t)).alloc (.cells us.toArray t)).heap.size = w.heap.size + 2 := by
  refine ⟨(Row.new w t vs).alloc _, ?_, ((Kept.refl [] w).alloc _).alloc _, by simp⟩
  have := Row.new (w.alloc (.cells vs.toArray t)) t us
  simpa using this
/-- What Give and Take leave of the document's book: a slice that holds xs', the same as came in or a new one. -/
def RefSl (A A' : Option Addr) (xs' : List Int) (w w' : World) : Prop :=
  Sl w' .i64 A' xs' ∧ (A' = A ∨ ∃ g, A' = some ⟨g, 0, none⟩ ∧ w.heap.size ≤ g) ∧ Kept [] w w'
def RefTake (A : Option Addr) (xs : List Int) (last most z : Int) (w : World) (e : Ending) (w' : World) : Prop :=
  ∃ A' cap', e = .returned (.tuple #[refB A' (xs.filter fun x => !decide (x = z)).length cap' last most, .int .i64 (if z ∈ xs then 0 else 2)]) ∧ RefSl A A' (xs.filter fun x => !decide (x = z)) w w'

theorem take_filter_succ {xs : List Int} {z : Int} {j : Nat} (hj : j < xs.length) : (xs.take (j + 1)).filter (fun x => !decide (x = z)) = (xs.take j).filter (fun x => !decide (x = z)) ++ (if xs[j]?.getD 0 = z then [] else [xs[j]?.getD 0]) := by
  rw [List.take_add_one, List.filter_append, List.getElem?_eq_getElem hj]
  by_cases e : xs[j] = z <;> simp [e]

set_option maxRecDepth 100000 in
set_option maxHeartbeats 2000000 in
theorem refTake04_any (A : Option Addr) (n cap : Nat) (last most z : Int) (xs : List Int) (w : World) (hs : Sl w .i64 A xs) (hn : xs.length = n) (hx : n ≤ 1099511627776) :
    Calls Try.prog 11 #[refB A n cap last most, .int .i64 z] w (RefTake A xs last most z w) := by
  subst hn
  obtain ⟨i0, hi, hz0, hz1, hz2⟩ := info_parts info_int
  obtain ⟨rB, rR, kW, hWz⟩ := two_rows w 27 [.slice A xs.length cap, .int .i64 last, .int .i64 most] [.slice none 0 0, .int .i64 0, .int .i64 0]
  unfold refB
  go_enter Try.func11, Try.ntmps11
  go_wp2_with fail
  generalize (w.alloc (.cells #[.slice A xs.length cap, .int .i64 last, .int .i64 most] 27)).alloc (.cells #[.slice none 0 0, .int .i64 0, .int .i64 0] 27) = W at rB rR kW hWz ⊢
  refine (refLives04_any A xs.length cap last most z xs W (hs.kept kW) rfl hx).mono ?_
  rintro e W1 ⟨rfl, k1⟩
  have rB1 := rB.kept k1 (by simp)
  have rR1 := rR.kept k1 (by simp)
  have kW1 := kW.trans k1
  have hs1 := hs.kept kW1
  have hz1' := k1.size
  have HZ : Hid (w.heap.size + 2 ≤ W1.heap.size) := by show _ ≤ _; omega
  clear rB rR kW k1 hz1' hWz
  by_cases hin : z ∈ xs
  · have HI := Lib.hid hin
    rw [decide_eq_true hin]
    clear hin
    have c0 : W1.cell? ⟨w.heap.size, 0, none⟩ = some (.slice A xs.length cap) := by simpa using rB1.cell 0
    have own0 := own_empty W1 3 1 W1.heap.size (Nat.le_refl _)
    have k0 := (Kept.refl [] W1).alloc (.cells #[] 3)
    go_wp2_with fail
    generalize W1.alloc (.cells #[] 3) = W2 at own0 k0 ⊢
    go_loopw [6, 7] (fun o i wr => ∃ (j g' cp : Nat), j ≤ xs.length ∧ o = .slice (some ⟨g', 0, none⟩) ((xs.take j).filter fun x => !decide (x = z)).length cp ∧ i = .int .i64 j ∧
        wr.ownsRow W1.heap.size 3 1 (.slice (some ⟨g', 0, none⟩) ((xs.take j).filter fun x => !decide (x = z)).length cp) ((xs.take j).filter fun x => !decide (x = z)).length (((xs.take j).filter fun x => !decide (x = z)).map (Value.int .i64)) ∧ Kept [] W1 wr) (fun _ i _ => xs.length - (intOf i).toNat)
    case atStart => exact ⟨0, W1.heap.size, 0, Nat.zero_le _, by simp, rfl, by simpa using own0, k0⟩
    case round =>
      obtain ⟨j, g', cp, hj, rfl, rfl, hor, hkr⟩ := hrel
      clear own0 k0 c0
      have rBr := rB1.kept hkr (by simp)
      have c0 : wr.cell? ⟨w.heap.size, 0, none⟩ = some (.slice A xs.length cap) := by simpa using rBr.cell 0
      have hgl := own_ge hor
      have hlj : ((xs.take j).filter fun x => !decide (x = z)).length ≤ j := Nat.le_trans (List.length_filter_le _ _) (by simp; omega)
      by_cases hlt : j < xs.length
      · obtain ⟨b, off, rfl, cG⟩ := (hs1.kept hkr).cell hlt
        have HS := Lib.hid (take_filter_succ (z := z) hlt)
        by_cases hv : xs[j]?.getD 0 = z
        · rw [hv] at cG
          have HV := Lib.hid hv
          clear hv
          go_wp2
          go_roundw
          case rel =>
            have e1 := HS.out
            rw [if_pos HV.out, List.append_nil] at e1
            exact ⟨j + 1, g', cp, by omega, by rw [e1], by go_num, by rw [e1]; exact hor, hkr⟩
          case measure => simp [intOf]; omega
        · have hv' : (xs[j]?.getD 0 == z) = false := by simpa using hv
          have HV := Lib.hid hv
          clear hv
          obtain ⟨y, hy⟩ : ∃ y, xs[j]?.getD 0 = y := ⟨_, rfl⟩
          rw [hy] at cG hv'
          have HY := Lib.hid hy
          clear hy
          have rE := Row.new wr 3 [.int .i64 y]
          have kE := (Kept.refl [] wr).alloc (.cells #[.int .i64 y] 3)
          have rowE := own_kept hor kE (by simp)
          have sE := (Sl.of_row (k := .i64) (xs := [y]) rE).toV
          have hsz := hkr.size
          generalize ((xs.take j).filter fun x => !decide (x = z)).length = L at hor hlj rowE ⊢
          go_wp2_with (at_builtin; refine wpList_append_on _ rfl _ _ 22 rfl W1.heap.size 3 i0 (.int .i64 0) 1 8 Try.underlying22 hi hz0 hz1 hz2 rfl (by omega) g' L cp _ rfl rowE _ 1 1 _ rfl sE int_oneCell (by unfold maxLen; omega) (by omega) (by simp; omega) ?_; intro g2 cp2 w3 hown3 hk3 hg3)
          go_roundw
          case rel =>
            have e1 := HS.out
            rw [if_neg HV.out, HY.out] at e1
            have e2 : ((xs.take (j + 1)).filter fun x => !decide (x = z)).length = L + 1 := by
              have := hown3.1
              rw [← List.map_append] at this
              rw [e1]; simpa using this
            exact ⟨j + 1, g2, cp2, by omega, by rw [e2], by go_num, by rw [e2, e1, List.map_append]; exact hown3, (hkr.alloc _).chain hk3 (by simp) (by simp; omega)⟩
          case measure => simp [intOf]; omega
      · obtain rfl : j = xs.length := by omega
        have c1 : wr.cell? ⟨w.heap.size, 1, none⟩ = some (.int .i64 last) := by simpa using rBr.cell 1
        have c2 : wr.cell? ⟨w.heap.size, 2, none⟩ = some (.int .i64 most) := by simpa using rBr.cell 2
        have rRr := rR1.kept hkr (by simp)
        have d0 : wr.cell? ⟨w.heap.size + 1, 0, none⟩ = some (.slice none 0 0) := by simpa using rRr.cell 0
        have d1 : wr.cell? ⟨w.heap.size + 1, 1, none⟩ = some (.int .i64 0) := by simpa using rRr.cell 1
        have d2 : wr.cell? ⟨w.heap.size + 1, 2, none⟩ = some (.int .i64 0) := by simpa using rRr.cell 2
        have e0 := rBr.free 0
        have f0 := rRr.free 0
        have f1 := rRr.free 1
        have f2 := rRr.free 2
        simp only [List.take_length] at hor hlj ⊢
        have hz2' := HZ.out
        obtain ⟨V, hV⟩ : ∃ V, Value.slice (some ⟨g', 0, none⟩) (xs.filter fun x => !decide (x = z)).length cp = V := ⟨_, rfl⟩
        have hR := (rRr.other ⟨w.heap.size, 0, none⟩ V (by simp)).set3 V (.int .i64 last) (.int .i64 most)
        have hK := (((Kept.refl [w.heap.size, w.heap.size + 1] wr).set (p := ⟨w.heap.size, 0, none⟩) (.inl (by simp)) V).set3 (g := w.heap.size + 1) (.inl (by simp)) V (.int .i64 last) (.int .i64 most))
        subst hV
        go_wp2
        (try simp only [Exit.inBlock, Exit.then])
        refine bodyPost_ret (results_cell2 rfl rfl (refB_load hR rfl)) rfl ?_
        have hkk : Kept [] w _ := (kW1.trans hkr).chain hK (by simp) (by simp)
        have hown := own_kept hor hK (by simp; omega)
        exact ⟨some ⟨g', 0, none⟩, cp, by rw [if_pos HI.out]; rfl, Sl.of_own hown, .inr ⟨g', rfl, by omega⟩, hkk⟩
  · have HI := Lib.hid hin
    rw [decide_eq_false hin]
    clear hin
    have c0 : W1.cell? ⟨w.heap.size, 0, none⟩ = some (.slice A xs.length cap) := by simpa using rB1.cell 0
    have c1 : W1.cell? ⟨w.heap.size, 1, none⟩ = some (.int .i64 last) := by simpa using rB1.cell 1
    have c2 : W1.cell? ⟨w.heap.size, 2, none⟩ = some (.int .i64 most) := by simpa using rB1.cell 2
    have d0 : W1.cell? ⟨w.heap.size + 1, 0, none⟩ = some (.slice none 0 0) := by simpa using rR1.cell 0
    have d1 : W1.cell? ⟨w.heap.size + 1, 1, none⟩ = some (.int .i64 0) := by simpa using rR1.cell 1
    have d2 : W1.cell? ⟨w.heap.size + 1, 2, none⟩ = some (.int .i64 0) := by simpa using rR1.cell 2
    have f0 := rR1.free 0
    have f1 := rR1.free 1
    have f2 := rR1.free 2
    go_wp2
    (try simp only [Exit.inBlock, Exit.then])
    have hR := rR1.set3 (.slice A xs.length cap) (.int .i64 last) (.int .i64 most)
    have hK := (Kept.refl [w.heap.size + 1] W1).set3 (g := w.heap.size + 1) (.inl (by simp)) (.slice A xs.length cap) (.int .i64 last) (.int .i64 most)
    refine bodyPost_ret (results_cell2 rfl rfl (refB_load hR rfl)) rfl ?_
    have hkk : Kept [] w _ := kW1.chain hK (by simp) (by simp)
    exact ⟨A, cap, by rw [filter_none HI.out, if_neg HI.out]; rfl, by rw [filter_none HI.out]; exact hs.kept hkk, .inl rfl, hkk⟩
end Go.Proofs.Ytbncfpglofmejaa
