/- Package kraalref01, more: Move, New, Same. -/
import Derived.Test.YtkdojplbkhdgdaaRef
namespace Go.Proofs.Ytkdojplbkhdgdaa
open Go.RowKit

theorem moved_zero (xs : List Int) (a to : Nat) : moved xs a 0 to = xs := by
  refine ext_getD (moved_length _ _ _ _) fun j hj => ?_
  rw [moved_length] at hj
  rw [moved_get _ _ _ _ _ hj, if_neg (by omega)]
theorem moved_succ (xs : List Int) (a to j : Nat) : (moved xs a j to).set (to + j) (xs[a + j]?.getD 0) = moved xs a (j + 1) to := by
  refine ext_getD (by rw [List.length_set, moved_length, moved_length]) fun i hi => ?_
  rw [List.length_set, moved_length] at hi
  rw [set_getD _ _ _ _ (by rw [moved_length]; exact hi), moved_get _ _ _ _ _ hi, moved_get _ _ _ _ _ hi]
  by_cases e : to + j = i
  · subst e
    rw [if_pos rfl, if_pos (by omega), show to + j - to + a = a + j from by omega]
  · rw [if_neg e]
    by_cases h : to ≤ i ∧ i < to + j
    · rw [if_pos h, if_pos (by omega)]
    · rw [if_neg h, if_neg (by omega)]

set_option maxHeartbeats 2000000 in
theorem refMove_any (A : Option Addr) (cap : Nat) (xs : List Int) (a c to : Int) (w : World) (hs : Sl w .u64 A xs) (hx : xs.length ≤ 16384) :
    Calls Try.prog 15 #[.slice A xs.length cap, .agg #[.int .i64 a, .int .i64 c], .int .i64 to] w (RefPost A (mvB xs a c to) (errB (mayMove xs.length a c to)) w) := by
  obtain ⟨i0, hi, hz0, hz1, hz2⟩ := info_parts Try.info31
  have rR := Row.new w 38 [.int .i64 a, .int .i64 c]
  have kW := (Kept.refl [] w).alloc (.cells #[.int .i64 a, .int .i64 c] 38)
  go_enter Try.func15, Try.ntmps15
  go_wp2_with fail
  generalize w.alloc (.cells #[.int .i64 a, .int .i64 c] 38) = W at rR kW ⊢
  refine (refHas_any A xs.length cap a c W hx).mono ?_
  rintro e W1 ⟨rfl, k1⟩
  have rR1 := rR.kept k1 (by simp)
  have kW1 := kW.trans k1
  clear rR kW k1
  have cR1 : W1.cell? ⟨w.heap.size, 1, none⟩ = some (.int .i64 c) := by simpa using rR1.cell 1
  cases hh : holdsB xs.length a c with
  | false =>
    have hw : mvB xs a c to = xs := by simp [mvB, mayMove, hh]
    have hmm : mayMove xs.length a c to = false := by simp [mayMove, hh]
    have HW := Lib.hid hw
    have HM := Lib.hid hmm
    clear hw hh hmm
    go_wp2
    go_ret2
    exact ⟨A, cap, by rw [HW.out, HM.out]; rfl, by rw [HW.out]; exact hs.kept kW1, .inl rfl, kW1⟩
  | true =>
    go_wp2_with fail
    refine (refHas_any A xs.length cap to c W1 hx).mono ?_
    rintro e W2 ⟨rfl, k2⟩
    have rR2 := rR1.kept k2 (by simp)
    have kW2 := kW1.trans k2
    clear rR1 kW1 k2 cR1
    cases hh2 : holdsB xs.length to c with
    | false =>
      have hw : mvB xs a c to = xs := by simp [mvB, mayMove, hh2]
      have hmm : mayMove xs.length a c to = false := by simp [mayMove, hh2]
      have HW := Lib.hid hw
      have HM := Lib.hid hmm
      clear hw hh hh2 hmm
      go_wp2
      go_ret2
      exact ⟨A, cap, by rw [HW.out, HM.out]; rfl, by rw [HW.out]; exact hs.kept kW2, .inl rfl, kW2⟩
    | true =>
      have hd : 0 ≤ a ∧ 0 ≤ c ∧ c ≤ (xs.length : Int) - a := by simpa [holdsB] using hh
      obtain ⟨d0, d1, d2⟩ := hd
      obtain ⟨B, rfl⟩ := Int.eq_ofNat_of_zero_le d0
      obtain ⟨N, rfl⟩ := Int.eq_ofNat_of_zero_le d1
      have hd2 : 0 ≤ to ∧ 0 ≤ (N : Int) ∧ (N : Int) ≤ (xs.length : Int) - to := by simpa [holdsB] using hh2
      obtain ⟨f0, _, f2⟩ := hd2
      obtain ⟨T, rfl⟩ := Int.eq_ofNat_of_zero_le f0
      have hmm : mayMove xs.length B N T = true := by simp [mayMove, hh, hh2]
      have hw : mvB xs B N T = moved xs B N T := by simp [mvB, hmm]
      have HW := Lib.hid hw
      have HM := Lib.hid hmm
      clear hw hh hh2 hmm
      have own0 := own_empty W2 31 1 W2.heap.size (Nat.le_refl _)
      have k0 := (Kept.refl [] W2).alloc (.cells #[] 31)
      have s0 := ((hs.kept kW2).kept k0).toV
      go_wp2_with (at_builtin; refine wpList_append_on _ rfl _ _ 28 rfl W2.heap.size 31 i0 (.int .u64 0) 1 8 Try.underlying28 hi hz0 hz1 hz2 rfl (by omega) W2.heap.size 0 0 [] rfl own0 A xs.length cap _ rfl s0 int_oneCell (by unfold maxLen; omega) (by omega) (by simp) ?_; intro g' cap' w1 hown hk _; rw [Nat.zero_add, List.nil_append] at hown; rw [Nat.zero_add])
      have kw1 : Kept [] w w1 := (kW2.trans k0).chain hk (by simp) (by have := kW2.size; simp; omega)
      have hge := own_ge hown
      have hkz := kW2.size
      have rR3 := (rR2.kept k0 (by simp)).kept hk (by have := rR2.lt; simp; omega)
      have hRl := rR2.lt
      clear own0 s0 hk k0 rR2
      go_loopw [9] (fun i wr => ∃ j : Nat, j ≤ N ∧ i = .int .i64 j ∧ wr.ownsRow W2.heap.size 31 1 (.slice (some ⟨g', 0, none⟩) xs.length cap') xs.length ((moved xs B j T).map (Value.int .u64)) ∧ Kept [g'] w1 wr) (fun i _ => N - (intOf i).toNat)
      case atStart => exact ⟨0, Nat.zero_le _, rfl, by rw [moved_zero]; exact hown, Kept.refl _ _⟩
      case round =>
        obtain ⟨j, hj, rfl, hor, hkr⟩ := hrel
        have cR0 : wr.cell? ⟨w.heap.size, 0, none⟩ = some (.int .i64 B) := by simpa using (rR3.kept hkr (by simp; omega)).cell 0
        have cR1 : wr.cell? ⟨w.heap.size, 1, none⟩ = some (.int .i64 N) := by simpa using (rR3.kept hkr (by simp; omega)).cell 1
        have kwr : Kept [] w wr := kw1.chain hkr (by simp) (by simp; omega)
        by_cases hlt : j < N
        · obtain ⟨b, off, rfl, hsc⟩ := (hs.kept kwr).cell (j := B + j) (by omega)
          have hcell := hor.cellAt (T + j) (by omega)
          rw [List.getElem?_map, List.getElem?_eq_getElem (by rw [moved_length]; omega), Option.map_some] at hcell
          have hfr := hor.frozenAt (T + j)
          have hst := (hor.stored (T + j) (.int .u64 (xs[B + j]?.getD 0))).1
          rw [← List.map_set, moved_succ] at hst
          have HST := Lib.hid hst
          clear hst
          have t1 : ((B : Int) + j).toNat = B + j := by omega
          have t2 : ((T : Int) + j).toNat = T + j := by omega
          have t3 : B + j < xs.length := by omega
          go_wp2
          go_roundw
          case rel => exact ⟨j + 1, by omega, by go_num, by simpa [t3] using HST.out, hkr.set (.inl (by simp)) _⟩
          case measure => simp [intOf]; omega
        · obtain rfl : j = N := by omega
          go_wp2
          go_ret2
          refine ⟨some ⟨g', 0, none⟩, cap', by rw [HW.out, HM.out, moved_length]; rfl, by rw [HW.out]; exact Sl.of_own hor, .inr ⟨g', rfl, by omega⟩, ?_⟩
          exact kwr

set_option maxHeartbeats 1000000 in
theorem refNew_no (n : Int) (w : World) (h : n < 0 ∨ 16384 < n) :
    Calls Try.prog 9 #[.int .i64 n] w (RefPost none [] 1 w) := by
  rcases h with h | h
  · go_enter Try.func9, Try.ntmps9
    go_wp2
    go_ret2
    exact ⟨some ⟨w.heap.size, 0, none⟩, 0, rfl, .inl rfl, .inr ⟨_, rfl, Nat.le_refl _⟩, (Kept.refl [] w).alloc _⟩
  · have h' : decide (n < 0) = false := by simp; omega
    go_enter Try.func9, Try.ntmps9
    go_wp2
    go_ret2
    exact ⟨some ⟨w.heap.size, 0, none⟩, 0, rfl, .inl rfl, .inr ⟨_, rfl, Nat.le_refl _⟩, (Kept.refl [] w).alloc _⟩

set_option maxHeartbeats 1000000 in
theorem refNew_yes (n : Nat) (w : World) (h : n ≤ 16384) :
    Calls Try.prog 9 #[.int .i64 n] w (RefPost none (List.replicate n 0) 0 w) := by
  obtain ⟨i0, hi, hz0, hz1, hz2⟩ := info_parts Try.info31
  have own0 := own_empty w 31 1 w.heap.size (Nat.le_refl _)
  have k0 := (Kept.refl [] w).alloc (.cells #[] 31)
  have h' : decide ((n : Int) < 0) = false := by simp
  have h2 : decide ((16384 : Int) < n) = false := by simp; omega
  go_enter Try.func9, Try.ntmps9
  go_wp2_with fail
  generalize w.alloc (.cells #[] 31) = W0 at own0 k0 ⊢
  go_loopw [4, 5] (fun o i wr => ∃ j g cap : Nat, j ≤ n ∧ o = .slice (some ⟨g, 0, none⟩) j cap ∧ i = .int .i64 j ∧ wr.ownsRow w.heap.size 31 1 (.slice (some ⟨g, 0, none⟩) j cap) j ((List.replicate j (0 : Int)).map (Value.int .u64)) ∧ Kept [] w wr) (fun _ i _ => n - (intOf i).toNat)
  case atStart => exact ⟨0, w.heap.size, 0, Nat.zero_le _, rfl, rfl, by simpa using own0, k0⟩
  case round =>
    obtain ⟨j, g, cap, hj, rfl, rfl, hor, hkr⟩ := hrel
    have hge := own_ge hor
    by_cases hlt : j < n
    · have kA := (Kept.refl [] wr).alloc (.cells #[.int .u64 0] 31)
      have ownA := own_kept hor kA (by simp)
      have s1 := (Sl.of_row (k := .u64) (xs := [0]) (Row.new wr 31 [.int .u64 0])).toV
      have hrs := hkr.size
      have HJ := Lib.hid hlt
      go_wp2_with (at_builtin; refine wpList_append_on _ rfl _ _ 28 rfl w.heap.size 31 i0 (.int .u64 0) 1 8 Try.underlying28 hi hz0 hz1 hz2 rfl (by omega) g j cap _ rfl ownA (some ⟨wr.heap.size, 0, none⟩) 1 1 _ rfl s1 int_oneCell (by unfold maxLen; omega) (by omega) (by simp; omega) ?_; intro g' cap' w1 hown hk _)
      go_roundw
      case rel =>
        refine ⟨j + 1, g', cap', by omega, rfl, by go_num, ?_, ?_⟩
        · rw [← List.map_append, show List.replicate j (0 : Int) ++ [0] = List.replicate (j + 1) 0 from by simp [List.replicate_succ']] at hown
          exact hown
        · exact (hkr.trans kA).chain hk (by simp) (by simp; omega)
      case measure => simp [intOf]; omega
    · obtain rfl : j = n := by omega
      go_wp2
      go_ret2
      exact ⟨some ⟨g, 0, none⟩, cap, by simp, Sl.of_own hor, .inr ⟨g, rfl, hge⟩, hkr⟩

def SamePost (b : Bool) (w : World) (e : Ending) (w' : World) : Prop := e = .returned (.bool b) ∧ Kept [] w w'

theorem same_false {xs ys : List Int} {j : Nat} (h : xs[j]?.getD 0 ≠ ys[j]?.getD 0) : decide (xs = ys) = false := by
  simp only [decide_eq_false_iff_not]
  rintro rfl
  exact h rfl
theorem same_true {xs ys : List Int} (hl : xs.length = ys.length) (h : ∀ j, j < xs.length → xs[j]?.getD 0 = ys[j]?.getD 0) : decide (xs = ys) = true := by
  simp only [decide_eq_true_eq]
  exact ext_getD hl h

set_option maxHeartbeats 1000000 in
theorem refSame_any (A B : Option Addr) (cap cap2 : Nat) (xs ys : List Int) (w : World) (hs : Sl w .u64 A xs) (ht : Sl w .u64 B ys) (hx : xs.length ≤ 16384) :
    Calls Try.prog 18 #[.slice A xs.length cap, .slice B ys.length cap2] w (SamePost (decide (xs = ys)) w) := by
  by_cases hl : xs.length = ys.length
  · have hl' : ((xs.length : Int) != (ys.length : Int)) = false := by simp [hl]
    have HL := Lib.hid hl
    clear hl
    go_enter Try.func18, Try.ntmps18
    go_wp2_with fail
    go_loopw [5] (fun i wr => ∃ j : Nat, j ≤ xs.length ∧ i = .int .i64 j ∧ (∀ k, k < j → xs[k]?.getD 0 = ys[k]?.getD 0) ∧ Kept [] w wr) (fun i _ => xs.length - (intOf i).toNat)
    case atStart => exact ⟨0, Nat.zero_le _, rfl, fun k hk => by omega, Kept.refl _ _⟩
    case round =>
      obtain ⟨j, hj, rfl, heq, hkr⟩ := hrel
      have HE := Lib.hid heq
      clear heq
      by_cases hlt : j < xs.length
      · obtain ⟨b, off, rfl, hc⟩ := (hs.kept hkr).cell hlt
        have hlt2 : j < ys.length := by have := HL.out; omega
        obtain ⟨b2, off2, rfl, hc2⟩ := (ht.kept hkr).cell hlt2
        by_cases hv : xs[j]?.getD 0 = ys[j]?.getD 0
        · have HV := Lib.hid hv
          rw [hv] at hc
          clear hv
          go_wp2_with fail
          go_quiet (fail)
          go_wp2
          go_roundw
          case rel => exact ⟨j + 1, by omega, by go_num, fun k hk => by by_cases e : k = j; (rw [e]; exact HV.out); exact HE.out k (by omega), hkr.drewN _⟩
          case measure => simp [intOf]; omega
        · have hd := same_false hv
          have hv' : (xs[j]?.getD 0 != ys[j]?.getD 0) = true := by simpa using hv
          generalize xs[j]?.getD 0 = x at hc hv'
          generalize ys[j]?.getD 0 = y at hc2 hv'
          have HD := Lib.hid hd
          clear hd hv
          go_wp2_with fail
          go_quiet (fail)
          go_wp2
          go_ret
          exact ⟨by rw [HD.out]; rfl, hkr.drewN _⟩
      · go_wp2
        go_ret
        have hd := same_true HL.out (fun k hk => HE.out k (by omega))
        exact ⟨by rw [hd]; rfl, hkr⟩
  · have hl' : ((xs.length : Int) != (ys.length : Int)) = true := by simp; omega
    have hd : decide (xs = ys) = false := by
      simp only [decide_eq_false_iff_not]
      rintro rfl
      exact hl rfl
    have HD := Lib.hid hd
    clear hd hl
    go_enter Try.func18, Try.ntmps18
    go_wp2
    go_ret
    exact ⟨by rw [HD.out]; rfl, Kept.refl _ _⟩
end Go.Proofs.Ytkdojplbkhdgdaa
