/- The document's answer (kraalref15): Of, Set. -/
import Derived.Test.YtndfgeldgkmhcaaTallyPlain
import Derived.Test.YtndfgeldgkmhcaaSameRunZ
import Derived.Test.YtndfgeldgkmhcaaI3
import Derived.WalkMore
namespace Go.Proofs.Ytndfgeldgkmhcaa
open Go.RowKit

theorem cntY_drop {gs : List RunZ} {j : Nat} (hj : j < gs.length) (z : Int) : cntY (gs.drop j) z = if gs[j].1 = z then gs[j].2 else cntY (gs.drop (j + 1)) z := by
  rw [List.drop_eq_getElem_cons hj, cntY_cons]

set_option maxRecDepth 100000 in
set_option maxHeartbeats 2000000 in
theorem refOf15_any (A : Option Addr) (n cap : Nat) (gs : List RunZ) (z : Int) (w : World) (hs : SlS cellsZ 2 w A gs) (hn : gs.length = n) (hx : n ≤ 1099511627776) :
    Calls Try.prog 17 #[.slice A n cap, .int .i64 z] w fun e w' => e = .returned (.int .i64 (cntY gs z)) ∧ w = w' := by
  subst hn
  go_enter Try.func17, Try.ntmps17
  go_wp2_with fail
  go_loopw [5] (fun i wr => ∃ j : Nat, j ≤ gs.length ∧ i = .int .i64 j ∧ Hid (cntY gs z = cntY (gs.drop j) z) ∧ w = wr) (fun i _ => gs.length - (intOf i).toNat)
  case atStart => exact ⟨0, Nat.zero_le _, rfl, rfl, rfl⟩
  case round =>
    obtain ⟨j, hj, rfl, HC, rfl⟩ := hrel
    by_cases hlt : j < gs.length
    · obtain ⟨b, off, rfl, _, c0, c1⟩ := hs.cellZ hlt
      have hst := cntY_drop hlt z
      have h1 : (j : Int) < (gs.length : Int) := by omega
      generalize gs[j] = y at c0 c1 hst
      obtain ⟨y1, y2⟩ := y
      simp only at c0 c1 hst
      by_cases e : y1 = z
      · rw [if_pos e] at hst
        have HS : Hid (cntY gs z = y2) := HC.out.trans hst
        subst e
        clear hst
        go_wp2_with fail
        go_ret
        rw [HS.out]
        exact ⟨rfl, rfl⟩
      · rw [if_neg e] at hst
        have HS : Hid (cntY gs z = cntY (gs.drop (j + 1)) z) := HC.out.trans hst
        have e' : decide (y1 = z) = false := by simpa using e
        have e2 : (y1 == z) = false := by simpa using e
        clear hst e
        go_wp2_with fail
        go_roundw
        case rel => exact ⟨j + 1, by omega, by go_num, HS, trivial⟩
        case measure => simp [intOf]; omega
    · obtain rfl : j = gs.length := by omega
      have HS : Hid (cntY gs z = 0) := by have := HC.out; rwa [List.drop_length] at this
      go_wp2
      go_ret
      rw [HS.out]
      exact ⟨rfl, rfl⟩

/-- What Set leaves: a slice in a new block that reads as gs. -/
def SetPostY (gs : List RunZ) (w : World) (e : Ending) (w' : World) : Prop :=
  ∃ a c, e = .returned (.slice a gs.length c) ∧ SlS cellsZ 2 w' a gs ∧ (∀ b off, a = some ⟨b, off, none⟩ → w.heap.size ≤ b) ∧ Kept [] w w'
theorem setW_drop {gs : List RunZ} {j : Nat} (hj : j < gs.length) (z n : Int) (laid : Bool) (y1 y2 : Int) (hy : gs[j] = (y1, y2)) :
    setW z n laid (gs.drop j) = (if laid = false ∧ z < y1 then [(z, n)] else []) ++ (if y1 = z then [] else [(y1, y2)]) ++ setW z n (laid || decide (z < y1)) (gs.drop (j + 1)) := by
  rw [List.drop_eq_getElem_cons hj, hy]; rfl

set_option maxRecDepth 100000 in
set_option maxHeartbeats 8000000 in
theorem refSet15_any (A : Option Addr) (m cap : Nat) (gs : List RunZ) (z n : Int) (w : World) (hs : SlS cellsZ 2 w A gs) (hm : gs.length = m) (hx : m ≤ 1099511627) (hr : RiseL gs) :
    Calls Try.prog 13 #[.slice A m cap, .int .i64 z, .int .i64 n] w (SetPostY (setY gs z n) w) := by
  subst hm
  obtain ⟨i0, hi, hz0, hz1, hz2⟩ := info_parts info_run
  have HF := Lib.hid (setW_eq hr z n)
  clear hr
  have own0 : OwnS 41 cellsZ 2 (w.alloc (.cells #[] 41)) w.heap.size (.slice (some ⟨w.heap.size, 0, none⟩) 0 0) ([] : List RunZ) := OwnS.empty (Nat.le_refl _)
  have k0 := (Kept.refl [] w).alloc (.cells #[] 41)
  have hB0 : w.heap.size ≤ (w.alloc (.cells #[] 41)).heap.size := by simp
  obtain ⟨q0, hq0⟩ : ∃ q, decide (n = 0) = q := ⟨_, rfl⟩
  have hq1 : (n == 0) = q0 := by rw [← hq0]; by_cases e : n = 0 <;> simp [e]
  rw [hq0] at HF
  go_enter Try.func13, Try.ntmps13
  go_wp2_with fail
  generalize w.alloc (.cells #[] 41) = W at own0 k0 hB0 ⊢
  clear hq0 hq1
  go_loopw [7, 8, 9] (fun v lv i wr => ∃ (j gA cp : Nat) (os : List RunZ) (laid : Bool), j ≤ gs.length ∧ v = .slice (some ⟨gA, 0, none⟩) os.length cp ∧ lv = .bool laid ∧ i = .int .i64 j ∧ os.length ≤ 2 * j ∧ Hid (os ++ setW z n laid (gs.drop j) = setY gs z n) ∧
      OwnS 41 cellsZ 2 wr w.heap.size (.slice (some ⟨gA, 0, none⟩) os.length cp) os ∧ w.heap.size ≤ wr.heap.size ∧ Kept [] w wr) (fun _ _ i _ => gs.length - (intOf i).toNat)
  case atStart => exact ⟨0, _, _, [], q0, Nat.zero_le _, rfl, rfl, rfl, by simp, HF, own0, hB0, k0⟩
  case round =>
    obtain ⟨j, gA, cp, os, laid, hj, rfl, rfl, rfl, hos, HW, hown, hBw, hkr⟩ := hrel
    clear own0 k0 hB0 HF
    by_cases hlt : j < gs.length
    · obtain ⟨b, off, rfl, _, c0, c1⟩ := (hs.kept hkr).cellZ hlt
      obtain ⟨y1, y2, hy⟩ : ∃ y1 y2, gs[j] = (y1, y2) := ⟨_, _, rfl⟩
      have hst := setW_drop hlt z n laid y1 y2 hy
      rw [hy] at c0 c1
      simp only at c0 c1
      have HST : Hid (os ++ ((if laid = false ∧ z < y1 then [(z, n)] else []) ++ (if y1 = z then [] else [(y1, y2)]) ++ setW z n (laid || decide (z < y1)) (gs.drop (j + 1))) = setY gs z n) := by rw [← hst]; exact HW.out
      have h1 : (j : Int) < (gs.length : Int) := by omega
      have hoL : os.length ≤ 1099511627776 := by omega
      have hgA := hown.ge gA rfl
      have HY := Lib.hid hy
      clear hst hy HW
      have hcK : ∀ W', Kept [] w W' → W'.cell? ⟨b, off + j * 2, none⟩ = some (.int .i64 y1) ∧ W'.cell? ⟨b, off + j * 2 + 1, none⟩ = some (.int .i64 y2) := fun W' hk => by
        obtain ⟨b', off', e, _, d0, d1⟩ := (hs.kept hk).cellZ hlt
        cases e
        rw [HY.out] at d0 d1
        exact ⟨d0, d1⟩
      have hBN := hBw
      by_cases hp : laid = false ∧ z < y1
      · obtain ⟨rfl, hzy⟩ := hp
        have e : ¬ y1 = z := by omega
        have e' : (y1 != z) = true := by simpa using e
        have hzy' : decide (z < y1) = true := by simpa using hzy
        have H2 : Hid ((os ++ [(z, n)] ++ [(y1, y2)]) ++ setW z n true (gs.drop (j + 1)) = setY gs z n) := by
          show _ = _
          have := HST.out
          rw [if_pos ⟨rfl, hzy⟩, if_neg e, hzy', Bool.or_true] at this
          simpa using this
        clear HST e
        go_wp2_with (first
          | (at_builtin; refine wpList_append_s _ rfl _ _ 26 rfl w.heap.size i0 _ 16 Try.underlying26 hi hz0 hz1 hz2 rfl (by decide) (by decide) wr (.slice (some ⟨gA, 0, none⟩) os.length cp) os (z, n) (cellsZ_length _) (cellsZ_one _) rfl rfl rfl hown hBw hoL ?_; intro g3 c3 w3 hown3 hk3 hat3; go_frame; have hk4 : Kept [] w w3 := (hkr.chain hk3 (by simp) (by simp [Value.ownBlock]; omega)); have d0 := (hcK w3 hk4).1; have d1 := (hcK w3 hk4).2; have hown4 : OwnS 41 cellsZ 2 w3 w.heap.size (.slice (some ⟨g3, 0, none⟩) (os.length + 1) c3) (os ++ [(z, n)]) := hown3)
          | (at_builtin; refine wpList_append_s _ rfl _ _ 26 rfl w.heap.size i0 _ 16 Try.underlying26 hi hz0 hz1 hz2 rfl (by decide) (by decide) w3 (.slice (some ⟨g3, 0, none⟩) (os.length + 1) c3) (os ++ [(z, n)]) (y1, y2) (cellsZ_length _) (cellsZ_one _) rfl rfl rfl hown4 (Nat.le_trans hBw (by have := hk3.size; omega)) (by simp; omega) ?_; intro g5 c5 w5 hown5 hk5 hat5; go_frame)
          | fail)
        have hg3 := hown4.ge g3 rfl
        have hk6 : Kept [] w w5 := hk4.chain hk5 (by simp) (by simp [Value.ownBlock]; omega)
        have hz6 := hk6.size
        go_roundw
        case rel => exact ⟨j + 1, g5, c5, os ++ [(z, n)] ++ [(y1, y2)], true, by omega, by simp, rfl, by go_num, by simp; omega, H2, by simpa using hown5, hz6, hk6⟩
        case measure => simp [intOf]; omega
      · have hpn : (!laid && decide (z < y1)) = false := by
          rw [Bool.and_eq_false_iff]
          by_cases h : laid = false
          · exact .inr (by simpa using fun h2 => hp ⟨h, h2⟩)
          · exact .inl (by simpa using h)
        by_cases e : y1 = z
        · have H2 : Hid (os ++ setW z n laid (gs.drop (j + 1)) = setY gs z n) := by
            show _ = _
            have := HST.out
            rw [if_neg hp, if_pos e, show decide (z < y1) = false from by simp; omega, Bool.or_false] at this
            simpa using this
          subst e
          have hpm : decide (y1 < y1) = false := by simp
          clear HST hp hpn
          cases laid
          all_goals
            go_wp2_with fail
            go_roundw
            case rel => exact ⟨j + 1, gA, cp, os, _, by omega, rfl, rfl, by go_num, by omega, H2, hown, hBw, hkr⟩
            case measure => simp [intOf]; omega
        · have H2 : Hid ((os ++ [(y1, y2)]) ++ setW z n laid (gs.drop (j + 1)) = setY gs z n) := by
            show _ = _
            have := HST.out
            rw [if_neg hp, if_neg e, show (laid || decide (z < y1)) = laid from by cases laid <;> simp_all] at this
            simpa using this
          have e' : (y1 != z) = true := by simpa using e
          clear HST
          have hcase : laid = true ∨ (laid = false ∧ decide (z < y1) = false) := by cases laid <;> simp_all
          clear hp hpn e
          rcases hcase with rfl | ⟨rfl, hpm⟩
          all_goals
            go_wp2_with (first
              | (at_builtin; refine wpList_append_s _ rfl _ _ 26 rfl w.heap.size i0 _ 16 Try.underlying26 hi hz0 hz1 hz2 rfl (by decide) (by decide) wr (.slice (some ⟨gA, 0, none⟩) os.length cp) os (y1, y2) (cellsZ_length _) (cellsZ_one _) rfl rfl rfl hown hBw hoL ?_; intro g3 c3 w3 hown3 hk3 hat3; go_frame)
              | fail)
            have hk4 : Kept [] w w3 := hkr.chain hk3 (by simp) (by simp [Value.ownBlock]; omega)
            have hz4 := hk4.size
            go_roundw
            case rel => exact ⟨j + 1, g3, c3, os ++ [(y1, y2)], _, by omega, by simp, rfl, by go_num, by simp; omega, H2, by simpa using hown3, hz4, hk4⟩
            case measure => simp [intOf]; omega
    · obtain rfl : j = gs.length := by omega
      have hgA := hown.ge gA rfl
      have hoL : os.length ≤ 1099511627776 := by omega
      have HE : Hid (os ++ (if laid then [] else [(z, n)]) = setY gs z n) := by
        have := HW.out
        rw [List.drop_length] at this
        exact this
      clear HW
      cases laid with
      | true =>
        have HE2 : Hid (os = setY gs z n) := by show _ = _; have := HE.out; simpa using this
        go_wp2_with fail
        go_ret
        rw [← HE2.out]
        obtain ⟨a, cap2, ha, hsl, hab⟩ := hown.slice cellsZ_length
        cases ha
        exact ⟨_, _, rfl, hsl, fun b off e => (hab b off e).1, hkr⟩
      | false =>
        have HE2 : Hid (os ++ [(z, n)] = setY gs z n) := by show _ = _; have := HE.out; simpa using this
        go_wp2_with (first
          | (at_builtin; refine wpList_append_s _ rfl _ _ 26 rfl w.heap.size i0 _ 16 Try.underlying26 hi hz0 hz1 hz2 rfl (by decide) (by decide) wr (.slice (some ⟨gA, 0, none⟩) os.length cp) os (z, n) (cellsZ_length _) (cellsZ_one _) rfl rfl rfl hown hBw hoL ?_; intro g3 c3 w3 hown3 hk3 hat3; go_frame)
          | fail)
        go_ret
        have hk4 : Kept [] w w3 := hkr.chain hk3 (by simp) (by simp [Value.ownBlock]; omega)
        rw [← HE2.out]
        have hown4 : OwnS 41 cellsZ 2 w3 w.heap.size (.slice (some ⟨g3, 0, none⟩) (os ++ [(z, n)]).length c3) (os ++ [(z, n)]) := by simpa using hown3
        obtain ⟨a, cap2, ha, hsl, hab⟩ := hown4.slice cellsZ_length
        cases ha
        exact ⟨some ⟨g3, 0, none⟩, c3, by simp, hsl, fun b off e => (hab b off e).1, hk4⟩
end Go.Proofs.Ytndfgeldgkmhcaa
