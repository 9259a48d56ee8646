/- The law StartsPlay: its walk. -/
import Derived.Test.YtkfdkmdjdghdkaaBitsFixed
import Derived.Test.YtkfdkmdjdghdkaaStartsFixed
import Derived.Test.YtkfdkmdjdghdkaaStartsDrop
import Derived.Test.YtkfdkmdjdghdkaaStartsRefPut
import Derived.Test.YtkfdkmdjdghdkaaRegionPick
namespace Go.Proofs.Ytkfdkmdjdghdkaa
open Go.RowKit

theorem mem_has (xs : List Bool) (c : Int) : decide (c ∈ placesB xs) = hasM xs c := by
  cases e : hasM xs c with
  | true => exact decide_eq_true (placesB_mem.2 e)
  | false => exact decide_eq_false (fun h => by rw [placesB_mem.1 h] at e; cases e)
theorem refPutE_eq (xs : List Bool) (z : Int) : refPutE xs.length (placesB xs) z = putE xs z := by
  unfold refPutE putE
  by_cases h : z < 1 ∨ (xs.length : Int) ≤ z
  · rw [if_pos h, if_pos h]
  · rw [if_neg h, if_neg h]
    by_cases h2 : hasM xs z = true
    · rw [if_pos (placesB_mem.2 h2), if_pos h2]
    · rw [if_neg (fun h3 => h2 (placesB_mem.1 h3)), if_neg h2]
theorem refPutB_eq (xs : List Bool) (z : Int) : refPutB xs.length (placesB xs) z = placesB (putB xs z) := by
  unfold refPutB
  rw [refPutE_eq]
  by_cases h : putE xs z = 0
  · rw [if_pos h, putB_places h]
  · rw [if_neg h, putB_same h]
theorem stay_eq (xs : List Bool) (a c : Int) : stayB (inL (placesB xs) a c) (placesB xs) = placesB (dropB xs a c) := (dropB_places xs a c).symm

/-- Where the document's list lies: in none of the blocks S. -/
def Apart (A : Option Addr) (S : List Nat) : Prop := ∀ b off, A = some ⟨b, off, none⟩ → b ∉ S
theorem RefL.keptS {w w' : World} {A : Option Addr} {cap : Nat} {l : List Int} {S : List Nat} (h : RefL w A cap l) (hk : Kept S w w') (hA : Apart A S) : RefL w' A cap l := by
  refine ⟨?_, h.2⟩
  rcases h.1 with h' | ⟨b, off, rfl, hb, hc⟩
  · exact .inl h'
  · exact .inr ⟨b, off, rfl, Nat.lt_of_lt_of_le hb hk.size, fun j hj => (World.cell?_of_block (w := w) (a := ⟨b, off + j, none⟩) (hk.block b hb (hA b off rfl))).trans (hc j hj)⟩
theorem Apart.new {w : World} {A A' : Option Addr} {S : List Nat} (h : Apart A S) (hn : A' = A ∨ ∃ G, A' = some ⟨G, 0, none⟩ ∧ w.heap.size ≤ G) (hS : ∀ s ∈ S, s < w.heap.size) : Apart A' S := by
  rcases hn with rfl | ⟨G, rfl, hG⟩
  · exact h
  · intro b off e hm
    cases e
    have := hS _ hm; omega

set_option maxRecDepth 100000 in
set_option maxHeartbeats 2000000 in
theorem startsPlay_fixed (n a c : Int) (a0 : Option Addr) (len cap : Nat) (w : World) (hm : len ≤ maxLen) (h : (300 < n ∧ n ≤ 16384) ∨ (¬ (300 < n ∧ n ≤ 16384) ∧ 60 < len)) :
    Calls Try.prog 3 #[.int .i64 n, .slice a0 len cap, .agg #[.int .i64 a, .int .i64 c]] w (FixedPost w) := by
  unfold maxLen at hm
  rcases h with ⟨h1, h2⟩ | ⟨h1, h2⟩
  · go_enter Try.func3, Try.ntmps3
    go_wp2_with fail
    refine (fixed09_any _).mono ?_
    rintro e w5 ⟨rfl, kw5⟩
    go_wp2
    go_ret
    exact ⟨rfl, ((Kept.refl [] w).alloc _).trans kw5⟩
  · by_cases h3 : 300 < n
    · have h4 : decide (n ≤ 16384) = false := by simp; omega
      go_enter Try.func3, Try.ntmps3
      go_wp2_with fail
      refine (fixed09_any _).mono ?_
      rintro e w5 ⟨rfl, kw5⟩
      go_wp2
      go_ret
      exact ⟨rfl, ((Kept.refl [] w).alloc _).trans kw5⟩
    · have h4 : decide (300 < n) = false := by simpa using h3
      go_enter Try.func3, Try.ntmps3
      go_wp2_with fail
      refine (fixed09_any _).mono ?_
      rintro e w5 ⟨rfl, kw5⟩
      go_wp2
      go_ret
      exact ⟨rfl, ((Kept.refl [] w).alloc _).trans kw5⟩

/-- What a region's loads and calls ask for. -/
theorem held_now2 {wr w' : World} {B X : Nat} {t t2 : TypeId} {a c : Int} {V : Value} {N : Int} (hr : Row wr B t [.int .i64 a, .int .i64 c]) (hx : Row wr X t2 [V, .int .i64 N]) (hc : Kept [] wr w') :
    Kept [] wr w' ∧ w'.cell? ⟨B, 0, none⟩ = some (.int .i64 a) ∧ w'.cell? ⟨B, 1, none⟩ = some (.int .i64 c) ∧ w'.cell? ⟨X, 0, none⟩ = some V ∧ w'.cell? ⟨X, 1, none⟩ = some (.int .i64 N) :=
  ⟨hc, by simpa using (hr.kept hc (by simp)).cell 0, by simpa using (hr.kept hc (by simp)).cell 1, by simpa using (hx.kept hc (by simp)).cell 0, by simpa using (hx.kept hc (by simp)).cell 1⟩

set_option maxRecDepth 100000 in
set_option maxHeartbeats 16000000 in
theorem startsPlay_any (n : Int) (a c : Int) (a0 : Option Addr) (cap : Nat) (l : List ActB) (w : World) (hs : SlActs w a0 l) (hl : l.length ≤ 60) (hn : ¬ (300 < n ∧ n ≤ 16384)) (ha : a ≤ 9223372036854775807) (hc : -9223372036854775808 ≤ c ∧ c ≤ 9223372036854775807) (hb : ∀ x ∈ l, x.a ≤ 9223372036854775807) :
    Calls Try.prog 3 #[.int .i64 n, .slice a0 l.length cap, .agg #[.int .i64 a, .int .i64 c]] w (FixedPost w) := by
  have h5 : decide ((60 : Int) < l.length) = false := by simp; omega
  have h6 : decide (60 < l.length) = false := by simp; omega
  have h3 : ∃ b1 b2, decide (300 < n) = b1 ∧ decide (n ≤ 16384) = b2 ∧ (b1 && b2) = false := by
    refine ⟨_, _, rfl, rfl, ?_⟩
    simp; omega
  obtain ⟨b1, b2, hb1, hb2, hbb⟩ := h3
  have hcl : (min (max n 0) 16384) = (clampB n : Int) := by unfold clampB; omega
  have hcl2 := clampB_le n
  have rR := Row.new w 24 [.int .i64 a, .int .i64 c]
  have kW := (Kept.refl [] w).alloc (.cells #[.int .i64 a, .int .i64 c] 24)
  cases b1 <;> cases b2 <;> simp at hbb
  · exfalso
    simp at hb1 hb2
    omega
  all_goals
    clear hn hbb
    go_enter Try.func3, Try.ntmps3
    go_wp2_with fail
    generalize w.alloc (.cells #[.int .i64 a, .int .i64 c] 24) = W at rR kW ⊢
    refine (startsNew_any n W).mono ?_
    rintro e w1 ⟨p, b, g, rfl, ⟨hp, hb', hg⟩, hS1, kw1⟩
    go_wp2_with fail
    refine (refNew09_any n w1).mono ?_
    rintro e w2 ⟨rfl, kw2⟩
    rw [hcl]
    obtain ⟨N, hN⟩ : ∃ N, clampB n = N := ⟨_, rfl⟩
    rw [hN] at hS1 hcl2 ⊢
    have hS2 := hS1.kept kw2
    have kW2 := (kW.trans kw1).trans kw2
    have rR2 := (rR.kept kw1 (by simp)).kept kw2 (by simp)
    obtain ⟨lp, lb, lg⟩ := hS2.lt
    have hWz := kW.size
    have hRz := rR.lt
    have rX := Row.new w2 30 [.slice none 0 0, .int .i64 N]
    have kX := (Kept.refl [] w2).alloc (.cells #[.slice none 0 0, .int .i64 N] 30)
    clear rR kW kw1 kw2 hS1 hcl hN
    unfold refS
    go_wp2_with fail
    generalize w2.alloc (.cells #[.slice none 0 0, .int .i64 N] 30) = W3 at rX kX ⊢
    have hS3 := hS2.kept kX
    have kW3 := kW2.trans kX
    have rR3 := rR2.kept kX (by simp)
    obtain ⟨X, hX⟩ : ∃ X, w2.heap.size = X := ⟨_, rfl⟩
    have hXz := rX.lt
    have hpX : p < X ∧ b < X ∧ g < X := by omega
    rw [hX] at rX hXz ⊢
    have hwX : w.heap.size < X := by have := rR2.lt; omega
    have hwg : w.heap.size < g := by omega
    clear hS2 kX rR2 kW2 hX lp lb lg hp hb' hg hRz hWz
    have hZ0 : Zero0 (List.replicate N false) := Zero0.new N
    have hP0 : placesB (List.replicate N false) = [] := placesB_new N
    go_loopw [41] (fun i wr => ∃ (j : Nat) (A : Option Addr) (cp : Nat) (xs : List Bool), j ≤ l.length ∧ i = .int .i64 j ∧ Hid (xs.length = N) ∧ IsStarts wr p b g xs ∧ Zero0 xs ∧
      Row wr X 30 [.slice A (placesB xs).length cp, .int .i64 N] ∧ RefL wr A cp (placesB xs) ∧ Apart A [g, X] ∧ Kept [g, X] W3 wr) (fun i _ => l.length - (intOf i).toNat)
    case atStart => exact ⟨0, none, 0, _, Nat.zero_le _, rfl, List.length_replicate, hS3, hZ0, by rw [hP0]; exact rX, by rw [hP0]; exact RefL.nil _, (fun _ _ e => by cases e), Kept.refl _ _⟩
    case round =>
      obtain ⟨j, A, cp, xs, hj, rfl, HL, hSr, hZr, rXr, hLr, hAr, hkr⟩ := hrel
      have kWr : Kept [] w wr := kW3.chain hkr (by simp) (by simp; omega)
      have hle := hSr.le
      obtain ⟨lp, lb, lg⟩ := hSr.lt
      have lX := rXr.lt
      have hpl := placesB_length xs
      by_cases hlt : j < l.length
      · obtain ⟨b', off, x, rfl, hx, hbl, c0, c1, c2⟩ := (hs.kept kWr).cell hlt
        have hbx := hb x (List.mem_of_getElem? hx)
        have rB := Row.new wr 33 [.int .i64 x.a, .int .i64 x.c, .bool x.on]
        have kA := (Kept.refl [] wr).alloc (.cells #[.int .i64 x.a, .int .i64 x.c, .bool x.on] 33)
        have hSA := hSr.kept kA
        have rXA := rXr.kept kA (by simp)
        have hLA := hLr.kept kA
        have hbd : ∀ y ∈ placesB xs, 0 ≤ y ∧ y < 16384 := fun y hy => by have := placesB_bound hy; omega
        have HBD := Lib.hid hbd
        clear hbd
        cases hon : x.on with
        | true =>
          rw [hon] at c2 rB kA hSA rXA hLA
          go_wp2_with fail
          generalize wr.alloc (.cells #[.int .i64 x.a, .int .i64 x.c, .bool true] 33) = wa at rB kA hSA rXA hLA ⊢
          refine (startsDrop_any p b g xs x.a x.c wa hSA hbx).mono ?_
          rintro e w4 ⟨rfl, hS4, k4⟩
          have rB4 := rB.kept k4 (by simp; omega)
          have rX4 := rXA.kept k4 (by simp; omega)
          have hL4 := hLA.keptS k4 (fun b off e => by have := hAr b off e; simp at this ⊢; exact this.1)
          have d0 : w4.cell? ⟨wr.heap.size, 0, none⟩ = some (.int .i64 x.a) := by simpa using rB4.cell 0
          have d1 : w4.cell? ⟨wr.heap.size, 1, none⟩ = some (.int .i64 x.c) := by simpa using rB4.cell 1
          have e0 : w4.cell? ⟨X, 0, none⟩ = some (.slice A (placesB xs).length cp) := by simpa using rX4.cell 0
          have e1 : w4.cell? ⟨X, 1, none⟩ = some (.int .i64 N) := by simpa using rX4.cell 1
          go_wp2_with fail
          refine (refDrop09_any A (placesB xs).length cp N x.a x.c (placesB xs) w4 hL4.1 rfl (by omega) hbx HBD.out).mono ?_
          rintro e w5 ⟨A5, cp5, rfl, hL5, hA5, k5⟩
          rw [stay_eq] at hL5 ⊢
          have hS5 := hS4.kept k5
          have rX5 := rX4.kept k5 (by simp)
          have K5 : Kept [g, X] W3 w5 := (hkr.trans kA.any).trans ((k4.trans k5.any).mono (by simp))
          have hA5' : Apart A5 [g, X] := hAr.new hA5 (by have := kA.size; have := k4.size; simp; omega)
          have hD := dropB_length xs x.a x.c
          have hZ5 := hZr.drop x.a x.c
          obtain ⟨ys, hys⟩ : ∃ ys, dropB xs x.a x.c = ys := ⟨_, rfl⟩
          rw [hys] at hS4 hS5 hL5 hD hZ5 ⊢
          have HD : Hid (ys.length = N) := by show _ = _; rw [hD]; exact HL.out
          have hgone : (inL (placesB xs) x.a x.c).length ≤ 16384 := by have := inL_len (placesB xs) x.a x.c; omega
          obtain ⟨m, hm⟩ : ∃ m, (inL (placesB xs) x.a x.c).length = m := ⟨_, rfl⟩
          rw [hm] at hgone ⊢
          have hyl := placesB_length ys
          have hyle := hS5.le
          clear hm hys hD hSA rXA hLA rX4 hL4 hS4 k4 kA rB4 d0 d1 e0 e1
          have f0 : ∀ o, (w5.alloc o).frozen? ⟨X, 0, none⟩ = false := fun o => (rX5.alloc o).free 0
          have f1 : ∀ o, (w5.alloc o).frozen? ⟨X, 1, none⟩ = false := fun o => (rX5.alloc o).free 1
          have g0 : ∀ o, (w5.alloc o).cell? ⟨X, 0, none⟩ = some (.slice A (placesB xs).length cp) := fun o => by simpa using (rX5.alloc o).cell 0
          have g1 : ∀ o, (w5.alloc o).cell? ⟨X, 1, none⟩ = some (.int .i64 N) := fun o => by simpa using (rX5.alloc o).cell 1
          unfold refS
          go_wp2_with fail
          have rX6 := (rX5.alloc (.cells #[.slice A5 (placesB ys).length cp5, .int .i64 N] 30)).set2 (.slice A5 (placesB ys).length cp5) (.int .i64 N)
          have k6 := ((Kept.refl [X] w5).alloc (.cells #[.slice A5 (placesB ys).length cp5, .int .i64 N] 30)).set2 (g := X) (.inl (by simp)) (.slice A5 (placesB ys).length cp5) (.int .i64 N)
          have hS6 := hS5.keptS k6 (by simp; omega) (by simp; omega) (by simp; omega)
          have hL6 := hL5.keptS k6 (fun b off e => by have := hA5' b off e; simp at this ⊢; exact this.2)
          have K6 : Kept [g, X] W3 _ := K5.trans (k6.mono (by simp))
          generalize ((w5.alloc (.cells #[.slice A5 (placesB ys).length cp5, .int .i64 N] 30)).setCell ⟨X, 0, none⟩ (.slice A5 (placesB ys).length cp5)).setCell ⟨X, 1, none⟩ (.int .i64 N) = W6 at rX6 k6 hS6 hL6 K6 ⊢
          have e60 : W6.cell? ⟨X, 0, none⟩ = some (.slice A5 (placesB ys).length cp5) := by simpa using rX6.cell 0
          clear f0 f1 g0 g1 rX5 k6 hS5 hL5 K5
          go_quiet (first | (go_at_call 12; refine quiet_same (startsCount_any p b g ys _ (hS6.kept ((Kept.refl [] W6).drewN _)))) | fail)
          have kq := (Kept.refl [] W6).drewN nq
          go_wp2
          go_roundw
          case rel => exact ⟨j + 1, A5, cp5, ys, by omega, by go_num, HD, hS6.kept kq, hZ5, rX6.kept kq (by simp), hL6.kept kq, hA5', K6.trans kq.any⟩
          case measure => simp [intOf]; omega
        | false =>
          rw [hon] at c2 rB kA hSA rXA hLA
          go_wp2_with fail
          generalize wr.alloc (.cells #[.int .i64 x.a, .int .i64 x.c, .bool false] 33) = wa at rB kA hSA rXA hLA ⊢
          have d00 : wa.cell? ⟨wr.heap.size, 0, none⟩ = some (.int .i64 x.a) := by simpa using rB.cell 0
          refine (startsPut_any p b g xs x.a wa hSA hbx).mono ?_
          rintro e w4 ⟨rfl, hS4, k4⟩
          have rB4 := rB.kept k4 (by simp; omega)
          have rX4 := rXA.kept k4 (by simp; omega)
          have hL4 := hLA.keptS k4 (fun b off e => by have := hAr b off e; simp at this ⊢; exact this.1)
          have d0 : w4.cell? ⟨wr.heap.size, 0, none⟩ = some (.int .i64 x.a) := by simpa using rB4.cell 0
          have e0 : w4.cell? ⟨X, 0, none⟩ = some (.slice A (placesB xs).length cp) := by simpa using rX4.cell 0
          have e1 : w4.cell? ⟨X, 1, none⟩ = some (.int .i64 N) := by simpa using rX4.cell 1
          go_wp2_with fail
          refine (refPut09_any A (placesB xs).length cp N x.a (placesB xs) w4 hL4 rfl (by omega)).mono ?_
          rintro e w5 ⟨A5, cp5, rfl, hL5, hA5, k5⟩
          have hpe : refPutE (N : Int) (placesB xs) x.a = putE xs x.a := by rw [← HL.out]; exact refPutE_eq xs x.a
          have hpb : refPutB (N : Int) (placesB xs) x.a = placesB (putB xs x.a) := by rw [← HL.out]; exact refPutB_eq xs x.a
          rw [hpb] at hL5
          rw [hpe, hpb]
          have hS5 := hS4.kept k5
          have rX5 := rX4.kept k5 (by simp)
          have K5 : Kept [g, X] W3 w5 := (hkr.trans kA.any).trans ((k4.trans k5.any).mono (by simp))
          have hA5' : Apart A5 [g, X] := hAr.new hA5 (by have := kA.size; have := k4.size; simp; omega)
          have hD := putB_length xs x.a
          have hZ5 := hZr.put x.a
          obtain ⟨ys, hys⟩ : ∃ ys, putB xs x.a = ys := ⟨_, rfl⟩
          rw [hys] at hS4 hS5 hL5 hD hZ5 ⊢
          have HD : Hid (ys.length = N) := by show _ = _; rw [hD]; exact HL.out
          obtain ⟨m, hm⟩ : ∃ m, putE xs x.a = m := ⟨_, rfl⟩
          rw [hm]
          have hyl := placesB_length ys
          have hyle := hS5.le
          clear hm hys hD hSA rXA hLA rX4 hL4 hS4 k4 kA rB4 d0 d00 e0 e1 hpe hpb
          have f0 : ∀ o, (w5.alloc o).frozen? ⟨X, 0, none⟩ = false := fun o => (rX5.alloc o).free 0
          have f1 : ∀ o, (w5.alloc o).frozen? ⟨X, 1, none⟩ = false := fun o => (rX5.alloc o).free 1
          have g0 : ∀ o, (w5.alloc o).cell? ⟨X, 0, none⟩ = some (.slice A (placesB xs).length cp) := fun o => by simpa using (rX5.alloc o).cell 0
          have g1 : ∀ o, (w5.alloc o).cell? ⟨X, 1, none⟩ = some (.int .i64 N) := fun o => by simpa using (rX5.alloc o).cell 1
          unfold refS
          go_wp2_with fail
          have rX6 := (rX5.alloc (.cells #[.slice A5 (placesB ys).length cp5, .int .i64 N] 30)).set2 (.slice A5 (placesB ys).length cp5) (.int .i64 N)
          have k6 := ((Kept.refl [X] w5).alloc (.cells #[.slice A5 (placesB ys).length cp5, .int .i64 N] 30)).set2 (g := X) (.inl (by simp)) (.slice A5 (placesB ys).length cp5) (.int .i64 N)
          have hS6 := hS5.keptS k6 (by simp; omega) (by simp; omega) (by simp; omega)
          have hL6 := hL5.keptS k6 (fun b off e => by have := hA5' b off e; simp at this ⊢; exact this.2)
          have K6 : Kept [g, X] W3 _ := K5.trans (k6.mono (by simp))
          generalize ((w5.alloc (.cells #[.slice A5 (placesB ys).length cp5, .int .i64 N] 30)).setCell ⟨X, 0, none⟩ (.slice A5 (placesB ys).length cp5)).setCell ⟨X, 1, none⟩ (.int .i64 N) = W6 at rX6 k6 hS6 hL6 K6 ⊢
          have e60 : W6.cell? ⟨X, 0, none⟩ = some (.slice A5 (placesB ys).length cp5) := by simpa using rX6.cell 0
          clear f0 f1 g0 g1 rX5 k6 hS5 hL5 K5
          go_quiet (first | (go_at_call 12; refine quiet_same (startsCount_any p b g ys _ (hS6.kept ((Kept.refl [] W6).drewN _)))) | fail)
          have kq := (Kept.refl [] W6).drewN nq
          go_wp2
          go_roundw
          case rel => exact ⟨j + 1, A5, cp5, ys, by omega, by go_num, HD, hS6.kept kq, hZ5, rX6.kept kq (by simp), hL6.kept kq, hA5', K6.trans kq.any⟩
          case measure => simp [intOf]; omega
      · obtain rfl : j = l.length := by omega
        clear hb hs hS3 hZ0 hP0 rX
        have rRr := rR3.kept hkr (by simp; omega)
        have cR0 : wr.cell? ⟨w.heap.size, 0, none⟩ = some (.int .i64 a) := by simpa using rRr.cell 0
        have e0 : wr.cell? ⟨X, 0, none⟩ = some (.slice A (placesB xs).length cp) := by simpa using rXr.cell 0
        have e1 : wr.cell? ⟨X, 1, none⟩ = some (.int .i64 N) := by simpa using rXr.cell 1
        have hbd : ∀ y ∈ placesB xs, 0 ≤ y ∧ y < 16384 := fun y hy => by have := placesB_bound hy; omega
        have HPOS := Lib.hid (fun (y : Int) (hy : y ∈ placesB xs) => hZr.pos hy)
        have he2 : inL (placesB xs) 0 1099511627776 = placesB xs := by
          unfold inL
          rw [if_pos (by omega), List.filter_eq_self]
          intro y hy
          have := hbd y hy
          simp; omega
        have HBD := Lib.hid hbd
        have HE2 := Lib.hid he2
        have hil := inL_len (placesB xs) a c
        have HPL : Hid ((placesB xs).length ≤ 1099511627776) := by show _ ≤ _; omega
        have HIL : Hid ((inL (placesB xs) a c).length ≤ 1099511627776) := by show _ ≤ _; omega
        obtain ⟨z, hz⟩ : ∃ z, (lastL (placesB xs) a).getD 0 = z := ⟨_, rfl⟩
        obtain ⟨t, ht⟩ : ∃ t, (lastL (placesB xs) a).isSome = t := ⟨_, rfl⟩
        have HT : Hid (optI (lastL (placesB xs) a) = .tuple #[.int .i64 z, .bool t]) := by show _ = _; rw [← hz, ← ht]; rfl
        have HT2 : Hid ((.tuple #[.int .i64 ((lastL (placesB xs) a).getD 0), .bool (lastL (placesB xs) a).isSome] : Value) = .tuple #[.int .i64 z, .bool t]) := by show _ = _; rw [← hz, ← ht]
        clear hbd he2 hil hz ht
        go_wp2_with fail
        refine (startsBefore_any p b g xs a wr hSr).mono ?_
        rintro e w6 ⟨rfl, k6⟩
        rw [HT.out]
        have rX6 := rXr.kept k6 (by simp)
        have rR6 := rRr.kept k6 (by simp)
        have hL6 := hLr.kept k6
        have hS6 := hSr.kept k6
        have kW6 := kWr.trans k6
        have cR06 : w6.cell? ⟨w.heap.size, 0, none⟩ = some (.int .i64 a) := by simpa using rR6.cell 0
        have e06 : w6.cell? ⟨X, 0, none⟩ = some (.slice A (placesB xs).length cp) := by simpa using rX6.cell 0
        have e16 : w6.cell? ⟨X, 1, none⟩ = some (.int .i64 N) := by simpa using rX6.cell 1
        clear cR0 e0 e1 hkr kWr k6 hLr hSr rXr rRr rR3 kW3
        go_wp2_with fail
        refine (refBefore09_any A (placesB xs).length cp N a (placesB xs) w6 hL6.1 rfl HPL.out HPOS.out).mono ?_
        rintro e w7 ⟨rfl, k7⟩
        rw [HT2.out]
        have rX7 := rX6.kept k7 (by simp)
        have rR7 := rR6.kept k7 (by simp)
        have hL7 := hL6.kept k7
        have hS7 := hS6.kept k7
        have kW7 := kW6.trans k7
        clear cR06 e06 e16 k7 rX6 rR6 hL6 hS6 kW6
        have kk0 : Kept [] w7 w7.drew := (Kept.refl _ _).drew
        by_cases hc0 : 0 ≤ c
        · have hwc : IntKind.u64.wrap c = c := by rw [IntKind.wrap_u64]; omega
          have hmh := mem_has xs c
          obtain ⟨bb, hbb⟩ : ∃ bb, hasM xs c = bb := ⟨_, rfl⟩
          rw [hbb] at hmh
          have HI2 := Lib.hid hmh
          have HI1 := Lib.hid hbb
          clear hmh
          clear hbb
          go_wp2_with fail
          refine wp_region_pick (fun w' => Kept [] w7 w' ∧ w'.cell? ⟨w.heap.size, 0, none⟩ = some (.int .i64 a) ∧ w'.cell? ⟨w.heap.size, 1, none⟩ = some (.int .i64 c) ∧ w'.cell? ⟨X, 0, none⟩ = some (.slice A (placesB xs).length cp) ∧ w'.cell? ⟨X, 1, none⟩ = some (.int .i64 N)) (by kernel_rfl) (held_now2 rR7 rX7 (by assumption)) ?_
          simp only [numbered, List.length_cons, List.length_nil, Nat.reduceAdd]
          repeat (first
            | (refine pick_take0 (v := ?_) rfl (by decide +kernel) (fun _ _ _ h => h) (by rfl) ?_ ?_; rotate_left; (intro w hSw; (try dsimp only at hSw); go_simp; try with_reducible rfl); go_frame)
            | (refine pick_skip0 (by decide +kernel) (fun _ _ _ h => h) (by rfl) ?_; go_frame)
            | (refine pick_take1 (v := ?_) rfl (by decide +kernel) (fun _ _ _ h => h) (by rfl) ?_ ?_; rotate_left; (intro w hSw; (try dsimp only at hSw); go_simp; try with_reducible rfl); go_frame)
            | (refine pick_take2 (v := ?_) rfl (by decide +kernel) (fun _ _ _ h => h) (by rfl) ?_ ?_; rotate_left; (intro w hSw; (try dsimp only at hSw); go_simp; try with_reducible rfl); go_frame)
            | (refine pick_call (by decide +kernel) (by rfl) (fun K hK => ?_); go_simp
               first
               | (go_at_call 5; refine (fixed09_any _).mono ?_; rintro e w' ⟨rfl, kk⟩; have kq : Kept [] w7 w' := Kept.trans (by assumption) kk)
               | (go_at_call 16; refine (startsIn_any p b g xs _ _ _ ?_ ?_).mono ?_; (exact hS7.kept (by assumption)); (first | exact ha | decide); rintro e w' ⟨A1, c1, rfl, hsA, _, kk⟩; (try rw [HE2.out] at hsA ⊢); have hsA3 := hsA; have kq : Kept [] w7 w' := Kept.trans (by assumption) kk)
               | (go_at_call 17; refine (refIn09_any A _ cp N a c (placesB xs) _ ?_ rfl HPL.out ha HBD.out).mono ?_; (exact (hL7.kept (by assumption)).1); rintro e w' ⟨G2, c2, rfl, hown2, kk⟩; have hsB := Sl.of_own hown2; have hsA3 := hsA.kept kk; have kq : Kept [] w7 w' := Kept.trans (by assumption) kk)
               | (go_at_call 15; refine (refSame04_yes _ _ _ _ _ _ _ _ hsA3 ?_ rfl rfl ?_).mono ?_; (first | (with_reducible exact hsB) | exact (hL7.kept (by assumption)).1); (first | (with_reducible exact HIL.out) | exact HPL.out); rintro e w' ⟨rfl, kk⟩; have kq : Kept [] w7 w' := Kept.trans (by assumption) kk)
               | (go_at_call 18; refine (startsIs_any p b g xs c _ ?_ hc0 ?_).mono ?_; (exact hS7.kept (by assumption)); (omega); rintro e w' ⟨rfl, hw'⟩; subst hw'; rw [HI1.out])
               | (go_at_call 19; refine (refIs09_any A _ cp N c (placesB xs) _ ?_ rfl HPL.out).mono ?_; (exact (hL7.kept (by assumption)).1); rintro e w' ⟨rfl, kk⟩; rw [HI2.out]; have kq : Kept [] w7 w' := Kept.trans (by assumption) kk)
               (try dsimp only)
               refine hK _ _ (held_now2 rR7 rX7 (by assumption)) ?_
               clear hK K))
          refine pick_done (by decide +kernel) ?_
          go_wp2
          go_ret
          exact ⟨rfl, kW7.trans (by assumption)⟩
        · have hc0' : decide (0 ≤ c) = false := by simpa using hc0
          obtain ⟨d, hd⟩ : ∃ d, IntKind.u64.wrap c = d := ⟨_, rfl⟩
          have hd2 : 9223372036854775808 ≤ d ∧ d ≤ 18446744073709551615 := by rw [IntKind.wrap_u64] at hd; omega
          have HI1 : Hid (hasM xs d = false) := by
            show _ = _
            cases e : hasM xs d with
            | false => rfl
            | true => have := (hasM_lt e).2; omega
          go_wp2_with fail
          refine wp_region_pick (fun w' => Kept [] w7 w' ∧ w'.cell? ⟨w.heap.size, 0, none⟩ = some (.int .i64 a) ∧ w'.cell? ⟨w.heap.size, 1, none⟩ = some (.int .i64 c) ∧ w'.cell? ⟨X, 0, none⟩ = some (.slice A (placesB xs).length cp) ∧ w'.cell? ⟨X, 1, none⟩ = some (.int .i64 N)) (by kernel_rfl) (held_now2 rR7 rX7 (by assumption)) ?_
          simp only [numbered, List.length_cons, List.length_nil, Nat.reduceAdd]
          repeat (first
            | (refine pick_take0 (v := ?_) rfl (by decide +kernel) (fun _ _ _ h => h) (by rfl) ?_ ?_; rotate_left; (intro w hSw; (try dsimp only at hSw); go_simp; try with_reducible rfl); go_frame)
            | (refine pick_skip0 (by decide +kernel) (fun _ _ _ h => h) (by rfl) ?_; go_frame)
            | (refine pick_take1 (v := ?_) rfl (by decide +kernel) (fun _ _ _ h => h) (by rfl) ?_ ?_; rotate_left; (intro w hSw; (try dsimp only at hSw); go_simp; try with_reducible rfl); go_frame)
            | (refine pick_take2 (v := ?_) rfl (by decide +kernel) (fun _ _ _ h => h) (by rfl) ?_ ?_; rotate_left; (intro w hSw; (try dsimp only at hSw); go_simp; try with_reducible rfl); go_frame)
            | (refine pick_call (by decide +kernel) (by rfl) (fun K hK => ?_); go_simp
               first
               | (go_at_call 5; refine (fixed09_any _).mono ?_; rintro e w' ⟨rfl, kk⟩; have kq : Kept [] w7 w' := Kept.trans (by assumption) kk)
               | (go_at_call 16; refine (startsIn_any p b g xs _ _ _ ?_ ?_).mono ?_; (exact hS7.kept (by assumption)); (first | exact ha | decide); rintro e w' ⟨A1, c1, rfl, hsA, _, kk⟩; (try rw [HE2.out] at hsA ⊢); have hsA3 := hsA; have kq : Kept [] w7 w' := Kept.trans (by assumption) kk)
               | (go_at_call 17; refine (refIn09_any A _ cp N a c (placesB xs) _ ?_ rfl HPL.out ha HBD.out).mono ?_; (exact (hL7.kept (by assumption)).1); rintro e w' ⟨G2, c2, rfl, hown2, kk⟩; have hsB := Sl.of_own hown2; have hsA3 := hsA.kept kk; have kq : Kept [] w7 w' := Kept.trans (by assumption) kk)
               | (go_at_call 15; refine (refSame04_yes _ _ _ _ _ _ _ _ hsA3 ?_ rfl rfl ?_).mono ?_; (first | (with_reducible exact hsB) | exact (hL7.kept (by assumption)).1); (first | (with_reducible exact HIL.out) | exact HPL.out); rintro e w' ⟨rfl, kk⟩; have kq : Kept [] w7 w' := Kept.trans (by assumption) kk)
               | (go_at_call 18; refine (startsIs_any p b g xs d _ ?_ ?_ ?_).mono ?_; (exact hS7.kept (by assumption)); (omega); (omega); rintro e w' ⟨rfl, hw'⟩; subst hw'; rw [HI1.out])
               (try dsimp only)
               refine hK _ _ (held_now2 rR7 rX7 (by assumption)) ?_
               clear hK K))
          refine pick_done (by decide +kernel) ?_
          go_wp2
          go_ret
          exact ⟨rfl, kW7.trans (by assumption)⟩
end Go.Proofs.Ytkfdkmdjdghdkaa
