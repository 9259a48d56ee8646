/- Package kraalref06: the document's answers on maps of pages: New, Set, Page, Same. -/
import Derived.Test.YthlkammoinokoaaSlG
import Derived.Test.YthlkammoinokoaaOwnerOf
import Derived.Laws.StructEq
namespace Go.Proofs.Ythlkammoinokoaa
open Go.RowKit

theorem info_int06 : (Try.prog.info? 3).map (fun i => (i.zero, i.size, i.bytes)) = some (some (.int .i64 0), 1, 8) := by kernel_rfl
/-- What a call leaves that answers a new slice of numbers. -/
def NewSl (xs : List Int) (w : World) (e : Ending) (w' : World) : Prop :=
  ∃ g cap, e = .returned (.slice (some ⟨g, 0, none⟩) xs.length cap) ∧ SlG (Value.int .i64) w' (some ⟨g, 0, none⟩) xs ∧ w.heap.size ≤ g ∧ Kept [] w w'

set_option maxRecDepth 100000 in
set_option maxHeartbeats 2000000 in
theorem refNew06_any (n : Int) (w : World) : Calls Try.prog 7 #[.int .i64 n] w (NewSl (List.replicate (sizeB n) 0) w) := by
  obtain ⟨i0, hi, hz0, hz1, hz2⟩ := info_parts info_int06
  have own0 := own_empty w 3 1 w.heap.size (Nat.le_refl _)
  have k0 := (Kept.refl [] w).alloc (.cells #[] 3)
  obtain ⟨S, hS⟩ : ∃ S, sizeB n = S := ⟨_, rfl⟩
  have hS1 : S ≤ 1024 ∧ ((S : Int) = n ∨ (n < 0 ∧ S = 0) ∨ (1024 < n ∧ S = 1024)) := by rw [← hS]; unfold sizeB; omega
  rw [hS]
  clear hS
  go_enter Try.func7, Try.ntmps7
  go_wp2_with fail
  generalize w.alloc (.cells #[] 3) = W at own0 k0 ⊢
  go_loopw [3, 4] (fun o i wr => ∃ (j g cp : Nat), j ≤ S ∧ o = .slice (some ⟨g, 0, none⟩) j cp ∧ i = .int .i64 j ∧ wr.ownsRow w.heap.size 3 1 (.slice (some ⟨g, 0, none⟩) j cp) j ((List.replicate j (0 : Int)).map (Value.int .i64)) ∧ Kept [] w wr) (fun _ i _ => S - (intOf i).toNat)
  case atStart => exact ⟨0, w.heap.size, 0, Nat.zero_le _, rfl, rfl, by simpa using own0, k0⟩
  case round =>
    obtain ⟨j, g, cp, hj, rfl, rfl, hor, hkr⟩ := hrel
    clear own0 k0
    have hgl := own_ge hor
    by_cases hlt : j < S
    · have h1 : decide ((j : Int) < n) = true := by simp; omega
      have h2 : decide ((j : Int) < 1024) = true := by simp; omega
      have rE := Row.new wr 3 [.int .i64 0]
      have kE := (Kept.refl [] wr).alloc (.cells #[.int .i64 0] 3)
      have rowE := own_kept hor kE (by simp)
      have sE := (Sl.of_row (k := .i64) (xs := [0]) rE).toV
      have hsz := hkr.size
      go_wp2_with (at_builtin; refine wpList_append_on _ rfl _ _ 27 rfl w.heap.size 3 i0 (.int .i64 0) 1 8 Try.underlying27 hi hz0 hz1 hz2 rfl (by omega) g j cp _ rfl rowE _ 1 1 _ rfl sE int_oneCell (by unfold maxLen; omega) (by omega) (by simp; omega) ?_; intro g2 cp2 w3 hown3 hk3 hg3)
      go_roundw
      case rel => exact ⟨j + 1, g2, cp2, by omega, rfl, by go_num, by rw [List.replicate_succ', List.map_append]; exact hown3, (hkr.alloc _).chain hk3 (by simp) (by simp; omega)⟩
      case measure => simp [intOf]; omega
    · obtain rfl : j = S := by omega
      have fin : NewSl (List.replicate j 0) w (.returned (.slice (some ⟨g, 0, none⟩) j cp)) wr := ⟨g, cp, by simp, SlG.of_own hor, hgl, hkr⟩
      by_cases h1 : (j : Int) < n
      · have h2 : decide ((j : Int) < 1024) = false := by simp; omega
        go_wp2
        go_ret
        exact fin
      · have h1' : decide ((j : Int) < n) = false := by simpa using h1
        go_wp2
        go_ret
        exact fin

set_option maxHeartbeats 1000000 in
theorem refPage06_any (A : Option Addr) (n cap : Nat) (xs : List Int) (p : Int) (w : World) (hs : SlG (Value.int .i64) w A xs) (hn : xs.length = n) (hx : n ≤ 1024) :
    Calls Try.prog 12 #[.slice A n cap, .int .i64 p] w fun e w' => e = .returned (.int .i64 (pageB xs p)) ∧ w = w' := by
  subst hn
  by_cases h1 : p < 0
  · have HS := Lib.hid (pageB_none (xs := xs) (.inl h1))
    go_enter Try.func12, Try.ntmps12
    go_wp2
    go_ret
    exact ⟨by rw [HS.out]; rfl, rfl⟩
  · have h1' : decide (p < 0) = false := by simpa using h1
    by_cases h2 : (xs.length : Int) ≤ p
    · have HS := Lib.hid (pageB_none (xs := xs) (.inr h2))
      go_enter Try.func12, Try.ntmps12
      go_wp2
      go_ret
      exact ⟨by rw [HS.out]; rfl, rfl⟩
    · have h2' : decide ((xs.length : Int) ≤ p) = false := by simpa using h2
      obtain ⟨q, rfl⟩ := Int.eq_ofNat_of_zero_le (show 0 ≤ p by omega)
      obtain ⟨b, off, rfl, hc⟩ := hs.cell (j := q) (by omega)
      have HS := Lib.hid (show pageB xs q = xs[q]'(by omega) by rw [pageB_at (by omega), List.getElem?_eq_getElem (by omega)]; rfl)
      generalize xs[q]'(by omega) = y at hc HS
      go_enter Try.func12, Try.ntmps12
      go_wp2
      go_ret
      exact ⟨by rw [HS.out]; rfl, rfl⟩

set_option maxRecDepth 100000 in
set_option maxHeartbeats 4000000 in
theorem refSet06_any (A : Option Addr) (n cap : Nat) (xs : List Int) (a c o : Int) (w : World) (hs : SlG (Value.int .i64) w A xs) (hn : xs.length = n) (hx : n ≤ 1024) :
    Calls Try.prog 9 #[.slice A n cap, .agg #[.int .i64 a, .int .i64 c], .int .i64 o] w (RefPostG (Value.int .i64) A n (setB xs a c o).1 (setB xs a c o).2 w) := by
  subst hn
  obtain ⟨i0, hi, hz0, hz1, hz2⟩ := info_parts info_int06
  have rR := Row.new w 30 [.int .i64 a, .int .i64 c]
  have kW := (Kept.refl [] w).alloc (.cells #[.int .i64 a, .int .i64 c] 30)
  have bad : ∀ er, setB xs a c o = (xs, er) → RefPostG (Value.int .i64) A xs.length (setB xs a c o).1 (setB xs a c o).2 w (.returned (.tuple #[.slice A xs.length cap, .int .i64 er])) (w.alloc (.cells #[.int .i64 a, .int .i64 c] 30)) := by
    intro er he
    rw [he]
    exact ⟨A, cap, rfl, rfl, hs.kept kW, .inl rfl, kW⟩
  by_cases h1 : o < 0
  · have h1' : decide (o < 0) = true := by simpa using h1
    have HS := Lib.hid (bad 1 (by unfold setB; rw [if_pos h1]))
    clear bad
    go_enter Try.func9, Try.ntmps9
    go_wp2
    go_ret2
    exact HS.out
  · have h1' : decide (o < 0) = false := by simpa using h1
    have hb8 : ¬ (0 ≤ a ∧ 0 ≤ c ∧ c ≤ (xs.length : Int) - a) → Hid (RefPostG (Value.int .i64) A xs.length (setB xs a c o).1 (setB xs a c o).2 w (.returned (.tuple #[.slice A xs.length cap, .int .i64 8])) (w.alloc (.cells #[.int .i64 a, .int .i64 c] 30))) :=
      fun hh => bad 8 (by unfold setB; rw [if_neg h1, if_neg hh])
    have HB8 := Lib.hid hb8
    clear bad hb8
    by_cases h0 : a < 0
    · have H := HB8.out (by omega)
      clear HB8
      go_enter Try.func9, Try.ntmps9
      go_wp2
      go_ret2
      exact H.out
    · have h0' : decide (a < 0) = false := by simpa using h0
      by_cases h2 : c < 0
      · have H := HB8.out (by omega)
        clear HB8
        go_enter Try.func9, Try.ntmps9
        go_wp2
        go_ret2
        exact H.out
      · have h2' : decide (c < 0) = false := by simpa using h2
        by_cases h3 : (xs.length : Int) < a
        · have H := HB8.out (by omega)
          clear HB8
          go_enter Try.func9, Try.ntmps9
          go_wp2
          go_ret2
          exact H.out
        · have h3' : decide ((xs.length : Int) < a) = false := by simpa using h3
          by_cases h4 : (xs.length : Int) < c
          · have H := HB8.out (by omega)
            clear HB8
            go_enter Try.func9, Try.ntmps9
            go_wp2
            go_ret2
            exact H.out
          · have h4' : decide ((xs.length : Int) < c) = false := by simpa using h4
            by_cases h5 : (xs.length : Int) < a + c
            · have H := HB8.out (by omega)
              clear HB8
              go_enter Try.func9, Try.ntmps9
              go_wp2
              go_ret2
              exact H.out
            · have h5' : decide ((xs.length : Int) < a + c) = false := by simpa using h5
              obtain ⟨B, rfl⟩ := Int.eq_ofNat_of_zero_le (show 0 ≤ a by omega)
              obtain ⟨N, rfl⟩ := Int.eq_ofNat_of_zero_le (show 0 ≤ c by omega)
              have HS := Lib.hid (show setB xs B N o = (giveP xs B o N, 0) by unfold setB; rw [if_neg h1, if_pos (by omega)]; simp)
              clear HB8
              have own0 := own_empty (w.alloc (.cells #[.int .i64 B, .int .i64 N] 30)) 3 1 (w.heap.size + 1) (by simp)
              have k0 := (Kept.refl [] (w.alloc (.cells #[.int .i64 B, .int .i64 N] 30))).alloc (.cells #[] 3)
              have s0 := ((hs.kept kW).kept k0).toV
              have hzW : (w.alloc (.cells #[.int .i64 B, .int .i64 N] 30)).heap.size = w.heap.size + 1 := by simp
              rw [hzW] at own0
              clear hzW
              go_enter Try.func9, Try.ntmps9
              go_wp2_with (at_builtin; refine wpList_append_on _ rfl _ _ 27 rfl (w.heap.size + 1) 3 i0 (.int .i64 0) 1 8 Try.underlying27 hi hz0 hz1 hz2 rfl (by omega) (w.heap.size + 1) 0 0 [] rfl own0 A xs.length cap _ rfl s0 int_oneCell (by unfold maxLen; omega) (by omega) (by simp) ?_; intro g' cap' w1 hown hk _; rw [Nat.zero_add, List.nil_append] at hown; rw [Nat.zero_add])
              have kw1 : Kept [] w w1 := (kW.trans k0).chain hk (by simp) (by simp)
              have hge := own_ge hown
              have rR2 := (rR.kept k0 (by simp)).kept hk (by simp)
              clear own0 s0 hk k0 rR kW h1 h0 h3 h2 h4
              go_loopw [9] (fun i wr => ∃ j : Nat, j ≤ N ∧ i = .int .i64 j ∧ wr.ownsRow (w.heap.size + 1) 3 1 (.slice (some ⟨g', 0, none⟩) xs.length cap') xs.length ((giveP xs B o j).map (Value.int .i64)) ∧ Kept [g'] w1 wr) (fun i _ => N - (intOf i).toNat)
              case atStart => exact ⟨0, Nat.zero_le _, rfl, hown, Kept.refl _ _⟩
              case round =>
                obtain ⟨j, hj, rfl, hor, hkr⟩ := hrel
                have cR0 : wr.cell? ⟨w.heap.size, 0, none⟩ = some (.int .i64 B) := by simpa using (rR2.kept hkr (by simp; omega)).cell 0
                have cR1 : wr.cell? ⟨w.heap.size, 1, none⟩ = some (.int .i64 N) := by simpa using (rR2.kept hkr (by simp; omega)).cell 1
                by_cases hlt : j < N
                · have hcell := hor.cellAt (B + j) (by omega)
                  rw [List.getElem?_map, List.getElem?_eq_getElem (by rw [giveP_length]; omega), Option.map_some] at hcell
                  have hfr := hor.frozenAt (B + j)
                  have hst := (hor.stored (B + j) (.int .i64 o)).1
                  rw [← List.map_set, ← giveP_step] at hst
                  have HST := Lib.hid hst
                  clear hst hor
                  have t1 : ((B : Int) + j).toNat = B + j := by omega
                  go_wp2
                  go_roundw
                  case rel => exact ⟨j + 1, by omega, by go_num, HST.out, hkr.set (.inl (by simp)) _⟩
                  case measure => simp [intOf]; omega
                · obtain rfl : j = N := by omega
                  go_wp2
                  go_ret2
                  rw [HS.out]
                  exact ⟨some ⟨g', 0, none⟩, cap', rfl, giveP_length _ _ _ _, SlG.of_own hor, .inr ⟨g', rfl, by omega⟩, kw1.chain hkr (by simp) (by simp; omega)⟩

/-- Equal runs are not unlike. -/
theorem run_neq_run (x y : Int) (w : World) : (binOp .neq 30 (.agg #[.int .i64 x, .int .i64 y]) (.agg #[.int .i64 x, .int .i64 y])).run Try.prog w = .ok (.bool false) w := by
  rw [run_neq_struct, run_equalIn_struct w 9999 _ _ _ (by kernel_rfl) (by kernel_rfl)]
  simp [Program.fieldsOf, Try.underlying30, Op.eqFields, part, isAgg, run_underlying Try.underlying3, run_equalIn_int _ 9998 3 .i64 .i64 _ _ Try.underlying3]
theorem run_guard_run (x y : Operand) (a b c d : Int) (w : World) : (eqGuard .neq 30 x y (.agg #[.int .i64 a, .int .i64 b]) (.agg #[.int .i64 c, .int .i64 d])).run Try.prog w = .ok () w :=
  run_eqGuard_agg w .neq _ x y _ _ (by kernel_rfl)

set_option maxHeartbeats 2000000 in
/-- Two slices of the same runs. -/
theorem refSame06_yes (A B : Option Addr) (n m ca cb : Nat) (rs : List RunN) (w : World) (ha : SlR w A rs) (hb : SlR w B rs) (hn : rs.length = n) (hm : rs.length = m) (hx : n ≤ 1099511627776) :
    Calls Try.prog 14 #[.slice A n ca, .slice B m cb] w (FixedPost w) := by
  subst hn
  subst hm
  go_enter Try.func14, Try.ntmps14
  go_wp2_with fail
  go_loopw [5] (fun i wr => ∃ j : Nat, j ≤ rs.length ∧ i = .int .i64 j ∧ Kept [] w wr) (fun i _ => rs.length - (intOf i).toNat)
  case atStart => exact ⟨0, Nat.zero_le _, rfl, Kept.refl _ _⟩
  case round =>
    obtain ⟨j, hj, rfl, hkr⟩ := hrel
    by_cases hlt : j < rs.length
    · obtain ⟨b, off, rfl, _, cA0, cA1⟩ := (ha.kept hkr).cell hlt
      obtain ⟨b', off', rfl, _, cB0, cB1⟩ := (hb.kept hkr).cell hlt
      generalize rs[j] = y at cA0 cA1 cB0 cB1
      obtain ⟨y1, y2⟩ := y
      simp only at cA0 cA1 cB0 cB1
      have h1 : (j : Int) < (rs.length : Int) := by omega
      have hne := run_neq_run y1 y2
      have hgu := fun x y => run_guard_run x y y1 y2 y1 y2
      go_wp2_with fail
      go_quiet (fail)
      go_wp2
      go_roundw
      case rel => exact ⟨j + 1, by omega, by go_num, hkr.drewN _⟩
      case measure => simp [intOf]; omega
    · obtain rfl : j = rs.length := by omega
      go_wp2
      go_ret
      exact ⟨rfl, hkr⟩
end Go.Proofs.Ythlkammoinokoaa
