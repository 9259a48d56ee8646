/- Package kraalref05: Add. -/
import Derived.Test.YtnhdikoigpmnkaaDoorTreeRefAdd
namespace Go.Proofs.YtnhdikoigpmnkaaDoor
open Go.RowKit

/-- Where the new one goes: behind the first j. -/
theorem insB_at {rs : List Rw} {z p : Int} {j : Nat} (hj : j ≤ rs.length) (h1 : ∀ i, i < j → (rs[i]?.getD (0, 0)).1 < z) (h2 : j = rs.length ∨ ¬ (rs[j]?.getD (0, 0)).1 < z) : insB rs (z, p) = rs.take j ++ (z, p) :: rs.drop j := by
  have ha : ∀ r ∈ rs.take j, (fun r : Rw => decide (r.1 < z)) r = true := fun r hr => by
    obtain ⟨i, hi, e⟩ := List.getElem_of_mem hr
    rw [List.length_take] at hi
    have := h1 i (by omega)
    rw [List.getElem?_eq_getElem (by omega), Option.getD_some] at this
    rw [List.getElem_take] at e
    rw [← e]; simpa using this
  have hd : (rs.drop j).takeWhile (fun r : Rw => decide (r.1 < z)) = [] ∧ (rs.drop j).dropWhile (fun r : Rw => decide (r.1 < z)) = rs.drop j := by
    by_cases e : j = rs.length
    · subst e; simp
    · have hlt : j < rs.length := by omega
      have h3 : ¬ (rs[j]).1 < z := by
        rcases h2 with h | h
        · omega
        · rwa [List.getElem?_eq_getElem hlt, Option.getD_some] at h
      rw [List.drop_eq_getElem_cons hlt]
      exact ⟨List.takeWhile_cons_of_neg (by simpa using h3), List.dropWhile_cons_of_neg (by simpa using h3)⟩
  have e : rs = rs.take j ++ rs.drop j := (List.take_append_drop j rs).symm
  unfold insB
  conv => lhs; rw [e]
  rw [List.takeWhile_append_of_pos ha, List.dropWhile_append_of_pos ha, hd.1, hd.2, List.append_nil]

set_option maxRecDepth 100000 in
set_option maxHeartbeats 4000000 in
theorem refAdd05_any (ab ao cap : Nat) (rs : List Rw) (z q : Int) (w : World) (hs : SlT w (some ⟨ab, ao, none⟩) rs) (hn : rs.length < 1048576) (hc : rs.length ≤ cap ∧ cap ≤ maxLen) :
    Calls Tryd.prog 21 #[.slice (some ⟨ab, ao, none⟩) rs.length cap, .int .i64 z, .int .i64 q] w (RefPostT (addB rs z q).1 (addB rs z q).2 w) := by
  obtain ⟨i0, hi, hz0, hz1, hz2⟩ := info_parts info_row
  have hcm : cap ≤ 9223372036854775807 := by have := hc.2; unfold maxLen at this; omega
  have hcl := hc.1
  go_enter Tryd.func21, Tryd.ntmps21
  by_cases h1 : z < 1
  · have h1' : decide (z < 1) = true := by simpa using h1
    go_wp2_with fail
    go_ret2
    rw [addB_arg (.inl h1)]
    exact ⟨ab, ao, cap, rfl, hs, hc, Kept.refl _ _⟩
  · have h1' : decide (z < 1) = false := by simpa using h1
    go_wp2_with fail
    refine (refHas05_any _ cap rs z w hs (by omega)).mono ?_
    rintro e w1 ⟨rfl, rfl⟩
    by_cases h2 : z ∈ idsT rs
    · have HI := Lib.hid h2
      rw [decide_eq_true h2]
      clear h2
      go_wp2_with fail
      go_ret2
      rw [addB_arg (.inr HI.out)]
      exact ⟨ab, ao, cap, rfl, hs, hc, Kept.refl _ _⟩
    · have HI := Lib.hid (show ¬ (z < 1 ∨ z ∈ idsT rs) from fun e => e.elim (fun h => by omega) h2)
      rw [decide_eq_false h2]
      clear h2
      by_cases h3 : q ≠ 0 ∧ q ∉ idsT rs
      · obtain ⟨h3, h4⟩ := h3
        have HQ := Lib.hid (show q ≠ 0 ∧ q ∉ idsT rs from ⟨h3, h4⟩)
        have h3' : (q != 0) = true := by simpa using h3
        have h3'' : decide (q = 0) = false := by simpa using h3
        clear h3
        go_wp2_with fail
        refine (refHas05_any _ cap rs q w hs (by omega)).mono ?_
        rintro e w1 ⟨rfl, rfl⟩
        rw [decide_eq_false h4]
        clear h4
        go_wp2_with fail
        go_ret2
        rw [addB_none HI.out HQ.out]
        exact ⟨ab, ao, cap, rfl, hs, hc, Kept.refl _ _⟩
      · have HQ := Lib.hid h3
        -- what follows is the same whether q is 0 or is there
        have own0 := own_empty w 60 2 w.heap.size (Nat.le_refl _)
        have k0 := (Kept.refl [] w).alloc (.cells #[] 60)
        have hq : q = 0 ∨ q ∈ idsT rs := by by_cases e : q = 0; exact .inl e; exact .inr (Classical.not_not.1 (fun h => h3 ⟨e, h⟩))
        clear h3
        rcases hq with hq0 | hqi
        · have hq1 : (q != 0) = false := by simpa using hq0
          clear hq0
          go_wp2_with fail
          generalize w.alloc (.cells #[] 60) = W2 at own0 k0 ⊢
          go_loopw [8, 9] (fun o i wr => ∃ (j g' cp : Nat), j ≤ rs.length ∧ o = .slice (some ⟨g', 0, none⟩) j cp ∧ i = .int .i64 j ∧
              wr.ownsRow w.heap.size 60 2 (.slice (some ⟨g', 0, none⟩) j cp) j (cellsT (rs.take j)) ∧ Hid (∀ i, i < j → (rs[i]?.getD (0, 0)).1 < z) ∧ Kept [] w wr) (fun _ i _ => rs.length - (intOf i).toNat)
          case atStart => exact ⟨0, w.heap.size, 0, Nat.zero_le _, rfl, rfl, by simpa [cellsT] using own0, fun i hi => by omega, k0⟩
          case round =>
            obtain ⟨j, g', cp, hj, rfl, rfl, hor, HA, hkr⟩ := hrel
            clear own0 k0
            have hgl := own_ge hor
            by_cases hlt : j < rs.length
            · obtain ⟨b, off, he, cG, cH⟩ := (hs.kept hkr).cell hlt
              cases he
              obtain ⟨⟨x, p⟩, hxp⟩ : ∃ xp, rs[j]?.getD (0, 0) = xp := ⟨_, rfl⟩
              have HX := Lib.hid hxp
              rw [hxp] at cG cH
              simp only at cG cH
              clear hxp
              by_cases hv : x < z
              · have HV := Lib.hid hv
                have rE := Row.new wr 60 [.int .i64 x, .int .i64 p]
                have kE := (Kept.refl [] wr).alloc (.cells #[.int .i64 x, .int .i64 p] 60)
                have rowE := own_kept hor kE (by simp)
                have sE : SlV _ 2 (some ⟨wr.heap.size, 0, none⟩) 1 [.int .i64 x, .int .i64 p] := sl_of_row2 rE
                have hsz := hkr.size
                go_wp2_with (at_builtin; refine wpList_append_on _ rfl _ _ 26 rfl w.heap.size 60 i0 (.agg #[.int .i64 0, .int .i64 0]) 2 16 Tryd.underlying26 hi hz0 hz1 hz2 rfl (by omega) g' j cp _ rfl rowE _ 1 1 _ rfl sE (cells_one (rs := [(x, p)])) (by unfold maxLen; omega) (by omega) (by simp; omega) ?_; intro g2 cp2 w3 hown3 hk3 hg3)
                go_roundw
                case rel =>
                  refine ⟨j + 1, g2, cp2, by omega, rfl, by go_num, ?_, fun i hi => ?_, (hkr.alloc _).chain hk3 (by simp) (by simp; omega)⟩
                  · have hx := HX.out
                    rw [List.getElem?_eq_getElem hlt, Option.getD_some] at hx
                    rw [List.take_succ_eq_append_getElem hlt, hx, cellsT_append, cellsT_one]
                    exact hown3
                  · by_cases e : i = j
                    · subst e; rw [HX.out]; exact HV.out
                    · exact HA.out i (by omega)
                case measure => simp [intOf]; omega
              · have hv' : decide (x < z) = false := by simpa using hv
                have HV := Lib.hid hv
                clear hv
                have HT := Lib.hid (insB_at (p := q) hj HA.out (.inr (by rw [HX.out]; exact HV.out)))
                have rZ := Row.new wr 60 [.int .i64 z, .int .i64 q]
                have kZ := (Kept.refl [] wr).alloc (.cells #[.int .i64 z, .int .i64 q] 60)
                have rowZ := own_kept hor kZ (by simp)
                have sZ : SlV _ 2 (some ⟨wr.heap.size, 0, none⟩) 1 [.int .i64 z, .int .i64 q] := sl_of_row2 rZ
                have hsz := hkr.size
                go_wp2_with (first
                  | (at_builtin; refine wpList_append_on _ rfl _ _ 26 rfl w.heap.size 60 i0 (.agg #[.int .i64 0, .int .i64 0]) 2 16 Tryd.underlying26 hi hz0 hz1 hz2 rfl (by omega) g' j cp _ rfl rowZ _ 1 1 _ rfl sZ (cells_one (rs := [(z, q)])) (by unfold maxLen; omega) (by omega) (by simp; omega) ?_; intro g2 cp2 w3 hown3 hk3 hg3; have hkA : Kept [] w w3 := ((hkr.alloc _).chain hk3 (by simp) (by simp; omega)); have sD := ((hs.kept hkA).drop (j := j)).toV; have hgl2 := own_ge hown3; have hdl : (rs.drop j).length = rs.length - j := List.length_drop)
                  | (at_builtin; refine wpList_append_on _ rfl _ _ 26 rfl w.heap.size 60 i0 (.agg #[.int .i64 0, .int .i64 0]) 2 16 Tryd.underlying26 hi hz0 hz1 hz2 rfl (by omega) g2 (j + 1) cp2 _ rfl hown3 _ (rs.length - j) _ _ rfl (by rw [← hdl]; exact sD) (cells_one (rs := rs.drop j)) (by unfold maxLen; omega) (by omega) hkA.size ?_; intro g3 cp3 w4 hown4 hk4 hg4))
                go_ret2
                rw [addB_ok HI.out HQ.out]
                have hLen : (insB rs (z, q)).length = j + 1 + (rs.length - j) := by rw [insB_length]; omega
                have hown5 : w4.ownsRow w.heap.size 60 2 (.slice (some ⟨g3, 0, none⟩) (j + 1 + (rs.length - j)) cp3) (j + 1 + (rs.length - j)) (cellsT (insB rs (z, q))) := by
                  rw [HT.out, show rs.take j ++ (z, q) :: rs.drop j = rs.take j ++ [(z, q)] ++ rs.drop j by simp, cellsT_append, cellsT_append, cellsT_one]
                  exact hown4
                refine ⟨g3, 0, cp3, by rw [hLen]; rfl, SlT.of_own hown5, by rw [hLen]; exact own_cap hown5, hkA.chain hk4 (by simp) (by simp; omega)⟩
            · obtain rfl : j = rs.length := by omega
              have HT := Lib.hid (insB_at (p := q) hj HA.out (.inl rfl))
              have rZ := Row.new wr 60 [.int .i64 z, .int .i64 q]
              have kZ := (Kept.refl [] wr).alloc (.cells #[.int .i64 z, .int .i64 q] 60)
              have rowZ := own_kept hor kZ (by simp)
              have sZ : SlV _ 2 (some ⟨wr.heap.size, 0, none⟩) 1 [.int .i64 z, .int .i64 q] := sl_of_row2 rZ
              have hsz := hkr.size
              go_wp2_with (first
                | (at_builtin; refine wpList_append_on _ rfl _ _ 26 rfl w.heap.size 60 i0 (.agg #[.int .i64 0, .int .i64 0]) 2 16 Tryd.underlying26 hi hz0 hz1 hz2 rfl (by omega) g' rs.length cp _ rfl rowZ _ 1 1 _ rfl sZ (cells_one (rs := [(z, q)])) (by unfold maxLen; omega) (by omega) (by simp; omega) ?_; intro g2 cp2 w3 hown3 hk3 hg3; have hkA : Kept [] w w3 := ((hkr.alloc _).chain hk3 (by simp) (by simp; omega)); have sD : ∀ a, SlV w3 2 a 0 [] := (fun a => ⟨rfl, .inl rfl⟩); have hgl2 := own_ge hown3)
                | (at_builtin; refine wpList_append_on _ rfl _ _ 26 rfl w.heap.size 60 i0 (.agg #[.int .i64 0, .int .i64 0]) 2 16 Tryd.underlying26 hi hz0 hz1 hz2 rfl (by omega) g2 (rs.length + 1) cp2 _ rfl hown3 _ 0 _ [] rfl (sD _) (fun u hu => by cases hu) (by unfold maxLen; omega) (by omega) hkA.size ?_; intro g3 cp3 w4 hown4 hk4 hg4))
              all_goals
                go_ret2
                rw [addB_ok HI.out HQ.out]
                have hLen : (insB rs (z, q)).length = rs.length + 1 := insB_length _ _
                have hown5 : w4.ownsRow w.heap.size 60 2 (.slice (some ⟨g3, 0, none⟩) (rs.length + 1) cp3) (rs.length + 1) (cellsT (insB rs (z, q))) := by
                  rw [HT.out, List.drop_length, cellsT_append, cellsT_one]
                  exact (by simpa using hown4)
                refine ⟨g3, 0, cp3, by rw [hLen]; rfl, SlT.of_own hown5, by rw [hLen]; exact own_cap hown5, hkA.chain hk4 (by simp) (by simp; omega)⟩
        · have HQI := Lib.hid hqi
          by_cases hq0 : q = 0
          · have hq1 : (q != 0) = false := by simpa using hq0
            clear hq0
            go_wp2_with fail
            generalize w.alloc (.cells #[] 60) = W2 at own0 k0 ⊢
            go_loopw [8, 9] (fun o i wr => ∃ (j g' cp : Nat), j ≤ rs.length ∧ o = .slice (some ⟨g', 0, none⟩) j cp ∧ i = .int .i64 j ∧
                wr.ownsRow w.heap.size 60 2 (.slice (some ⟨g', 0, none⟩) j cp) j (cellsT (rs.take j)) ∧ Hid (∀ i, i < j → (rs[i]?.getD (0, 0)).1 < z) ∧ Kept [] w wr) (fun _ i _ => rs.length - (intOf i).toNat)
            case atStart => exact ⟨0, w.heap.size, 0, Nat.zero_le _, rfl, rfl, by simpa [cellsT] using own0, fun i hi => by omega, k0⟩
            case round =>
              obtain ⟨j, g', cp, hj, rfl, rfl, hor, HA, hkr⟩ := hrel
              clear own0 k0
              have hgl := own_ge hor
              by_cases hlt : j < rs.length
              · obtain ⟨b, off, he, cG, cH⟩ := (hs.kept hkr).cell hlt
                cases he
                obtain ⟨⟨x, p⟩, hxp⟩ : ∃ xp, rs[j]?.getD (0, 0) = xp := ⟨_, rfl⟩
                have HX := Lib.hid hxp
                rw [hxp] at cG cH
                simp only at cG cH
                clear hxp
                by_cases hv : x < z
                · have HV := Lib.hid hv
                  have rE := Row.new wr 60 [.int .i64 x, .int .i64 p]
                  have kE := (Kept.refl [] wr).alloc (.cells #[.int .i64 x, .int .i64 p] 60)
                  have rowE := own_kept hor kE (by simp)
                  have sE : SlV _ 2 (some ⟨wr.heap.size, 0, none⟩) 1 [.int .i64 x, .int .i64 p] := sl_of_row2 rE
                  have hsz := hkr.size
                  go_wp2_with (at_builtin; refine wpList_append_on _ rfl _ _ 26 rfl w.heap.size 60 i0 (.agg #[.int .i64 0, .int .i64 0]) 2 16 Tryd.underlying26 hi hz0 hz1 hz2 rfl (by omega) g' j cp _ rfl rowE _ 1 1 _ rfl sE (cells_one (rs := [(x, p)])) (by unfold maxLen; omega) (by omega) (by simp; omega) ?_; intro g2 cp2 w3 hown3 hk3 hg3)
                  go_roundw
                  case rel =>
                    refine ⟨j + 1, g2, cp2, by omega, rfl, by go_num, ?_, fun i hi => ?_, (hkr.alloc _).chain hk3 (by simp) (by simp; omega)⟩
                    · have hx := HX.out
                      rw [List.getElem?_eq_getElem hlt, Option.getD_some] at hx
                      rw [List.take_succ_eq_append_getElem hlt, hx, cellsT_append, cellsT_one]
                      exact hown3
                    · by_cases e : i = j
                      · subst e; rw [HX.out]; exact HV.out
                      · exact HA.out i (by omega)
                  case measure => simp [intOf]; omega
                · have hv' : decide (x < z) = false := by simpa using hv
                  have HV := Lib.hid hv
                  clear hv
                  have HT := Lib.hid (insB_at (p := q) hj HA.out (.inr (by rw [HX.out]; exact HV.out)))
                  have rZ := Row.new wr 60 [.int .i64 z, .int .i64 q]
                  have kZ := (Kept.refl [] wr).alloc (.cells #[.int .i64 z, .int .i64 q] 60)
                  have rowZ := own_kept hor kZ (by simp)
                  have sZ : SlV _ 2 (some ⟨wr.heap.size, 0, none⟩) 1 [.int .i64 z, .int .i64 q] := sl_of_row2 rZ
                  have hsz := hkr.size
                  go_wp2_with (first
                    | (at_builtin; refine wpList_append_on _ rfl _ _ 26 rfl w.heap.size 60 i0 (.agg #[.int .i64 0, .int .i64 0]) 2 16 Tryd.underlying26 hi hz0 hz1 hz2 rfl (by omega) g' j cp _ rfl rowZ _ 1 1 _ rfl sZ (cells_one (rs := [(z, q)])) (by unfold maxLen; omega) (by omega) (by simp; omega) ?_; intro g2 cp2 w3 hown3 hk3 hg3; have hkA : Kept [] w w3 := ((hkr.alloc _).chain hk3 (by simp) (by simp; omega)); have sD := ((hs.kept hkA).drop (j := j)).toV; have hgl2 := own_ge hown3; have hdl : (rs.drop j).length = rs.length - j := List.length_drop)
                    | (at_builtin; refine wpList_append_on _ rfl _ _ 26 rfl w.heap.size 60 i0 (.agg #[.int .i64 0, .int .i64 0]) 2 16 Tryd.underlying26 hi hz0 hz1 hz2 rfl (by omega) g2 (j + 1) cp2 _ rfl hown3 _ (rs.length - j) _ _ rfl (by rw [← hdl]; exact sD) (cells_one (rs := rs.drop j)) (by unfold maxLen; omega) (by omega) hkA.size ?_; intro g3 cp3 w4 hown4 hk4 hg4))
                  go_ret2
                  rw [addB_ok HI.out HQ.out]
                  have hLen : (insB rs (z, q)).length = j + 1 + (rs.length - j) := by rw [insB_length]; omega
                  have hown5 : w4.ownsRow w.heap.size 60 2 (.slice (some ⟨g3, 0, none⟩) (j + 1 + (rs.length - j)) cp3) (j + 1 + (rs.length - j)) (cellsT (insB rs (z, q))) := by
                    rw [HT.out, show rs.take j ++ (z, q) :: rs.drop j = rs.take j ++ [(z, q)] ++ rs.drop j by simp, cellsT_append, cellsT_append, cellsT_one]
                    exact hown4
                  refine ⟨g3, 0, cp3, by rw [hLen]; rfl, SlT.of_own hown5, by rw [hLen]; exact own_cap hown5, hkA.chain hk4 (by simp) (by simp; omega)⟩
              · obtain rfl : j = rs.length := by omega
                have HT := Lib.hid (insB_at (p := q) hj HA.out (.inl rfl))
                have rZ := Row.new wr 60 [.int .i64 z, .int .i64 q]
                have kZ := (Kept.refl [] wr).alloc (.cells #[.int .i64 z, .int .i64 q] 60)
                have rowZ := own_kept hor kZ (by simp)
                have sZ : SlV _ 2 (some ⟨wr.heap.size, 0, none⟩) 1 [.int .i64 z, .int .i64 q] := sl_of_row2 rZ
                have hsz := hkr.size
                go_wp2_with (first
                  | (at_builtin; refine wpList_append_on _ rfl _ _ 26 rfl w.heap.size 60 i0 (.agg #[.int .i64 0, .int .i64 0]) 2 16 Tryd.underlying26 hi hz0 hz1 hz2 rfl (by omega) g' rs.length cp _ rfl rowZ _ 1 1 _ rfl sZ (cells_one (rs := [(z, q)])) (by unfold maxLen; omega) (by omega) (by simp; omega) ?_; intro g2 cp2 w3 hown3 hk3 hg3; have hkA : Kept [] w w3 := ((hkr.alloc _).chain hk3 (by simp) (by simp; omega)); have sD : ∀ a, SlV w3 2 a 0 [] := (fun a => ⟨rfl, .inl rfl⟩); have hgl2 := own_ge hown3)
                  | (at_builtin; refine wpList_append_on _ rfl _ _ 26 rfl w.heap.size 60 i0 (.agg #[.int .i64 0, .int .i64 0]) 2 16 Tryd.underlying26 hi hz0 hz1 hz2 rfl (by omega) g2 (rs.length + 1) cp2 _ rfl hown3 _ 0 _ [] rfl (sD _) (fun u hu => by cases hu) (by unfold maxLen; omega) (by omega) hkA.size ?_; intro g3 cp3 w4 hown4 hk4 hg4))
                all_goals
                  go_ret2
                  rw [addB_ok HI.out HQ.out]
                  have hLen : (insB rs (z, q)).length = rs.length + 1 := insB_length _ _
                  have hown5 : w4.ownsRow w.heap.size 60 2 (.slice (some ⟨g3, 0, none⟩) (rs.length + 1) cp3) (rs.length + 1) (cellsT (insB rs (z, q))) := by
                    rw [HT.out, List.drop_length, cellsT_append, cellsT_one]
                    exact (by simpa using hown4)
                  refine ⟨g3, 0, cp3, by rw [hLen]; rfl, SlT.of_own hown5, by rw [hLen]; exact own_cap hown5, hkA.chain hk4 (by simp) (by simp; omega)⟩
          · have hq1 : (q != 0) = true := by simpa using hq0
            have hq2 : decide (q = 0) = false := by simpa using hq0
            clear hq0
            go_wp2_with fail
            refine (refHas05_any _ cap rs q w hs (by omega)).mono ?_
            rintro e w1 ⟨rfl, rfl⟩
            rw [decide_eq_true HQI.out]
            clear hqi
            go_wp2_with fail
            generalize w.alloc (.cells #[] 60) = W2 at own0 k0 ⊢
            go_loopw [8, 9] (fun o i wr => ∃ (j g' cp : Nat), j ≤ rs.length ∧ o = .slice (some ⟨g', 0, none⟩) j cp ∧ i = .int .i64 j ∧
                wr.ownsRow w.heap.size 60 2 (.slice (some ⟨g', 0, none⟩) j cp) j (cellsT (rs.take j)) ∧ Hid (∀ i, i < j → (rs[i]?.getD (0, 0)).1 < z) ∧ Kept [] w wr) (fun _ i _ => rs.length - (intOf i).toNat)
            case atStart => exact ⟨0, w.heap.size, 0, Nat.zero_le _, rfl, rfl, by simpa [cellsT] using own0, fun i hi => by omega, k0⟩
            case round =>
              obtain ⟨j, g', cp, hj, rfl, rfl, hor, HA, hkr⟩ := hrel
              clear own0 k0
              have hgl := own_ge hor
              by_cases hlt : j < rs.length
              · obtain ⟨b, off, he, cG, cH⟩ := (hs.kept hkr).cell hlt
                cases he
                obtain ⟨⟨x, p⟩, hxp⟩ : ∃ xp, rs[j]?.getD (0, 0) = xp := ⟨_, rfl⟩
                have HX := Lib.hid hxp
                rw [hxp] at cG cH
                simp only at cG cH
                clear hxp
                by_cases hv : x < z
                · have HV := Lib.hid hv
                  have rE := Row.new wr 60 [.int .i64 x, .int .i64 p]
                  have kE := (Kept.refl [] wr).alloc (.cells #[.int .i64 x, .int .i64 p] 60)
                  have rowE := own_kept hor kE (by simp)
                  have sE : SlV _ 2 (some ⟨wr.heap.size, 0, none⟩) 1 [.int .i64 x, .int .i64 p] := sl_of_row2 rE
                  have hsz := hkr.size
                  go_wp2_with (at_builtin; refine wpList_append_on _ rfl _ _ 26 rfl w.heap.size 60 i0 (.agg #[.int .i64 0, .int .i64 0]) 2 16 Tryd.underlying26 hi hz0 hz1 hz2 rfl (by omega) g' j cp _ rfl rowE _ 1 1 _ rfl sE (cells_one (rs := [(x, p)])) (by unfold maxLen; omega) (by omega) (by simp; omega) ?_; intro g2 cp2 w3 hown3 hk3 hg3)
                  go_roundw
                  case rel =>
                    refine ⟨j + 1, g2, cp2, by omega, rfl, by go_num, ?_, fun i hi => ?_, (hkr.alloc _).chain hk3 (by simp) (by simp; omega)⟩
                    · have hx := HX.out
                      rw [List.getElem?_eq_getElem hlt, Option.getD_some] at hx
                      rw [List.take_succ_eq_append_getElem hlt, hx, cellsT_append, cellsT_one]
                      exact hown3
                    · by_cases e : i = j
                      · subst e; rw [HX.out]; exact HV.out
                      · exact HA.out i (by omega)
                  case measure => simp [intOf]; omega
                · have hv' : decide (x < z) = false := by simpa using hv
                  have HV := Lib.hid hv
                  clear hv
                  have HT := Lib.hid (insB_at (p := q) hj HA.out (.inr (by rw [HX.out]; exact HV.out)))
                  have rZ := Row.new wr 60 [.int .i64 z, .int .i64 q]
                  have kZ := (Kept.refl [] wr).alloc (.cells #[.int .i64 z, .int .i64 q] 60)
                  have rowZ := own_kept hor kZ (by simp)
                  have sZ : SlV _ 2 (some ⟨wr.heap.size, 0, none⟩) 1 [.int .i64 z, .int .i64 q] := sl_of_row2 rZ
                  have hsz := hkr.size
                  go_wp2_with (first
                    | (at_builtin; refine wpList_append_on _ rfl _ _ 26 rfl w.heap.size 60 i0 (.agg #[.int .i64 0, .int .i64 0]) 2 16 Tryd.underlying26 hi hz0 hz1 hz2 rfl (by omega) g' j cp _ rfl rowZ _ 1 1 _ rfl sZ (cells_one (rs := [(z, q)])) (by unfold maxLen; omega) (by omega) (by simp; omega) ?_; intro g2 cp2 w3 hown3 hk3 hg3; have hkA : Kept [] w w3 := ((hkr.alloc _).chain hk3 (by simp) (by simp; omega)); have sD := ((hs.kept hkA).drop (j := j)).toV; have hgl2 := own_ge hown3; have hdl : (rs.drop j).length = rs.length - j := List.length_drop)
                    | (at_builtin; refine wpList_append_on _ rfl _ _ 26 rfl w.heap.size 60 i0 (.agg #[.int .i64 0, .int .i64 0]) 2 16 Tryd.underlying26 hi hz0 hz1 hz2 rfl (by omega) g2 (j + 1) cp2 _ rfl hown3 _ (rs.length - j) _ _ rfl (by rw [← hdl]; exact sD) (cells_one (rs := rs.drop j)) (by unfold maxLen; omega) (by omega) hkA.size ?_; intro g3 cp3 w4 hown4 hk4 hg4))
                  go_ret2
                  rw [addB_ok HI.out HQ.out]
                  have hLen : (insB rs (z, q)).length = j + 1 + (rs.length - j) := by rw [insB_length]; omega
                  have hown5 : w4.ownsRow w.heap.size 60 2 (.slice (some ⟨g3, 0, none⟩) (j + 1 + (rs.length - j)) cp3) (j + 1 + (rs.length - j)) (cellsT (insB rs (z, q))) := by
                    rw [HT.out, show rs.take j ++ (z, q) :: rs.drop j = rs.take j ++ [(z, q)] ++ rs.drop j by simp, cellsT_append, cellsT_append, cellsT_one]
                    exact hown4
                  refine ⟨g3, 0, cp3, by rw [hLen]; rfl, SlT.of_own hown5, by rw [hLen]; exact own_cap hown5, hkA.chain hk4 (by simp) (by simp; omega)⟩
              · obtain rfl : j = rs.length := by omega
                have HT := Lib.hid (insB_at (p := q) hj HA.out (.inl rfl))
                have rZ := Row.new wr 60 [.int .i64 z, .int .i64 q]
                have kZ := (Kept.refl [] wr).alloc (.cells #[.int .i64 z, .int .i64 q] 60)
                have rowZ := own_kept hor kZ (by simp)
                have sZ : SlV _ 2 (some ⟨wr.heap.size, 0, none⟩) 1 [.int .i64 z, .int .i64 q] := sl_of_row2 rZ
                have hsz := hkr.size
                go_wp2_with (first
                  | (at_builtin; refine wpList_append_on _ rfl _ _ 26 rfl w.heap.size 60 i0 (.agg #[.int .i64 0, .int .i64 0]) 2 16 Tryd.underlying26 hi hz0 hz1 hz2 rfl (by omega) g' rs.length cp _ rfl rowZ _ 1 1 _ rfl sZ (cells_one (rs := [(z, q)])) (by unfold maxLen; omega) (by omega) (by simp; omega) ?_; intro g2 cp2 w3 hown3 hk3 hg3; have hkA : Kept [] w w3 := ((hkr.alloc _).chain hk3 (by simp) (by simp; omega)); have sD : ∀ a, SlV w3 2 a 0 [] := (fun a => ⟨rfl, .inl rfl⟩); have hgl2 := own_ge hown3)
                  | (at_builtin; refine wpList_append_on _ rfl _ _ 26 rfl w.heap.size 60 i0 (.agg #[.int .i64 0, .int .i64 0]) 2 16 Tryd.underlying26 hi hz0 hz1 hz2 rfl (by omega) g2 (rs.length + 1) cp2 _ rfl hown3 _ 0 _ [] rfl (sD _) (fun u hu => by cases hu) (by unfold maxLen; omega) (by omega) hkA.size ?_; intro g3 cp3 w4 hown4 hk4 hg4))
                all_goals
                  go_ret2
                  rw [addB_ok HI.out HQ.out]
                  have hLen : (insB rs (z, q)).length = rs.length + 1 := insB_length _ _
                  have hown5 : w4.ownsRow w.heap.size 60 2 (.slice (some ⟨g3, 0, none⟩) (rs.length + 1) cp3) (rs.length + 1) (cellsT (insB rs (z, q))) := by
                    rw [HT.out, List.drop_length, cellsT_append, cellsT_one]
                    exact (by simpa using hown4)
                  refine ⟨g3, 0, cp3, by rw [hLen]; rfl, SlT.of_own hown5, by rw [hLen]; exact own_cap hown5, hkA.chain hk4 (by simp) (by simp; omega)⟩
end Go.Proofs.YtnhdikoigpmnkaaDoor
