/- Package kraalref14: the document's answers on annotations: Check, Targets. -/
import Derived.Test.YtnhdikoigpmnkaaDoorAnnotPlain
import Derived.Test.YtnhdikoigpmnkaaDoorTreeRef
namespace Go.Proofs.YtnhdikoigpmnkaaDoor
open Go.RowKit

theorem targ_take_succ {rs : List Rw} {kd h : Int} {j : Nat} (hj : j < rs.length) {x p : Int} (hx : rs[j]?.getD (0, 0) = (x, p)) :
    (idsT (rs.take (j + 1))).filter (fun t => decide (annB rs kd h t = 0)) = (idsT (rs.take j)).filter (fun t => decide (annB rs kd h t = 0)) ++ (if annB rs kd h x = 0 then [x] else []) := by
  rw [List.getElem?_eq_getElem hj, Option.getD_some] at hx
  unfold idsT
  rw [List.take_succ_eq_append_getElem hj, hx, List.map_append, List.filter_append]
  by_cases e : annB rs kd h x = 0 <;> simp [e]

set_option maxRecDepth 100000 in
set_option maxHeartbeats 2000000 in
theorem refCheck14_any {k : Nat} (A : Option Addr) (cap : Nat) (rs : List Rw) (kd h t : Int) (w : World) (hs : SlT w A rs) (hf : Fine k rs) (hk : k < 1000) :
    Calls Tryd.prog 9 #[.slice A rs.length cap, .int .i64 kd, .int .i64 h, .int .i64 t] w fun e w' => e = .returned (.int .i64 (annB rs kd h t)) ∧ w = w' := by
  have hrl := hf.len
  cases hp : pointerB kd with
  | false =>
    have HS := Lib.hid (annB_kind (rs := rs) (h := h) (t := t) hp)
    by_cases h1 : kd < 1
    · have h1' : decide (kd < 1) = true := by simpa using h1
      clear hp h1
      go_enter Tryd.func9, Tryd.ntmps9
      go_wp2
      go_ret
      exact ⟨by rw [HS.out]; rfl, rfl⟩
    · have h1' : decide (kd < 1) = false := by simpa using h1
      have h2' : decide (3 < kd) = true := by simp only [pointerB, decide_eq_false_iff_not] at hp; simp; omega
      clear hp h1
      go_enter Tryd.func9, Tryd.ntmps9
      go_wp2
      go_ret
      exact ⟨by rw [HS.out]; rfl, rfl⟩
  | true =>
    have h1' : decide (kd < 1) = false := by simp only [pointerB, decide_eq_true_eq] at hp; simp; omega
    have h2' : decide (3 < kd) = false := by simp only [pointerB, decide_eq_true_eq] at hp; simp; omega
    by_cases h0 : t = 0
    · subst h0
      have HS := Lib.hid (annB_zero (rs := rs) (h := h) hp)
      clear hp
      go_enter Tryd.func9, Tryd.ntmps9
      go_wp2
      go_ret
      exact ⟨by rw [HS.out]; rfl, rfl⟩
    · have h0' : decide (t = 0) = false := by simpa using h0
      have h0'' : (t == 0) = false := by simpa using h0
      have HH := Lib.hid (refHas05_any A cap rs h w hs (by omega))
      have HT := Lib.hid (refHas05_any A cap rs t w hs (by omega))
      by_cases h1 : h ∈ idsT rs
      · rw [decide_eq_true h1] at HH
        by_cases h2 : t ∈ idsT rs
        · rw [decide_eq_true h2] at HT
          have H0 := Lib.hid h0
          have HI := Lib.hid (And.intro h1 h2)
          clear h1 h2 h0
          rcases pointer_three hp with rfl | rfl | rfl
          · have HS := Lib.hid (annB_one H0.out HI.out)
            clear hp h1' h2'
            go_enter Tryd.func9, Tryd.ntmps9
            go_wp2_with fail
            refine HH.out.mono ?_
            rintro e w1 ⟨rfl, rfl⟩
            go_wp2_with fail
            refine HT.out.mono ?_
            rintro e w1 ⟨rfl, rfl⟩
            go_wp2
            go_ret
            exact ⟨by rw [HS.out]; rfl, rfl⟩
          · have HS := Lib.hid (show annB rs 2 h t = if (h != t) = true then 5 else 0 by
              rw [annB_same H0.out HI.out]
              by_cases e : t = h
              · subst e; rw [if_pos rfl, if_neg (by simp)]
              · have e' : (h != t) = true := by simpa using fun x => e x.symm
                rw [if_neg e, if_pos e'])
            clear hp h1' h2'
            generalize hβ : (h != t) = β at HS
            go_enter Tryd.func9, Tryd.ntmps9
            go_wp2_with fail
            refine HH.out.mono ?_
            rintro e w1 ⟨rfl, rfl⟩
            go_wp2_with fail
            refine HT.out.mono ?_
            rintro e w1 ⟨rfl, rfl⟩
            cases β with
            | true =>
              go_wp2
              go_ret
              exact ⟨by rw [HS.out]; rfl, rfl⟩
            | false =>
              go_wp2
              go_ret
              exact ⟨by rw [HS.out]; rfl, rfl⟩
          · have HS := Lib.hid (annB_up H0.out HI.out)
            have HW := Lib.hid (refWithin05_any A cap rs h t w hs hf hk)
            clear hp h1' h2'
            generalize inB rs h t = β at HS HW
            go_enter Tryd.func9, Tryd.ntmps9
            go_wp2_with fail
            refine HH.out.mono ?_
            rintro e w1 ⟨rfl, rfl⟩
            go_wp2_with fail
            refine HT.out.mono ?_
            rintro e w1 ⟨rfl, rfl⟩
            go_wp2_with fail
            refine HW.out.mono ?_
            rintro e w1 ⟨rfl, rfl⟩
            cases β with
            | true =>
              go_wp2
              go_ret
              exact ⟨by rw [HS.out]; rfl, rfl⟩
            | false =>
              go_wp2
              go_ret
              exact ⟨by rw [HS.out]; rfl, rfl⟩
        · rw [decide_eq_false h2] at HT
          have HS := Lib.hid (annB_none (h := h) hp h0 (fun e => h2 e.2))
          clear h1 h2 h0 hp
          go_enter Tryd.func9, Tryd.ntmps9
          go_wp2_with fail
          refine HH.out.mono ?_
          rintro e w1 ⟨rfl, rfl⟩
          go_wp2_with fail
          refine HT.out.mono ?_
          rintro e w1 ⟨rfl, rfl⟩
          go_wp2
          go_ret
          exact ⟨by rw [HS.out]; rfl, rfl⟩
      · rw [decide_eq_false h1] at HH
        have HS := Lib.hid (annB_none (t := t) hp h0 (fun e => h1 e.1))
        clear h1 h0 hp
        go_enter Tryd.func9, Tryd.ntmps9
        go_wp2_with fail
        refine HH.out.mono ?_
        rintro e w1 ⟨rfl, rfl⟩
        go_wp2
        go_ret
        exact ⟨by rw [HS.out]; rfl, rfl⟩

set_option maxRecDepth 100000 in
set_option maxHeartbeats 2000000 in
theorem refTargets14_any {k : Nat} (A : Option Addr) (cap : Nat) (rs : List Rw) (kd h : Int) (w : World) (hs : SlT w A rs) (hf : Fine k rs) (hk : k < 1000) :
    Calls Tryd.prog 13 #[.slice A rs.length cap, .int .i64 kd, .int .i64 h] w (ListPost (targB rs kd h) w) := by
  obtain ⟨i0, hi, hz0, hz1, hz2⟩ := info_parts info_tint
  have own0 := own_empty w 3 1 w.heap.size (Nat.le_refl _)
  have k0 := (Kept.refl [] w).alloc (.cells #[] 3)
  have hrl := hf.len
  go_enter Tryd.func13, Tryd.ntmps13
  go_wp2_with fail
  generalize w.alloc (.cells #[] 3) = W2 at own0 k0 ⊢
  go_loopw [7, 8] (fun o i wr => ∃ (j g' cp : Nat) (ys : List Int), j ≤ rs.length ∧ Hid ((idsT (rs.take j)).filter (fun t => decide (annB rs kd h t = 0)) = ys) ∧ ys.length ≤ j ∧ o = .slice (some ⟨g', 0, none⟩) ys.length cp ∧ i = .int .i64 j ∧
      wr.ownsRow w.heap.size 3 1 (.slice (some ⟨g', 0, none⟩) ys.length cp) ys.length (ys.map (Value.int .i64)) ∧ Kept [] w wr) (fun _ i _ => rs.length - (intOf i).toNat)
  case atStart => exact ⟨0, w.heap.size, 0, [], Nat.zero_le _, rfl, Nat.le_refl _, rfl, rfl, by simpa using own0, k0⟩
  case round =>
    obtain ⟨j, g', cp, ys, hj, HY, hyl, rfl, rfl, hor, hkr⟩ := hrel
    clear own0 k0
    have hgl := own_ge hor
    by_cases hlt : j < rs.length
    · obtain ⟨b, off, rfl, cG, cH⟩ := (hs.kept hkr).cell hlt
      obtain ⟨⟨x, p⟩, hxp⟩ : ∃ xp, rs[j]?.getD (0, 0) = xp := ⟨_, rfl⟩
      have HS := Lib.hid (targ_take_succ (kd := kd) (h := h) hlt hxp)
      rw [hxp] at cG cH
      simp only at cG cH
      clear hxp
      have HC := Lib.hid (refCheck14_any (some ⟨b, off, none⟩) cap rs kd h x wr (hs.kept hkr) hf hk)
      by_cases ha : annB rs kd h x = 0
      · have HS := Lib.hid (show (idsT (rs.take (j + 1))).filter (fun t => decide (annB rs kd h t = 0)) = ys ++ [x] by have := HS.out; rwa [if_pos ha, HY.out] at this)
        rw [ha] at HC
        clear ha
        have rE := Row.new wr 3 [.int .i64 x]
        have kE := (Kept.refl [] wr).alloc (.cells #[.int .i64 x] 3)
        have rowE := own_kept hor kE (by simp)
        have sE := (Sl.of_row (k := .i64) (xs := [x]) rE).toV
        have hsz := hkr.size
        generalize hL : ys.length = L at hor rowE hyl ⊢
        have HL := Lib.hid hL
        clear hL
        go_wp2_with fail
        refine HC.out.mono ?_
        rintro e w1 ⟨rfl, rfl⟩
        go_wp2_with (at_builtin; refine wpList_append_on _ rfl _ _ 34 rfl w.heap.size 3 i0 (.int .i64 0) 1 8 Tryd.underlying34 hi hz0 hz1 hz2 rfl (by omega) g' L cp _ rfl rowE _ 1 1 _ rfl sE int_oneCell (by unfold maxLen; omega) (by omega) (by simp; omega) ?_; intro g2 cp2 w3 hown3 hk3 hg3)
        go_roundw
        case rel =>
          have e2 : (ys ++ [x]).length = L + 1 := by rw [List.length_append, HL.out]; rfl
          exact ⟨j + 1, g2, cp2, ys ++ [x], by omega, HS, by rw [e2]; omega, by rw [e2], by go_num, by rw [e2, List.map_append]; exact hown3, (hkr.alloc _).chain hk3 (by simp) (by simp; omega)⟩
        case measure => simp [intOf]; omega
      · have HS := Lib.hid (show (idsT (rs.take (j + 1))).filter (fun t => decide (annB rs kd h t = 0)) = ys by have := HS.out; rwa [if_neg ha, HY.out, List.append_nil] at this)
        obtain ⟨n, hn⟩ : ∃ n, annB rs kd h x = n := ⟨_, rfl⟩
        rw [hn] at HC ha
        have ha' : (n == 0) = false := by simpa using ha
        have ha'' : decide (n = 0) = false := by simpa using ha
        clear ha hn
        go_wp2_with fail
        refine HC.out.mono ?_
        rintro e w1 ⟨rfl, rfl⟩
        go_wp2
        go_roundw
        case rel => exact ⟨j + 1, g', cp, ys, by omega, HS, by omega, rfl, by go_num, hor, hkr⟩
        case measure => simp [intOf]; omega
    · obtain rfl : j = rs.length := by omega
      have HY := Lib.hid (show targB rs kd h = ys by have := HY.out; rwa [List.take_length] at this)
      go_wp2
      go_ret
      exact ⟨some ⟨g', 0, none⟩, cp, by rw [HY.out]; rfl, by rw [HY.out]; exact Sl.of_own hor, hkr⟩
end Go.Proofs.YtnhdikoigpmnkaaDoor
