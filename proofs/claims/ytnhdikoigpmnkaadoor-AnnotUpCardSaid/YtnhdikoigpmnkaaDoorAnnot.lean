/- Package annot: asks, Check, Counts. -/
import Derived.Test.YtnhdikoigpmnkaaDoorAnnotPlain
import Derived.Test.YtnhdikoigpmnkaaDoorDescTable
import Derived.Test.YtnhdikoigpmnkaaDoorRet
import Derived.Laws.EntriesVeiled
namespace Go.Proofs.YtnhdikoigpmnkaaDoor
open Go.RowKit

/-- The table of functions, by kinds. -/
def askV : Value := .agg #[.nilFunc, .func (Fn.func 32) #[] #[], .func (Fn.func 33) #[] #[], .func (Fn.func 34) #[] #[]]

set_option maxRecDepth 100000 in
set_option maxHeartbeats 1000000 in
theorem asks_any (w : World) : Calls Tryd.prog 24 #[] w fun e w' => e = .returned askV ∧ Kept [] w w' := by
  go_enter Tryd.func24, Tryd.ntmps24
  go_wp2
  have rA := Row.new w 54 [.nilFunc, .func (Fn.func 32) #[] #[], .func (Fn.func 33) #[] #[], .func (Fn.func 34) #[] #[]]
  (try simp only [Exit.inBlock, Exit.then])
  refine bodyPost_ret (results_cell1 rfl rfl (Row.load rA Tryd.underlying54 rfl rfl)) rfl ?_
  exact ⟨rfl, (Kept.refl [] w).alloc _⟩

theorem ask1_any (t : Value) (h x : Int) (w : World) : Calls Tryd.prog 32 #[t, .int .i64 h, .int .i64 x] w fun e w' => e = .returned (.bool true) ∧ w = w' := by
  go_enter Tryd.func32, Tryd.ntmps32
  go_wp2
  go_ret
  exact ⟨rfl, rfl⟩
theorem ask2_any (t : Value) (h x : Int) (w : World) : Calls Tryd.prog 33 #[t, .int .i64 h, .int .i64 x] w fun e w' => e = .returned (.bool (decide (x = h))) ∧ w = w' := by
  go_enter Tryd.func33, Tryd.ntmps33
  go_wp2
  go_ret
  exact ⟨rfl, rfl⟩
theorem ask3_any {k : Nat} (p g : Nat) (rs : List Rw) (a b : Int) (w : World) (h : IsTree w p g rs) (hf : Fine k rs) (hk : k < 1000) (ha : Fit64 a) (hb : Fit64 b) :
    Calls Tryd.prog 34 #[.pointer (some ⟨p, 0, none⟩), .int .i64 a, .int .i64 b] w fun e w' => e = .returned (.bool (inB rs a b)) ∧ w = w' := by
  go_enter Tryd.func34, Tryd.ntmps34
  go_wp2_with fail
  refine (treeWithin_any p g rs a b w h hf hk ha hb).mono ?_
  rintro e w1 ⟨rfl, rfl⟩
  go_wp2
  go_ret
  exact ⟨rfl, rfl⟩

theorem run_index_ask {P : Program} (w : World) (t e : TypeId) (n : Nat) (d : TypeDesc) (ht : P.underlying t = some (.array n e)) (he : P.underlying e = some d) (hd : (match d with | .struct _ | .array _ _ => true | _ => false) = false) (hsz : ∀ w, (sizeOf e).run P w = .ok 1 w)
    (vs : List Value) (v : Value) (j : Nat) (hj : j < n) (hv : vs[j]? = some v) : (Instr.index t (.agg vs.toArray) (.int .i64 j)).run P w = .ok v w := by
  cases d <;> simp [Instr.index, asIntOf, run_underlying ht, hj, hsz, part, isAgg, run_underlying he, hv] at hd ⊢
theorem ask_at1 (w : World) : (Instr.index 54 askV (.int .i64 1)).run Tryd.prog w = .ok (.func (Fn.func 32) #[] #[]) w :=
  run_index_ask w _ _ 4 _ Tryd.underlying54 Tryd.underlying53 rfl (fun w => by rfl) _ _ 1 (by decide) rfl
theorem ask_at2 (w : World) : (Instr.index 54 askV (.int .i64 2)).run Tryd.prog w = .ok (.func (Fn.func 33) #[] #[]) w :=
  run_index_ask w _ _ 4 _ Tryd.underlying54 Tryd.underlying53 rfl (fun w => by rfl) _ _ 2 (by decide) rfl
theorem ask_at3 (w : World) : (Instr.index 54 askV (.int .i64 3)).run Tryd.prog w = .ok (.func (Fn.func 34) #[] #[]) w :=
  run_index_ask w _ _ 4 _ Tryd.underlying54 Tryd.underlying53 rfl (fun w => by rfl) _ _ 3 (by decide) rfl

set_option maxRecDepth 100000 in
set_option maxHeartbeats 1000000 in
theorem annotCheck_any {k : Nat} (p g : Nat) (rs : List Rw) (kd h t : Int) (w : World) (hT : Tab w) (hI : IsTree w p g rs) (hf : Fine k rs) (hk : k < 1000) (hh : Fit64 h) (ht : Fit64 t) :
    Calls Tryd.prog 8 #[.pointer (some ⟨p, 0, none⟩), .int .i64 kd, .int .i64 h, .int .i64 t] w fun e w' => e = .returned (.int .i64 (annB rs kd h t)) ∧ Kept [] w w' := by
  cases hp : pointerB kd with
  | false =>
    have HS := Lib.hid (annB_kind (rs := rs) (h := h) (t := t) hp)
    go_enter Tryd.func8, Tryd.ntmps8
    go_wp2_with fail
    refine (descPointer_any kd w hT).mono ?_
    rintro e w1 ⟨rfl, rfl⟩
    rw [hp]
    go_wp2
    go_ret
    exact ⟨by rw [HS.out]; rfl, Kept.refl _ _⟩
  | true =>
    by_cases h0 : t = 0
    · subst h0
      have HS := Lib.hid (annB_zero (rs := rs) (h := h) hp)
      go_enter Tryd.func8, Tryd.ntmps8
      go_wp2_with fail
      refine (descPointer_any kd w hT).mono ?_
      rintro e w1 ⟨rfl, rfl⟩
      rw [hp]
      go_wp2
      go_ret
      exact ⟨by rw [HS.out]; rfl, Kept.refl _ _⟩
    · have h0' : decide (t = 0) = false := by simpa using h0
      have h0'' : (t == 0) = false := by simpa using h0
      by_cases h1 : h ∈ idsT rs
      · by_cases h2 : t ∈ idsT rs
        · have HI := Lib.hid (And.intro h1 h2)
          have H0 := Lib.hid h0
          clear h1 h2 h0
          rcases pointer_three hp with rfl | rfl | rfl
          · have hix := ask_at1
            have HS := Lib.hid (annB_one H0.out HI.out)
            go_enter Tryd.func8, Tryd.ntmps8
            go_wp2_with fail
            refine (descPointer_any _ w hT).mono ?_
            rintro e w1 ⟨rfl, rfl⟩
            rw [hp]
            go_wp2_with fail
            refine (treeHas_any p g rs h w hI hh).mono ?_
            rintro e w1 ⟨rfl, rfl⟩
            rw [decide_eq_true HI.out.1]
            go_wp2_with fail
            refine (treeHas_any p g rs t w hI ht).mono ?_
            rintro e w1 ⟨rfl, rfl⟩
            rw [decide_eq_true HI.out.2]
            go_wp2_with fail
            refine (asks_any w).mono ?_
            rintro e w1 ⟨rfl, k1⟩
            go_wp2_with fail
            refine (ask1_any _ h t w1).mono ?_
            rintro e w2 ⟨rfl, rfl⟩
            go_wp2
            go_ret
            exact ⟨by rw [HS.out]; rfl, k1⟩
          · have hix := ask_at2
            have HS := Lib.hid (show annB rs 2 h t = if decide (t = h) = true then 0 else 5 by rw [annB_same H0.out HI.out]; simp)
            go_enter Tryd.func8, Tryd.ntmps8
            go_wp2_with fail
            refine (descPointer_any _ w hT).mono ?_
            rintro e w1 ⟨rfl, rfl⟩
            rw [hp]
            go_wp2_with fail
            refine (treeHas_any p g rs h w hI hh).mono ?_
            rintro e w1 ⟨rfl, rfl⟩
            rw [decide_eq_true HI.out.1]
            go_wp2_with fail
            refine (treeHas_any p g rs t w hI ht).mono ?_
            rintro e w1 ⟨rfl, rfl⟩
            rw [decide_eq_true HI.out.2]
            go_wp2_with fail
            refine (asks_any w).mono ?_
            rintro e w1 ⟨rfl, k1⟩
            go_wp2_with fail
            refine (ask2_any _ h t w1).mono ?_
            rintro e w2 ⟨rfl, rfl⟩
            generalize decide (t = h) = β at HS ⊢
            cases β with
            | true =>
              go_wp2
              go_ret
              exact ⟨by rw [HS.out]; rfl, k1⟩
            | false =>
              go_wp2
              go_ret
              exact ⟨by rw [HS.out]; rfl, k1⟩
          · have hix := ask_at3
            have HS := Lib.hid (annB_up H0.out HI.out)
            go_enter Tryd.func8, Tryd.ntmps8
            go_wp2_with fail
            refine (descPointer_any _ w hT).mono ?_
            rintro e w1 ⟨rfl, rfl⟩
            rw [hp]
            go_wp2_with fail
            refine (treeHas_any p g rs h w hI hh).mono ?_
            rintro e w1 ⟨rfl, rfl⟩
            rw [decide_eq_true HI.out.1]
            go_wp2_with fail
            refine (treeHas_any p g rs t w hI ht).mono ?_
            rintro e w1 ⟨rfl, rfl⟩
            rw [decide_eq_true HI.out.2]
            go_wp2_with fail
            refine (asks_any w).mono ?_
            rintro e w1 ⟨rfl, k1⟩
            go_wp2_with fail
            refine (ask3_any p g rs h t w1 (hI.kept k1) hf hk hh ht).mono ?_
            rintro e w2 ⟨rfl, rfl⟩
            generalize inB rs h t = β at HS ⊢
            cases β with
            | true =>
              go_wp2
              go_ret
              exact ⟨by rw [HS.out]; rfl, k1⟩
            | false =>
              go_wp2
              go_ret
              exact ⟨by rw [HS.out]; rfl, k1⟩
        · have HS := Lib.hid (annB_none (h := h) hp h0 (fun e => h2 e.2))
          have H1 := Lib.hid h1
          have H2 := Lib.hid h2
          clear h1 h2 h0
          go_enter Tryd.func8, Tryd.ntmps8
          go_wp2_with fail
          refine (descPointer_any _ w hT).mono ?_
          rintro e w1 ⟨rfl, rfl⟩
          rw [hp]
          go_wp2_with fail
          refine (treeHas_any p g rs h w hI hh).mono ?_
          rintro e w1 ⟨rfl, rfl⟩
          rw [decide_eq_true H1.out]
          go_wp2_with fail
          refine (treeHas_any p g rs t w hI ht).mono ?_
          rintro e w1 ⟨rfl, rfl⟩
          rw [decide_eq_false H2.out]
          go_wp2
          go_ret
          exact ⟨by rw [HS.out]; rfl, Kept.refl _ _⟩
      · have HS := Lib.hid (annB_none (t := t) hp h0 (fun e => h1 e.1))
        have H1 := Lib.hid h1
        clear h1 h0
        go_enter Tryd.func8, Tryd.ntmps8
        go_wp2_with fail
        refine (descPointer_any _ w hT).mono ?_
        rintro e w1 ⟨rfl, rfl⟩
        rw [hp]
        go_wp2_with fail
        refine (treeHas_any p g rs h w hI hh).mono ?_
        rintro e w1 ⟨rfl, rfl⟩
        rw [decide_eq_false H1.out]
        go_wp2
        go_ret
        exact ⟨by rw [HS.out]; rfl, Kept.refl _ _⟩

theorem annotCheck_nil (kd h t : Int) (w : World) : Calls Tryd.prog 8 #[.pointer none, .int .i64 kd, .int .i64 h, .int .i64 t] w fun e w' => e = .returned (.int .i64 1) ∧ w = w' := by
  go_enter Tryd.func8, Tryd.ntmps8
  go_wp2
  go_ret
  exact ⟨rfl, rfl⟩

theorem annotCounts_any (kd h t : Int) (w : World) : Calls Tryd.prog 10 #[.int .i64 kd, .int .i64 h, .int .i64 t] w fun e w' => e = .returned (.bool (cntB kd h t)) ∧ w = w' := by
  by_cases h1 : kd = 1
  · subst h1
    by_cases h2 : t = 0
    · subst h2
      have HS := Lib.hid (show cntB 1 h 0 = false by simp [cntB])
      go_enter Tryd.func10, Tryd.ntmps10
      go_wp2
      go_ret
      exact ⟨by rw [HS.out]; rfl, rfl⟩
    · have h2' : (t != 0) = true := by simpa using h2
      have HS := Lib.hid (show cntB 1 h t = (t != h) by unfold cntB; rw [Bool.eq_iff_iff]; simp [h2])
      clear h2
      go_enter Tryd.func10, Tryd.ntmps10
      go_wp2
      go_ret
      exact ⟨by rw [HS.out]; rfl, rfl⟩
  · have h1' : decide (kd = 1) = false := by simpa using h1
    have h1'' : (kd == 1) = false := by simpa using h1
    have HS := Lib.hid (show cntB kd h t = false by simp [cntB, h1])
    clear h1
    go_enter Tryd.func10, Tryd.ntmps10
    go_wp2
    go_ret
    exact ⟨by rw [HS.out]; rfl, rfl⟩
end Go.Proofs.YtnhdikoigpmnkaaDoor
