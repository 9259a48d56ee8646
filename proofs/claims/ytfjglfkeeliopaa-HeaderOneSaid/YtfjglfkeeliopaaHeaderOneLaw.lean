/- The law HeaderOne: its walk. -/
import Derived.Test.YtfjglfkeeliopaaHeaderPutsLaw
namespace Go.Proofs.Ytfjglfkeeliopaa
open Go.RowKit

theorem sizeH_two {h : Hd} (hm : mayH h = true) : 2 ≤ sizeH h := by
  simp only [sizeH, hm, if_true]; omega
theorem held_heads {wr w' : World} {B C : Nat} {t u : TypeId} {a b c d a' b' c' d' : Value} (hr : Row wr B t [a, b, c, d]) (hr' : Row wr C u [a', b', c', d']) (hc : Kept [] wr w') :
    Kept [] wr w' ∧ w'.cell? ⟨B, 0, none⟩ = some a ∧ w'.cell? ⟨B, 1, none⟩ = some b ∧ w'.cell? ⟨B, 2, none⟩ = some c ∧ w'.cell? ⟨B, 3, none⟩ = some d ∧
      w'.cell? ⟨C, 0, none⟩ = some a' ∧ w'.cell? ⟨C, 1, none⟩ = some b' ∧ w'.cell? ⟨C, 2, none⟩ = some c' ∧ w'.cell? ⟨C, 3, none⟩ = some d' := by
  have h := (held_head hr hc).2
  have h' := (held_head hr' hc).2
  exact ⟨hc, h.1, h.2.1, h.2.2.1, h.2.2.2, h'⟩

set_option maxRecDepth 100000 in
set_option maxHeartbeats 8000000 in
theorem headerOne_law (ar : Bool) (k t n : Int) (ar' : Bool) (k' t' n' : Int) (w : World) : Calls Try.prog 5 #[.agg #[.bool ar, .int .i64 k, .int .i64 t, .int .i64 n], .agg #[.bool ar', .int .i64 k', .int .i64 t', .int .i64 n']] w (FixedPost w) := by
  have rA := (Row.new w 23 [.bool ar, .int .i64 k, .int .i64 t, .int .i64 n]).alloc (.cells #[.bool ar', .int .i64 k', .int .i64 t', .int .i64 n'] 23)
  have rB := Row.new (w.alloc (.cells #[.bool ar, .int .i64 k, .int .i64 t, .int .i64 n] 23)) 23 [.bool ar', .int .i64 k', .int .i64 t', .int .i64 n']
  rw [show (w.alloc (.cells #[.bool ar, .int .i64 k, .int .i64 t, .int .i64 n] 23)).heap.size = w.heap.size + 1 by simp] at rB
  have kk := ((Kept.refl [] w).alloc (.cells #[.bool ar, .int .i64 k, .int .i64 t, .int .i64 n] 23)).alloc (.cells #[.bool ar', .int .i64 k', .int .i64 t', .int .i64 n'] 23)
  go_enter Try.func5, Try.ntmps5
  go_wp2_with fail
  obtain ⟨B, hB⟩ : ∃ B, w.heap.size = B := ⟨_, rfl⟩
  rw [hB] at rA rB ⊢
  generalize (w.alloc (.cells #[.bool ar, .int .i64 k, .int .i64 t, .int .i64 n] 23)).alloc (.cells #[.bool ar', .int .i64 k', .int .i64 t', .int .i64 n'] 23) = w1 at rA rB kk ⊢
  clear hB
  refine (put_any ar k t n w1).mono ?_
  rintro e w2 ⟨rfl, k2⟩
  have rA2 := rA.kept k2 (by simp)
  have rB2 := rB.kept k2 (by simp)
  have kk2 := kk.trans k2
  clear rA rB kk k2
  obtain ⟨-, c0, c1, c2, c3, d0, d1, d2, d3⟩ := held_heads rA2 rB2 (Kept.refl _ _)
  obtain ⟨X, er, hX⟩ : ∃ X er, putH ⟨ar, k, t, n⟩ = (X, er) := ⟨_, _, rfl⟩
  have HX := Lib.hid hX
  rw [hX]
  clear hX
  simp only
  go_wp2_with fail
  refine (put_any ar' k' t' n' w2).mono ?_
  rintro e w3 ⟨rfl, k3⟩
  have rA3 := rA2.kept k3 (by simp)
  have rB3 := rB2.kept k3 (by simp)
  have kk3 := kk2.trans k3
  clear rA2 rB2 kk2 k3 c0 c1 c2 c3 d0 d1 d2 d3
  obtain ⟨-, c0, c1, c2, c3, d0, d1, d2, d3⟩ := held_heads rA3 rB3 (Kept.refl _ _)
  obtain ⟨Y, er', hY⟩ : ∃ Y er', putH ⟨ar', k', t', n'⟩ = (Y, er') := ⟨_, _, rfl⟩
  have HY := Lib.hid hY
  rw [hY]
  clear hY
  simp only
  cases hm : mayH ⟨ar, k, t, n⟩
  · obtain ⟨rfl, rfl⟩ : X = 0 ∧ er = 1 := by have := HX.out; simp [putH, hm] at this; omega
    go_wp2_with fail
    refine (fixed08_any w3).mono ?_
    rintro e w5 ⟨rfl, k5⟩
    go_wp2
    go_ret
    exact ⟨rfl, kk3.trans k5⟩
  · obtain ⟨hXv, rfl⟩ : X = wordH ⟨ar, k, t, n⟩ ∧ er = 0 := by have := HX.out; simp only [putH, hm, if_true, Prod.mk.injEq] at this; omega
    cases hm' : mayH ⟨ar', k', t', n'⟩
    · obtain ⟨rfl, rfl⟩ : Y = 0 ∧ er' = 1 := by have := HY.out; simp [putH, hm'] at this; omega
      clear hXv
      go_wp2_with fail
      refine (fixed08_any w3).mono ?_
      rintro e w5 ⟨rfl, k5⟩
      go_wp2
      go_ret
      exact ⟨rfl, kk3.trans k5⟩
    · obtain ⟨hYv, rfl⟩ : Y = wordH ⟨ar', k', t', n'⟩ ∧ er' = 0 := by have := HY.out; simp only [putH, hm', if_true, Prod.mk.injEq] at this; omega
      have hinj := word_inj hm hm'
      rw [← hXv, ← hYv] at hinj
      obtain ⟨q, hq⟩ : ∃ q, eqH ⟨ar, k, t, n⟩ ⟨ar', k', t', n'⟩ = q := ⟨_, rfl⟩
      have hgu := fun op x y => run_guard_head op x y ar ar' k t n k' t' n'
      have heq := fun w => run_eql_head ⟨ar, k, t, n⟩ ⟨ar', k', t', n'⟩ w
      rw [hq] at heq hinj
      simp only at heq
      have s1 := sizeH_two hm
      have hsz : sizeH ⟨ar, k, t, n⟩ = 1 + max n 1 := by simp only [sizeH, hm, if_true]
      have hsz' : sizeH ⟨ar', k', t', n'⟩ = 1 + max n' 1 := by simp only [sizeH, hm', if_true]
      obtain ⟨SA, hSA⟩ : ∃ SA, sizeH ⟨ar, k, t, n⟩ = SA := ⟨_, rfl⟩
      obtain ⟨SB, hSB⟩ : ∃ SB, sizeH ⟨ar', k', t', n'⟩ = SB := ⟨_, rfl⟩
      have HSA := Lib.hid hSA
      have HSB := Lib.hid hSB
      rw [hSA] at hsz s1
      rw [hSB] at hsz'
      have g2 : decide (2 ≤ SA) = true := by simpa using s1
      obtain ⟨m, c, hm1, hm2, hm3⟩ : ∃ (m : Int) (c : Bool), (if n' < 1 then (1 : Int) else n') = m ∧ decide (n ≤ m) = c ∧ decide (SA ≤ SB) = c := by
        refine ⟨max n' 1, _, by split <;> omega, rfl, ?_⟩
        rw [hsz, hsz']
        congr 1
        rw [eq_iff_iff]
        omega
      clear hXv hYv hm hm' hq hsz hsz' hSA hSB s1 HX HY
      have kk0 : Kept [] w3 w3.drew := (Kept.refl _ _).drew
      go_wp2_with fail
      cases q <;> cases c
      all_goals
        go_region_held3 (fun w' => Kept [] w3 w' ∧ w'.cell? ⟨B, 0, none⟩ = some (.bool ar) ∧ w'.cell? ⟨B, 1, none⟩ = some (.int .i64 k) ∧ w'.cell? ⟨B, 2, none⟩ = some (.int .i64 t) ∧ w'.cell? ⟨B, 3, none⟩ = some (.int .i64 n) ∧
            w'.cell? ⟨B + 1, 0, none⟩ = some (.bool ar') ∧ w'.cell? ⟨B + 1, 1, none⟩ = some (.int .i64 k') ∧ w'.cell? ⟨B + 1, 2, none⟩ = some (.int .i64 t') ∧ w'.cell? ⟨B + 1, 3, none⟩ = some (.int .i64 n')) (exact held_heads rA3 rB3 (by assumption))
          (first
            | (go_at_call 10; refine (fixed08_any _).mono ?_; rintro e w' ⟨rfl, kk⟩; have kq : Kept [] w3 w' := Kept.trans (by assumption) kk)
            | (go_at_call 8; first | (with_reducible refine (size_any ar k t n _).mono ?_; rintro e w' ⟨rfl, kk⟩; rw [HSA.out]; have kq : Kept [] w3 w' := Kept.trans (by assumption) kk) | (with_reducible refine (size_any ar' k' t' n' _).mono ?_; rintro e w' ⟨rfl, kk⟩; rw [HSB.out]; have kq : Kept [] w3 w' := Kept.trans (by assumption) kk)))
        all_goals
          go_wp2
          go_ret
          exact ⟨rfl, kk3.trans (by assumption)⟩
end Go.Proofs.Ytfjglfkeeliopaa
