/- The law HeaderPuts: its walk. -/
import Derived.Test.YtfjglfkeeliopaaHeaderRefGet
import Derived.Test.YtfjglfkeeliopaaHeaderFixed
import Derived.Deep.RegionHeld3
namespace Go.Proofs.Ytfjglfkeeliopaa
open Go.RowKit

theorem held_head {wr w' : World} {B : Nat} {t : TypeId} {a b c d : Value} (hr : Row wr B t [a, b, c, d]) (hc : Kept [] wr w') :
    Kept [] wr w' ∧ w'.cell? ⟨B, 0, none⟩ = some a ∧ w'.cell? ⟨B, 1, none⟩ = some b ∧ w'.cell? ⟨B, 2, none⟩ = some c ∧ w'.cell? ⟨B, 3, none⟩ = some d := by
  have h := hr.kept hc (by simp)
  exact ⟨hc, by simpa using h.cell 0, by simpa using h.cell 1, by simpa using h.cell 2, by simpa using h.cell 3⟩

set_option maxRecDepth 100000 in
set_option maxHeartbeats 4000000 in
theorem headerPuts_law (ar : Bool) (k t n : Int) (w : World) : Calls Try.prog 3 #[.agg #[.bool ar, .int .i64 k, .int .i64 t, .int .i64 n]] w (FixedPost w) := by
  have rB := Row.new w 23 [.bool ar, .int .i64 k, .int .i64 t, .int .i64 n]
  have kB := (Kept.refl [] w).alloc (.cells #[.bool ar, .int .i64 k, .int .i64 t, .int .i64 n] 23)
  go_enter Try.func3, Try.ntmps3
  go_wp2_with fail
  refine (put_any ar k t n _).mono ?_
  rintro e w2 ⟨rfl, k2⟩
  obtain ⟨B, hB⟩ : ∃ B, w.heap.size = B := ⟨_, rfl⟩
  have rB2 := rB.kept k2 (by simp)
  have kk := kB.trans k2
  rw [hB] at rB2 ⊢
  clear rB kB k2
  obtain ⟨-, c0, c1, c2, c3⟩ := held_head rB2 (Kept.refl _ _)
  obtain ⟨X, er, hX⟩ : ∃ X er, putH ⟨ar, k, t, n⟩ = (X, er) := ⟨_, _, rfl⟩
  have HX := Lib.hid hX
  rw [hX]
  clear hX
  simp only
  go_wp2_with fail
  refine (refPut08_any ar k t n _).mono ?_
  rintro e w3 ⟨rfl, k3⟩
  have rB3 := rB2.kept k3 (by simp)
  have kk3 := kk.trans k3
  clear rB2 kk k3 c0 c1 c2 c3
  obtain ⟨-, c0, c1, c2, c3⟩ := held_head rB3 (Kept.refl _ _)
  rw [HX.out]
  simp only
  go_wp2_with fail
  have kk0 : Kept [] w3 w3.drew := (Kept.refl _ _).drew
  go_region_held3 (fun w' => Kept [] w3 w' ∧ w'.cell? ⟨B, 0, none⟩ = some (.bool ar) ∧ w'.cell? ⟨B, 1, none⟩ = some (.int .i64 k) ∧ w'.cell? ⟨B, 2, none⟩ = some (.int .i64 t) ∧ w'.cell? ⟨B, 3, none⟩ = some (.int .i64 n)) (exact held_head rB3 (by assumption))
    (first
      | (go_at_call 8; refine (size_any ar k t n _).mono ?_; rintro e w' ⟨rfl, kk⟩; have kq : Kept [] w3 w' := Kept.trans (by assumption) kk)
      | (go_at_call 9; refine (refSize08_any ar k t n _).mono ?_; rintro e w' ⟨rfl, kk⟩; have kq : Kept [] w3 w' := Kept.trans (by assumption) kk))
  have kk4 := kk3.trans kq
  have rB4 := rB3.kept kq (by simp)
  clear kk kk0 c0 c1 c2 c3
  cases hm : mayH ⟨ar, k, t, n⟩
  · obtain ⟨rfl, rfl⟩ : X = 0 ∧ er = 1 := by have := HX.out; simp [putH, hm] at this; omega
    go_wp2_with fail
    refine (fixed08_any w').mono ?_
    rintro e w5 ⟨rfl, k5⟩
    go_wp2
    go_ret
    exact ⟨rfl, kk4.trans k5⟩
  · obtain ⟨hXv, rfl⟩ : X = wordH ⟨ar, k, t, n⟩ ∧ er = 0 := by have := HX.out; simp only [putH, hm, if_true, Prod.mk.injEq] at this; omega
    have hXr := wordH_range hm
    have hg := get_put hm
    rw [← hXv] at hXr hg
    have hne : (X != 0) = true := by simp; omega
    have hgu := fun op x y => run_guard_head op x y ar ar k t n k t n
    have heq := fun w => run_eql_head ⟨ar, k, t, n⟩ ⟨ar, k, t, n⟩ w
    rw [show eqH ⟨ar, k, t, n⟩ ⟨ar, k, t, n⟩ = true by simp [eqH_iff]] at heq
    simp only at heq
    have HG := Lib.hid hg
    have HR := Lib.hid hXr
    clear hXv hg hXr hm HX
    go_wp2_with fail
    refine (get_any X w' (by have := HR.out; omega) (by have := HR.out; omega)).mono ?_
    rintro e w5 ⟨rfl, k5⟩
    rw [HG.out]
    have rB5 := (rB4.kept k5 (by simp)).alloc (.cells #[.bool ar, .int .i64 k, .int .i64 t, .int .i64 n] 23)
    have rG := Row.new w5 23 [.bool ar, .int .i64 k, .int .i64 t, .int .i64 n]
    have kk5 := (kk4.trans k5).alloc (.cells #[.bool ar, .int .i64 k, .int .i64 t, .int .i64 n] 23)
    simp only
    go_wp2_with fail
    obtain ⟨G, hG⟩ : ∃ G, w5.heap.size = G := ⟨_, rfl⟩
    rw [hG] at rG ⊢
    generalize w5.alloc (.cells #[.bool ar, .int .i64 k, .int .i64 t, .int .i64 n] 23) = w6 at rB5 rG kk5 ⊢
    refine (fixed08_any w6).mono ?_
    rintro e w7 ⟨rfl, k7⟩
    obtain ⟨-, c0, c1, c2, c3⟩ := held_head rB5 k7
    obtain ⟨-, d0, d1, d2, d3⟩ := held_head rG k7
    go_wp2
    go_ret
    exact ⟨rfl, kk5.trans k7⟩
end Go.Proofs.Ytfjglfkeeliopaa
