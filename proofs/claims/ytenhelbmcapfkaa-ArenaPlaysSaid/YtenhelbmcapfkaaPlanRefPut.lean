/- Package kraalref10: Place. -/
import Derived.Test.YtenhelbmcapfkaaPlanRef
namespace Go.Proofs.Ytenhelbmcapfkaa
open Go.RowKit

/-- A plan of the document's, as a value. -/
def refP (x : Pl) : Value := .agg #[.int .i64 x.p, .int .i64 x.left]
theorem refP_load {w : World} {g : Nat} {P L : Int} (h : Row w g 35 [.int .i64 P, .int .i64 L]) : (loadVar 35 ⟨g, 0, none⟩).run Try.prog w = .ok (.agg #[.int .i64 P, .int .i64 L]) w :=
  Row.load h Try.underlying35 rfl (by kernel_rfl)
def RefPlacePost (x : Pl) (s g : Int) (w : World) (e : Ending) (w' : World) : Prop :=
  e = .returned (.tuple #[refP (putP x s g).1, .int .i64 (putP x s g).2.1, .int .i64 (putP x s g).2.2]) ∧ Kept [] w w'
set_option maxHeartbeats 4000000 in
theorem refPlace10_any (x : Pl) (s g : Int) (w : World) (hx : x.ok) : Calls Try.prog 39 #[refP x, .int .i64 s, .int .i64 g] w (RefPlacePost x s g w) := by
  have hl := Pl.left_range hx
  obtain ⟨p, hp⟩ : ∃ p, x.p = p := ⟨_, rfl⟩
  obtain ⟨L, hL⟩ : ∃ L, x.left = L := ⟨_, rfl⟩
  have HX := Lib.hid (show refP x = .agg #[.int .i64 p, .int .i64 L] by unfold refP; rw [hp, hL])
  rw [HX.out]
  have rB := (Row.new w 35 [.int .i64 p, .int .i64 L]).alloc (.cells #[.int .i64 0, .int .i64 0] 35)
  have rR := Row.new (w.alloc (.cells #[.int .i64 p, .int .i64 L] 35)) 35 [.int .i64 0, .int .i64 0]
  rw [show (w.alloc (.cells #[.int .i64 p, .int .i64 L] 35)).heap.size = w.heap.size + 1 by simp] at rR
  have kB := ((Kept.refl [] w).alloc (.cells #[.int .i64 p, .int .i64 L] 35)).alloc (.cells #[.int .i64 0, .int .i64 0] 35)
  go_enter Try.func39, Try.ntmps39
  go_wp2_with fail
  obtain ⟨B, hB⟩ : ∃ B, w.heap.size = B := ⟨_, rfl⟩
  rw [hB] at rB rR ⊢
  refine (refNeed10_any p L s _).mono ?_
  rintro e w2 ⟨rfl, k2⟩
  have rB2 := rB.kept k2 (by simp)
  have rR2 := rR.kept k2 (by simp)
  have kk := kB.trans k2
  have b0 : w2.cell? ⟨B, 0, none⟩ = some (.int .i64 p) := by simpa using rB2.cell 0
  have b1 : w2.cell? ⟨B, 1, none⟩ = some (.int .i64 L) := by simpa using rB2.cell 1
  have r0 : w2.cell? ⟨B + 1, 0, none⟩ = some (.int .i64 0) := by simpa using rR2.cell 0
  have r1 : w2.cell? ⟨B + 1, 1, none⟩ = some (.int .i64 0) := by simpa using rR2.cell 1
  have e0 := rB2.free 0
  have e1 := rB2.free 1
  have f0 := rR2.free 0
  have f1 := rR2.free 1
  have HB := Lib.hid (show w.heap.size ≤ B by omega)
  have kp := Kept.set2 kk (g := B + 1) (.inr (by omega)) (.int .i64 p) (.int .i64 L)
  have lp := refP_load (rR2.set2 (.int .i64 p) (.int .i64 L))
  have HKP := Lib.hid kp
  have HLP := Lib.hid lp
  clear hB rB rR kB k2 kp lp
  rcases putP_cases x s g hx with ⟨⟨h1, HS⟩, HN⟩ | ⟨⟨h1, h2, HS⟩, HN⟩ | ⟨⟨h1, h2, HS⟩, HN⟩ | ⟨⟨h1, h2, HS⟩, HN⟩ | ⟨⟨h1, h2, HS⟩, HN⟩
  · rw [hL] at HN
    rw [HN.out]
    clear h1 hx hp hL hl
    simp only
    go_wp2
    (try simp only [Exit.inBlock, Exit.then])
    refine bodyPost_ret (results_cell3 rfl rfl HLP.out) rfl ?_
    exact ⟨by rw [HS.out, HX.out]; rfl, HKP.out⟩
  · rw [hL] at HN h1
    rw [hp] at h2 HS
    rw [HN.out]
    have g1 : decide (16 < s) = false := by simp; omega
    have hLu : L = 16 - x.u := by
      rw [← hL]; unfold Pl.left; rw [if_neg (by omega)]
    have u1 : IntKind.i64.wrap (16 * p) = 16 * p := by rw [IntKind.wrap_i64]; omega
    have u2 : IntKind.i64.wrap (16 * p + 16) = 16 * p + 16 := by rw [IntKind.wrap_i64]; omega
    have u3 : IntKind.i64.wrap (16 * p + 16 - L) = 16 * p + 16 - L := by rw [IntKind.wrap_i64]; omega
    have u4 : IntKind.i64.wrap (L - s) = L - s := by rw [IntKind.wrap_i64]; omega
    have HV := Lib.hid (show 16 * p + x.u = 16 * p + 16 - L by omega)
    have HL := Lib.hid (show Pl.left ⟨p, x.u + s⟩ = L - s by unfold Pl.left; simp only; rw [if_neg (by omega)]; omega)
    clear h1 h2 hx hp hL hl hLu
    simp only
    have hset := Row.set2 ((rR2.other ⟨B, 1, none⟩ (.int .i64 (L - s)) (by simp))) (.int .i64 p) (.int .i64 (L - s))
    have hK := Kept.set2 (kk.set (p := ⟨B, 1, none⟩) (.inr HB.out) (.int .i64 (L - s))) (g := B + 1) (.inr (by have := HB.out; omega)) (.int .i64 p) (.int .i64 (L - s))
    have HSE := Lib.hid hset
    have HKE := Lib.hid hK
    clear hset hK
    go_wp2
    (try simp only [Exit.inBlock, Exit.then])
    refine bodyPost_ret (results_cell3 rfl rfl (refP_load HSE.out)) rfl ?_
    exact ⟨by rw [HS.out, HV.out]; unfold refP; rw [HL.out]; rfl, HKE.out⟩
  · have hq : ∃ q, 1 ≤ q ∧ (s + 15) / 16 = q := ⟨(s + 15) / 16, by omega, rfl⟩
    obtain ⟨q, hq1, hq⟩ := hq
    rw [hL] at HN
    rw [hq] at HN
    rw [HN.out]
    have g1 : decide (0 < q) = true := by simp; omega
    have hc : (decide (g < 0) = true) ∨ (decide (g < 0) = false ∧ decide (1024 < g) = true) := by simp; omega
    clear h1 h2 hq1 hq hx hp hL hl
    simp only
    rcases hc with g2 | ⟨g2, g3⟩
    all_goals
      go_wp2
      (try simp only [Exit.inBlock, Exit.then])
      refine bodyPost_ret (results_cell3 rfl rfl HLP.out) rfl ?_
      exact ⟨by rw [HS.out, HX.out]; rfl, HKP.out⟩
  · have hq : ∃ q, 1 ≤ q ∧ (s + 15) / 16 = q := ⟨(s + 15) / 16, by omega, rfl⟩
    obtain ⟨q, hq1, hq⟩ := hq
    rw [hL] at HN h1
    rw [hq] at HN
    rw [HN.out]
    have g1 : decide (0 < q) = true := by simp; omega
    have g2 : decide (g < 0) = false := by simp; omega
    have g3 : decide (1024 < g) = false := by simp; omega
    have g4 : decide (16 < s) = false := by simp; omega
    have u1 : IntKind.i64.wrap (16 * g) = 16 * g := by rw [IntKind.wrap_i64]; omega
    have u2 : IntKind.i64.wrap (16 * g + 16) = 16 * g + 16 := by rw [IntKind.wrap_i64]; omega
    have u3 : IntKind.i64.wrap (16 * g + 16 - 16) = 16 * g := by rw [IntKind.wrap_i64]; omega
    have u4 : IntKind.i64.wrap (16 - s) = 16 - s := by rw [IntKind.wrap_i64]; omega
    have HL := Lib.hid (show Pl.left ⟨g, s⟩ = 16 - s by unfold Pl.left; simp only; rw [if_neg (by omega)])
    have rN := (rB2.set2 (.int .i64 g) (.int .i64 16)).set 1 (.int .i64 (16 - s))
    have n0 := rN.cell 0
    have n1 := rN.cell 1
    simp only [List.set_cons_succ, List.set_cons_zero, List.getElem?_cons_zero, List.getElem?_cons_succ] at n0 n1
    have kN := (kk.set2 (g := B) (.inr HB.out) (.int .i64 g) (.int .i64 16)).set (p := ⟨B, 1, none⟩) (.inr HB.out) (.int .i64 (16 - s))
    have rRN := (((rR2.other ⟨B, 0, none⟩ (.int .i64 g) (by simp)).other ⟨B, 1, none⟩ (.int .i64 16) (by simp)).other ⟨B, 1, none⟩ (.int .i64 (16 - s)) (by simp)).set2 (.int .i64 g) (.int .i64 (16 - s))
    have kRN := kN.set2 (g := B + 1) (.inr (by have := HB.out; omega)) (.int .i64 g) (.int .i64 (16 - s))
    have HRN := Lib.hid rRN
    have HKN := Lib.hid kRN
    clear h1 h2 hq1 hq hx hp hL hl rN kN rRN kRN
    simp only
    go_wp2
    (try simp only [Exit.inBlock, Exit.then])
    refine bodyPost_ret (results_cell3 rfl rfl (refP_load HRN.out)) rfl ?_
    exact ⟨by rw [HS.out]; unfold refP; rw [HL.out]; rfl, HKN.out⟩
  · have hq : ∃ q, 1 ≤ q ∧ (s + 15) / 16 = q := ⟨(s + 15) / 16, by omega, rfl⟩
    obtain ⟨q, hq1, hq⟩ := hq
    rw [hL] at HN
    rw [hq] at HN
    rw [HN.out]
    have g1 : decide (0 < q) = true := by simp; omega
    have g2 : decide (g < 0) = false := by simp; omega
    have g3 : decide (1024 < g) = false := by simp; omega
    have g4 : decide (16 < s) = true := by simp; omega
    have u1 : IntKind.i64.wrap (16 * g) = 16 * g := by rw [IntKind.wrap_i64]; omega
    clear h1 h2 hq1 hq hx hp hL hl
    simp only
    go_wp2
    (try simp only [Exit.inBlock, Exit.then])
    refine bodyPost_ret (results_cell3 rfl rfl HLP.out) rfl ?_
    exact ⟨by rw [HS.out, HX.out]; rfl, HKP.out⟩
end Go.Proofs.Ytenhelbmcapfkaa
