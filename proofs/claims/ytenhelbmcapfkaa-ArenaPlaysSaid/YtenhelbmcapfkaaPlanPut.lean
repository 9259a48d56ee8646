/- Package plan: Need, behind, Place. -/
import Derived.Test.YtenhelbmcapfkaaPlan
import Derived.Test.YtenhelbmcapfkaaRet
namespace Go.Proofs.Ytenhelbmcapfkaa
open Go.RowKit

theorem tdiv_up {s : Int} (h : 1 ≤ s) : (s + 16 - 1).tdiv 16 = (s + 15) / 16 := by
  rw [show s + 16 - 1 = s + 15 by omega]
  exact Int.tdiv_eq_ediv_of_nonneg (by omega)

set_option maxHeartbeats 1000000 in
theorem planNeed_any (B : Nat) (x : Pl) (s : Int) (w : World) (h : IsPlan w B x) (hx : x.ok) : Calls Try.prog 40 #[.pointer (some ⟨B, 0, none⟩), .int .i64 s] w fun e w' => e = .returned (.tuple #[.int .i64 (needP x.left s).1, .int .i64 (needP x.left s).2]) ∧ w = w' := by
  have hl := Lib.hid hx
  rcases needP_cases x.left s with ⟨h1, HS⟩ | ⟨h1, h2, HS⟩ | ⟨h1, h2, h3, HS⟩ | ⟨h1, h2, h3, HS⟩
  · have g1 : decide (s < 1) = true := by simpa using h1
    clear h1 hx
    go_enter Try.func40, Try.ntmps40
    go_wp2
    go_ret2
    exact ⟨by rw [HS.out]; rfl, rfl⟩
  · have g1 : decide (s < 1) = false := by simp; omega
    have g2 : decide (16384 < s) = true := by simpa using h2
    clear h1 h2 hx
    go_enter Try.func40, Try.ntmps40
    go_wp2
    go_ret2
    exact ⟨by rw [HS.out]; rfl, rfl⟩
  · have g1 : decide (s < 1) = false := by simp; omega
    have g2 : decide (16384 < s) = false := by simp; omega
    have g3 : decide (s ≤ x.left) = true := by simpa using h3
    clear h1 h2 h3 hx
    go_enter Try.func40, Try.ntmps40
    go_wp2_with fail
    refine (planLeft_any B x w h hl.out).mono ?_
    rintro e w2 ⟨rfl, rfl⟩
    go_wp2
    go_ret2
    exact ⟨by rw [HS.out]; rfl, rfl⟩
  · have g1 : decide (s < 1) = false := by simp; omega
    have g2 : decide (16384 < s) = false := by simp; omega
    have g3 : decide (s ≤ x.left) = false := by simp; omega
    have u1 : IntKind.i64.wrap (s + 16) = s + 16 := by rw [IntKind.wrap_i64]; omega
    have u2 : IntKind.i64.wrap (s + 16 - 1) = s + 16 - 1 := by rw [IntKind.wrap_i64]; omega
    have u3 := tdiv_up h1
    have u4 : IntKind.i64.wrap ((s + 15) / 16) = (s + 15) / 16 := by rw [IntKind.wrap_i64]; omega
    obtain ⟨q, hq⟩ : ∃ q, (s + 15) / 16 = q := ⟨_, rfl⟩
    rw [hq] at HS u3 u4
    clear h1 h2 h3 hx hq
    go_enter Try.func40, Try.ntmps40
    go_wp2_with fail
    refine (planLeft_any B x w h hl.out).mono ?_
    rintro e w2 ⟨rfl, rfl⟩
    go_wp2
    go_ret2
    exact ⟨by rw [HS.out]; rfl, rfl⟩

set_option maxHeartbeats 1000000 in
theorem planBehind_any (B : Nat) (x : Pl) (s : Int) (w : World) (h : IsPlan w B x) (hr : 0 ≤ x.p ∧ x.p ≤ 1024 ∧ 1 ≤ x.u ∧ x.u + s ≤ 16) (hs : 1 ≤ s) : Calls Try.prog 62 #[.pointer (some ⟨B, 0, none⟩), .int .i64 s] w fun e w' => e = .returned (.int .i64 (16 * x.p + x.u)) ∧ IsPlan w' B ⟨x.p, x.u + s⟩ ∧ Kept [B] w w' := by
  obtain ⟨p, u⟩ := x
  simp only at hr
  have c0 : w.cell? ⟨B, 0, none⟩ = some (.int .i64 p) := by simpa using h.cell 0
  have c1 : w.cell? ⟨B, 1, none⟩ = some (.int .i64 u) := by simpa using h.cell 1
  have f1 := h.free 1
  have hset := fun n => (h.drewN n).set 1 (.int .i64 (u + s))
  have hK := fun n => ((Kept.refl [B] w).drewN n).set (p := ⟨B, 1, none⟩) (.inl (by simp)) (.int .i64 (u + s))
  have u1 : IntKind.i64.wrap (p * 16) = p * 16 := by rw [IntKind.wrap_i64]; omega
  have u2 : IntKind.i64.wrap (p * 16 + u) = p * 16 + u := by rw [IntKind.wrap_i64]; omega
  have u3 : IntKind.i64.wrap (u + s) = u + s := by rw [IntKind.wrap_i64]; omega
  have HV := Lib.hid (show 16 * p + u = p * 16 + u by omega)
  clear h hr hs
  go_enter Try.func62, Try.ntmps62
  go_wp2_with fail
  go_quiet (fail)
  go_wp2
  go_ret
  exact ⟨by rw [HV.out]; rfl, by simpa [IsPlan] using hset nq, hK nq⟩

/-- What Place leaves. -/
def PlacePost (B : Nat) (x : Pl) (s g : Int) (w : World) (e : Ending) (w' : World) : Prop :=
  e = .returned (.tuple #[.int .i64 (putP x s g).2.1, .int .i64 (putP x s g).2.2]) ∧ IsPlan w' B (putP x s g).1 ∧ Kept [B] w w'
set_option maxHeartbeats 2000000 in
theorem planPlace_any (B : Nat) (x : Pl) (s g : Int) (w : World) (h : IsPlan w B x) (hx : x.ok) : Calls Try.prog 43 #[.pointer (some ⟨B, 0, none⟩), .int .i64 s, .int .i64 g] w (PlacePost B x s g w) := by
  have hl := Lib.hid hx
  have kR := Kept.refl [B] w
  have need := fun n e (hn : Hid (needP x.left s = (n, e))) => (show Calls Try.prog 40 #[.pointer (some ⟨B, 0, none⟩), .int .i64 s] w fun e' w' => e' = .returned (.tuple #[.int .i64 n, .int .i64 e]) ∧ w = w' by
    have := planNeed_any B x s w h hx
    rw [hn.out] at this
    exact this)
  unfold PlacePost
  rcases putP_cases x s g hx with ⟨⟨h1, HS⟩, HN⟩ | ⟨⟨h1, h2, HS⟩, HN⟩ | ⟨⟨h1, h2, HS⟩, HN⟩ | ⟨⟨h1, h2, HS⟩, HN⟩ | ⟨⟨h1, h2, HS⟩, HN⟩
  · clear h1 hx
    go_enter Try.func43, Try.ntmps43
    go_wp2_with fail
    refine (need _ _ HN).mono ?_
    rintro e w2 ⟨rfl, rfl⟩
    go_wp2
    go_ret2
    rw [HS.out]
    exact ⟨rfl, h, kR⟩
  · go_enter Try.func43, Try.ntmps43
    go_wp2_with fail
    refine (need _ _ HN).mono ?_
    rintro e w2 ⟨rfl, rfl⟩
    go_wp2_with fail
    refine (planBehind_any B x s w h h2 h1.1).mono ?_
    rintro e w2 ⟨rfl, h2, k2⟩
    obtain ⟨v, hv⟩ : ∃ v, 16 * x.p + x.u = v := ⟨_, rfl⟩
    rw [hv] at HS ⊢
    clear hv
    go_wp2
    go_ret2
    rw [HS.out]
    exact ⟨rfl, h2, k2⟩
  · have hq : ∃ q, 1 ≤ q ∧ (s + 15) / 16 = q := ⟨(s + 15) / 16, by omega, rfl⟩
    obtain ⟨q, hq1, hq⟩ := hq
    rw [hq] at HN
    have g1 : (q == 0) = false := by simp; omega
    clear hq
    have hc : (decide (g < 0) = true) ∨ (decide (g < 0) = false ∧ decide (1024 < g) = true) := by simp; omega
    clear h1 h2 hq1 hx
    rcases hc with g2 | ⟨g2, g3⟩
    all_goals
      go_enter Try.func43, Try.ntmps43
      go_wp2_with fail
      refine (need _ _ HN).mono ?_
      rintro e w2 ⟨rfl, rfl⟩
      go_wp2
      go_ret2
      rw [HS.out]
      exact ⟨rfl, h, kR⟩
  · have hq : ∃ q, 1 ≤ q ∧ (s + 15) / 16 = q := ⟨(s + 15) / 16, by omega, rfl⟩
    obtain ⟨q, hq1, hq⟩ := hq
    rw [hq] at HN
    have g1 : (q == 0) = false := by simp; omega
    have g2 : decide (g < 0) = false := by simp; omega
    have g3 : decide (1024 < g) = false := by simp; omega
    have g4 : decide (s ≤ 16) = true := by simp; omega
    have u1 : IntKind.i64.wrap (g * 16) = g * 16 := by rw [IntKind.wrap_i64]; omega
    have HV := Lib.hid (show 16 * g = g * 16 by omega)
    obtain ⟨p, u⟩ := x
    have c0 : w.cell? ⟨B, 0, none⟩ = some (.int .i64 p) := by simpa using h.cell 0
    have c1 : w.cell? ⟨B, 1, none⟩ = some (.int .i64 u) := by simpa using h.cell 1
    have f0 := h.free 0
    have f1 := h.free 1
    have hset := Row.set2 h (.int .i64 g) (.int .i64 s)
    have hK := kR.set2 (g := B) (.inl (by simp)) (.int .i64 g) (.int .i64 s)
    clear h1 h2 hq1 hx hq
    go_enter Try.func43, Try.ntmps43
    go_wp2_with fail
    refine (need _ _ HN).mono ?_
    rintro e w2 ⟨rfl, rfl⟩
    go_wp2
    go_ret2
    rw [HS.out, HV.out]
    exact ⟨rfl, hset, hK⟩
  · have hq : ∃ q, 1 ≤ q ∧ (s + 15) / 16 = q := ⟨(s + 15) / 16, by omega, rfl⟩
    obtain ⟨q, hq1, hq⟩ := hq
    rw [hq] at HN
    have g1 : (q == 0) = false := by simp; omega
    have g2 : decide (g < 0) = false := by simp; omega
    have g3 : decide (1024 < g) = false := by simp; omega
    have g4 : decide (s ≤ 16) = false := by simp; omega
    have u1 : IntKind.i64.wrap (g * 16) = g * 16 := by rw [IntKind.wrap_i64]; omega
    have HV := Lib.hid (show 16 * g = g * 16 by omega)
    clear h1 h2 hq1 hx hq
    go_enter Try.func43, Try.ntmps43
    go_wp2_with fail
    refine (need _ _ HN).mono ?_
    rintro e w2 ⟨rfl, rfl⟩
    go_wp2
    go_ret2
    rw [HS.out, HV.out]
    exact ⟨rfl, h, kR⟩
end Go.Proofs.Ytenhelbmcapfkaa
