/- The law PlanPlays: its walk. -/
import Derived.Test.YtjihlogpmkidlaaPlanFixed
import Derived.Test.YtjihlogpmkidlaaPlanRefPages
import Derived.Test.YtjihlogpmkidlaaPlanActs
import Derived.Test.YtjihlogpmkidlaaQuiet
namespace Go.Proofs.Ytjihlogpmkidlaa
open Go.RowKit

set_option maxRecDepth 100000 in
set_option maxHeartbeats 2000000 in
theorem planPlays_big (a : Option Addr) (len cap : Nat) (w : World) (hl : 100 < len) (hm : len ≤ maxLen) :
    Calls Try.prog 3 #[.slice a len cap] w (FixedPost w) := by
  unfold maxLen at hm
  go_enter Try.func3, Try.ntmps3
  go_wp2_with fail
  refine (fixed10_any _).mono ?_
  rintro e w5 ⟨rfl, kw5⟩
  go_wp2
  go_ret
  exact ⟨rfl, kw5⟩

set_option maxRecDepth 100000 in
set_option maxHeartbeats 4000000 in
theorem planPlays_law (a : Option Addr) (cap : Nat) (l : List (Int × Int)) (w : World) (hs : SlP w a l) (hl : l.length ≤ 100) :
    Calls Try.prog 3 #[.slice a l.length cap] w (FixedPost w) := by
  have h100 : decide ((100 : Int) < l.length) = false := by simp; omega
  go_enter Try.func3, Try.ntmps3
  go_wp2_with fail
  refine (planNew_any w).mono ?_
  rintro e w1 ⟨B, rfl, hBw, h1, k1⟩
  have rX := Row.new w1 27 [.int .i64 0, .int .i64 0]
  have kX := (Kept.refl [] w1).alloc (.cells #[.int .i64 0, .int .i64 0] 27)
  have hBl := h1.lt
  go_wp2_with fail
  generalize w1.alloc (.cells #[.int .i64 0, .int .i64 0] 27) = w2 at rX kX ⊢
  have hp2 := h1.kept kX (by simp)
  have k2 := k1.trans kX
  obtain ⟨X, hX⟩ : ∃ X, w1.heap.size = X := ⟨_, rfl⟩
  rw [hX] at rX hBl ⊢
  have hXw : w.heap.size ≤ X := by rw [← hX]; exact k1.size
  have HBX := Lib.hid (And.intro hBw (And.intro hBl hXw))
  clear hX hBw hXw k1 kX h1
  have hBX : X ≠ B := by omega
  go_loopw [26] (fun i wr => ∃ (j : Nat) (x : Pl), j ≤ l.length ∧ i = .int .i64 j ∧ Hid x.ok ∧ IsPlan wr B x ∧ IsRefP wr X x ∧ Kept [B, X] w2 wr) (fun i _ => l.length - (intOf i).toNat)
  case atStart => exact ⟨0, ⟨0, 0⟩, Nat.zero_le _, rfl, Pl.ok0, hp2, rX, Kept.refl _ _⟩
  case round =>
    obtain ⟨j, x, hj, rfl, HO, hr, hrx, hkr⟩ := hrel
    have k0 : Kept [] w wr := k2.chain hkr (by simp) (by simp; have := HBX.out; omega)
    clear hp2 rX
    by_cases hlt : j < l.length
    · obtain ⟨b, off, s, g, rfl, hbl, c0, c1⟩ := (hs.kept k0).cell hlt
      have rA := Row.new wr 28 [.int .i64 s, .int .i64 g]
      have kA := (Kept.refl [] wr).alloc (.cells #[.int .i64 s, .int .i64 g] 28)
      have hrA := hr.kept kA (by simp)
      have hrxA : IsRefP _ X x := Row.kept hrx kA (by simp)
      have hXl := Row.lt hrx
      have hBl2 := Row.lt hr
      have HKR := Lib.hid (hkr.trans kA.any)
      clear hr hrx hkr kA hBl hBX
      go_wp2_with fail
      generalize wr.alloc (.cells #[.int .i64 s, .int .i64 g] 28) = wa at rA hrA hrxA HKR ⊢
      obtain ⟨C, hC⟩ : ∃ C, wr.heap.size = C := ⟨_, rfl⟩
      rw [hC] at rA hXl hBl2 ⊢
      clear hC
      have HC := Lib.hid (And.intro hXl hBl2)
      clear hXl hBl2 c0 c1
      obtain ⟨n, e, hne⟩ : ∃ n e, needP x.left s = (n, e) := ⟨_, _, rfl⟩
      have HN := Lib.hid hne
      clear hne
      refine (planNeed_any B x s wa hrA HO.out).mono ?_
      rintro e2 w3 ⟨rfl, rfl⟩
      rw [HN.out]
      have a0 : wa.cell? ⟨C, 0, none⟩ = some (.int .i64 s) := by simpa using rA.cell 0
      have x0 : wa.cell? ⟨X, 0, none⟩ = some (.int .i64 x.p) := by simpa using Row.cell hrxA 0
      have x1 : wa.cell? ⟨X, 1, none⟩ = some (.int .i64 x.left) := by simpa using Row.cell hrxA 1
      go_wp2_with fail
      refine (refNeed10_any x.p x.left s wa).mono ?_
      rintro e2 w3 ⟨rfl, k3⟩
      rw [HN.out]
      have rA3 := rA.kept k3 (by simp)
      have hr3 := hrA.kept k3 (by simp)
      have hrx3 : IsRefP w3 X x := Row.kept hrxA k3 (by simp)
      have HKR3 := Lib.hid (HKR.out.trans k3.any)
      clear rA hrA hrxA HKR k3 a0 x0 x1
      have a0 : w3.cell? ⟨C, 0, none⟩ = some (.int .i64 s) := by simpa using rA3.cell 0
      have a1 : w3.cell? ⟨C, 1, none⟩ = some (.int .i64 g) := by simpa using rA3.cell 1
      go_wp2_with fail
      refine (planPlace_any B x s g w3 hr3 HO.out).mono ?_
      rintro e2 w4 ⟨rfl, hr4, k4⟩
      have rA4 := rA3.kept k4 (by simp; have := HC.out; omega)
      have hrx4 : IsRefP w4 X x := Row.kept hrx3 k4 (by simp; have := HBX.out; omega)
      have HKR4 := Lib.hid (HKR3.out.trans (k4.mono (T := [B, X]) (fun k hk _ => by simp at hk; simp [hk])))
      clear rA3 hr3 hrx3 HKR3 k4 a0 a1
      have HO2 := Lib.hid (putP_ok HO.out s g)
      have a0 : w4.cell? ⟨C, 0, none⟩ = some (.int .i64 s) := by simpa using rA4.cell 0
      have a1 : w4.cell? ⟨C, 1, none⟩ = some (.int .i64 g) := by simpa using rA4.cell 1
      have x0 : w4.cell? ⟨X, 0, none⟩ = some (.int .i64 x.p) := by simpa using Row.cell hrx4 0
      have x1 : w4.cell? ⟨X, 1, none⟩ = some (.int .i64 x.left) := by simpa using Row.cell hrx4 1
      go_wp2_with fail
      refine (refPlace10_any x s g w4 HO.out).mono ?_
      rintro e2 w5 ⟨rfl, k5⟩
      have hr5 := hr4.kept k5 (by simp)
      have hrx5 : IsRefP w5 X x := Row.kept hrx4 k5 (by simp)
      have HKR5 := Lib.hid (HKR4.out.trans k5.any)
      clear rA4 hr4 hrx4 HKR4 k5 a0 a1 x0 x1
      generalize (putP x s g).2.1 = at_
      generalize (putP x s g).2.2 = er
      generalize (putP x s g).1 = x2 at hr5 HO2 ⊢
      unfold refP
      obtain ⟨p2, hp2⟩ : ∃ p2, x2.p = p2 := ⟨_, rfl⟩
      obtain ⟨L2, hL2⟩ : ∃ L2, x2.left = L2 := ⟨_, rfl⟩
      have HX2 := Lib.hid (And.intro hp2 hL2)
      rw [hp2, hL2]
      have x0 : w5.cell? ⟨X, 0, none⟩ = some (.int .i64 x.p) := by simpa using Row.cell hrx5 0
      have x1 : w5.cell? ⟨X, 1, none⟩ = some (.int .i64 x.left) := by simpa using Row.cell hrx5 1
      have f0 := Row.free hrx5 0
      have f1 := Row.free hrx5 1
      have hXl := Row.lt hrx5
      have HXA := Lib.hid ((Row.set2 hrx5 (.int .i64 p2) (.int .i64 L2)).alloc (.cells #[.int .i64 p2, .int .i64 L2] 27))
      have HKA := Lib.hid ((Kept.set2 HKR5.out (g := X) (.inl (by simp)) (.int .i64 p2) (.int .i64 L2)).alloc (.cells #[.int .i64 p2, .int .i64 L2] 27))
      have HPA := Lib.hid ((Row.other (Row.other hr5 ⟨X, 0, none⟩ (.int .i64 p2) (by simp; have := HBX.out; omega)) ⟨X, 1, none⟩ (.int .i64 L2) (by simp; have := HBX.out; omega)).alloc (.cells #[.int .i64 p2, .int .i64 L2] 27))
      clear hr5 hrx5 hp2 hL2
      go_wp2_with fail
      generalize ((w5.setCell ⟨X, 0, none⟩ (.int .i64 p2)).setCell ⟨X, 1, none⟩ (.int .i64 L2)).alloc (.cells #[.int .i64 p2, .int .i64 L2] 27) = W at HXA HKA HPA ⊢
      have hPW : IsPlan W B x2 := HPA.out
      have y1 : W.cell? ⟨X, 1, none⟩ = some (.int .i64 L2) := by simpa using Row.cell HXA.out 1
      have hleft := fun n => (show Calls Try.prog 12 #[.pointer (some ⟨B, 0, none⟩)] (W.drewN n) fun e w' => e = .returned (.int .i64 L2) ∧ W.drewN n = w' by
        have := planLeft_any B x2 (W.drewN n) (Row.drewN hPW n) HO2.out
        rw [HX2.out.2] at this
        exact this)
      clear x0 x1 f0 f1 hXl
      go_quiet (first | (go_at_call 12; refine quiet_same (hleft _)))
      go_wp2
      go_roundw
      case rel => exact ⟨j + 1, x2, by omega, by go_num, HO2, Row.drewN hPW _, by unfold IsRefP; rw [HX2.out.1, HX2.out.2]; exact Row.drewN HXA.out _, HKA.out.drewN _⟩
      case measure => simp [intOf]; omega
    · obtain rfl : j = l.length := by omega
      go_wp2_with fail
      refine (fixed10_any wr).mono ?_
      rintro e w5 ⟨rfl, k5⟩
      go_wp2
      go_ret
      exact ⟨rfl, k0.trans k5⟩
end Go.Proofs.Ytjihlogpmkidlaa
