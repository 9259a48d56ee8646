/- Package arena: arenas of nothing: Alloc, Fits. -/
import Derived.Test.YtenhelbmcapfkaaArenaTake
namespace Go.Proofs.Ytenhelbmcapfkaa
open Go.RowKit

/-- What is answered where nothing is left and there are no pages. -/
def nilE (s : Int) : Int := if s < 1 ∨ 16384 < s then 1 else 3
theorem nil_cases (s : Int) : (Hid (needP 0 s = (0, 1)) ∧ Hid (nilE s = 1)) ∨ (∃ n : Nat, 1 ≤ n ∧ n ≤ 1024 ∧ Hid (needP 0 s = ((n : Int), 0)) ∧ Hid (nilE s = 3)) := by
  unfold nilE
  rcases needP_cases 0 s with ⟨h1, hn⟩ | ⟨h1, h2, hn⟩ | ⟨h1, h2, h3, hn⟩ | ⟨h1, h2, h3, hn⟩
  · exact .inl ⟨hn, Lib.hid (by rw [if_pos (.inl h1)])⟩
  · exact .inl ⟨hn, Lib.hid (by rw [if_pos (.inr h2)])⟩
  · omega
  · obtain ⟨n, hq⟩ := Int.eq_ofNat_of_zero_le (show 0 ≤ (s + 15) / 16 by omega)
    rw [hq] at hn
    exact .inr ⟨n, by omega, by omega, hn, Lib.hid (by rw [if_neg (by omega)])⟩

set_option maxHeartbeats 2000000 in
theorem arenaAllocNil_any (d : AD) (s : Int) (w : World) (h : IsArena w none d) (hx : d.x = ⟨0, 0⟩) :
    Calls Try.prog 15 #[.pointer (some ⟨d.B, 0, none⟩), .int .i64 s] w fun e w' => e = .returned (.tuple #[.int .i64 0, .int .i64 (nilE s)]) ∧ w = w' := by
  have c1 := h.cell1
  have hpl := h.plan
  rw [hx] at hpl
  rcases nil_cases s with ⟨hn, he⟩ | ⟨n, hn1, hn2, hn, he⟩
  · go_enter Try.func15, Try.ntmps15
    go_wp2_with fail
    refine (planNeed_any d.PB ⟨0, 0⟩ s w hpl Pl.ok0).mono ?_
    rintro e w1 ⟨rfl, rfl⟩
    rw [show Pl.left ⟨0, 0⟩ = 0 from rfl, hn.out]
    go_wp2
    go_ret2
    rw [he.out]
    exact ⟨rfl, rfl⟩
  · go_enter Try.func15, Try.ntmps15
    go_wp2_with fail
    refine (planNeed_any d.PB ⟨0, 0⟩ s w hpl Pl.ok0).mono ?_
    rintro e w1 ⟨rfl, rfl⟩
    rw [show Pl.left ⟨0, 0⟩ = 0 from rfl, hn.out]
    go_wp2_with fail
    refine (take_nil d n w h (by omega)).mono ?_
    rintro e w1 ⟨rfl, rfl⟩
    go_wp2
    go_ret2
    rw [he.out]
    exact ⟨rfl, rfl⟩

set_option maxHeartbeats 2000000 in
theorem arenaFitsNil_any (d : AD) (s : Int) (w : World) (h : IsArena w none d) (hx : d.x = ⟨0, 0⟩) :
    Calls Try.prog 14 #[.pointer (some ⟨d.B, 0, none⟩), .int .i64 s] w fun e w' => e = .returned (.bool false) ∧ w = w' := by
  have c0 := h.cell0
  have c1 := h.cell1
  have hpl := h.plan
  rw [hx] at hpl
  rcases nil_cases s with ⟨hn, he⟩ | ⟨n, hn1, hn2, hn, he⟩
  · go_enter Try.func14, Try.ntmps14
    go_wp2_with fail
    refine (planNeed_any d.PB ⟨0, 0⟩ s w hpl Pl.ok0).mono ?_
    rintro e w1 ⟨rfl, rfl⟩
    rw [show Pl.left ⟨0, 0⟩ = 0 from rfl, hn.out]
    go_wp2
    go_ret
    exact ⟨rfl, rfl⟩
  · have hne : ((n : Int) == 0) = false := by simp; omega
    go_enter Try.func14, Try.ntmps14
    go_wp2_with fail
    refine (planNeed_any d.PB ⟨0, 0⟩ s w hpl Pl.ok0).mono ?_
    rintro e w1 ⟨rfl, rfl⟩
    rw [show Pl.left ⟨0, 0⟩ = 0 from rfl, hn.out]
    go_wp2
    go_ret
    exact ⟨rfl, rfl⟩
end Go.Proofs.Ytenhelbmcapfkaa
