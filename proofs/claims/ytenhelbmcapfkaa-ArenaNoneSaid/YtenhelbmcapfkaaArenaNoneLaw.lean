/- The law ArenaNone: its walk. -/
import Derived.Test.YtenhelbmcapfkaaArenaFixed
import Derived.Test.YtenhelbmcapfkaaArenaNil
import Derived.Test.YtenhelbmcapfkaaArenaHas
import Derived.Test.YtenhelbmcapfkaaArenaReleaseNil
namespace Go.Proofs.Ytenhelbmcapfkaa
open Go.RowKit

set_option maxRecDepth 100000 in
set_option maxHeartbeats 4000000 in
theorem arenaNone_law (s : Int) (w : World) : Calls Try.prog 5 #[.int .i64 s] w (FixedPost w) := by
  have hE : Hid (nilE s = if s < 1 ∨ 16384 < s then 1 else 3) := rfl
  have hc : (decide (s < 1) = true ∧ Hid (nilE s = 1)) ∨ ((decide (s < 1) = false ∧ decide (16384 < s) = true) ∧ Hid (nilE s = 1)) ∨ ((decide (s < 1) = false ∧ decide (16384 < s) = false) ∧ Hid (nilE s = 3)) := by
    by_cases h1 : s < 1
    · exact .inl ⟨by simpa using h1, Lib.hid (by rw [hE.out, if_pos (.inl h1)])⟩
    · by_cases h2 : 16384 < s
      · exact .inr (.inl ⟨⟨by simpa using h1, by simpa using h2⟩, Lib.hid (by rw [hE.out, if_pos (.inr h2)])⟩)
      · exact .inr (.inr ⟨⟨by simpa using h1, by simpa using h2⟩, Lib.hid (by rw [hE.out, if_neg (by omega)])⟩)
  clear hE
  rcases hc with ⟨g1, HE⟩ | ⟨⟨g1, g2⟩, HE⟩ | ⟨⟨g1, g2⟩, HE⟩
  all_goals
    go_enter Try.func5, Try.ntmps5
    go_wp2_with fail
    refine (arenaNew_any none w).mono ?_
    rintro e w1 ⟨d, rfl, hN, hA, hF, -, -, k1⟩
    have hx := congrArg ArN.x hN
    have hr := congrArg ArN.rs hN
    have HX := Lib.hid hx
    have HR := Lib.hid hr
    have HF := Lib.hid hF
    clear hx hr hN hF
    go_wp2_with fail
    refine (arenaAllocNil_any d s w1 hA HX.out).mono ?_
    rintro e w2 ⟨rfl, rfl⟩
    rw [HE.out]
    go_wp2_with fail
    refine (fixed11_any w1).mono ?_
    rintro e w3 ⟨rfl, k3⟩
    have hA3 := hA.kept k3
    have k13 := k1.trans k3
    go_wp2_with fail
    refine (arenaFitsNil_any d s w3 hA3 HX.out).mono ?_
    rintro e w4 ⟨rfl, rfl⟩
    go_wp2_with fail
    refine (arenaReleaseNil_any none d w3 hA3 HR.out).mono ?_
    rintro e w5 ⟨d2, rfl, hN2, hB2, hA5, -, k5⟩
    have HR2 := Lib.hid (congrArg ArN.rs hN2)
    have hPg := fun w => arenaPages_any none d2 w
    have hHs := fun w => arenaHas_any none d2 0 w
    rw [hB2] at hPg hHs
    have HA5 := Lib.hid hA5
    clear hB2 hA5
    have k15 : Kept [] w w5 := k13.chain k5 (by simp) (fun k hk hl => by have := HF.out k hk; omega)
    clear hN2
    go_wp2_with fail
    refine (hPg w5 HA5.out (by rw [HR2.out]; simp) (by rw [HR2.out]; simp)).mono ?_
    rintro e w6 ⟨rfl, k6⟩
    rw [HR2.out, show sumR [] = 0 from rfl]
    have HA6 := Lib.hid (HA5.out.kept k6)
    go_wp2_with fail
    refine (hHs w6 HA6.out (by rw [HR2.out]; simp) (by rw [HR2.out]; simp)).mono ?_
    rintro e w7 ⟨rfl, k7⟩
    rw [HR2.out, show inR [] 0 = false from rfl]
    go_wp2
    go_ret
    exact ⟨rfl, (k15.trans k6).trans k7⟩
end Go.Proofs.Ytenhelbmcapfkaa
