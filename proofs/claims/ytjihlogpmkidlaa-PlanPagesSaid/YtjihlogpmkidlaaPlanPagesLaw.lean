/- The law PlanPages: its walk. -/
import Derived.Test.YtjihlogpmkidlaaPlanFixed
import Derived.Test.YtjihlogpmkidlaaPlanRefPages
import Derived.Test.YtjihlogpmkidlaaPlanPlain3
namespace Go.Proofs.Ytjihlogpmkidlaa
open Go.RowKit

set_option maxRecDepth 100000 in
set_option maxHeartbeats 2000000 in
theorem planPages_big (a a1 : Option Addr) (len cap len1 cap1 : Nat) (w : World) (hl : 100 < len) (hm : len ≤ maxLen) :
    Calls Try.prog 4 #[.slice a len cap, .slice a1 len1 cap1] w (FixedPost w) := by
  unfold maxLen at hm
  go_enter Try.func4, Try.ntmps4
  go_wp2_with fail
  refine (fixed10_any _).mono ?_
  rintro e w5 ⟨rfl, kw5⟩
  go_wp2
  go_ret
  exact ⟨rfl, kw5⟩

set_option maxRecDepth 100000 in
set_option maxHeartbeats 4000000 in
theorem planPages_law (a a1 : Option Addr) (cap cap1 : Nat) (ss gs : List Int) (w : World) (hs : Sl w .i64 a ss) (hg : Sl w .u16 a1 gs) (hl : ss.length ≤ 100) (hgb : ∀ z ∈ gs, 0 ≤ z) :
    Calls Try.prog 4 #[.slice a ss.length cap, .slice a1 gs.length cap1] w (FixedPost w) := by
  have h100 : decide ((100 : Int) < ss.length) = false := by simp; omega
  go_enter Try.func4, Try.ntmps4
  go_wp2_with fail
  refine (planNew_any w).mono ?_
  rintro e w1 ⟨B, rfl, hBw, h1, k1⟩
  have HBW := Lib.hid hBw
  clear hBw
  go_wp2_with fail
  go_loopw [6, 23] (fun t i wr => ∃ (j : Nat) (T : Int) (x : Pl), j ≤ ss.length ∧ t = .int .i64 T ∧ i = .int .i64 j ∧ Hid (T = totL (ss.take j)) ∧ Hid (alikeP x (plansL (ss.take j))) ∧ IsPlan wr B x ∧ Kept [B] w1 wr) (fun _ i _ => ss.length - (intOf i).toNat)
  case atStart => exact ⟨0, 0, ⟨0, 0⟩, Nat.zero_le _, rfl, rfl, totL_nil.symm, ⟨Pl.ok0, Pl.ok0, rfl⟩, h1, Kept.refl _ _⟩
  case round =>
    obtain ⟨j, T, x, hj, rfl, rfl, HT, HA, hr, hkr⟩ := hrel
    have k0 : Kept [] w wr := k1.chain hkr (by simp) (by simp; have := HBW.out; omega)
    clear h1
    by_cases hlt : j < ss.length
    · obtain ⟨b, off, rfl, cS⟩ := (hs.kept k0).cell hlt
      have HT2 := Lib.hid (totL_step hlt)
      have HP2 := Lib.hid (plansL_step hlt)
      have hrg := totL_range (ss.take j)
      rw [← HT.out, List.length_take, Nat.min_eq_left hj] at hrg
      rw [← HA.out.left] at HT2
      have hnr := needP_range x.left (ss[j]?.getD 0)
      generalize ss[j]?.getD 0 = s at cS HT2 HP2 hnr
      have HA2 : Hid (∀ g : Int, 0 ≤ g → g ≤ 1024 → alikeP (putP x s g).1 (plansL (ss.take (j + 1)))) := fun g g0 g1 => by rw [HP2.out]; exact HA.out.put s g0 g1
      obtain ⟨n, e, hne⟩ : ∃ n e, needP x.left s = (n, e) := ⟨_, _, rfl⟩
      have HE : Hid (∀ g : Int, 0 ≤ g → g ≤ 1024 → (putP x s g).2.2 = e) := fun g g0 g1 => by rw [putP_err HA.out.1 s g0 g1, hne]
      have HN := Lib.hid hne
      rw [hne] at HT2 hnr
      have hw : IntKind.i64.wrap (T + n) = T + n := by rw [IntKind.wrap_i64]; simp only at hnr; omega
      have HKR := Lib.hid hkr
      clear hrg hnr hne hkr
      by_cases hjg : j < gs.length
      · obtain ⟨b1, off1, rfl, cG⟩ := (hg.kept k0).cell hjg
        have hz0 : 0 ≤ gs[j]?.getD 0 := hgb _ (by rw [List.getElem?_eq_getElem hjg]; exact List.getElem_mem hjg)
        obtain ⟨g, hgm1, hg2, hg3⟩ : ∃ g : Int, (gs[j]?.getD 0).tmod 1024 = g ∧ 0 ≤ g ∧ g ≤ 1024 := ⟨_, rfl, by rw [Int.tmod_eq_emod_of_nonneg hz0]; omega, by rw [Int.tmod_eq_emod_of_nonneg hz0]; omega⟩
        clear hz0
        generalize gs[j]?.getD 0 = z at cG hgm1
        have hu : wrap64 g = g := by unfold wrap64; omega
        have HG := Lib.hid (And.intro hg2 hg3)
        go_wp2_with fail
        refine (planNeed_any B x s wr hr HA.out.1).mono ?_
        rintro e2 w2 ⟨rfl, rfl⟩
        rw [HN.out]
        go_wp2_with fail
        refine (planPlace_any B x s g wr hr HA.out.1).mono ?_
        rintro e2 w2 ⟨rfl, h2, k2⟩
        rw [HE.out _ HG.out.1 HG.out.2]
        have HAG := Lib.hid (HA2.out _ HG.out.1 HG.out.2)
        generalize (putP x s g).1 = x2 at h2 HAG
        generalize (putP x s g).2.1 = at2
        go_wp2
        go_roundw
        case rel => exact ⟨j + 1, T + n, x2, by omega, rfl, by go_num, by show _ = _; rw [HT2.out, HT.out], HAG, h2, HKR.out.trans k2⟩
        case measure => simp [intOf]; omega
      · have hjg' : decide ((j : Int) < gs.length) = false := by simp; omega
        have HG : Hid ((0 : Int) ≤ (j : Int) ∧ (j : Int) ≤ 1024) := by show _ ∧ _; omega
        go_wp2_with fail
        refine (planNeed_any B x s wr hr HA.out.1).mono ?_
        rintro e2 w2 ⟨rfl, rfl⟩
        rw [HN.out]
        go_wp2_with fail
        refine (planPlace_any B x s (j : Int) wr hr HA.out.1).mono ?_
        rintro e2 w2 ⟨rfl, h2, k2⟩
        rw [HE.out _ HG.out.1 HG.out.2]
        have HAG := Lib.hid (HA2.out _ HG.out.1 HG.out.2)
        generalize (putP x s (j : Int)).1 = x2 at h2 HAG
        generalize (putP x s (j : Int)).2.1 = at2
        go_wp2
        go_roundw
        case rel => exact ⟨j + 1, T + n, x2, by omega, rfl, by go_num, by show _ = _; rw [HT2.out, HT.out], HAG, h2, HKR.out.trans k2⟩
        case measure => simp [intOf]; omega
    · obtain rfl : j = ss.length := by omega
      rw [List.take_length] at HT
      have hs2 := hs.kept k0
      go_wp2_with fail
      refine (fixed10_any wr).mono ?_
      rintro e w5 ⟨rfl, k5⟩
      have hs5 := hs2.kept k5
      go_wp2_with fail
      refine (planPages_any a cap ss w5 hs5 (by omega)).mono ?_
      rintro e w6 ⟨rfl, k6⟩
      rw [← HT.out]
      have hs6 := hs5.kept k6
      go_wp2_with fail
      refine (refPages10_any a cap ss w6 hs6 (by omega)).mono ?_
      rintro e w7 ⟨rfl, k7⟩
      rw [← HT.out]
      go_wp2
      go_ret
      exact ⟨rfl, ((k0.trans k5).trans k6).trans k7⟩
end Go.Proofs.Ytjihlogpmkidlaa
