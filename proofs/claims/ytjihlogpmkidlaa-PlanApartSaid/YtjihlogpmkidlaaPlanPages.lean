/- Package plan: Pages. -/
import Derived.Test.YtjihlogpmkidlaaPlanPut
import Derived.Test.YtjihlogpmkidlaaPlanPlain2
import Derived.Test.YtjihlogpmkidlaaSl
namespace Go.Proofs.Ytjihlogpmkidlaa
open Go.RowKit

set_option maxHeartbeats 2000000 in
theorem planPages_any (a : Option Addr) (cap : Nat) (ss : List Int) (w : World) (hs : Sl w .i64 a ss) (hx : ss.length ≤ 1099511627776) :
    Calls Try.prog 13 #[.slice a ss.length cap] w fun e w' => e = .returned (.int .i64 (totL ss)) ∧ Kept [] w w' := by
  go_enter Try.func13, Try.ntmps13
  go_wp2_with fail
  refine (planNew_any w).mono ?_
  rintro e w1 ⟨B, rfl, hBw, h1, k1⟩
  have HBW := Lib.hid hBw
  go_wp2_with fail
  go_loopw [4, 12] (fun t i wr => ∃ (j : Nat) (T : Int), j ≤ ss.length ∧ t = .int .i64 T ∧ i = .int .i64 j ∧ Hid (T = totL (ss.take j)) ∧ IsPlan wr B (plansL (ss.take j)) ∧ Kept [B] w1 wr) (fun _ i _ => ss.length - (intOf i).toNat)
  case atStart => exact ⟨0, 0, Nat.zero_le _, rfl, rfl, totL_nil.symm, h1, Kept.refl _ _⟩
  case round =>
    obtain ⟨j, T, hj, rfl, rfl, HT, hr, hkr⟩ := hrel
    have k0 : Kept [] w wr := k1.chain hkr (by simp) (by simp; omega)
    clear h1
    by_cases hlt : j < ss.length
    · obtain ⟨b, off, rfl, cS⟩ := (hs.kept k0).cell hlt
      have HT2 := Lib.hid (totL_step hlt)
      have HP2 := Lib.hid (plansL_step hlt)
      have hok := Lib.hid (plansL_ok (ss.take j))
      have hrg := totL_range (ss.take j)
      rw [← HT.out, List.length_take, Nat.min_eq_left hj] at hrg
      have hnr := needP_range (plansL (ss.take j)).left (ss[j]?.getD 0)
      generalize ss[j]?.getD 0 = s at cS HT2 HP2 hnr
      generalize plansL (ss.take j) = x at hr HT2 HP2 hok hnr
      obtain ⟨n, e, hne⟩ : ∃ n e, needP x.left s = (n, e) := ⟨_, _, rfl⟩
      have HN := Lib.hid hne
      rw [hne] at HT2 hnr
      have hw : IntKind.i64.wrap (T + n) = T + n := by rw [IntKind.wrap_i64]; simp only at hnr; omega
      have HE := Lib.hid (fun he => needP_err hok.out hne (he : e ≠ 0))
      have HKR := Lib.hid hkr
      clear hrg hnr hne hkr hBw
      go_wp2_with fail
      refine (planNeed_any B x s wr hr hok.out).mono ?_
      rintro e2 w2 ⟨rfl, rfl⟩
      rw [HN.out]
      by_cases he : e = 0
      · subst he
        go_wp2_with fail
        refine (planPlace_any B x s 0 wr hr hok.out).mono ?_
        rintro e2 w2 ⟨rfl, h2, k2⟩
        go_wp2
        go_roundw
        case rel => exact ⟨j + 1, T + n, by omega, rfl, by go_num, by show _ = _; rw [HT2.out, HT.out], by rw [HP2.out]; exact h2, HKR.out.trans k2⟩
        case measure => simp [intOf]; omega
      · have he' : (e != 0) = true := by simpa using he
        have HE2 := Lib.hid (HE.out he)
        clear he
        go_wp2
        go_roundw
        case rel => exact ⟨j + 1, T, by omega, rfl, by go_num, by show _ = _; rw [HT2.out, ← HT.out, HE2.out.1]; simp, by rw [HP2.out, HE2.out.2]; exact hr, HKR.out⟩
        case measure => simp [intOf]; omega
    · obtain rfl : j = ss.length := by omega
      rw [List.take_length] at HT
      go_wp2
      go_ret
      exact ⟨by rw [HT.out]; rfl, k0⟩
end Go.Proofs.Ytjihlogpmkidlaa
