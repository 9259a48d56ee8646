/- The law PlanApart: its walk. -/
import Derived.Test.YtjihlogpmkidlaaPlanFixed
import Derived.Test.YtjihlogpmkidlaaPlanPlain4
namespace Go.Proofs.Ytjihlogpmkidlaa
open Go.RowKit

set_option maxRecDepth 100000 in
set_option maxHeartbeats 2000000 in
theorem planApart_big (a : Option Addr) (len cap : Nat) (w : World) (hl : 60 < len) (hm : len ≤ maxLen) :
    Calls Try.prog 5 #[.slice a len cap] w (FixedPost w) := by
  unfold maxLen at hm
  go_enter Try.func5, Try.ntmps5
  go_wp2_with fail
  refine (fixed10_any _).mono ?_
  rintro e w5 ⟨rfl, kw5⟩
  go_wp2
  go_ret
  exact ⟨rfl, kw5⟩

set_option maxRecDepth 100000 in
set_option maxHeartbeats 8000000 in
theorem planApart_law (a : Option Addr) (cap : Nat) (ss : List Int) (w : World) (hs : Sl w .i64 a ss) (hl : ss.length ≤ 60) :
    Calls Try.prog 5 #[.slice a ss.length cap] w (FixedPost w) := by
  have h60 : decide ((60 : Int) < ss.length) = false := by simp; omega
  go_enter Try.func5, Try.ntmps5
  go_wp2_with fail
  refine (planNew_any w).mono ?_
  rintro e w1 ⟨B, rfl, hBw, h1, k1⟩
  obtain ⟨O, hO⟩ : ∃ O, w1.heap.size = O := ⟨_, rfl⟩
  have hBl := h1.lt
  rw [hO] at hBl
  have hwO : w.heap.size ≤ O := by rw [← hO]; exact k1.size
  have HBO := Lib.hid (And.intro hBw (And.intro hBl (And.intro hwO hO)))
  clear hBw hBl hwO hO
  go_wp2_with fail
  go_loopw [4, 5, 24] (fun t v i wr => ∃ (j N0 : Nat) (x : Pl) (rs : List RunN), j ≤ ss.length ∧ t = .int .i64 N0 ∧ N0 ≤ 1024 ∧ i = .int .i64 j ∧ Hid (Apart x N0 rs) ∧ rs.length ≤ j ∧ IsPlan wr B x ∧ OwnR wr O v rs ∧ O ≤ wr.heap.size ∧ Kept [B] w1 wr) (fun _ _ i _ => ss.length - (intOf i).toNat)
  case atStart => exact ⟨0, 0, ⟨0, 0⟩, [], Nat.zero_le _, rfl, by omega, rfl, Apart.start, by simp, h1, OwnR.nil _ _, by rw [HBO.out.2.2.2]; exact Nat.le_refl _, Kept.refl _ _⟩
  case round =>
    obtain ⟨j, N0, x, rs, hj, rfl, hN0, rfl, HA, hrj, hr, hown, hOw, hkr⟩ := hrel
    have k0 : Kept [] w wr := k1.chain hkr (by simp) (by simp; have := HBO.out; omega)
    obtain ⟨V, rfl⟩ : ∃ V, V = u5 := ⟨_, rfl⟩
    clear h1
    by_cases hlt : j < ss.length
    · obtain ⟨b, off, rfl, cS⟩ := (hs.kept k0).cell hlt
      generalize ss[j]?.getD 0 = s at cS
      obtain ⟨n, e, hne⟩ : ∃ n e, needP x.left s = (n, e) := ⟨_, _, rfl⟩
      have hnr := needP_range x.left s
      rw [hne] at hnr
      simp only at hnr
      have HN := Lib.hid hne
      have HKR := Lib.hid hkr
      clear hne hkr
      go_wp2_with fail
      refine (planNeed_any B x s wr hr HA.out.ok).mono ?_
      rintro e2 w2 ⟨rfl, rfl⟩
      rw [HN.out]
      by_cases he : e = 0
      · subst he
        have hw : IntKind.i64.wrap ((N0 : Int) + n) = (N0 : Int) + n := by rw [IntKind.wrap_i64]; omega
        by_cases hle : (N0 : Int) + n ≤ 1024
        · obtain ⟨F, S, N, rfl, rfl, hS1, hS2, hN, HP, hF, hcase, hap, HA2⟩ := HA.out.put HN.out hle
          have g1 : decide ((1024 : Int) < (N0 : Int) + N) = false := by simp; omega
          clear hle
          go_wp2_with fail
          refine (planPlace_any B x (S : Int) (N0 : Int) wr hr HA.out.ok).mono ?_
          rintro e2 w3 ⟨rfl, h3, k3⟩
          rw [HP.out]
          have HB := Lib.hid HA.out.below
          generalize (putP x (S : Int) (N0 : Int)).1 = x2 at h3 HA2 ⊢
          simp only
          have hge := Lib.hid hown.ge
          have hown3 := hown.keptS k3 (fun i hi => by have := hge.out i hi; have := HBO.out; simp; omega)
          have hOw3 := Nat.le_trans hOw k3.size
          have HKR3 := Lib.hid (HKR.out.trans k3)
          obtain ⟨aA, cA, rfl, hsR, -⟩ := hown3.slice
          have rC := Row.new w3 46 [.int .i64 F, .int .i64 S]
          have kC := (Kept.refl [] w3).alloc (.cells #[.int .i64 F, .int .i64 S] 46)
          obtain ⟨M, hM, HM⟩ : ∃ M : Nat, (N0 : Int) + (N : Int) = (M : Int) ∧ Hid (M = N0 + N) := ⟨N0 + N, by omega, rfl⟩
          have hM2 : M ≤ 1024 := by rw [HM.out]; exact hN
          have HM2 := Lib.hid hM2
          have g2 : decide ((16 : Int) * (M : Int) < (F : Int) + (S : Int)) = false := by have := HM.out; simp; omega
          have g0 : decide ((F : Int) < 0) = false := by simp
          have u1 : IntKind.i64.wrap ((F : Int) + (S : Int)) = (F : Int) + (S : Int) := by rw [IntKind.wrap_i64]; omega
          have u2 : IntKind.i64.wrap ((F : Int) + (S : Int) - 1) = (F : Int) + (S : Int) - 1 := by rw [IntKind.wrap_i64]; omega
          have u3 : IntKind.i64.wrap ((16 : Int) * (M : Int)) = (16 : Int) * (M : Int) := by rw [IntKind.wrap_i64]; omega
          have hF2 : F ≤ 16384 := by omega
          have hc : (decide ((S : Int) ≤ 16) = true ∧ decide ((16 : Int) < (S : Int)) = false ∧ ∃ Q : Int, (F : Int).tdiv 16 = Q ∧ ((F : Int) + (S : Int) - 1).tdiv 16 = Q ∧ IntKind.i64.wrap Q = Q) ∨ (decide ((S : Int) ≤ 16) = false ∧ decide ((16 : Int) < (S : Int)) = true ∧ (F : Int).tmod 16 = 0) := by
            rcases hcase with ⟨q1, q2⟩ | ⟨q1, q2⟩
            · refine .inl ⟨by simp; omega, by simp; omega, ((F / 16 : Nat) : Int), (Int.ofNat_tdiv F 16).symm, ?_, by rw [IntKind.wrap_i64]; omega⟩
              rw [show (F : Int) + (S : Int) - 1 = ((F + S - 1 : Nat) : Int) by omega, q2]
              exact (Int.ofNat_tdiv (F + S - 1) 16).symm
            · refine .inr ⟨by simp; omega, by simp; omega, ?_⟩
              rw [show (F : Int).tmod 16 = ((F % 16 : Nat) : Int) from (Int.ofNat_tmod F 16).symm, q2]; rfl
          clear hcase hF hN hw hnr g1 HP k3 hr hown hOw u1 u2 u3
          rcases hc with ⟨g3, g4, Q, g5, g6, g7⟩ | ⟨g3, g4, g5⟩
          all_goals
            go_wp2_with fail
            obtain ⟨C, hC⟩ : ∃ C, w3.heap.size = C := ⟨_, rfl⟩
            rw [hC] at rC ⊢
            have HC : Hid (O ≤ C) := by show _; rw [← hC]; exact hOw3
            have h4 := h3.kept kC (by simp)
            have hown4 := hown3.keptS kC (by simp)
            have hsR4 := hsR.kept kC
            have HKR4 := Lib.hid (HKR3.out.trans kC.any)
            clear hC
            generalize w3.alloc (.cells #[.int .i64 F, .int .i64 S] 46) = w4 at rC h4 hown4 hsR4 HKR4 ⊢
            have HO4 : Hid (O ≤ w4.heap.size) := Nat.le_trans HC.out (Nat.le_of_lt rC.lt)
            clear h3 hown3 hsR kC hOw3
            go_loopw [94] (fun i wx => ∃ d : Nat, d ≤ rs.length ∧ i = .int .i64 d ∧ Kept [] w4 wx) (fun i _ => rs.length - (intOf i).toNat)
            case atStart => exact ⟨0, Nat.zero_le _, rfl, Kept.refl _ _⟩
            case round =>
              obtain ⟨d, hd, rfl, hkx⟩ := hrel
              have rCx := rC.kept hkx (by simp)
              have hCl := rCx.lt
              have y0 : wr.cell? ⟨C, 0, none⟩ = some (.int .i64 F) := by simpa using rCx.cell 0
              have y1 : wr.cell? ⟨C, 1, none⟩ = some (.int .i64 S) := by simpa using rCx.cell 1
              by_cases hlt2 : d < rs.length
              · obtain ⟨b2, off2, rfl, _, c0, c1⟩ := (hsR4.kept hkx).cell hlt2
                have hbd := HB.out _ (List.getElem_mem hlt2)
                have hpt := hap _ (List.getElem_mem hlt2)
                unfold apartR at hpt
                generalize rs[d].1 = f at c0 hbd hpt
                generalize rs[d].2 = m at c1 hbd hpt
                simp only at hpt
                have hbd2 : f + m ≤ 16384 := by omega
                by_cases hb1 : F < f + m
                · have t1 : decide ((F : Int) < (f : Int) + (m : Int)) = true := by simp; omega
                  have t2 : decide ((f : Int) < (F : Int) + (S : Int)) = false := by simp; omega
                  clear hpt hb1 hbd
                  go_wp2
                  go_roundw
                  case rel => exact ⟨d + 1, by omega, by go_num, hkx.alloc _⟩
                  case measure => simp [intOf]; omega
                · have t1 : decide ((F : Int) < (f : Int) + (m : Int)) = false := by simp; omega
                  clear hpt hb1 hbd
                  go_wp2
                  go_roundw
                  case rel => exact ⟨d + 1, by omega, by go_num, hkx.alloc _⟩
                  case measure => simp [intOf]; omega
              · obtain rfl : d = rs.length := by omega
                have hownx := hown4.keptS hkx (by simp)
                have hOx := Nat.le_trans HO4.out hkx.size
                have hx := h4.kept hkx (by simp)
                have HKX := Lib.hid (HKR4.out.trans hkx.any)
                clear hkx hlt2 hap hM hM2 g0 g2
                go_wp2_with (at_builtin; refine wpList_append_run _ rfl _ _ rfl O wr (.slice aA rs.length cA) rs F S rfl rfl rfl hownx hOx (by omega) ?_; intro v2 w6 hown6 hk6)
                go_roundw
                case rel =>
                  exact ⟨j + 1, M, x2, rs ++ [(F, S)], by omega, rfl, HM2.out, by go_num, by rw [HM.out]; exact HA2, by simp; omega, hx.kept hk6 (by intro h; rw [Option.mem_toList] at h; have := hge.out _ h; have := HBO.out; omega), hown6, Nat.le_trans hOx hk6.size,
                    HKX.out.chain hk6 (by simp) (fun i hi hl => by rw [Option.mem_toList] at hi; have := hge.out _ hi; have := HBO.out; omega)⟩
                case measure => simp [intOf]; omega
        · have g1 : decide ((1024 : Int) < (N0 : Int) + n) = true := by simp; omega
          clear hle hnr
          go_wp2
          go_roundw
          case rel => exact ⟨j + 1, N0, x, rs, by omega, rfl, hN0, by go_num, HA, by omega, hr, hown, hOw, HKR.out⟩
          case measure => simp [intOf]; omega
      · have he' : (e != 0) = true := by simpa using he
        clear he hnr
        go_wp2
        go_roundw
        case rel => exact ⟨j + 1, N0, x, rs, by omega, rfl, hN0, by go_num, HA, by omega, hr, hown, hOw, HKR.out⟩
        case measure => simp [intOf]; omega
    · obtain rfl : j = ss.length := by omega
      go_wp2_with fail
      refine (fixed10_any wr).mono ?_
      rintro e w5 ⟨rfl, k5⟩
      go_wp2
      go_ret
      exact ⟨rfl, k0.trans k5⟩
end Go.Proofs.Ytjihlogpmkidlaa
