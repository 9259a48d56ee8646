/- Package kraalref06: Of. -/
import Derived.Test.YthlkammoinokoaaOwnerRef
namespace Go.Proofs.Ythlkammoinokoaa
open Go.RowKit

set_option maxRecDepth 100000 in
set_option maxHeartbeats 2000000 in
theorem refOf06_low (A : Option Addr) (n cap : Nat) (xs : List Int) (o : Int) (w : World) (hn : xs.length = n) (hx : n ≤ 1024) (ho : o < 1) :
    Calls Try.prog 16 #[.slice A n cap, .int .i64 o] w (RunsPost (ofB xs o) w) := by
  subst hn
  have HF := Lib.hid (ofB_low (xs := xs) ho)
  have ho' : decide (o < 1) = true := by simpa using ho
  have k0 := (Kept.refl [] w).alloc (.cells #[] 30)
  go_enter Try.func16, Try.ntmps16
  go_wp2_with fail
  generalize w.alloc (.cells #[] 30) = W at k0 ⊢
  obtain ⟨B, hB⟩ : ∃ B, w.heap.size = B := ⟨_, rfl⟩
  rw [hB]
  clear hB
  go_loop [5, 6] (fun v i => ∃ j : Nat, j ≤ xs.length ∧ v = .slice (some ⟨B, 0, none⟩) 0 0 ∧ i = .int .i64 j) (fun _ i => xs.length - (intOf i).toNat)
  case atStart => exact ⟨0, Nat.zero_le _, rfl, rfl⟩
  case round =>
    obtain ⟨j, hj, rfl, rfl⟩ := hrel
    by_cases hlt : j < xs.length
    · go_wp2
      go_round
      case rel => exact ⟨j + 1, by omega, rfl, by go_num⟩
      case measure => simp [intOf]; omega
    · obtain rfl : j = xs.length := by omega
      go_wp2
      go_ret
      rw [HF.out]
      exact ⟨_, 0, rfl, .inl rfl, k0⟩

set_option maxRecDepth 100000 in
set_option maxHeartbeats 4000000 in
theorem refOf06_high (A : Option Addr) (n cap : Nat) (xs : List Int) (o : Int) (w : World) (hs : Sl w .i64 A xs) (hn : xs.length = n) (hx : n ≤ 1024) (ho : ¬ o < 1) :
    Calls Try.prog 16 #[.slice A n cap, .int .i64 o] w (RunsPost (ofB xs o) w) := by
  subst hn
  have HF := Lib.hid (ofB_at (xs := xs) ho)
  have ho' : decide (o < 1) = false := by simpa using ho
  have own0 : OwnR (w.alloc (.cells #[] 30)) w.heap.size (.slice (some ⟨w.heap.size, 0, none⟩) 0 0) [] := own_empty w 30 2 w.heap.size (Nat.le_refl _)
  have k0 := (Kept.refl [] w).alloc (.cells #[] 30)
  go_enter Try.func16, Try.ntmps16
  go_wp2_with fail
  have hz0 : w.heap.size ≤ (w.alloc (.cells #[] 30)).heap.size := by simp
  generalize w.alloc (.cells #[] 30) = W at own0 k0 hz0 ⊢
  go_loopw [5, 6] (fun v i wr => ∃ (j g cp : Nat), j ≤ xs.length ∧ v = .slice (some ⟨g, 0, none⟩) (runsTo xs o j).length cp ∧ i = .int .i64 j ∧ OwnR wr w.heap.size (.slice (some ⟨g, 0, none⟩) (runsTo xs o j).length cp) (runsTo xs o j) ∧ Kept [] w wr) (fun _ i _ => xs.length - (intOf i).toNat)
  case atStart => exact ⟨0, w.heap.size, 0, Nat.zero_le _, rfl, rfl, own0, k0⟩
  case round =>
    obtain ⟨j, g, cp, hj, rfl, rfl, hor, hkr⟩ := hrel
    clear own0 k0 hz0
    have hge := own_ge hor
    have hRz := hkr.size
    have hrl := runsTo_len xs o j
    by_cases hlt : j < xs.length
    · obtain ⟨b, off, hAe, cJ⟩ := (hs.kept hkr).cell hlt
      by_cases hv : xs[j]?.getD 0 = o
      · rw [hv] at cJ
        have HV := Lib.hid hv
        clear hv
        by_cases hprev : 0 < j ∧ xs[j - 1]?.getD 0 = o
        · have HT := Lib.hid (runsTo_more HV.out hprev)
          obtain ⟨ini, f, m, hr, hfm⟩ := (runsTo_ok xs o j (by omega)).last hprev.1 hprev.2
          rw [hr] at hor hrl HT ⊢
          rw [bumpL_snoc] at HT
          simp only [List.length_append, List.length_singleton] at hor hrl ⊢
          obtain ⟨K, hK⟩ : ∃ K, ini.length = K := ⟨_, rfl⟩
          have HK := Lib.hid hK
          rw [hK] at hor hrl ⊢
          clear hr
          obtain ⟨q, rfl⟩ : ∃ q, j = q + 1 := ⟨j - 1, by omega⟩
          obtain ⟨b', off', hAe', cQ⟩ := (hs.kept hkr).cell (j := q) (by omega)
          have hq := hprev.2
          rw [show q + 1 - 1 = q by omega] at hq
          rw [hq] at cQ
          rw [hAe] at hAe'
          cases hAe'
          subst hAe
          have hor' : wr.ownsRow w.heap.size 30 2 (.slice (some ⟨g, 0, none⟩) (K + 1) cp) (K + 1) (flatR (ini ++ [(f, m)])) := by
            have := hor
            unfold OwnR at this
            simpa [hK] using this
          have hcell := hor'.cellAt (K * 2 + 1) (by omega)
          have hget : (flatR (ini ++ [(f, m)]))[K * 2 + 1]? = some (.int .i64 m) := (flatR_get (ini ++ [(f, m)]) K (f, m) (by rw [List.getElem?_append_right (by omega), hK]; simp)).2
          rw [hget] at hcell
          have hfr := hor'.frozenAt (K * 2 + 1)
          have hst := (hor'.stored (K * 2 + 1) (.int .i64 ((m + 1 : Nat) : Int))).1
          have hset : (flatR (ini ++ [(f, m)])).set (K * 2 + 1) (.int .i64 ((m + 1 : Nat) : Int)) = flatR (ini ++ [(f, m + 1)]) := by
            have hl : (flatR ini).length = K * 2 := by rw [flatR_length, hK]
            rw [flatR_snoc, flatR_snoc, List.set_append, if_neg (by omega), hl, show K * 2 + 1 - K * 2 = 1 by omega]
            rfl
          rw [hset] at hst
          have HST := Lib.hid hst
          clear hst hset hget hor hor' hq hprev hK
          go_wp2
          go_roundw
          case rel =>
            refine ⟨q + 1 + 1, g, cp, by omega, ?_, by go_num, ?_, hkr.set (.inr hge) _⟩
            · rw [HT.out]; simp [HK.out]
            · rw [HT.out]
              have := HST.out
              unfold OwnR
              simpa [HK.out] using this
          case measure => simp [intOf]; omega
        · have HT := Lib.hid (runsTo_new HV.out hprev)
          have hcond : (∃ q, j = q + 1 ∧ ∃ y b off, A = some ⟨b, off, none⟩ ∧ wr.cell? ⟨b, off + q, none⟩ = some (.int .i64 y) ∧ (y == o) = false) ∨ j = 0 := by
            cases j with
            | zero => exact .inr rfl
            | succ q =>
              obtain ⟨b', off', hAe', cQ⟩ := (hs.kept hkr).cell (j := q) (by omega)
              refine .inl ⟨q, rfl, _, b', off', hAe', cQ, ?_⟩
              have : xs[q]?.getD 0 ≠ o := fun e => hprev ⟨by omega, by simpa using e⟩
              simpa using this
          clear hprev
          have hB := hRz
          rcases hcond with ⟨q, rfl, y, b', off', hAe', cQ, hy⟩ | rfl
          · rw [hAe] at hAe'
            cases hAe'
            subst hAe
            clear hs
            go_wp2_with (at_builtin; refine wpList_append_run _ rfl _ _ rfl w.heap.size wr _ (runsTo xs o (q + 1)) (q + 1) 1 rfl rfl rfl hor hB (by omega) ?_; intro v2 w2 hown2 hk3)
            go_roundw
            case rel =>
              obtain ⟨g2, c2, rfl, hB2⟩ := hown2.held (by simp)
              exact ⟨q + 1 + 1, g2, _, by omega, by rw [HT.out], by go_num, by rw [HT.out]; exact hown2, hkr.chain hk3 (by simp) (fun i hi hl => by rw [Option.mem_toList] at hi; have e : some g = some i := hi; cases e; omega)⟩
            case measure => simp [intOf]; omega
          · subst hAe
            rw [Nat.add_zero] at cJ
            clear hs
            go_wp2_with (at_builtin; refine wpList_append_run _ rfl _ _ rfl w.heap.size wr _ (runsTo xs o 0) 0 1 rfl rfl rfl hor hB (by omega) ?_; intro v2 w2 hown2 hk3)
            go_roundw
            case rel =>
              obtain ⟨g2, c2, rfl, hB2⟩ := hown2.held (by simp)
              exact ⟨0 + 1, g2, _, by omega, by rw [HT.out], by go_num, by rw [HT.out]; exact hown2, hkr.chain hk3 (by simp) (fun i hi hl => by rw [Option.mem_toList] at hi; have e : some g = some i := hi; cases e; omega)⟩
            case measure => simp [intOf]; omega
      · have hv' : (xs[j]?.getD 0 == o) = false := by simpa using hv
        have HT := Lib.hid (runsTo_off hv)
        subst hAe
        generalize xs[j]?.getD 0 = y at cJ hv'
        clear hv hs
        go_wp2
        go_roundw
        case rel => exact ⟨j + 1, g, cp, by omega, by rw [HT.out], by go_num, by rw [HT.out]; exact hor, hkr⟩
        case measure => simp [intOf]; omega
    · obtain rfl : j = xs.length := by omega
      go_wp2
      go_ret
      rw [HF.out]
      obtain ⟨a, c, he, hsl, _⟩ := hor.slice
      cases he
      exact ⟨_, _, rfl, hsl, hkr⟩
end Go.Proofs.Ythlkammoinokoaa
