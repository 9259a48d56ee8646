/- Package kraalref12: Put. -/
import Derived.Test.YthnoohghjcfghaaWalkPut
import Derived.Test.YthnoohghjcfghaaHeaderRef
import Derived.Test.YthnoohghjcfghaaRef
namespace Go.Proofs.Ythnoohghjcfghaa
open Go.RowKit

set_option maxRecDepth 100000 in
set_option maxHeartbeats 4000000 in
theorem refPut12_any (A : Option Addr) (cap : Nat) (xs : List Int) (a c : Int) (ar : Bool) (k t n : Int) (w : World) (hs : Sl w .u64 A xs) (hx : xs.length ≤ 16384) :
    Calls Try.prog 18 #[.slice A xs.length cap, .agg #[.int .i64 a, .int .i64 c], .agg #[.bool ar, .int .i64 k, .int .i64 t, .int .i64 n]] w (fun e w' => ∃ A' cap', e = .returned (.tuple #[.slice A' xs.length cap', .int .i64 (putO xs a c ⟨ar, k, t, n⟩).2]) ∧ Sl w' .u64 A' (putO xs a c ⟨ar, k, t, n⟩).1 ∧ Kept [] w w') := by
  have k0 := ((Kept.refl [] w).alloc (.cells #[.int .i64 a, .int .i64 c] 30)).alloc (.cells #[.bool ar, .int .i64 k, .int .i64 t, .int .i64 n] 32)
  have rR := (Row.new w 30 [.int .i64 a, .int .i64 c]).alloc (.cells #[.bool ar, .int .i64 k, .int .i64 t, .int .i64 n] 32)
  have rH := Row.new (w.alloc (.cells #[.int .i64 a, .int .i64 c] 30)) 32 [.bool ar, .int .i64 k, .int .i64 t, .int .i64 n]
  simp only [World.size_alloc] at rH
  go_enter Try.func18, Try.ntmps18
  go_wp2_with fail
  obtain ⟨R, hR⟩ : ∃ R, w.heap.size = R := ⟨_, rfl⟩
  rw [hR] at rR rH ⊢
  generalize (w.alloc (.cells #[.int .i64 a, .int .i64 c] 30)).alloc (.cells #[.bool ar, .int .i64 k, .int .i64 t, .int .i64 n] 32) = W0 at k0 rR rH ⊢
  clear hR
  refine (refPut08_any ar k t n W0).mono ?_
  rintro e W1 ⟨rfl, k1⟩
  have kk1 := k0.trans k1
  have rR1 := rR.kept k1 (by simp)
  have rH1 := rH.kept k1 (by simp)
  clear k0 k1 rR rH
  cases hmay : mayH ⟨ar, k, t, n⟩ with
  | false =>
    have hp : putH ⟨ar, k, t, n⟩ = (0, 1) := by simp [putH, hmay]
    rw [hp]
    have HS := Lib.hid (show putO xs a c ⟨ar, k, t, n⟩ = (xs, 1) by unfold putO; rw [if_pos (.inl hmay)])
    clear hmay hp
    simp only
    go_wp2_with fail
    go_quiet (fail)
    go_wp2
    go_ret2
    rw [HS.out]
    exact ⟨A, cap, rfl, hs.kept (kk1.drewN _), kk1.drewN _⟩
  | true =>
    have hp : putH ⟨ar, k, t, n⟩ = (wordH ⟨ar, k, t, n⟩, 0) := by simp [putH, hmay]
    rw [hp]
    have hsz := sizeH_pos hmay
    have hwr := wordH_range hmay
    obtain ⟨sz, hsze⟩ : ∃ sz, sizeH ⟨ar, k, t, n⟩ = sz := ⟨_, rfl⟩
    obtain ⟨wd, hwd⟩ : ∃ wd, wordH ⟨ar, k, t, n⟩ = wd := ⟨_, rfl⟩
    have hsize := fun w => refSize08_any ar k t n w
    rw [hwd] at hwr
    simp only [hsze] at hsize hsz
    have HSZ := Lib.hid hsize
    clear hsize
    have hold := Lib.hid (show ∀ W', Kept [] W1 W' → (fun w' => Kept [] W1 w' ∧ w'.cell? ⟨R, 1, none⟩ = some (.int .i64 c) ∧ w'.cell? ⟨R + 1, 0, none⟩ = some (.bool ar) ∧ w'.cell? ⟨R + 1, 1, none⟩ = some (.int .i64 k) ∧ w'.cell? ⟨R + 1, 2, none⟩ = some (.int .i64 t) ∧ w'.cell? ⟨R + 1, 3, none⟩ = some (.int .i64 n)) W' from fun W' kq => ⟨kq, by simpa using (rR1.kept kq (by simp)).cell 1, by simpa using (rH1.kept kq (by simp)).cell 0, by simpa using (rH1.kept kq (by simp)).cell 1, by simpa using (rH1.kept kq (by simp)).cell 2, by simpa using (rH1.kept kq (by simp)).cell 3⟩)
    have kk0 : Kept [] W1 W1.drew := (Kept.refl _ _).drew
    rw [hwd]
    simp only
    by_cases hc : c = sz
    · have hc' : (c != sz) = false := by simpa using hc
      have HC := Lib.hid hc
      have HP := Lib.hid (show putO xs a c ⟨ar, k, t, n⟩ = if holdsB xs.length a c = false then (xs, 8) else (wrB (flB xs a c 0) a wd, 0) by
        unfold putO
        rw [if_neg (by simp [hmay, hsze, hc]), hwd])
      clear hmay hp hsze hwd hc
      go_wp2_with fail
      refine wp_region_pick (fun w' => Kept [] W1 w' ∧ w'.cell? ⟨R, 1, none⟩ = some (.int .i64 c) ∧ w'.cell? ⟨R + 1, 0, none⟩ = some (.bool ar) ∧ w'.cell? ⟨R + 1, 1, none⟩ = some (.int .i64 k) ∧ w'.cell? ⟨R + 1, 2, none⟩ = some (.int .i64 t) ∧ w'.cell? ⟨R + 1, 3, none⟩ = some (.int .i64 n)) (by kernel_rfl) (hold.out _ ((Kept.refl _ _).drew)) ?_
      simp only [numbered, List.length_cons, List.length_nil, Nat.reduceAdd]
      repeat (first
        | (refine pick_take0 (v := ?_) rfl (by decide +kernel) (fun _ _ _ h => h) (by rfl) ?_ ?_; rotate_left; (intro w hSw; (try dsimp only at hSw); go_simp; try with_reducible rfl); go_frame)
        | (refine pick_skip0 (by decide +kernel) (fun _ _ _ h => h) (by rfl) ?_; go_frame)
        | (refine pick_take1 (v := ?_) rfl (by decide +kernel) (fun _ _ _ h => h) (by rfl) ?_ ?_; rotate_left; (intro w hSw; (try dsimp only at hSw); go_simp; try with_reducible rfl); go_frame)
        | (refine pick_take2 (v := ?_) rfl (by decide +kernel) (fun _ _ _ h => h) (by rfl) ?_ ?_; rotate_left; (intro w hSw; (try dsimp only at hSw); go_simp; try with_reducible rfl); go_frame)
        | (refine pick_call (by decide +kernel) (by rfl) (fun K hK => ?_); go_simp
           first
           | (go_at_call 20; refine (HSZ.out _).mono ?_; rintro e w2 ⟨rfl, k2⟩; have kq : Kept [] W1 w2 := Kept.trans (by assumption) k2)
           (try dsimp only)
           refine hK _ _ (hold.out _ (by assumption)) ?_
           clear hK K))
      refine pick_done (by decide +kernel) ?_
      have rR2 := rR1.kept kq (by simp)
      have kk2 := kk1.trans kq
      have c0 : w2.cell? ⟨R, 0, none⟩ = some (.int .i64 a) := by simpa using rR2.cell 0
      have c1 : w2.cell? ⟨R, 1, none⟩ = some (.int .i64 c) := by simpa using rR2.cell 1
      clear hold HSZ kk0 rR1 rH1 kq kk1 k2
      go_wp2_with fail
      refine (refFill_any A cap xs a c 0 w2 (hs.kept kk2) hx).mono ?_
      rintro e w3 ⟨A3, cap3, rfl, hs3, _, k3⟩
      have rR3 := rR2.kept k3 (by simp)
      have kk3 := kk2.trans k3
      have d0 : w3.cell? ⟨R, 0, none⟩ = some (.int .i64 a) := by simpa using rR3.cell 0
      have hfl := flB_length xs a c 0
      clear c0 c1 rR2 kk2 k3
      cases hh : holdsB xs.length a c with
      | false =>
        have hp2 := HP.out
        rw [hh, if_pos rfl] at hp2
        have HP := Lib.hid hp2
        clear hp2
        have hfl2 : flB xs a c 0 = xs := by simp [flB, hh]
        rw [hfl2] at hs3 ⊢
        clear hh hfl hfl2
        rw [show errB false = 8 from rfl]
        go_wp2
        go_ret2
        rw [HP.out]
        exact ⟨A3, cap3, rfl, hs3, kk3⟩
      | true =>
        have hp2 := HP.out
        rw [hh, if_neg (by simp)] at hp2
        have HP := Lib.hid hp2
        clear hp2
        have hin : hasB (flB xs a c 0).length a = true := by
          rw [flB_length]
          simp [holdsB] at hh
          have := HC.out
          simp [hasB]; omega
        have hwr := refWrite_any A3 cap3 (flB xs a c 0) a wd w3 hs3 (by rw [hfl]; exact hx)
        rw [hin] at hwr
        have hwl : (wrB (flB xs a c 0) a wd).length = xs.length := by rw [wrB_length, hfl]
        have HWL := Lib.hid hwl
        clear hh hin hfl hwl
        rw [show errB true = 0 from rfl] at hwr ⊢
        go_wp2_with fail
        refine hwr.mono ?_
        rintro e w4 ⟨A4, cap4, rfl, hs4, _, k4⟩
        rw [HWL.out]
        go_wp2
        go_ret2
        rw [HP.out]
        exact ⟨A4, cap4, rfl, hs4, kk3.trans k4⟩
    · have hc' : (c != sz) = true := by simpa using hc
      have HP := Lib.hid (show putO xs a c ⟨ar, k, t, n⟩ = (xs, 1) by
        unfold putO
        rw [if_pos (.inr (by rw [hsze]; exact hc))])
      clear hmay hp hsze hwd hc
      go_wp2_with fail
      refine wp_region_pick (fun w' => Kept [] W1 w' ∧ w'.cell? ⟨R, 1, none⟩ = some (.int .i64 c) ∧ w'.cell? ⟨R + 1, 0, none⟩ = some (.bool ar) ∧ w'.cell? ⟨R + 1, 1, none⟩ = some (.int .i64 k) ∧ w'.cell? ⟨R + 1, 2, none⟩ = some (.int .i64 t) ∧ w'.cell? ⟨R + 1, 3, none⟩ = some (.int .i64 n)) (by kernel_rfl) (hold.out _ ((Kept.refl _ _).drew)) ?_
      simp only [numbered, List.length_cons, List.length_nil, Nat.reduceAdd]
      repeat (first
        | (refine pick_take0 (v := ?_) rfl (by decide +kernel) (fun _ _ _ h => h) (by rfl) ?_ ?_; rotate_left; (intro w hSw; (try dsimp only at hSw); go_simp; try with_reducible rfl); go_frame)
        | (refine pick_skip0 (by decide +kernel) (fun _ _ _ h => h) (by rfl) ?_; go_frame)
        | (refine pick_take1 (v := ?_) rfl (by decide +kernel) (fun _ _ _ h => h) (by rfl) ?_ ?_; rotate_left; (intro w hSw; (try dsimp only at hSw); go_simp; try with_reducible rfl); go_frame)
        | (refine pick_take2 (v := ?_) rfl (by decide +kernel) (fun _ _ _ h => h) (by rfl) ?_ ?_; rotate_left; (intro w hSw; (try dsimp only at hSw); go_simp; try with_reducible rfl); go_frame)
        | (refine pick_call (by decide +kernel) (by rfl) (fun K hK => ?_); go_simp
           first
           | (go_at_call 20; refine (HSZ.out _).mono ?_; rintro e w2 ⟨rfl, k2⟩; have kq : Kept [] W1 w2 := Kept.trans (by assumption) k2)
           (try dsimp only)
           refine hK _ _ (hold.out _ (by assumption)) ?_
           clear hK K))
      refine pick_done (by decide +kernel) ?_
      have kk2 := kk1.trans kq
      clear hold HSZ kk0 rR1 rH1 kq kk1 k2
      go_wp2
      go_ret2
      rw [HP.out]
      exact ⟨A, cap, rfl, hs.kept kk2, kk2⟩
end Go.Proofs.Ythnoohghjcfghaa
