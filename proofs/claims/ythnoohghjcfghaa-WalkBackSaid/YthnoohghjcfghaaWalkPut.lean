/- Package walk: Put. -/
import Derived.Test.YthnoohghjcfghaaWalkPlain
import Derived.Test.YthnoohghjcfghaaHeaderPut
import Derived.Test.YthnoohghjcfghaaFill
import Derived.Test.YthnoohghjcfghaaRegionPick
import Derived.Deep.RegionHeld3
namespace Go.Proofs.Ythnoohghjcfghaa
open Go.RowKit

/-- What a memory of these words becomes, and the error's number. -/
def putO (xs : List Int) (a c : Int) (h : Hd) : List Int × Int :=
  if mayH h = false ∨ c ≠ sizeH h then (xs, 1)
  else if holdsB xs.length a c = false then (xs, 8)
  else (wrB (flB xs a c 0) a (wordH h), 0)
theorem putO_length (xs : List Int) (a c : Int) (h : Hd) : (putO xs a c h).1.length = xs.length := by
  unfold putO
  split
  · rfl
  · split
    · rfl
    · simp only [wrB_length, flB_length]
theorem sizeH_pos {h : Hd} (hm : mayH h = true) : 2 ≤ sizeH h ∧ sizeH h ≤ 4001 := by
  have := mayH_range hm
  unfold sizeH
  rw [if_pos hm]
  omega

def PutAns (b g : Nat) (x : List Int × Int) (w : World) (e : Ending) (w' : World) : Prop := e = .returned (.int .i64 x.2) ∧ IsMem w' b g x.1 ∧ Kept [g] w w'

set_option maxRecDepth 100000 in
set_option maxHeartbeats 4000000 in
theorem walkPut_any (b g : Nat) (xs : List Int) (a c : Int) (ar : Bool) (k t n : Int) (w : World) (hm : IsMem w b g xs) (ha : a ≤ 9223372036854775807) :
    Calls Try.prog 17 #[.pointer (some ⟨b, 0, none⟩), .agg #[.int .i64 a, .int .i64 c], .agg #[.bool ar, .int .i64 k, .int .i64 t, .int .i64 n]] w (PutAns b g (putO xs a c ⟨ar, k, t, n⟩) w) := by
  have k0 := ((Kept.refl [] w).alloc (.cells #[.int .i64 a, .int .i64 c] 30)).alloc (.cells #[.bool ar, .int .i64 k, .int .i64 t, .int .i64 n] 32)
  have rR := (Row.new w 30 [.int .i64 a, .int .i64 c]).alloc (.cells #[.bool ar, .int .i64 k, .int .i64 t, .int .i64 n] 32)
  have rH := Row.new (w.alloc (.cells #[.int .i64 a, .int .i64 c] 30)) 32 [.bool ar, .int .i64 k, .int .i64 t, .int .i64 n]
  simp only [World.size_alloc] at rH
  have hm0 := hm.kept k0 (by simp) (by simp)
  have hbl := hm.1.lt
  have hgl := hm.2.1.lt
  go_enter Try.func17, Try.ntmps17
  go_wp2_with fail
  obtain ⟨R, hR⟩ : ∃ R, w.heap.size = R := ⟨_, rfl⟩
  rw [hR] at rR rH hbl hgl ⊢
  generalize (w.alloc (.cells #[.int .i64 a, .int .i64 c] 30)).alloc (.cells #[.bool ar, .int .i64 k, .int .i64 t, .int .i64 n] 32) = W0 at k0 rR rH hm0 ⊢
  clear hR hm
  refine (put_any ar k t n W0).mono ?_
  rintro e W1 ⟨rfl, k1⟩
  have kk1 := k0.trans k1
  have rR1 := rR.kept k1 (by simp)
  have rH1 := rH.kept k1 (by simp)
  have hm1 := hm0.kept k1 (by simp) (by simp)
  clear k0 k1 rR rH hm0
  cases hmay : mayH ⟨ar, k, t, n⟩ with
  | false =>
    have hp : putH ⟨ar, k, t, n⟩ = (0, 1) := by simp [putH, hmay]
    rw [hp]
    have HS := Lib.hid (show putO xs a c ⟨ar, k, t, n⟩ = (xs, 1) by unfold putO; rw [if_pos (.inl hmay)])
    clear hmay hp
    simp only
    go_wp2_with fail
    go_quiet (fail)
    go_wp2
    go_ret
    exact ⟨by rw [HS.out]; rfl, by rw [HS.out]; exact hm1.kept ((Kept.refl [] W1).drewN _) (by simp) (by simp), (kk1.drewN _).any⟩
  | true =>
    have hp : putH ⟨ar, k, t, n⟩ = (wordH ⟨ar, k, t, n⟩, 0) := by simp [putH, hmay]
    rw [hp]
    have hsz := sizeH_pos hmay
    have hwr := wordH_range hmay
    obtain ⟨sz, hsze⟩ : ∃ sz, sizeH ⟨ar, k, t, n⟩ = sz := ⟨_, rfl⟩
    obtain ⟨wd, hwd⟩ : ∃ wd, wordH ⟨ar, k, t, n⟩ = wd := ⟨_, rfl⟩
    have hsize := fun w => size_any ar k t n w
    rw [hwd] at hwr
    simp only [hsze] at hsize hsz
    have HSZ := Lib.hid hsize
    clear hsize
    have hold := Lib.hid (show ∀ W', Kept [] W1 W' → (fun w' => Kept [] W1 w' ∧ w'.cell? ⟨R, 1, none⟩ = some (.int .i64 c) ∧ w'.cell? ⟨R + 1, 0, none⟩ = some (.bool ar) ∧ w'.cell? ⟨R + 1, 1, none⟩ = some (.int .i64 k) ∧ w'.cell? ⟨R + 1, 2, none⟩ = some (.int .i64 t) ∧ w'.cell? ⟨R + 1, 3, none⟩ = some (.int .i64 n)) W' from fun W' kq => ⟨kq, by simpa using (rR1.kept kq (by simp)).cell 1, by simpa using (rH1.kept kq (by simp)).cell 0, by simpa using (rH1.kept kq (by simp)).cell 1, by simpa using (rH1.kept kq (by simp)).cell 2, by simpa using (rH1.kept kq (by simp)).cell 3⟩)
    have kk0 : Kept [] W1 W1.drew := (Kept.refl _ _).drew
    rw [hwd]
    simp only
    by_cases hc : c = sz
    · have hc' : (c != sz) = false := by simpa using hc
      have HC := Lib.hid hc
      have HP := Lib.hid (show putO xs a c ⟨ar, k, t, n⟩ = if holdsB xs.length a c = false then (xs, 8) else (wrB (flB xs a c 0) a wd, 0) by
        unfold putO
        rw [if_neg (by simp [hmay, hsze, hc]), hwd])
      clear hmay hp hsze hwd hc
      go_wp2_with fail
      refine wp_region_pick (fun w' => Kept [] W1 w' ∧ w'.cell? ⟨R, 1, none⟩ = some (.int .i64 c) ∧ w'.cell? ⟨R + 1, 0, none⟩ = some (.bool ar) ∧ w'.cell? ⟨R + 1, 1, none⟩ = some (.int .i64 k) ∧ w'.cell? ⟨R + 1, 2, none⟩ = some (.int .i64 t) ∧ w'.cell? ⟨R + 1, 3, none⟩ = some (.int .i64 n)) (by kernel_rfl) (hold.out _ ((Kept.refl _ _).drew)) ?_
      simp only [numbered, List.length_cons, List.length_nil, Nat.reduceAdd]
      repeat (first
        | (refine pick_take0 (v := ?_) rfl (by decide +kernel) (fun _ _ _ h => h) (by rfl) ?_ ?_; rotate_left; (intro w hSw; (try dsimp only at hSw); go_simp; try with_reducible rfl); go_frame)
        | (refine pick_skip0 (by decide +kernel) (fun _ _ _ h => h) (by rfl) ?_; go_frame)
        | (refine pick_take1 (v := ?_) rfl (by decide +kernel) (fun _ _ _ h => h) (by rfl) ?_ ?_; rotate_left; (intro w hSw; (try dsimp only at hSw); go_simp; try with_reducible rfl); go_frame)
        | (refine pick_take2 (v := ?_) rfl (by decide +kernel) (fun _ _ _ h => h) (by rfl) ?_ ?_; rotate_left; (intro w hSw; (try dsimp only at hSw); go_simp; try with_reducible rfl); go_frame)
        | (refine pick_call (by decide +kernel) (by rfl) (fun K hK => ?_); go_simp
           first
           | (go_at_call 31; refine (HSZ.out _).mono ?_; rintro e w2 ⟨rfl, k2⟩; have kq : Kept [] W1 w2 := Kept.trans (by assumption) k2)
           (try dsimp only)
           refine hK _ _ (hold.out _ (by assumption)) ?_
           clear hK K))
      refine pick_done (by decide +kernel) ?_
      have hm2 := hm1.kept kq (by simp) (by simp)
      have rR2 := rR1.kept kq (by simp)
      have kk2 := kk1.trans kq
      have c0 : w2.cell? ⟨R, 0, none⟩ = some (.int .i64 a) := by simpa using rR2.cell 0
      have c1 : w2.cell? ⟨R, 1, none⟩ = some (.int .i64 c) := by simpa using rR2.cell 1
      clear hold HSZ kk0 rR1 rH1 kq hm1 kk1 k2
      go_wp2_with fail
      refine (fill_any b g xs a c 0 w2 hm2 ha).mono ?_
      rintro e w3 ⟨rfl, hm3, k3⟩
      have rR3 := rR2.kept k3 (by simp; omega)
      have kk3 : Kept [g] w w3 := kk2.any.trans k3
      have d0 : w3.cell? ⟨R, 0, none⟩ = some (.int .i64 a) := by simpa using rR3.cell 0
      clear c0 c1 rR2 hm2 kk2 k3
      cases hh : holdsB xs.length a c with
      | false =>
        have hp2 := HP.out
        rw [hh, if_pos rfl] at hp2
        have HP := Lib.hid hp2
        clear hp2
        have hfl : flB xs a c 0 = xs := by simp [flB, hh]
        rw [hfl] at hm3
        clear hh hfl
        rw [show errB false = 8 from rfl]
        go_wp2
        go_ret
        exact ⟨by rw [HP.out]; rfl, by rw [HP.out]; exact hm3, kk3⟩
      | true =>
        have hp2 := HP.out
        rw [hh, if_neg (by simp)] at hp2
        have HP := Lib.hid hp2
        clear hp2
        have hin : hasB (flB xs a c 0).length a = true := by
          rw [flB_length]
          simp [holdsB] at hh
          have := HC.out
          simp [hasB]; omega
        have hwr := write_any b g (flB xs a c 0) a wd w3 hm3
        rw [hin] at hwr
        clear hh hin
        rw [show errB true = 0 from rfl] at hwr ⊢
        go_wp2_with fail
        refine hwr.mono ?_
        rintro e w4 ⟨rfl, hm4, k4⟩
        go_wp2
        go_ret
        exact ⟨by rw [HP.out]; rfl, by rw [HP.out]; exact hm4, kk3.trans k4⟩
    · have hc' : (c != sz) = true := by simpa using hc
      have HP := Lib.hid (show putO xs a c ⟨ar, k, t, n⟩ = (xs, 1) by
        unfold putO
        rw [if_pos (.inr (by rw [hsze]; exact hc))])
      clear hmay hp hsze hwd hc
      go_wp2_with fail
      refine wp_region_pick (fun w' => Kept [] W1 w' ∧ w'.cell? ⟨R, 1, none⟩ = some (.int .i64 c) ∧ w'.cell? ⟨R + 1, 0, none⟩ = some (.bool ar) ∧ w'.cell? ⟨R + 1, 1, none⟩ = some (.int .i64 k) ∧ w'.cell? ⟨R + 1, 2, none⟩ = some (.int .i64 t) ∧ w'.cell? ⟨R + 1, 3, none⟩ = some (.int .i64 n)) (by kernel_rfl) (hold.out _ ((Kept.refl _ _).drew)) ?_
      simp only [numbered, List.length_cons, List.length_nil, Nat.reduceAdd]
      repeat (first
        | (refine pick_take0 (v := ?_) rfl (by decide +kernel) (fun _ _ _ h => h) (by rfl) ?_ ?_; rotate_left; (intro w hSw; (try dsimp only at hSw); go_simp; try with_reducible rfl); go_frame)
        | (refine pick_skip0 (by decide +kernel) (fun _ _ _ h => h) (by rfl) ?_; go_frame)
        | (refine pick_take1 (v := ?_) rfl (by decide +kernel) (fun _ _ _ h => h) (by rfl) ?_ ?_; rotate_left; (intro w hSw; (try dsimp only at hSw); go_simp; try with_reducible rfl); go_frame)
        | (refine pick_take2 (v := ?_) rfl (by decide +kernel) (fun _ _ _ h => h) (by rfl) ?_ ?_; rotate_left; (intro w hSw; (try dsimp only at hSw); go_simp; try with_reducible rfl); go_frame)
        | (refine pick_call (by decide +kernel) (by rfl) (fun K hK => ?_); go_simp
           first
           | (go_at_call 31; refine (HSZ.out _).mono ?_; rintro e w2 ⟨rfl, k2⟩; have kq : Kept [] W1 w2 := Kept.trans (by assumption) k2)
           (try dsimp only)
           refine hK _ _ (hold.out _ (by assumption)) ?_
           clear hK K))
      refine pick_done (by decide +kernel) ?_
      have hm2 := hm1.kept kq (by simp) (by simp)
      have kk2 := kk1.trans kq
      clear hold HSZ kk0 rR1 rH1 kq hm1 kk1 k2
      go_wp2
      go_ret
      exact ⟨by rw [HP.out]; rfl, by rw [HP.out]; exact hm2, kk2.any⟩
end Go.Proofs.Ythnoohghjcfghaa
