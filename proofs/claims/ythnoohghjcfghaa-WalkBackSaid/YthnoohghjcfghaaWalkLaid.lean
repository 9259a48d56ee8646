/- kraallaw12's own: laid, fixed; Put without a memory. -/
import Derived.Test.YthnoohghjcfghaaWalkOne
import Derived.Test.YthnoohghjcfghaaWalkPut
import Derived.Test.YthnoohghjcfghaaFills
import Derived.Test.YthnoohghjcfghaaNum
namespace Go.Proofs.Ythnoohghjcfghaa
open Go.RowKit

/-- What laid leaves: a memory of these words in new blocks. -/
def LaidPost (w : World) (zs : List Int) (e : Ending) (w' : World) : Prop :=
  ∃ b g, e = .returned (.pointer (some ⟨b, 0, none⟩)) ∧ w.heap.size ≤ b ∧ w.heap.size ≤ g ∧ IsMem w' b g zs ∧ Kept [] w w'

set_option maxRecDepth 100000 in
set_option maxHeartbeats 2000000 in
theorem laid12_any (a0 : Option Addr) (cap : Nat) (zs : List Int) (w : World) (hs : Sl w .u64 a0 zs) (hl : zs.length ≤ 300) :
    Calls Try.prog 8 #[.slice a0 zs.length cap] w (LaidPost w zs) := by
  go_enter Try.func8, Try.ntmps8
  go_wp2_with fail
  refine (new_yes zs.length w (by omega)).mono ?_
  rintro e w1 ⟨mb, mg, rfl, hmb, hmg, hm1, kw1⟩
  rw [← sofar_zero zs] at hm1
  go_wp2_with fail
  go_loopw [21] (fun i wr => ∃ j : Nat, j ≤ zs.length ∧ i = .int .i64 j ∧ IsMem wr mb mg (sofar zs zs.length j) ∧ Kept [mg] w1 wr) (fun i _ => zs.length - (intOf i).toNat)
  case atStart => exact ⟨0, Nat.zero_le _, rfl, hm1, Kept.refl _ _⟩
  case round =>
    obtain ⟨j, hj, rfl, hmr, hkr⟩ := hrel
    have kWr : Kept [] w wr := kw1.chain hkr (by simp) (by simp; omega)
    by_cases hlt : j < zs.length
    · obtain ⟨b, off, rfl, hc⟩ := (hs.kept kWr).cell hlt
      go_wp2_with fail
      rw [show zs[j] = zs[j]?.getD 0 from by simp [hlt]]
      refine (write_any mb mg _ j _ wr hmr).mono ?_
      rintro e w2 ⟨rfl, hm2, kw2⟩
      rw [sofar_succ zs _ j hlt (Nat.le_refl _)] at hm2
      go_wp2
      go_roundw
      case rel => exact ⟨j + 1, by omega, by go_num, hm2, hkr.trans kw2⟩
      case measure => simp [intOf]; omega
    · obtain rfl : j = zs.length := by omega
      rw [sofar_all] at hmr
      go_wp2
      go_ret
      exact ⟨mb, mg, rfl, hmb, hmg, hmr, kWr⟩

set_option maxRecDepth 100000 in
set_option maxHeartbeats 4000000 in
theorem walkPut_nil (a c : Int) (ar : Bool) (k t n : Int) (w : World) :
    Calls Try.prog 17 #[.pointer none, .agg #[.int .i64 a, .int .i64 c], .agg #[.bool ar, .int .i64 k, .int .i64 t, .int .i64 n]] w (fun e w' => e = .returned (.int .i64 1) ∧ Kept [] w w') := by
  have k0 := ((Kept.refl [] w).alloc (.cells #[.int .i64 a, .int .i64 c] 30)).alloc (.cells #[.bool ar, .int .i64 k, .int .i64 t, .int .i64 n] 32)
  have rR := (Row.new w 30 [.int .i64 a, .int .i64 c]).alloc (.cells #[.bool ar, .int .i64 k, .int .i64 t, .int .i64 n] 32)
  have rH := Row.new (w.alloc (.cells #[.int .i64 a, .int .i64 c] 30)) 32 [.bool ar, .int .i64 k, .int .i64 t, .int .i64 n]
  simp only [World.size_alloc] at rH
  go_enter Try.func17, Try.ntmps17
  go_wp2_with fail
  obtain ⟨R, hR⟩ : ∃ R, w.heap.size = R := ⟨_, rfl⟩
  rw [hR] at rR rH ⊢
  generalize (w.alloc (.cells #[.int .i64 a, .int .i64 c] 30)).alloc (.cells #[.bool ar, .int .i64 k, .int .i64 t, .int .i64 n] 32) = W0 at k0 rR rH ⊢
  clear hR
  refine (put_any ar k t n W0).mono ?_
  rintro e W1 ⟨rfl, k1⟩
  have kk1 := k0.trans k1
  have rR1 := rR.kept k1 (by simp)
  have rH1 := rH.kept k1 (by simp)
  clear k0 k1 rR rH
  cases hmay : mayH ⟨ar, k, t, n⟩ with
  | false =>
    have hp : putH ⟨ar, k, t, n⟩ = (0, 1) := by simp [putH, hmay]
    rw [hp]
    clear hmay hp
    simp only
    go_wp2_with fail
    go_quiet (fail)
    go_wp2
    go_ret
    exact ⟨rfl, kk1.drewN _⟩
  | true =>
    have hp : putH ⟨ar, k, t, n⟩ = (wordH ⟨ar, k, t, n⟩, 0) := by simp [putH, hmay]
    rw [hp]
    obtain ⟨sz, hsze⟩ : ∃ sz, sizeH ⟨ar, k, t, n⟩ = sz := ⟨_, rfl⟩
    obtain ⟨wd, hwd⟩ : ∃ wd, wordH ⟨ar, k, t, n⟩ = wd := ⟨_, rfl⟩
    have hsize := fun w => size_any ar k t n w
    simp only [hsze] at hsize
    have HSZ := Lib.hid hsize
    clear hsize
    have hold := Lib.hid (show ∀ W', Kept [] W1 W' → (fun w' => Kept [] W1 w' ∧ w'.cell? ⟨R, 1, none⟩ = some (.int .i64 c) ∧ w'.cell? ⟨R + 1, 0, none⟩ = some (.bool ar) ∧ w'.cell? ⟨R + 1, 1, none⟩ = some (.int .i64 k) ∧ w'.cell? ⟨R + 1, 2, none⟩ = some (.int .i64 t) ∧ w'.cell? ⟨R + 1, 3, none⟩ = some (.int .i64 n)) W' from fun W' kq => ⟨kq, by simpa using (rR1.kept kq (by simp)).cell 1, by simpa using (rH1.kept kq (by simp)).cell 0, by simpa using (rH1.kept kq (by simp)).cell 1, by simpa using (rH1.kept kq (by simp)).cell 2, by simpa using (rH1.kept kq (by simp)).cell 3⟩)
    have kk0 : Kept [] W1 W1.drew := (Kept.refl _ _).drew
    rw [hwd]
    simp only
    obtain ⟨bb, hc'⟩ : ∃ bb, (c != sz) = bb := ⟨_, rfl⟩
    clear hmay hp hsze hwd
    cases bb
    · go_wp2_with fail
      refine wp_region_pick (fun w' => Kept [] W1 w' ∧ w'.cell? ⟨R, 1, none⟩ = some (.int .i64 c) ∧ w'.cell? ⟨R + 1, 0, none⟩ = some (.bool ar) ∧ w'.cell? ⟨R + 1, 1, none⟩ = some (.int .i64 k) ∧ w'.cell? ⟨R + 1, 2, none⟩ = some (.int .i64 t) ∧ w'.cell? ⟨R + 1, 3, none⟩ = some (.int .i64 n)) (by kernel_rfl) (hold.out _ ((Kept.refl _ _).drew)) ?_
      simp only [numbered, List.length_cons, List.length_nil, Nat.reduceAdd]
      repeat (first
        | (refine pick_take0 (v := ?_) rfl (by decide +kernel) (fun _ _ _ h => h) (by rfl) ?_ ?_; rotate_left; (intro w hSw; (try dsimp only at hSw); go_simp; try with_reducible rfl); go_frame)
        | (refine pick_skip0 (by decide +kernel) (fun _ _ _ h => h) (by rfl) ?_; go_frame)
        | (refine pick_take1 (v := ?_) rfl (by decide +kernel) (fun _ _ _ h => h) (by rfl) ?_ ?_; rotate_left; (intro w hSw; (try dsimp only at hSw); go_simp; try with_reducible rfl); go_frame)
        | (refine pick_take2 (v := ?_) rfl (by decide +kernel) (fun _ _ _ h => h) (by rfl) ?_ ?_; rotate_left; (intro w hSw; (try dsimp only at hSw); go_simp; try with_reducible rfl); go_frame)
        | (refine pick_call (by decide +kernel) (by rfl) (fun K hK => ?_); go_simp
           first
           | (go_at_call 31; refine (HSZ.out _).mono ?_; rintro e w2 ⟨rfl, k2⟩; have kq : Kept [] W1 w2 := Kept.trans (by assumption) k2)
           (try dsimp only)
           refine hK _ _ (hold.out _ (by assumption)) ?_
           clear hK K))
      refine pick_done (by decide +kernel) ?_
      have kk2 := kk1.trans kq
      clear hold HSZ kk0 rR1 rH1 kq kk1 k2
      go_wp2
      go_ret
      exact ⟨rfl, kk2⟩
    · go_wp2_with fail
      refine wp_region_pick (fun w' => Kept [] W1 w' ∧ w'.cell? ⟨R, 1, none⟩ = some (.int .i64 c) ∧ w'.cell? ⟨R + 1, 0, none⟩ = some (.bool ar) ∧ w'.cell? ⟨R + 1, 1, none⟩ = some (.int .i64 k) ∧ w'.cell? ⟨R + 1, 2, none⟩ = some (.int .i64 t) ∧ w'.cell? ⟨R + 1, 3, none⟩ = some (.int .i64 n)) (by kernel_rfl) (hold.out _ ((Kept.refl _ _).drew)) ?_
      simp only [numbered, List.length_cons, List.length_nil, Nat.reduceAdd]
      repeat (first
        | (refine pick_take0 (v := ?_) rfl (by decide +kernel) (fun _ _ _ h => h) (by rfl) ?_ ?_; rotate_left; (intro w hSw; (try dsimp only at hSw); go_simp; try with_reducible rfl); go_frame)
        | (refine pick_skip0 (by decide +kernel) (fun _ _ _ h => h) (by rfl) ?_; go_frame)
        | (refine pick_take1 (v := ?_) rfl (by decide +kernel) (fun _ _ _ h => h) (by rfl) ?_ ?_; rotate_left; (intro w hSw; (try dsimp only at hSw); go_simp; try with_reducible rfl); go_frame)
        | (refine pick_take2 (v := ?_) rfl (by decide +kernel) (fun _ _ _ h => h) (by rfl) ?_ ?_; rotate_left; (intro w hSw; (try dsimp only at hSw); go_simp; try with_reducible rfl); go_frame)
        | (refine pick_call (by decide +kernel) (by rfl) (fun K hK => ?_); go_simp
           first
           | (go_at_call 31; refine (HSZ.out _).mono ?_; rintro e w2 ⟨rfl, k2⟩; have kq : Kept [] W1 w2 := Kept.trans (by assumption) k2)
           (try dsimp only)
           refine hK _ _ (hold.out _ (by assumption)) ?_
           clear hK K))
      refine pick_done (by decide +kernel) ?_
      have kk2 := kk1.trans kq
      clear hold HSZ kk0 rR1 rH1 kq kk1 k2
      go_wp2
      go_ret
      exact ⟨rfl, kk2⟩

theorem fix12_put : putO (List.replicate 10 0) 4 3 ⟨false, 0, 0, 2⟩ = ([0, 0, 0, 0, 131073, 0, 0, 0, 0, 0], 0) := by decide
theorem fix12_one : oneB [0, 0, 0, 0, 131073, 0, 0, 0, 0, 0] [[0, 1]] 5 = (⟨5, ⟨false, 0, 0, 2⟩, [0, 1], [0, 0]⟩, 0) := by rfl

set_option maxRecDepth 100000 in
set_option maxHeartbeats 4000000 in
theorem fixed12_any (w : World) : Calls Try.prog 7 #[] w (FixedPost w) := by
  go_enter Try.func7, Try.ntmps7
  go_wp2_with fail
  refine (new_yes 10 w (by omega)).mono ?_
  rintro e w1 ⟨b, g, rfl, hb, hg, hm, k1⟩
  have r0 := Row.new w1 3 [.int .i64 0, .int .i64 1]
  have k0 := (Kept.refl [] w1).alloc (.cells #[.int .i64 0, .int .i64 1] 3)
  have s0 : Sl (w1.alloc (.cells #[.int .i64 0, .int .i64 1] 3)) .i64 (some ⟨w1.heap.size, 0, none⟩) [0, 1] := Sl.of_row r0
  have h1 : (w1.alloc (.cells #[.int .i64 0, .int .i64 1] 3)).heap.size = w1.heap.size + 1 := by simp
  have r1 := Row.new (w1.alloc (.cells #[.int .i64 0, .int .i64 1] 3)) 63 [.slice (some ⟨w1.heap.size, 0, none⟩) 2 2]
  have k2 := (Kept.refl [] (w1.alloc (.cells #[.int .i64 0, .int .i64 1] 3))).alloc (.cells #[.slice (some ⟨w1.heap.size, 0, none⟩) 2 2] 63)
  rw [h1] at r1
  have sD : SlD ((w1.alloc (.cells #[.int .i64 0, .int .i64 1] 3)).alloc (.cells #[.slice (some ⟨w1.heap.size, 0, none⟩) 2 2] 63)) (some ⟨w1.heap.size + 1, 0, none⟩) [⟨some ⟨w1.heap.size, 0, none⟩, 2, [0, 1]⟩] :=
    ⟨SlG.of_row r1, by intro t ht; obtain rfl := List.mem_singleton.1 ht; exact s0.kept k2⟩
  have kk := (k1.trans k0).trans k2
  have hm2 := (hm.kept k0 (by simp) (by simp)).kept k2 (by simp) (by simp)
  have hgl := hm.2.1.lt
  go_wp2_with fail
  obtain ⟨Z, hZ⟩ : ∃ Z, w1.heap.size = Z := ⟨_, rfl⟩
  rw [hZ] at sD hgl hm2 kk ⊢
  generalize (w1.alloc (.cells #[.int .i64 0, .int .i64 1] 3)).alloc (.cells #[.slice (some ⟨Z, 0, none⟩) 2 2] 63) = W2 at sD kk hm2 ⊢
  have hgl2 : g ≠ Z ∧ g ≠ Z + 1 := by omega
  clear hm k1 r0 k0 s0 h1 r1 k2 hZ hgl
  refine (walkPut_any b g (List.replicate 10 0) 4 3 false 0 0 2 W2 hm2 (by decide)).mono ?_
  rintro e w3 ⟨rfl, hm3, k3⟩
  rw [fix12_put] at hm3 ⊢
  have sD3 := sD.keptS k3 (by intro b' off' e; cases e; simp; omega) (by intro t ht b' off' e; obtain rfl := List.mem_singleton.1 ht; cases e; simp; omega)
  have kk3 : Kept [] w w3 := kk.chain k3 (by simp) (by simp; omega)
  clear sD hm2 k3 kk
  simp only at hm3 ⊢
  go_wp2_with fail
  refine (walkOne_any b g [0, 0, 0, 0, 131073, 0, 0, 0, 0, 0] (some ⟨Z + 1, 0, none⟩) 1 [⟨some ⟨Z, 0, none⟩, 2, [0, 1]⟩] 5 w3 hm3 (by decide) sD3 (by intro t ht; obtain rfl := List.mem_singleton.1 ht; simp) (by decide)).mono ?_
  rintro e w4 ⟨⟨o, ka, kc, va, vc⟩, hl, rfl, hlies, k4⟩
  rw [show List.map Ty.ks [⟨some ⟨Z, 0, none⟩, 2, [0, 1]⟩] = [[0, 1]] from rfl, fix12_one] at hl ⊢
  simp only at hl
  subst hl
  have kk4 := kk3.trans k4
  rcases hlies.2 with h0 | ⟨vb, vo, rfl, hvb, _, hvc⟩
  · simp at h0
  have hv0 : w4.cell? ⟨vb, vo, none⟩ = some (.int .u64 0) := by simpa using hvc 0 (by simp)
  simp only [ObL.cells, List.length_cons, List.length_nil, Nat.reduceAdd]
  have kA := (Kept.refl [] w4).alloc (.cells #[.int .i64 5, .int .i64 0, .bool false, .int .i64 0, .int .i64 0, .int .i64 2, .slice ka 2 kc, .slice (some ⟨vb, vo, none⟩) 2 vc] 35)
  have hv1 : (w4.alloc (.cells #[.int .i64 5, .int .i64 0, .bool false, .int .i64 0, .int .i64 0, .int .i64 2, .slice ka 2 kc, .slice (some ⟨vb, vo, none⟩) 2 vc] 35)).cell? ⟨vb, vo, none⟩ = some (.int .u64 0) := (World.cell?_of_block (w := w4) (a := ⟨vb, vo, none⟩) (kA.block vb hvb (by simp))).trans hv0
  clear hlies hvc sD3 hm3 kk3 k4
  go_wp2
  go_ret
  exact ⟨rfl, kk4.trans kA⟩
end Go.Proofs.Ythnoohghjcfghaa
