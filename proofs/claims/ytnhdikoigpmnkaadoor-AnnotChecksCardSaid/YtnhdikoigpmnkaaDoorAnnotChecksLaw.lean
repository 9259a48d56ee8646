/- The law AnnotChecks: its walk. -/
import Derived.Test.YtnhdikoigpmnkaaDoorAnnotLaid
import Derived.Test.YtnhdikoigpmnkaaDoorAnnotRef
import Derived.Test.YtnhdikoigpmnkaaDoorSame
import Derived.Test.YtnhdikoigpmnkaaDoorRegionPick
namespace Go.Proofs.YtnhdikoigpmnkaaDoor
open Go.RowKit

set_option maxRecDepth 100000 in
set_option maxHeartbeats 2000000 in
theorem annotChecks_big (a0 : Option Addr) (len cap : Nat) (kd x y : Int) (w : World) (hT : Tab w) (hl : 60 < len) (hm : len ≤ maxLen) :
    Calls Tryd.prog 3 #[.slice a0 len cap, .int .i64 kd, .agg #[.int .i64 x, .int .i64 y]] w (FixedPost w) := by
  unfold maxLen at hm
  have k0 := (Kept.refl [] w).alloc (.cells #[.int .i64 x, .int .i64 y] 23)
  go_enter Tryd.func3, Tryd.ntmps3
  go_wp2_with fail
  refine (fixed14_any _ (hT.kept k0)).mono ?_
  rintro e w5 ⟨rfl, kw5⟩
  go_wp2
  go_ret
  exact ⟨rfl, k0.trans kw5⟩

set_option maxRecDepth 100000 in
set_option maxHeartbeats 16000000 in
theorem annotChecks_law (a0 : Option Addr) (cap : Nat) (l : List ActT) (kd x y : Int) (w : World) (hT : Tab w) (hs : SlAT w a0 l) (hl : l.length ≤ 60) (hb : ∀ x ∈ l, x.fit) (hx : Fit64 x) (hy : Fit64 y) :
    Calls Tryd.prog 3 #[.slice a0 l.length cap, .int .i64 kd, .agg #[.int .i64 x, .int .i64 y]] w (FixedPost w) := by
  have h5 : decide ((60 : Int) < l.length) = false := by simp; omega
  have k0 := (Kept.refl [] w).alloc (.cells #[.int .i64 x, .int .i64 y] 23)
  have rP := Row.new w 23 [.int .i64 x, .int .i64 y]
  go_enter Tryd.func3, Tryd.ntmps3
  go_wp2_with fail
  obtain ⟨R, hR⟩ : ∃ R, w.heap.size = R := ⟨_, rfl⟩
  rw [hR] at rP ⊢
  generalize w.alloc (.cells #[.int .i64 x, .int .i64 y] 23) = W at k0 rP ⊢
  clear hR
  refine (grown14_any a0 cap l W (hs.kept k0) hl hb).mono ?_
  rintro e w1 ⟨p, g, rs, ab, ao, cp, rfl, hnew, hf, hI, hsr, k1⟩
  have hk1 : l.length < 1000 := by omega
  have hrl := hf.len
  have kk1 := k0.trans k1
  have rP1 := rP.kept k1 (by simp)
  have p0 : w1.cell? ⟨R, 0, none⟩ = some (.int .i64 x) := by simpa using rP1.cell 0
  have p1 : w1.cell? ⟨R, 1, none⟩ = some (.int .i64 y) := by simpa using rP1.cell 1
  -- the calls, ahead of the walk
  have hfx := fun W (hW : Kept [] w1 W) => fixed14_any W (hT.kept (kk1.trans hW))
  have hck := fun W (hW : Kept [] w1 W) => annotCheck_any p g rs kd x y W (hT.kept (kk1.trans hW)) (hI.kept hW) hf hk1 hx hy
  have hrc := fun W (hW : Kept [] w1 W) => refCheck14_any (some ⟨ab, ao, none⟩) cp rs kd x y W (hsr.kept hW) hf hk1
  have hct := fun W => annotCounts_any kd x y W
  have htg := fun W (hW : Kept [] w1 W) => annotTargets_any p g rs kd x W (hT.kept (kk1.trans hW)) (hI.kept hW) hf hk1 hx
  have hrt := fun W (hW : Kept [] w1 W) => refTargets14_any (some ⟨ab, ao, none⟩) cp rs kd x W (hsr.kept hW) hf hk1
  have hlen := targB_len rs kd x
  have hcb : Hid (∃ β, cntB kd x y = β ∧ ((kd = 1 ∧ y = 0 ∧ β = false) ∨ (kd = 1 ∧ y ≠ 0 ∧ (y != x) = β) ∨ (kd ≠ 1 ∧ β = false))) := by
    refine ⟨_, rfl, ?_⟩
    unfold cntB
    by_cases h1 : kd = 1
    · by_cases h2 : y = 0
      · exact .inl ⟨h1, h2, by simp [h2]⟩
      · exact .inr (.inl ⟨h1, h2, by rw [Bool.eq_iff_iff]; simp [h1, h2]⟩)
    · exact .inr (.inr ⟨h1, by simp [h1]⟩)
  unfold ListPost at htg hrt
  generalize annB rs kd x y = ck at hck hrc
  generalize targB rs kd x = ts at htg hrt hlen
  obtain ⟨β, hβ, hcase⟩ := hcb.out
  rw [hβ] at hct
  have HFX := Lib.hid hfx
  have HCK := Lib.hid hck
  have HRC := Lib.hid hrc
  have HCT := Lib.hid hct
  have HTG := Lib.hid htg
  have HRT := Lib.hid hrt
  have ht60 : ts.length ≤ 60 := by omega
  have eqβ : (β == β) = true := by simp
  have eqc : (ck == ck) = true := by simp
  clear hfx hck hrc hct htg hrt hlen hcb hβ hs hsr hI hf hrl k0 k1 rP hnew
  rcases hcase with ⟨rfl, rfl, rfl⟩ | ⟨rfl, h2, h3⟩ | ⟨h1, rfl⟩
  · have t1 : True := trivial
    go_wp2_with fail
    have hold := Lib.hid (show ∀ W', Kept [] w1 W' → (fun w' => Kept [] w1 w' ∧ w'.cell? ⟨R, 0, none⟩ = some (.int .i64 x) ∧ w'.cell? ⟨R, 1, none⟩ = some (.int .i64 0)) W' from fun W' kq => ⟨kq, by simpa using (rP1.kept kq (by simp)).cell 0, by simpa using (rP1.kept kq (by simp)).cell 1⟩)
    have kq0 : Kept [] w1 w1.drew := (Kept.refl _ _).drew
    refine wp_region_pick (fun w' => Kept [] w1 w' ∧ w'.cell? ⟨R, 0, none⟩ = some (.int .i64 x) ∧ w'.cell? ⟨R, 1, none⟩ = some (.int .i64 0)) (by kernel_rfl) (hold.out _ kq0) ?_
    simp only [numbered, List.length_cons, List.length_nil, Nat.reduceAdd]
    clear rP1 p0 p1
    refine pick_call (by decide +kernel) (by rfl) (fun K hK => ?_)
    go_simp
    go_at_call 6
    refine (HFX.out _ kq0).mono ?_
    rintro e q1 ⟨rfl, j1⟩
    have kq1 : Kept [] w1 q1 := kq0.trans j1
    (try dsimp only)
    refine hK _ _ (hold.out _ kq1) ?_
    clear hK K
    repeat (first
      | (refine pick_take0 (v := ?_) rfl (by decide +kernel) (fun _ _ _ h => h) (by rfl) ?_ ?_; rotate_left; (intro w hSw; (try dsimp only at hSw); go_simp; try with_reducible rfl); go_frame)
      | (refine pick_skip0 (by decide +kernel) (fun _ _ _ h => h) (by rfl) ?_; go_frame)
      | (refine pick_take1 (v := ?_) rfl (by decide +kernel) (fun _ _ _ h => h) (by rfl) ?_ ?_; rotate_left; (intro w hSw; (try dsimp only at hSw); go_simp; try with_reducible rfl); go_frame)
      | (refine pick_take2 (v := ?_) rfl (by decide +kernel) (fun _ _ _ h => h) (by rfl) ?_ ?_; rotate_left; (intro w hSw; (try dsimp only at hSw); go_simp; try with_reducible rfl); go_frame)
      | (refine pick_take3 (v := ?_) rfl (by decide +kernel) (fun _ _ _ h => h) (by rfl) ?_ ?_; rotate_left; (intro w hSw; (try dsimp only at hSw); go_simp; try with_reducible rfl); go_frame))
    refine pick_call (by decide +kernel) (by rfl) (fun K hK => ?_)
    go_simp
    go_at_call 8
    refine (HCK.out _ kq1).mono ?_
    rintro e q2 ⟨rfl, j2⟩
    have kq2 : Kept [] w1 q2 := kq1.trans j2
    (try dsimp only)
    refine hK _ _ (hold.out _ kq2) ?_
    clear hK K
    repeat (first
      | (refine pick_take0 (v := ?_) rfl (by decide +kernel) (fun _ _ _ h => h) (by rfl) ?_ ?_; rotate_left; (intro w hSw; (try dsimp only at hSw); go_simp; try with_reducible rfl); go_frame)
      | (refine pick_skip0 (by decide +kernel) (fun _ _ _ h => h) (by rfl) ?_; go_frame)
      | (refine pick_take1 (v := ?_) rfl (by decide +kernel) (fun _ _ _ h => h) (by rfl) ?_ ?_; rotate_left; (intro w hSw; (try dsimp only at hSw); go_simp; try with_reducible rfl); go_frame)
      | (refine pick_take2 (v := ?_) rfl (by decide +kernel) (fun _ _ _ h => h) (by rfl) ?_ ?_; rotate_left; (intro w hSw; (try dsimp only at hSw); go_simp; try with_reducible rfl); go_frame)
      | (refine pick_take3 (v := ?_) rfl (by decide +kernel) (fun _ _ _ h => h) (by rfl) ?_ ?_; rotate_left; (intro w hSw; (try dsimp only at hSw); go_simp; try with_reducible rfl); go_frame))
    refine pick_call (by decide +kernel) (by rfl) (fun K hK => ?_)
    go_simp
    go_at_call 9
    refine (HRC.out _ kq2).mono ?_
    rintro e qq ⟨rfl, rfl⟩
    have kq3 := kq2
    (try dsimp only)
    refine hK _ _ (hold.out _ kq3) ?_
    clear hK K
    repeat (first
      | (refine pick_take0 (v := ?_) rfl (by decide +kernel) (fun _ _ _ h => h) (by rfl) ?_ ?_; rotate_left; (intro w hSw; (try dsimp only at hSw); go_simp; try with_reducible rfl); go_frame)
      | (refine pick_skip0 (by decide +kernel) (fun _ _ _ h => h) (by rfl) ?_; go_frame)
      | (refine pick_take1 (v := ?_) rfl (by decide +kernel) (fun _ _ _ h => h) (by rfl) ?_ ?_; rotate_left; (intro w hSw; (try dsimp only at hSw); go_simp; try with_reducible rfl); go_frame)
      | (refine pick_take2 (v := ?_) rfl (by decide +kernel) (fun _ _ _ h => h) (by rfl) ?_ ?_; rotate_left; (intro w hSw; (try dsimp only at hSw); go_simp; try with_reducible rfl); go_frame)
      | (refine pick_take3 (v := ?_) rfl (by decide +kernel) (fun _ _ _ h => h) (by rfl) ?_ ?_; rotate_left; (intro w hSw; (try dsimp only at hSw); go_simp; try with_reducible rfl); go_frame))
    refine pick_call (by decide +kernel) (by rfl) (fun K hK => ?_)
    go_simp
    go_at_call 10
    refine (HCT.out q2).mono ?_
    rintro e qq ⟨rfl, rfl⟩
    have kq4 := kq3
    (try dsimp only)
    refine hK _ _ (hold.out _ kq4) ?_
    clear hK K
    repeat (first
      | (refine pick_take0 (v := ?_) rfl (by decide +kernel) (fun _ _ _ h => h) (by rfl) ?_ ?_; rotate_left; (intro w hSw; (try dsimp only at hSw); go_simp; try with_reducible rfl); go_frame)
      | (refine pick_skip0 (by decide +kernel) (fun _ _ _ h => h) (by rfl) ?_; go_frame)
      | (refine pick_take1 (v := ?_) rfl (by decide +kernel) (fun _ _ _ h => h) (by rfl) ?_ ?_; rotate_left; (intro w hSw; (try dsimp only at hSw); go_simp; try with_reducible rfl); go_frame)
      | (refine pick_take2 (v := ?_) rfl (by decide +kernel) (fun _ _ _ h => h) (by rfl) ?_ ?_; rotate_left; (intro w hSw; (try dsimp only at hSw); go_simp; try with_reducible rfl); go_frame)
      | (refine pick_take3 (v := ?_) rfl (by decide +kernel) (fun _ _ _ h => h) (by rfl) ?_ ?_; rotate_left; (intro w hSw; (try dsimp only at hSw); go_simp; try with_reducible rfl); go_frame))
    refine pick_call (by decide +kernel) (by rfl) (fun K hK => ?_)
    go_simp
    go_at_call 12
    refine (HTG.out q2 kq2).mono ?_
    rintro e q5 ⟨A5, c5, rfl, hs5, j5⟩
    have kq5 : Kept [] w1 q5 := kq2.trans j5
    (try dsimp only)
    refine hK _ _ (hold.out _ kq5) ?_
    clear hK K
    repeat (first
      | (refine pick_take0 (v := ?_) rfl (by decide +kernel) (fun _ _ _ h => h) (by rfl) ?_ ?_; rotate_left; (intro w hSw; (try dsimp only at hSw); go_simp; try with_reducible rfl); go_frame)
      | (refine pick_skip0 (by decide +kernel) (fun _ _ _ h => h) (by rfl) ?_; go_frame)
      | (refine pick_take1 (v := ?_) rfl (by decide +kernel) (fun _ _ _ h => h) (by rfl) ?_ ?_; rotate_left; (intro w hSw; (try dsimp only at hSw); go_simp; try with_reducible rfl); go_frame)
      | (refine pick_take2 (v := ?_) rfl (by decide +kernel) (fun _ _ _ h => h) (by rfl) ?_ ?_; rotate_left; (intro w hSw; (try dsimp only at hSw); go_simp; try with_reducible rfl); go_frame)
      | (refine pick_take3 (v := ?_) rfl (by decide +kernel) (fun _ _ _ h => h) (by rfl) ?_ ?_; rotate_left; (intro w hSw; (try dsimp only at hSw); go_simp; try with_reducible rfl); go_frame))
    refine pick_call (by decide +kernel) (by rfl) (fun K hK => ?_)
    go_simp
    go_at_call 13
    refine (HRT.out q5 kq5).mono ?_
    rintro e q6 ⟨A6, c6, rfl, hs6, j6⟩
    have kq6 : Kept [] w1 q6 := kq5.trans j6
    (try dsimp only)
    refine hK _ _ (hold.out _ kq6) ?_
    clear hK K
    repeat (first
      | (refine pick_take0 (v := ?_) rfl (by decide +kernel) (fun _ _ _ h => h) (by rfl) ?_ ?_; rotate_left; (intro w hSw; (try dsimp only at hSw); go_simp; try with_reducible rfl); go_frame)
      | (refine pick_skip0 (by decide +kernel) (fun _ _ _ h => h) (by rfl) ?_; go_frame)
      | (refine pick_take1 (v := ?_) rfl (by decide +kernel) (fun _ _ _ h => h) (by rfl) ?_ ?_; rotate_left; (intro w hSw; (try dsimp only at hSw); go_simp; try with_reducible rfl); go_frame)
      | (refine pick_take2 (v := ?_) rfl (by decide +kernel) (fun _ _ _ h => h) (by rfl) ?_ ?_; rotate_left; (intro w hSw; (try dsimp only at hSw); go_simp; try with_reducible rfl); go_frame)
      | (refine pick_take3 (v := ?_) rfl (by decide +kernel) (fun _ _ _ h => h) (by rfl) ?_ ?_; rotate_left; (intro w hSw; (try dsimp only at hSw); go_simp; try with_reducible rfl); go_frame))
    refine pick_call (by decide +kernel) (by rfl) (fun K hK => ?_)
    go_simp
    go_at_call 11
    refine (refSame04_yes A5 A6 ts.length ts.length c5 c6 ts q6 (hs5.kept j6) hs6 rfl rfl (by omega)).mono ?_
    rintro e q7 ⟨rfl, j7⟩
    have kq7 : Kept [] w1 q7 := kq6.trans j7
    (try dsimp only)
    refine hK _ _ (hold.out _ kq7) ?_
    clear hK K
    repeat (first
      | (refine pick_take0 (v := ?_) rfl (by decide +kernel) (fun _ _ _ h => h) (by rfl) ?_ ?_; rotate_left; (intro w hSw; (try dsimp only at hSw); go_simp; try with_reducible rfl); go_frame)
      | (refine pick_skip0 (by decide +kernel) (fun _ _ _ h => h) (by rfl) ?_; go_frame)
      | (refine pick_take1 (v := ?_) rfl (by decide +kernel) (fun _ _ _ h => h) (by rfl) ?_ ?_; rotate_left; (intro w hSw; (try dsimp only at hSw); go_simp; try with_reducible rfl); go_frame)
      | (refine pick_take2 (v := ?_) rfl (by decide +kernel) (fun _ _ _ h => h) (by rfl) ?_ ?_; rotate_left; (intro w hSw; (try dsimp only at hSw); go_simp; try with_reducible rfl); go_frame)
      | (refine pick_take3 (v := ?_) rfl (by decide +kernel) (fun _ _ _ h => h) (by rfl) ?_ ?_; rotate_left; (intro w hSw; (try dsimp only at hSw); go_simp; try with_reducible rfl); go_frame))
    refine pick_call (by decide +kernel) (by rfl) (fun K hK => ?_)
    go_simp
    go_at_call 8
    refine (annotCheck_nil 1 x 0 q7).mono ?_
    rintro e qq ⟨rfl, rfl⟩
    have kq8 := kq7
    (try dsimp only)
    refine hK _ _ (hold.out _ kq8) ?_
    clear hK K
    repeat (first
      | (refine pick_take0 (v := ?_) rfl (by decide +kernel) (fun _ _ _ h => h) (by rfl) ?_ ?_; rotate_left; (intro w hSw; (try dsimp only at hSw); go_simp; try with_reducible rfl); go_frame)
      | (refine pick_skip0 (by decide +kernel) (fun _ _ _ h => h) (by rfl) ?_; go_frame)
      | (refine pick_take1 (v := ?_) rfl (by decide +kernel) (fun _ _ _ h => h) (by rfl) ?_ ?_; rotate_left; (intro w hSw; (try dsimp only at hSw); go_simp; try with_reducible rfl); go_frame)
      | (refine pick_take2 (v := ?_) rfl (by decide +kernel) (fun _ _ _ h => h) (by rfl) ?_ ?_; rotate_left; (intro w hSw; (try dsimp only at hSw); go_simp; try with_reducible rfl); go_frame)
      | (refine pick_take3 (v := ?_) rfl (by decide +kernel) (fun _ _ _ h => h) (by rfl) ?_ ?_; rotate_left; (intro w hSw; (try dsimp only at hSw); go_simp; try with_reducible rfl); go_frame))
    refine pick_call (by decide +kernel) (by rfl) (fun K hK => ?_)
    go_simp
    go_at_call 12
    refine (annotTargets_nil 1 x q7).mono ?_
    rintro e qq ⟨rfl, rfl⟩
    have kq9 := kq8
    (try dsimp only)
    refine hK _ _ (hold.out _ kq9) ?_
    clear hK K
    repeat (first
      | (refine pick_take0 (v := ?_) rfl (by decide +kernel) (fun _ _ _ h => h) (by rfl) ?_ ?_; rotate_left; (intro w hSw; (try dsimp only at hSw); go_simp; try with_reducible rfl); go_frame)
      | (refine pick_skip0 (by decide +kernel) (fun _ _ _ h => h) (by rfl) ?_; go_frame)
      | (refine pick_take1 (v := ?_) rfl (by decide +kernel) (fun _ _ _ h => h) (by rfl) ?_ ?_; rotate_left; (intro w hSw; (try dsimp only at hSw); go_simp; try with_reducible rfl); go_frame)
      | (refine pick_take2 (v := ?_) rfl (by decide +kernel) (fun _ _ _ h => h) (by rfl) ?_ ?_; rotate_left; (intro w hSw; (try dsimp only at hSw); go_simp; try with_reducible rfl); go_frame)
      | (refine pick_take3 (v := ?_) rfl (by decide +kernel) (fun _ _ _ h => h) (by rfl) ?_ ?_; rotate_left; (intro w hSw; (try dsimp only at hSw); go_simp; try with_reducible rfl); go_frame))
    refine pick_done (by decide +kernel) ?_
    clear hold
    go_wp2
    go_ret
    exact ⟨rfl, kk1.trans kq9⟩
  · have h2' : (y != 0) = true := by simpa using h2
    clear h2
    go_wp2_with fail
    have hold := Lib.hid (show ∀ W', Kept [] w1 W' → (fun w' => Kept [] w1 w' ∧ w'.cell? ⟨R, 0, none⟩ = some (.int .i64 x) ∧ w'.cell? ⟨R, 1, none⟩ = some (.int .i64 y)) W' from fun W' kq => ⟨kq, by simpa using (rP1.kept kq (by simp)).cell 0, by simpa using (rP1.kept kq (by simp)).cell 1⟩)
    have kq0 : Kept [] w1 w1.drew := (Kept.refl _ _).drew
    refine wp_region_pick (fun w' => Kept [] w1 w' ∧ w'.cell? ⟨R, 0, none⟩ = some (.int .i64 x) ∧ w'.cell? ⟨R, 1, none⟩ = some (.int .i64 y)) (by kernel_rfl) (hold.out _ kq0) ?_
    simp only [numbered, List.length_cons, List.length_nil, Nat.reduceAdd]
    clear rP1 p0 p1
    refine pick_call (by decide +kernel) (by rfl) (fun K hK => ?_)
    go_simp
    go_at_call 6
    refine (HFX.out _ kq0).mono ?_
    rintro e q1 ⟨rfl, j1⟩
    have kq1 : Kept [] w1 q1 := kq0.trans j1
    (try dsimp only)
    refine hK _ _ (hold.out _ kq1) ?_
    clear hK K
    repeat (first
      | (refine pick_take0 (v := ?_) rfl (by decide +kernel) (fun _ _ _ h => h) (by rfl) ?_ ?_; rotate_left; (intro w hSw; (try dsimp only at hSw); go_simp; try with_reducible rfl); go_frame)
      | (refine pick_skip0 (by decide +kernel) (fun _ _ _ h => h) (by rfl) ?_; go_frame)
      | (refine pick_take1 (v := ?_) rfl (by decide +kernel) (fun _ _ _ h => h) (by rfl) ?_ ?_; rotate_left; (intro w hSw; (try dsimp only at hSw); go_simp; try with_reducible rfl); go_frame)
      | (refine pick_take2 (v := ?_) rfl (by decide +kernel) (fun _ _ _ h => h) (by rfl) ?_ ?_; rotate_left; (intro w hSw; (try dsimp only at hSw); go_simp; try with_reducible rfl); go_frame)
      | (refine pick_take3 (v := ?_) rfl (by decide +kernel) (fun _ _ _ h => h) (by rfl) ?_ ?_; rotate_left; (intro w hSw; (try dsimp only at hSw); go_simp; try with_reducible rfl); go_frame))
    refine pick_call (by decide +kernel) (by rfl) (fun K hK => ?_)
    go_simp
    go_at_call 8
    refine (HCK.out _ kq1).mono ?_
    rintro e q2 ⟨rfl, j2⟩
    have kq2 : Kept [] w1 q2 := kq1.trans j2
    (try dsimp only)
    refine hK _ _ (hold.out _ kq2) ?_
    clear hK K
    repeat (first
      | (refine pick_take0 (v := ?_) rfl (by decide +kernel) (fun _ _ _ h => h) (by rfl) ?_ ?_; rotate_left; (intro w hSw; (try dsimp only at hSw); go_simp; try with_reducible rfl); go_frame)
      | (refine pick_skip0 (by decide +kernel) (fun _ _ _ h => h) (by rfl) ?_; go_frame)
      | (refine pick_take1 (v := ?_) rfl (by decide +kernel) (fun _ _ _ h => h) (by rfl) ?_ ?_; rotate_left; (intro w hSw; (try dsimp only at hSw); go_simp; try with_reducible rfl); go_frame)
      | (refine pick_take2 (v := ?_) rfl (by decide +kernel) (fun _ _ _ h => h) (by rfl) ?_ ?_; rotate_left; (intro w hSw; (try dsimp only at hSw); go_simp; try with_reducible rfl); go_frame)
      | (refine pick_take3 (v := ?_) rfl (by decide +kernel) (fun _ _ _ h => h) (by rfl) ?_ ?_; rotate_left; (intro w hSw; (try dsimp only at hSw); go_simp; try with_reducible rfl); go_frame))
    refine pick_call (by decide +kernel) (by rfl) (fun K hK => ?_)
    go_simp
    go_at_call 9
    refine (HRC.out _ kq2).mono ?_
    rintro e qq ⟨rfl, rfl⟩
    have kq3 := kq2
    (try dsimp only)
    refine hK _ _ (hold.out _ kq3) ?_
    clear hK K
    repeat (first
      | (refine pick_take0 (v := ?_) rfl (by decide +kernel) (fun _ _ _ h => h) (by rfl) ?_ ?_; rotate_left; (intro w hSw; (try dsimp only at hSw); go_simp; try with_reducible rfl); go_frame)
      | (refine pick_skip0 (by decide +kernel) (fun _ _ _ h => h) (by rfl) ?_; go_frame)
      | (refine pick_take1 (v := ?_) rfl (by decide +kernel) (fun _ _ _ h => h) (by rfl) ?_ ?_; rotate_left; (intro w hSw; (try dsimp only at hSw); go_simp; try with_reducible rfl); go_frame)
      | (refine pick_take2 (v := ?_) rfl (by decide +kernel) (fun _ _ _ h => h) (by rfl) ?_ ?_; rotate_left; (intro w hSw; (try dsimp only at hSw); go_simp; try with_reducible rfl); go_frame)
      | (refine pick_take3 (v := ?_) rfl (by decide +kernel) (fun _ _ _ h => h) (by rfl) ?_ ?_; rotate_left; (intro w hSw; (try dsimp only at hSw); go_simp; try with_reducible rfl); go_frame))
    refine pick_call (by decide +kernel) (by rfl) (fun K hK => ?_)
    go_simp
    go_at_call 10
    refine (HCT.out q2).mono ?_
    rintro e qq ⟨rfl, rfl⟩
    have kq4 := kq3
    (try dsimp only)
    refine hK _ _ (hold.out _ kq4) ?_
    clear hK K
    repeat (first
      | (refine pick_take0 (v := ?_) rfl (by decide +kernel) (fun _ _ _ h => h) (by rfl) ?_ ?_; rotate_left; (intro w hSw; (try dsimp only at hSw); go_simp; try with_reducible rfl); go_frame)
      | (refine pick_skip0 (by decide +kernel) (fun _ _ _ h => h) (by rfl) ?_; go_frame)
      | (refine pick_take1 (v := ?_) rfl (by decide +kernel) (fun _ _ _ h => h) (by rfl) ?_ ?_; rotate_left; (intro w hSw; (try dsimp only at hSw); go_simp; try with_reducible rfl); go_frame)
      | (refine pick_take2 (v := ?_) rfl (by decide +kernel) (fun _ _ _ h => h) (by rfl) ?_ ?_; rotate_left; (intro w hSw; (try dsimp only at hSw); go_simp; try with_reducible rfl); go_frame)
      | (refine pick_take3 (v := ?_) rfl (by decide +kernel) (fun _ _ _ h => h) (by rfl) ?_ ?_; rotate_left; (intro w hSw; (try dsimp only at hSw); go_simp; try with_reducible rfl); go_frame))
    refine pick_call (by decide +kernel) (by rfl) (fun K hK => ?_)
    go_simp
    go_at_call 12
    refine (HTG.out q2 kq2).mono ?_
    rintro e q5 ⟨A5, c5, rfl, hs5, j5⟩
    have kq5 : Kept [] w1 q5 := kq2.trans j5
    (try dsimp only)
    refine hK _ _ (hold.out _ kq5) ?_
    clear hK K
    repeat (first
      | (refine pick_take0 (v := ?_) rfl (by decide +kernel) (fun _ _ _ h => h) (by rfl) ?_ ?_; rotate_left; (intro w hSw; (try dsimp only at hSw); go_simp; try with_reducible rfl); go_frame)
      | (refine pick_skip0 (by decide +kernel) (fun _ _ _ h => h) (by rfl) ?_; go_frame)
      | (refine pick_take1 (v := ?_) rfl (by decide +kernel) (fun _ _ _ h => h) (by rfl) ?_ ?_; rotate_left; (intro w hSw; (try dsimp only at hSw); go_simp; try with_reducible rfl); go_frame)
      | (refine pick_take2 (v := ?_) rfl (by decide +kernel) (fun _ _ _ h => h) (by rfl) ?_ ?_; rotate_left; (intro w hSw; (try dsimp only at hSw); go_simp; try with_reducible rfl); go_frame)
      | (refine pick_take3 (v := ?_) rfl (by decide +kernel) (fun _ _ _ h => h) (by rfl) ?_ ?_; rotate_left; (intro w hSw; (try dsimp only at hSw); go_simp; try with_reducible rfl); go_frame))
    refine pick_call (by decide +kernel) (by rfl) (fun K hK => ?_)
    go_simp
    go_at_call 13
    refine (HRT.out q5 kq5).mono ?_
    rintro e q6 ⟨A6, c6, rfl, hs6, j6⟩
    have kq6 : Kept [] w1 q6 := kq5.trans j6
    (try dsimp only)
    refine hK _ _ (hold.out _ kq6) ?_
    clear hK K
    repeat (first
      | (refine pick_take0 (v := ?_) rfl (by decide +kernel) (fun _ _ _ h => h) (by rfl) ?_ ?_; rotate_left; (intro w hSw; (try dsimp only at hSw); go_simp; try with_reducible rfl); go_frame)
      | (refine pick_skip0 (by decide +kernel) (fun _ _ _ h => h) (by rfl) ?_; go_frame)
      | (refine pick_take1 (v := ?_) rfl (by decide +kernel) (fun _ _ _ h => h) (by rfl) ?_ ?_; rotate_left; (intro w hSw; (try dsimp only at hSw); go_simp; try with_reducible rfl); go_frame)
      | (refine pick_take2 (v := ?_) rfl (by decide +kernel) (fun _ _ _ h => h) (by rfl) ?_ ?_; rotate_left; (intro w hSw; (try dsimp only at hSw); go_simp; try with_reducible rfl); go_frame)
      | (refine pick_take3 (v := ?_) rfl (by decide +kernel) (fun _ _ _ h => h) (by rfl) ?_ ?_; rotate_left; (intro w hSw; (try dsimp only at hSw); go_simp; try with_reducible rfl); go_frame))
    refine pick_call (by decide +kernel) (by rfl) (fun K hK => ?_)
    go_simp
    go_at_call 11
    refine (refSame04_yes A5 A6 ts.length ts.length c5 c6 ts q6 (hs5.kept j6) hs6 rfl rfl (by omega)).mono ?_
    rintro e q7 ⟨rfl, j7⟩
    have kq7 : Kept [] w1 q7 := kq6.trans j7
    (try dsimp only)
    refine hK _ _ (hold.out _ kq7) ?_
    clear hK K
    repeat (first
      | (refine pick_take0 (v := ?_) rfl (by decide +kernel) (fun _ _ _ h => h) (by rfl) ?_ ?_; rotate_left; (intro w hSw; (try dsimp only at hSw); go_simp; try with_reducible rfl); go_frame)
      | (refine pick_skip0 (by decide +kernel) (fun _ _ _ h => h) (by rfl) ?_; go_frame)
      | (refine pick_take1 (v := ?_) rfl (by decide +kernel) (fun _ _ _ h => h) (by rfl) ?_ ?_; rotate_left; (intro w hSw; (try dsimp only at hSw); go_simp; try with_reducible rfl); go_frame)
      | (refine pick_take2 (v := ?_) rfl (by decide +kernel) (fun _ _ _ h => h) (by rfl) ?_ ?_; rotate_left; (intro w hSw; (try dsimp only at hSw); go_simp; try with_reducible rfl); go_frame)
      | (refine pick_take3 (v := ?_) rfl (by decide +kernel) (fun _ _ _ h => h) (by rfl) ?_ ?_; rotate_left; (intro w hSw; (try dsimp only at hSw); go_simp; try with_reducible rfl); go_frame))
    refine pick_call (by decide +kernel) (by rfl) (fun K hK => ?_)
    go_simp
    go_at_call 8
    refine (annotCheck_nil 1 x y q7).mono ?_
    rintro e qq ⟨rfl, rfl⟩
    have kq8 := kq7
    (try dsimp only)
    refine hK _ _ (hold.out _ kq8) ?_
    clear hK K
    repeat (first
      | (refine pick_take0 (v := ?_) rfl (by decide +kernel) (fun _ _ _ h => h) (by rfl) ?_ ?_; rotate_left; (intro w hSw; (try dsimp only at hSw); go_simp; try with_reducible rfl); go_frame)
      | (refine pick_skip0 (by decide +kernel) (fun _ _ _ h => h) (by rfl) ?_; go_frame)
      | (refine pick_take1 (v := ?_) rfl (by decide +kernel) (fun _ _ _ h => h) (by rfl) ?_ ?_; rotate_left; (intro w hSw; (try dsimp only at hSw); go_simp; try with_reducible rfl); go_frame)
      | (refine pick_take2 (v := ?_) rfl (by decide +kernel) (fun _ _ _ h => h) (by rfl) ?_ ?_; rotate_left; (intro w hSw; (try dsimp only at hSw); go_simp; try with_reducible rfl); go_frame)
      | (refine pick_take3 (v := ?_) rfl (by decide +kernel) (fun _ _ _ h => h) (by rfl) ?_ ?_; rotate_left; (intro w hSw; (try dsimp only at hSw); go_simp; try with_reducible rfl); go_frame))
    refine pick_call (by decide +kernel) (by rfl) (fun K hK => ?_)
    go_simp
    go_at_call 12
    refine (annotTargets_nil 1 x q7).mono ?_
    rintro e qq ⟨rfl, rfl⟩
    have kq9 := kq8
    (try dsimp only)
    refine hK _ _ (hold.out _ kq9) ?_
    clear hK K
    repeat (first
      | (refine pick_take0 (v := ?_) rfl (by decide +kernel) (fun _ _ _ h => h) (by rfl) ?_ ?_; rotate_left; (intro w hSw; (try dsimp only at hSw); go_simp; try with_reducible rfl); go_frame)
      | (refine pick_skip0 (by decide +kernel) (fun _ _ _ h => h) (by rfl) ?_; go_frame)
      | (refine pick_take1 (v := ?_) rfl (by decide +kernel) (fun _ _ _ h => h) (by rfl) ?_ ?_; rotate_left; (intro w hSw; (try dsimp only at hSw); go_simp; try with_reducible rfl); go_frame)
      | (refine pick_take2 (v := ?_) rfl (by decide +kernel) (fun _ _ _ h => h) (by rfl) ?_ ?_; rotate_left; (intro w hSw; (try dsimp only at hSw); go_simp; try with_reducible rfl); go_frame)
      | (refine pick_take3 (v := ?_) rfl (by decide +kernel) (fun _ _ _ h => h) (by rfl) ?_ ?_; rotate_left; (intro w hSw; (try dsimp only at hSw); go_simp; try with_reducible rfl); go_frame))
    refine pick_done (by decide +kernel) ?_
    clear hold
    go_wp2
    go_ret
    exact ⟨rfl, kk1.trans kq9⟩
  · have h1' : (kd == 1) = false := by simpa using h1
    have h1'' : decide (kd = 1) = false := by simpa using h1
    clear h1
    go_wp2_with fail
    have hold := Lib.hid (show ∀ W', Kept [] w1 W' → (fun w' => Kept [] w1 w' ∧ w'.cell? ⟨R, 0, none⟩ = some (.int .i64 x) ∧ w'.cell? ⟨R, 1, none⟩ = some (.int .i64 y)) W' from fun W' kq => ⟨kq, by simpa using (rP1.kept kq (by simp)).cell 0, by simpa using (rP1.kept kq (by simp)).cell 1⟩)
    have kq0 : Kept [] w1 w1.drew := (Kept.refl _ _).drew
    refine wp_region_pick (fun w' => Kept [] w1 w' ∧ w'.cell? ⟨R, 0, none⟩ = some (.int .i64 x) ∧ w'.cell? ⟨R, 1, none⟩ = some (.int .i64 y)) (by kernel_rfl) (hold.out _ kq0) ?_
    simp only [numbered, List.length_cons, List.length_nil, Nat.reduceAdd]
    clear rP1 p0 p1
    refine pick_call (by decide +kernel) (by rfl) (fun K hK => ?_)
    go_simp
    go_at_call 6
    refine (HFX.out _ kq0).mono ?_
    rintro e q1 ⟨rfl, j1⟩
    have kq1 : Kept [] w1 q1 := kq0.trans j1
    (try dsimp only)
    refine hK _ _ (hold.out _ kq1) ?_
    clear hK K
    repeat (first
      | (refine pick_take0 (v := ?_) rfl (by decide +kernel) (fun _ _ _ h => h) (by rfl) ?_ ?_; rotate_left; (intro w hSw; (try dsimp only at hSw); go_simp; try with_reducible rfl); go_frame)
      | (refine pick_skip0 (by decide +kernel) (fun _ _ _ h => h) (by rfl) ?_; go_frame)
      | (refine pick_take1 (v := ?_) rfl (by decide +kernel) (fun _ _ _ h => h) (by rfl) ?_ ?_; rotate_left; (intro w hSw; (try dsimp only at hSw); go_simp; try with_reducible rfl); go_frame)
      | (refine pick_take2 (v := ?_) rfl (by decide +kernel) (fun _ _ _ h => h) (by rfl) ?_ ?_; rotate_left; (intro w hSw; (try dsimp only at hSw); go_simp; try with_reducible rfl); go_frame)
      | (refine pick_take3 (v := ?_) rfl (by decide +kernel) (fun _ _ _ h => h) (by rfl) ?_ ?_; rotate_left; (intro w hSw; (try dsimp only at hSw); go_simp; try with_reducible rfl); go_frame))
    refine pick_call (by decide +kernel) (by rfl) (fun K hK => ?_)
    go_simp
    go_at_call 8
    refine (HCK.out _ kq1).mono ?_
    rintro e q2 ⟨rfl, j2⟩
    have kq2 : Kept [] w1 q2 := kq1.trans j2
    (try dsimp only)
    refine hK _ _ (hold.out _ kq2) ?_
    clear hK K
    repeat (first
      | (refine pick_take0 (v := ?_) rfl (by decide +kernel) (fun _ _ _ h => h) (by rfl) ?_ ?_; rotate_left; (intro w hSw; (try dsimp only at hSw); go_simp; try with_reducible rfl); go_frame)
      | (refine pick_skip0 (by decide +kernel) (fun _ _ _ h => h) (by rfl) ?_; go_frame)
      | (refine pick_take1 (v := ?_) rfl (by decide +kernel) (fun _ _ _ h => h) (by rfl) ?_ ?_; rotate_left; (intro w hSw; (try dsimp only at hSw); go_simp; try with_reducible rfl); go_frame)
      | (refine pick_take2 (v := ?_) rfl (by decide +kernel) (fun _ _ _ h => h) (by rfl) ?_ ?_; rotate_left; (intro w hSw; (try dsimp only at hSw); go_simp; try with_reducible rfl); go_frame)
      | (refine pick_take3 (v := ?_) rfl (by decide +kernel) (fun _ _ _ h => h) (by rfl) ?_ ?_; rotate_left; (intro w hSw; (try dsimp only at hSw); go_simp; try with_reducible rfl); go_frame))
    refine pick_call (by decide +kernel) (by rfl) (fun K hK => ?_)
    go_simp
    go_at_call 9
    refine (HRC.out _ kq2).mono ?_
    rintro e qq ⟨rfl, rfl⟩
    have kq3 := kq2
    (try dsimp only)
    refine hK _ _ (hold.out _ kq3) ?_
    clear hK K
    repeat (first
      | (refine pick_take0 (v := ?_) rfl (by decide +kernel) (fun _ _ _ h => h) (by rfl) ?_ ?_; rotate_left; (intro w hSw; (try dsimp only at hSw); go_simp; try with_reducible rfl); go_frame)
      | (refine pick_skip0 (by decide +kernel) (fun _ _ _ h => h) (by rfl) ?_; go_frame)
      | (refine pick_take1 (v := ?_) rfl (by decide +kernel) (fun _ _ _ h => h) (by rfl) ?_ ?_; rotate_left; (intro w hSw; (try dsimp only at hSw); go_simp; try with_reducible rfl); go_frame)
      | (refine pick_take2 (v := ?_) rfl (by decide +kernel) (fun _ _ _ h => h) (by rfl) ?_ ?_; rotate_left; (intro w hSw; (try dsimp only at hSw); go_simp; try with_reducible rfl); go_frame)
      | (refine pick_take3 (v := ?_) rfl (by decide +kernel) (fun _ _ _ h => h) (by rfl) ?_ ?_; rotate_left; (intro w hSw; (try dsimp only at hSw); go_simp; try with_reducible rfl); go_frame))
    refine pick_call (by decide +kernel) (by rfl) (fun K hK => ?_)
    go_simp
    go_at_call 10
    refine (HCT.out q2).mono ?_
    rintro e qq ⟨rfl, rfl⟩
    have kq4 := kq3
    (try dsimp only)
    refine hK _ _ (hold.out _ kq4) ?_
    clear hK K
    repeat (first
      | (refine pick_take0 (v := ?_) rfl (by decide +kernel) (fun _ _ _ h => h) (by rfl) ?_ ?_; rotate_left; (intro w hSw; (try dsimp only at hSw); go_simp; try with_reducible rfl); go_frame)
      | (refine pick_skip0 (by decide +kernel) (fun _ _ _ h => h) (by rfl) ?_; go_frame)
      | (refine pick_take1 (v := ?_) rfl (by decide +kernel) (fun _ _ _ h => h) (by rfl) ?_ ?_; rotate_left; (intro w hSw; (try dsimp only at hSw); go_simp; try with_reducible rfl); go_frame)
      | (refine pick_take2 (v := ?_) rfl (by decide +kernel) (fun _ _ _ h => h) (by rfl) ?_ ?_; rotate_left; (intro w hSw; (try dsimp only at hSw); go_simp; try with_reducible rfl); go_frame)
      | (refine pick_take3 (v := ?_) rfl (by decide +kernel) (fun _ _ _ h => h) (by rfl) ?_ ?_; rotate_left; (intro w hSw; (try dsimp only at hSw); go_simp; try with_reducible rfl); go_frame))
    refine pick_call (by decide +kernel) (by rfl) (fun K hK => ?_)
    go_simp
    go_at_call 12
    refine (HTG.out q2 kq2).mono ?_
    rintro e q5 ⟨A5, c5, rfl, hs5, j5⟩
    have kq5 : Kept [] w1 q5 := kq2.trans j5
    (try dsimp only)
    refine hK _ _ (hold.out _ kq5) ?_
    clear hK K
    repeat (first
      | (refine pick_take0 (v := ?_) rfl (by decide +kernel) (fun _ _ _ h => h) (by rfl) ?_ ?_; rotate_left; (intro w hSw; (try dsimp only at hSw); go_simp; try with_reducible rfl); go_frame)
      | (refine pick_skip0 (by decide +kernel) (fun _ _ _ h => h) (by rfl) ?_; go_frame)
      | (refine pick_take1 (v := ?_) rfl (by decide +kernel) (fun _ _ _ h => h) (by rfl) ?_ ?_; rotate_left; (intro w hSw; (try dsimp only at hSw); go_simp; try with_reducible rfl); go_frame)
      | (refine pick_take2 (v := ?_) rfl (by decide +kernel) (fun _ _ _ h => h) (by rfl) ?_ ?_; rotate_left; (intro w hSw; (try dsimp only at hSw); go_simp; try with_reducible rfl); go_frame)
      | (refine pick_take3 (v := ?_) rfl (by decide +kernel) (fun _ _ _ h => h) (by rfl) ?_ ?_; rotate_left; (intro w hSw; (try dsimp only at hSw); go_simp; try with_reducible rfl); go_frame))
    refine pick_call (by decide +kernel) (by rfl) (fun K hK => ?_)
    go_simp
    go_at_call 13
    refine (HRT.out q5 kq5).mono ?_
    rintro e q6 ⟨A6, c6, rfl, hs6, j6⟩
    have kq6 : Kept [] w1 q6 := kq5.trans j6
    (try dsimp only)
    refine hK _ _ (hold.out _ kq6) ?_
    clear hK K
    repeat (first
      | (refine pick_take0 (v := ?_) rfl (by decide +kernel) (fun _ _ _ h => h) (by rfl) ?_ ?_; rotate_left; (intro w hSw; (try dsimp only at hSw); go_simp; try with_reducible rfl); go_frame)
      | (refine pick_skip0 (by decide +kernel) (fun _ _ _ h => h) (by rfl) ?_; go_frame)
      | (refine pick_take1 (v := ?_) rfl (by decide +kernel) (fun _ _ _ h => h) (by rfl) ?_ ?_; rotate_left; (intro w hSw; (try dsimp only at hSw); go_simp; try with_reducible rfl); go_frame)
      | (refine pick_take2 (v := ?_) rfl (by decide +kernel) (fun _ _ _ h => h) (by rfl) ?_ ?_; rotate_left; (intro w hSw; (try dsimp only at hSw); go_simp; try with_reducible rfl); go_frame)
      | (refine pick_take3 (v := ?_) rfl (by decide +kernel) (fun _ _ _ h => h) (by rfl) ?_ ?_; rotate_left; (intro w hSw; (try dsimp only at hSw); go_simp; try with_reducible rfl); go_frame))
    refine pick_call (by decide +kernel) (by rfl) (fun K hK => ?_)
    go_simp
    go_at_call 11
    refine (refSame04_yes A5 A6 ts.length ts.length c5 c6 ts q6 (hs5.kept j6) hs6 rfl rfl (by omega)).mono ?_
    rintro e q7 ⟨rfl, j7⟩
    have kq7 : Kept [] w1 q7 := kq6.trans j7
    (try dsimp only)
    refine hK _ _ (hold.out _ kq7) ?_
    clear hK K
    repeat (first
      | (refine pick_take0 (v := ?_) rfl (by decide +kernel) (fun _ _ _ h => h) (by rfl) ?_ ?_; rotate_left; (intro w hSw; (try dsimp only at hSw); go_simp; try with_reducible rfl); go_frame)
      | (refine pick_skip0 (by decide +kernel) (fun _ _ _ h => h) (by rfl) ?_; go_frame)
      | (refine pick_take1 (v := ?_) rfl (by decide +kernel) (fun _ _ _ h => h) (by rfl) ?_ ?_; rotate_left; (intro w hSw; (try dsimp only at hSw); go_simp; try with_reducible rfl); go_frame)
      | (refine pick_take2 (v := ?_) rfl (by decide +kernel) (fun _ _ _ h => h) (by rfl) ?_ ?_; rotate_left; (intro w hSw; (try dsimp only at hSw); go_simp; try with_reducible rfl); go_frame)
      | (refine pick_take3 (v := ?_) rfl (by decide +kernel) (fun _ _ _ h => h) (by rfl) ?_ ?_; rotate_left; (intro w hSw; (try dsimp only at hSw); go_simp; try with_reducible rfl); go_frame))
    refine pick_call (by decide +kernel) (by rfl) (fun K hK => ?_)
    go_simp
    go_at_call 8
    refine (annotCheck_nil kd x y q7).mono ?_
    rintro e qq ⟨rfl, rfl⟩
    have kq8 := kq7
    (try dsimp only)
    refine hK _ _ (hold.out _ kq8) ?_
    clear hK K
    repeat (first
      | (refine pick_take0 (v := ?_) rfl (by decide +kernel) (fun _ _ _ h => h) (by rfl) ?_ ?_; rotate_left; (intro w hSw; (try dsimp only at hSw); go_simp; try with_reducible rfl); go_frame)
      | (refine pick_skip0 (by decide +kernel) (fun _ _ _ h => h) (by rfl) ?_; go_frame)
      | (refine pick_take1 (v := ?_) rfl (by decide +kernel) (fun _ _ _ h => h) (by rfl) ?_ ?_; rotate_left; (intro w hSw; (try dsimp only at hSw); go_simp; try with_reducible rfl); go_frame)
      | (refine pick_take2 (v := ?_) rfl (by decide +kernel) (fun _ _ _ h => h) (by rfl) ?_ ?_; rotate_left; (intro w hSw; (try dsimp only at hSw); go_simp; try with_reducible rfl); go_frame)
      | (refine pick_take3 (v := ?_) rfl (by decide +kernel) (fun _ _ _ h => h) (by rfl) ?_ ?_; rotate_left; (intro w hSw; (try dsimp only at hSw); go_simp; try with_reducible rfl); go_frame))
    refine pick_call (by decide +kernel) (by rfl) (fun K hK => ?_)
    go_simp
    go_at_call 12
    refine (annotTargets_nil kd x q7).mono ?_
    rintro e qq ⟨rfl, rfl⟩
    have kq9 := kq8
    (try dsimp only)
    refine hK _ _ (hold.out _ kq9) ?_
    clear hK K
    repeat (first
      | (refine pick_take0 (v := ?_) rfl (by decide +kernel) (fun _ _ _ h => h) (by rfl) ?_ ?_; rotate_left; (intro w hSw; (try dsimp only at hSw); go_simp; try with_reducible rfl); go_frame)
      | (refine pick_skip0 (by decide +kernel) (fun _ _ _ h => h) (by rfl) ?_; go_frame)
      | (refine pick_take1 (v := ?_) rfl (by decide +kernel) (fun _ _ _ h => h) (by rfl) ?_ ?_; rotate_left; (intro w hSw; (try dsimp only at hSw); go_simp; try with_reducible rfl); go_frame)
      | (refine pick_take2 (v := ?_) rfl (by decide +kernel) (fun _ _ _ h => h) (by rfl) ?_ ?_; rotate_left; (intro w hSw; (try dsimp only at hSw); go_simp; try with_reducible rfl); go_frame)
      | (refine pick_take3 (v := ?_) rfl (by decide +kernel) (fun _ _ _ h => h) (by rfl) ?_ ?_; rotate_left; (intro w hSw; (try dsimp only at hSw); go_simp; try with_reducible rfl); go_frame))
    refine pick_done (by decide +kernel) ?_
    clear hold
    go_wp2
    go_ret
    exact ⟨rfl, kk1.trans kq9⟩
end Go.Proofs.YtnhdikoigpmnkaaDoor
