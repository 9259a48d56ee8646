/- Package kraalref04: Give. -/
import Derived.Test.YtbncfpglofmejaaIdsRef
import Derived.Deep.RegionLaw
namespace Go.Proofs.Ytbncfpglofmejaa
open Go.RowKit

theorem low_none {a n : Nat} (h : n ≤ a) : ∀ i, i ∈ [a] → i < n → i ∈ ([] : List Nat) := fun i hi hlt => by
  rcases List.mem_singleton.1 hi with rfl
  omega
theorem held1 {W w' : World} {B : Nat} {t : TypeId} {v0 v1 v2 : Value} (hr : Row W B t [v0, v1, v2]) (hk : Kept [] W w') : w'.cell? ⟨B, 1, none⟩ = some v1 ∧ Kept [B] W w' :=
  ⟨by simpa using (hr.kept hk (by simp)).cell 1, hk.any⟩

def RefGive (A : Option Addr) (xs : List Int) (last : Nat) (most : Int) (w : World) (e : Ending) (w' : World) : Prop :=
  ∃ A' cap', e = .returned (.tuple #[refB A' (giveB most last xs).1.length cap' (giveB most last xs).2.1 most, .int .i64 (giveB most last xs).2.2.1, .int .i64 (giveB most last xs).2.2.2]) ∧ RefSl A A' (giveB most last xs).1 w w'

set_option maxRecDepth 100000 in
set_option maxHeartbeats 4000000 in
theorem refGive04_any (A : Option Addr) (n cap last : Nat) (most : Int) (xs : List Int) (w : World) (hs : Sl w .i64 A xs) (hn : xs.length = n) (hx : n ≤ 1099511627776) (hl : last < 1099511627776) :
    Calls Try.prog 9 #[refB A n cap last most] w (RefGive A xs last most w) := by
  subst hn
  obtain ⟨i0, hi, hz0, hz1, hz2⟩ := info_parts info_int
  unfold refB
  by_cases hm : most ≤ xs.length
  · obtain ⟨rB, rR, kW, hWz⟩ := two_rows w 27 [.slice A xs.length cap, .int .i64 last, .int .i64 most] [.slice A xs.length cap, .int .i64 last, .int .i64 most]
    go_enter Try.func9, Try.ntmps9
    go_wp2
    (try simp only [Exit.inBlock, Exit.then])
    refine bodyPost_ret (results_cell3 rfl rfl (refB_load rR rfl)) rfl ?_
    exact ⟨A, cap, by rw [giveB_no hm]; rfl, by rw [giveB_no hm]; exact hs.kept kW, .inl rfl, kW⟩
  · have hm' : decide (most ≤ xs.length) = false := by simpa using hm
    obtain ⟨rB, rR, kW, hWz⟩ := two_rows w 27 [.slice A xs.length cap, .int .i64 ((last : Int) + 1), .int .i64 most] [.slice none 0 0, .int .i64 0, .int .i64 0]
    go_enter Try.func9, Try.ntmps9
    go_wp2_with fail
    generalize (w.alloc (.cells #[.slice A xs.length cap, .int .i64 ((last : Int) + 1), .int .i64 most] 27)).alloc (.cells #[.slice none 0 0, .int .i64 0, .int .i64 0] 27) = W at rB rR kW hWz ⊢
    have hsW := hs.kept kW
    obtain ⟨B, hB⟩ : ∃ B, w.heap.size = B := ⟨_, rfl⟩
    rw [hB] at rB rR hWz ⊢
    obtain ⟨H, hH⟩ : ∃ H, W.heap.size = H := ⟨_, rfl⟩
    have HH := Lib.hid hH
    have HB := Lib.hid hB
    have hBH : B + 2 = H := by omega
    have HBH := Lib.hid hBH
    clear hs hB hWz hH hBH
    -- what the region asks of the worlds that it comes through
    have kA1 : ∀ o, Kept [] W (W.alloc o).drew := fun o => ((Kept.refl _ _).alloc o).drew
    have kA2 : ∀ o o', Kept [] W ((W.alloc o).alloc o').drew := fun o o' => (((Kept.refl _ _).alloc o).alloc o').drew
    have c0 : W.cell? ⟨B, 0, none⟩ = some (.slice A xs.length cap) := by simpa using rB.cell 0
    have c01 : ∀ o, (W.alloc o).cell? ⟨B, 0, none⟩ = some (.slice A xs.length cap) := fun o => by simpa using (rB.alloc o).cell 0
    have c02 : ∀ o o', ((W.alloc o).alloc o').cell? ⟨B, 0, none⟩ = some (.slice A xs.length cap) := fun o o' => by simpa using ((rB.alloc o).alloc o').cell 0
    have c1 : W.cell? ⟨B, 1, none⟩ = some (.int .i64 ((last : Int) + 1)) := by simpa using rB.cell 1
    have c11 : ∀ o, (W.alloc o).cell? ⟨B, 1, none⟩ = some (.int .i64 ((last : Int) + 1)) := fun o => by simpa using (rB.alloc o).cell 1
    have f0 := rB.free 0
    have oA : (W.alloc (.cells #[] 3)).drew.ownsRow W.heap.size 3 1 (.slice (some ⟨W.heap.size, 0, none⟩) 0 0) 0 [] := own_kept (own_empty W 3 1 W.heap.size (Nat.le_refl _)) (Kept.refl [] _).drew (by simp)
    have oC : ((W.alloc (.cells #[] 3)).alloc (.cells #[.int .i64 ((last : Int) + 1)] 3)).drew.ownsRow W.heap.size 3 1 (.slice (some ⟨W.heap.size, 0, none⟩) 0 0) 0 [] := own_kept (own_empty W 3 1 W.heap.size (Nat.le_refl _)) ((Kept.refl [] _).alloc _).drew (by simp)
    have oB : ((W.alloc (.cells #[.int .i64 ((last : Int) + 1)] 3)).alloc (.cells #[] 3)).drew.ownsRow W.heap.size 3 1 (.slice (some ⟨W.heap.size + 1, 0, none⟩) 0 0) 0 [] := by
      have := own_kept (own_empty (W.alloc (.cells #[.int .i64 ((last : Int) + 1)] 3)) 3 1 W.heap.size (by simp)) (Kept.refl [] _).drew (by simp)
      simpa using this
    have rC : Row ((W.alloc (.cells #[] 3)).alloc (.cells #[.int .i64 ((last : Int) + 1)] 3)).drew (W.heap.size + 1) 3 [.int .i64 ((last : Int) + 1)] := by
      have := (Row.new (W.alloc (.cells #[] 3)) 3 [.int .i64 ((last : Int) + 1)]).drew
      simpa using this
    have rE : Row ((W.alloc (.cells #[.int .i64 ((last : Int) + 1)] 3)).alloc (.cells #[] 3)).drew W.heap.size 3 [.int .i64 ((last : Int) + 1)] := ((Row.new W 3 [.int .i64 ((last : Int) + 1)]).alloc _).drew
    have hBl : B < W.heap.size := rB.lt
    go_region_law (first
      | (refine step_append_on (by rfl) _ _ _ (by rfl) W.heap.size 3 i0 (.int .i64 0) 1 8 Try.underlying22 hi hz0 hz1 hz2 rfl (by omega) W.heap.size 0 0 [] (by rfl) oA A xs.length cap _ (by rfl) (hsW.kept (kA1 _)).toV int_oneCell (by unfold maxLen; omega) (by omega) (kA1 _).size ?_; intro g1 p1 w1 hown1 hk1 hg1; rw [Nat.zero_add, List.nil_append] at hown1; have kq1 : Kept [] W w1 := (kA1 _).chain hk1 (by simp) (low_none (by omega)); have d1 : w1.cell? ⟨B, 1, none⟩ = some (.int .i64 ((last : Int) + 1)) := (by simpa using (rB.kept kq1 (by simp)).cell 1))
      | (refine step_append_on (by rfl) _ _ _ (by rfl) W.heap.size 3 i0 (.int .i64 0) 1 8 Try.underlying22 hi hz0 hz1 hz2 rfl (by omega) (W.heap.size + 1) 0 0 [] (by rfl) oB A xs.length cap _ (by rfl) (hsW.kept (kA2 _ _)).toV int_oneCell (by unfold maxLen; omega) (by omega) (kA2 _ _).size ?_; intro g1 p1 w1 hown1 hk1 hg1; rw [Nat.zero_add, List.nil_append] at hown1; have kq1 : Kept [] W w1 := (kA2 _ _).chain hk1 (by simp) (low_none (by omega)); have d1 : w1.cell? ⟨B, 1, none⟩ = some (.int .i64 ((last : Int) + 1)) := (by simpa using (rB.kept kq1 (by simp)).cell 1); have sX := (Sl.of_row (k := .i64) (xs := [(last : Int) + 1]) (rE.kept hk1 (by simp))).toV)
      | (refine step_append_on (by rfl) _ _ _ (by rfl) W.heap.size 3 i0 (.int .i64 0) 1 8 Try.underlying22 hi hz0 hz1 hz2 rfl (by omega) W.heap.size 0 0 [] (by rfl) oC A xs.length cap _ (by rfl) (hsW.kept (kA2 _ _)).toV int_oneCell (by unfold maxLen; omega) (by omega) (kA2 _ _).size ?_; intro g1 p1 w1 hown1 hk1 hg1; rw [Nat.zero_add, List.nil_append] at hown1; have kq1 : Kept [] W w1 := (kA2 _ _).chain hk1 (by simp) (low_none (by omega)); have d1 : w1.cell? ⟨B, 1, none⟩ = some (.int .i64 ((last : Int) + 1)) := (by simpa using (rB.kept kq1 (by simp)).cell 1); have sX := (Sl.of_row (k := .i64) (xs := [(last : Int) + 1]) (rC.kept hk1 (by simp))).toV)
      | (refine step_append_on (by rfl) _ _ _ (by rfl) W.heap.size 3 i0 (.int .i64 0) 1 8 Try.underlying22 hi hz0 hz1 hz2 rfl (by omega) g1 xs.length p1 _ (by rfl) hown1 _ 1 1 _ (by rfl) sX int_oneCell (by unfold maxLen; omega) (by omega) (kq1.size) ?_; intro g2 p2 w2 hown2 hk2 hg2; have kq2 : Kept [] W w2 := kq1.chain hk2 (by simp) (low_none (own_ge hown1)); have e0 := (rB.kept kq2 (by simp)).free 0; have e1 : w2.cell? ⟨B, 0, none⟩ = some (.slice A xs.length cap) := (by simpa using (rB.kept kq2 (by simp)).cell 0))
      | (refine step_append_on (by rfl) _ _ _ (by rfl) W.heap.size 3 i0 (.int .i64 0) 1 8 Try.underlying22 hi hz0 hz1 hz2 rfl (by omega) g1 xs.length p1 _ (by rfl) (own_kept hown1 ((Kept.refl [] w1).alloc (.cells #[.int .i64 ((last : Int) + 1)] 3)) (by simp)) _ 1 1 _ (by rfl) (Sl.of_row (k := .i64) (xs := [(last : Int) + 1]) (Row.new w1 3 [.int .i64 ((last : Int) + 1)])).toV int_oneCell (by unfold maxLen; omega) (by omega) (kq1.alloc _).size ?_; intro g2 p2 w2 hown2 hk2 hg2; have kq2 : Kept [] W w2 := (kq1.alloc _).chain hk2 (by simp) (low_none (own_ge hown1)); have e0 := (rB.kept kq2 (by simp)).free 0; have e1 : w2.cell? ⟨B, 0, none⟩ = some (.slice A xs.length cap) := (by simpa using (rB.kept kq2 (by simp)).cell 0)))
    all_goals
      have hBH := HBH.out
      have hHH := HH.out
      have hg2l := own_ge hown2
      have kS := (Kept.refl [B] w2).set (p := ⟨B, 0, none⟩) (.inl (by simp)) (.slice (some ⟨g2, 0, none⟩) (xs.length + 1) p2)
      have rB2 := (rB.kept kq2 (by simp)).set 0 (.slice (some ⟨g2, 0, none⟩) (xs.length + 1) p2)
      have rR2 := (rR.kept kq2 (by simp)).kept kS (by simp)
      have own2 := own_kept hown2 kS (by simp; omega)
      have k2 := kq2.any.trans kS
      clear kS kq2 kq1 hk1 hk2 hown1 hown2 hg1 hg2 kA1 kA2 oA oB oC rC rE c0 c01 c02 c1 c11 f0 rB rR e0 e1 d1
      generalize w2.setCell ⟨B, 0, none⟩ (.slice (some ⟨g2, 0, none⟩) (xs.length + 1) p2) = W2 at rB2 rR2 own2 k2 ⊢
      have c0 : W2.cell? ⟨B, 0, none⟩ = some (.slice (some ⟨g2, 0, none⟩) (xs.length + 1) p2) := by simpa using rB2.cell 0
      have c1 : W2.cell? ⟨B, 1, none⟩ = some (.int .i64 ((last : Int) + 1)) := by simpa using rB2.cell 1
      have c2 : W2.cell? ⟨B, 2, none⟩ = some (.int .i64 most) := by simpa using rB2.cell 2
      have d0 : W2.cell? ⟨B + 1, 0, none⟩ = some (.slice none 0 0) := by simpa using rR2.cell 0
      have d1 : W2.cell? ⟨B + 1, 1, none⟩ = some (.int .i64 0) := by simpa using rR2.cell 1
      have d2 : W2.cell? ⟨B + 1, 2, none⟩ = some (.int .i64 0) := by simpa using rR2.cell 2
      have f0 := rR2.free 0
      have f1 := rR2.free 1
      have f2 := rR2.free 2
      go_wp2_with fail
      go_region_held3 (fun w' => w'.cell? ⟨B, 0, none⟩ = some (.slice (some ⟨g2, 0, none⟩) (xs.length + 1) p2) ∧ w'.cell? ⟨B, 1, none⟩ = some (.int .i64 ((last : Int) + 1)) ∧ w'.cell? ⟨B, 2, none⟩ = some (.int .i64 most)) (go_keep) (fail)
      go_wp2
      have hR := (rR2.set3 (.slice (some ⟨g2, 0, none⟩) (xs.length + 1) p2) (.int .i64 ((last : Int) + 1)) (.int .i64 most)).drew
      have hK := ((Kept.refl [B + 1] W2).set3 (g := B + 1) (.inl (by simp)) (.slice (some ⟨g2, 0, none⟩) (xs.length + 1) p2) (.int .i64 ((last : Int) + 1)) (.int .i64 most)).drew
      (try simp only [Exit.inBlock, Exit.then])
      refine bodyPost_ret (results_cell3 rfl rfl (refB_load hR rfl)) rfl ?_
      have hBe := HB.out
      have hkk : Kept [] w _ := (kW.chain k2 (by simp) (low_none (by omega))).chain hK (by simp) (low_none (by omega))
      have hown := own_kept own2 hK (by simp; omega)
      rw [← List.map_append] at hown
      exact ⟨some ⟨g2, 0, none⟩, p2, by rw [giveB_yes (by omega)]; simp [refB], by rw [giveB_yes (by omega)]; exact Sl.of_own hown, .inr ⟨g2, rfl, by omega⟩, hkk⟩
end Go.Proofs.Ytbncfpglofmejaa
