/- kraalref12: Same and All, of what is the same. -/
import Derived.Test.YthnoohghjcfghaaWalkRefObjects
import Derived.Test.YthnoohghjcfghaaRef2
import Derived.Test.YthnoohghjcfghaaNum
namespace Go.Proofs.Ythnoohghjcfghaa
open Go.RowKit

/-- Kinds and values are no more than a memory's words. -/
def Ob.Small (o : Ob) : Prop := o.ks.length ≤ 16384 ∧ o.vs.length ≤ 16384
theorem Ob.zero_small : Ob.zero.Small := ⟨Nat.zero_le _, Nat.zero_le _⟩
theorem oneN_small {xs : List Int} {ls : List (List Int)} {K : Nat} (hx : xs.length ≤ 16384) : (oneN xs ls K).1.Small := by
  unfold oneN
  split
  · exact Ob.zero_small
  · split
    · exact Ob.zero_small
    · split
      · exact Ob.zero_small
      · refine ⟨?_, ?_⟩ <;> simp only [List.length_take] <;> omega
theorem oneB_small {xs : List Int} {ls : List (List Int)} {a : Int} (hx : xs.length ≤ 16384) : (oneB xs ls a).1.Small := by
  unfold oneB
  split
  · exact oneN_small hx
  · exact Ob.zero_small
theorem thingB_small {xs : List Int} {ls : List (List Int)} {r : RunZ} (hx : xs.length ≤ 16384) : (thingB xs ls r).1.Small := by
  unfold thingB
  split
  · split
    · exact oneN_small hx
    · exact oneN_small hx
  · exact Ob.zero_small
theorem objsB_small {xs : List Int} {ls : List (List Int)} {rs : List RunZ} (hx : xs.length ≤ 16384) : ∀ o ∈ (objsB xs ls rs).1, o.Small := by
  unfold objsB
  split
  · simp
  · intro o ho
    obtain ⟨r, _, rfl⟩ := List.mem_map.1 ho
    exact thingB_small hx

set_option maxRecDepth 100000 in
set_option maxHeartbeats 4000000 in
theorem refSame12_any (l1 l2 : ObL) (w : World) (X1 X2 : Nat → Prop) (h : l1.o = l2.o) (hsm : l1.o.Small) (h1 : Lies w X1 l1) (h2 : Lies w X2 l2) :
    Calls Try.prog 11 #[.agg l1.cells.toArray, .agg l2.cells.toArray] w (FixedPost w) := by
  obtain ⟨⟨oat, ⟨oar, okd, oty, onn⟩, oks, ovs⟩, ka, kc, va, vc⟩ := l1
  obtain ⟨o2, kb, kd, vb, vd⟩ := l2
  simp only at h
  subst h
  obtain ⟨hk1, hv1⟩ := h1
  obtain ⟨hk2, hv2⟩ := h2
  have hk1 := hk1.sl
  have hv1 := hv1.sl
  have hk2 := hk2.sl
  have hv2 := hv2.sl
  obtain ⟨hsk, hsv⟩ := hsm
  simp only [ObL.cells] at hk1 hv1 hk2 hv2 hsk hsv ⊢
  have kW := ((Kept.refl [] w).alloc (.cells #[.int .i64 oat, .int .i64 0, .bool oar, .int .i64 okd, .int .i64 oty, .int .i64 onn, .slice ka oks.length kc, .slice va ovs.length vc] 35)).alloc (.cells #[.int .i64 oat, .int .i64 0, .bool oar, .int .i64 okd, .int .i64 oty, .int .i64 onn, .slice kb oks.length kd, .slice vb ovs.length vd] 35)
  have rA := (Row.new w 35 [.int .i64 oat, .int .i64 0, .bool oar, .int .i64 okd, .int .i64 oty, .int .i64 onn, .slice ka oks.length kc, .slice va ovs.length vc]).alloc (.cells #[.int .i64 oat, .int .i64 0, .bool oar, .int .i64 okd, .int .i64 oty, .int .i64 onn, .slice kb oks.length kd, .slice vb ovs.length vd] 35)
  have rB := Row.new (w.alloc (.cells #[.int .i64 oat, .int .i64 0, .bool oar, .int .i64 okd, .int .i64 oty, .int .i64 onn, .slice ka oks.length kc, .slice va ovs.length vc] 35)) 35 [.int .i64 oat, .int .i64 0, .bool oar, .int .i64 okd, .int .i64 oty, .int .i64 onn, .slice kb oks.length kd, .slice vb ovs.length vd]
  simp only [World.size_alloc] at rB
  have hgu := fun op x y => run_guard_head op x y oar oar okd oty onn okd oty onn
  have heq := fun w => run_neq_head ⟨oar, okd, oty, onn⟩ ⟨oar, okd, oty, onn⟩ w
  rw [show eqH ⟨oar, okd, oty, onn⟩ ⟨oar, okd, oty, onn⟩ = true by simp [eqH_iff]] at heq
  simp only [Bool.not_true] at heq
  go_enter Try.func11, Try.ntmps11
  go_wp2_with fail
  obtain ⟨R, hR⟩ : ∃ R, w.heap.size = R := ⟨_, rfl⟩
  rw [hR] at rA rB ⊢
  generalize ((w.alloc (.cells #[.int .i64 oat, .int .i64 0, .bool oar, .int .i64 okd, .int .i64 oty, .int .i64 onn, .slice ka oks.length kc, .slice va ovs.length vc] 35)).alloc (.cells #[.int .i64 oat, .int .i64 0, .bool oar, .int .i64 okd, .int .i64 oty, .int .i64 onn, .slice kb oks.length kd, .slice vb ovs.length vd] 35)) = W at rA rB kW ⊢
  clear hR
  go_loopw [5] (fun i wr => ∃ (j : Nat), j ≤ oks.length ∧ i = .int .i64 j ∧ Kept [] W wr) (fun i _ => oks.length - (intOf i).toNat)
  case atStart => exact ⟨0, Nat.zero_le _, rfl, Kept.refl _ _⟩
  case round =>
    obtain ⟨j, hj, rfl, hkr⟩ := hrel
    have rAr := rA.kept hkr (by simp)
    have rBr := rB.kept hkr (by simp)
    have c6 : wr.cell? ⟨R, 6, none⟩ = some (.slice ka oks.length kc) := by simpa using rAr.cell 6
    have c7 : wr.cell? ⟨R, 7, none⟩ = some (.slice va ovs.length vc) := by simpa using rAr.cell 7
    have e6 : wr.cell? ⟨R + 1, 6, none⟩ = some (.slice kb oks.length kd) := by simpa using rBr.cell 6
    have e7 : wr.cell? ⟨R + 1, 7, none⟩ = some (.slice vb ovs.length vd) := by simpa using rBr.cell 7
    by_cases hlt : j < oks.length
    · obtain ⟨b1, o1, rfl, q1⟩ := (hk1.kept (kW.trans hkr)).cell hlt
      obtain ⟨b2, o2, rfl, q2⟩ := (hk2.kept (kW.trans hkr)).cell hlt
      have hjl : (j : Int) < (oks.length : Int) := by omega
      generalize oks[j]?.getD 0 = z at q1 q2
      go_wp2_with fail
      go_quiet (fail)
      go_wp2
      go_roundw
      case rel => exact ⟨j + 1, by omega, by go_num, hkr.drewN _⟩
      case measure => simp [intOf]; omega
    · have hjl : ¬ (j : Int) < (oks.length : Int) := by omega
      have k2 := kW.trans hkr
      go_wp2_with fail
      refine (refSame_any va vb vc vd ovs ovs wr (hv1.kept k2) (hv2.kept k2) hsv).mono ?_
      rintro e w6 ⟨rfl, k6⟩
      rw [show decide (ovs = ovs) = true by simp]
      go_wp2
      go_ret
      exact ⟨rfl, k2.trans k6⟩

set_option maxRecDepth 100000 in
set_option maxHeartbeats 8000000 in
theorem refAll12_any (a1 a2 : Option Addr) (p1 p2 : Nat) (L1 L2 : List ObL) (w : World) (X1 X2 : Nat → Prop) (hm : L1.map (·.o) = L2.map (·.o)) (hsm : ∀ l ∈ L1, l.o.Small) (h1 : SlS ObL.cells 8 w a1 L1) (h2 : SlS ObL.cells 8 w a2 L2) (hl1 : ∀ l ∈ L1, Lies w X1 l) (hl2 : ∀ l ∈ L2, Lies w X2 l) (hl : L1.length ≤ 1099511627776) :
    Calls Try.prog 14 #[.slice a1 L1.length p1, .slice a2 L2.length p2] w (FixedPost w) := by
  have hlen : L2.length = L1.length := by have := congrArg List.length hm; simpa using this.symm
  rw [hlen]
  have hne : ((L1.length : Int) != (L1.length : Int)) = false := by simp
  go_enter Try.func14, Try.ntmps14
  go_wp2_with fail
  go_loopw [5] (fun i wr => ∃ (j : Nat), j ≤ L1.length ∧ i = .int .i64 j ∧ Kept [] w wr) (fun i _ => L1.length - (intOf i).toNat)
  case atStart => exact ⟨0, Nat.zero_le _, rfl, Kept.refl _ _⟩
  case round =>
    obtain ⟨j, hj, rfl, hkr⟩ := hrel
    by_cases hlt : j < L1.length
    · obtain ⟨b1, o1, rfl, hb1, hc1⟩ := (h1.kept hkr).cell hlt
      obtain ⟨b2, o2, rfl, hb2, hc2⟩ := (h2.kept hkr).cell (j := j) (by omega)
      have hjl : (j : Int) < (L1.length : Int) := by omega
      have hli1 := (hl1 _ (List.getElem_mem hlt)).kept (S := []) hkr (by simp)
      have hli2 := (hl2 _ (List.getElem_mem (l := L2) (n := j) (by omega))).kept (S := []) hkr (by simp)
      have hso := hsm _ (List.getElem_mem hlt)
      have ho : L1[j].o = (L2[j]'(by omega)).o := by
        have h : (L1.map (·.o))[j]? = (L2.map (·.o))[j]? := by rw [hm]
        rw [List.getElem?_map, List.getElem?_map, List.getElem?_eq_getElem hlt, List.getElem?_eq_getElem (by omega)] at h
        simpa using h
      obtain ⟨x1, hx1⟩ : ∃ x, L1[j] = x := ⟨_, rfl⟩
      obtain ⟨x2, hx2⟩ : ∃ x, L2[j]'(by omega) = x := ⟨_, rfl⟩
      rw [hx1] at hc1 hli1 hso ho
      rw [hx2] at hc2 hli2 ho
      have HS := Lib.hid (fun W (hk : Kept [] wr W) => refSame12_any x1 x2 W X1 X2 ho hso (hli1.kept (S := []) hk (by simp)) (hli2.kept (S := []) hk (by simp)))
      obtain ⟨⟨oat, ⟨oar, okd, oty, onn⟩, oks, ovs⟩, ka, kc, va, vc⟩ := x1
      obtain ⟨o2', kb, kd, vb, vd⟩ := x2
      simp only at ho
      subst ho
      simp only [ObL.cells] at hc1 hc2 HS
      clear hx1 hx2 hli1 hli2 hso hm hsm hl1 hl2 hlen
      have a0 : ∀ W', Kept [] wr W' → W'.cell? ⟨b1, o1 + j * 8, none⟩ = some (.int .i64 oat) := fun W' hk => (World.cell?_of_block (w := wr) (a := ⟨b1, o1 + j * 8, none⟩) (hk.block b1 hb1 (by simp))).trans (hc1 0 (by omega))
      have a1 : ∀ W', Kept [] wr W' → W'.cell? ⟨b1, o1 + j * 8 + 1, none⟩ = some (.int .i64 0) := fun W' hk => (World.cell?_of_block (w := wr) (a := ⟨b1, o1 + j * 8 + 1, none⟩) (hk.block b1 hb1 (by simp))).trans (hc1 1 (by omega))
      have a2 : ∀ W', Kept [] wr W' → W'.cell? ⟨b1, o1 + j * 8 + 2, none⟩ = some (.bool oar) := fun W' hk => (World.cell?_of_block (w := wr) (a := ⟨b1, o1 + j * 8 + 2, none⟩) (hk.block b1 hb1 (by simp))).trans (hc1 2 (by omega))
      have a3 : ∀ W', Kept [] wr W' → W'.cell? ⟨b1, o1 + j * 8 + 3, none⟩ = some (.int .i64 okd) := fun W' hk => (World.cell?_of_block (w := wr) (a := ⟨b1, o1 + j * 8 + 3, none⟩) (hk.block b1 hb1 (by simp))).trans (hc1 3 (by omega))
      have a4 : ∀ W', Kept [] wr W' → W'.cell? ⟨b1, o1 + j * 8 + 4, none⟩ = some (.int .i64 oty) := fun W' hk => (World.cell?_of_block (w := wr) (a := ⟨b1, o1 + j * 8 + 4, none⟩) (hk.block b1 hb1 (by simp))).trans (hc1 4 (by omega))
      have a5 : ∀ W', Kept [] wr W' → W'.cell? ⟨b1, o1 + j * 8 + 5, none⟩ = some (.int .i64 onn) := fun W' hk => (World.cell?_of_block (w := wr) (a := ⟨b1, o1 + j * 8 + 5, none⟩) (hk.block b1 hb1 (by simp))).trans (hc1 5 (by omega))
      have a6 : ∀ W', Kept [] wr W' → W'.cell? ⟨b1, o1 + j * 8 + 6, none⟩ = some (.slice ka oks.length kc) := fun W' hk => (World.cell?_of_block (w := wr) (a := ⟨b1, o1 + j * 8 + 6, none⟩) (hk.block b1 hb1 (by simp))).trans (hc1 6 (by omega))
      have a7 : ∀ W', Kept [] wr W' → W'.cell? ⟨b1, o1 + j * 8 + 7, none⟩ = some (.slice va ovs.length vc) := fun W' hk => (World.cell?_of_block (w := wr) (a := ⟨b1, o1 + j * 8 + 7, none⟩) (hk.block b1 hb1 (by simp))).trans (hc1 7 (by omega))
      have d0 : ∀ W', Kept [] wr W' → W'.cell? ⟨b2, o2 + j * 8, none⟩ = some (.int .i64 oat) := fun W' hk => (World.cell?_of_block (w := wr) (a := ⟨b2, o2 + j * 8, none⟩) (hk.block b2 hb2 (by simp))).trans (hc2 0 (by omega))
      have d1 : ∀ W', Kept [] wr W' → W'.cell? ⟨b2, o2 + j * 8 + 1, none⟩ = some (.int .i64 0) := fun W' hk => (World.cell?_of_block (w := wr) (a := ⟨b2, o2 + j * 8 + 1, none⟩) (hk.block b2 hb2 (by simp))).trans (hc2 1 (by omega))
      have d2 : ∀ W', Kept [] wr W' → W'.cell? ⟨b2, o2 + j * 8 + 2, none⟩ = some (.bool oar) := fun W' hk => (World.cell?_of_block (w := wr) (a := ⟨b2, o2 + j * 8 + 2, none⟩) (hk.block b2 hb2 (by simp))).trans (hc2 2 (by omega))
      have d3 : ∀ W', Kept [] wr W' → W'.cell? ⟨b2, o2 + j * 8 + 3, none⟩ = some (.int .i64 okd) := fun W' hk => (World.cell?_of_block (w := wr) (a := ⟨b2, o2 + j * 8 + 3, none⟩) (hk.block b2 hb2 (by simp))).trans (hc2 3 (by omega))
      have d4 : ∀ W', Kept [] wr W' → W'.cell? ⟨b2, o2 + j * 8 + 4, none⟩ = some (.int .i64 oty) := fun W' hk => (World.cell?_of_block (w := wr) (a := ⟨b2, o2 + j * 8 + 4, none⟩) (hk.block b2 hb2 (by simp))).trans (hc2 4 (by omega))
      have d5 : ∀ W', Kept [] wr W' → W'.cell? ⟨b2, o2 + j * 8 + 5, none⟩ = some (.int .i64 onn) := fun W' hk => (World.cell?_of_block (w := wr) (a := ⟨b2, o2 + j * 8 + 5, none⟩) (hk.block b2 hb2 (by simp))).trans (hc2 5 (by omega))
      have d6 : ∀ W', Kept [] wr W' → W'.cell? ⟨b2, o2 + j * 8 + 6, none⟩ = some (.slice kb oks.length kd) := fun W' hk => (World.cell?_of_block (w := wr) (a := ⟨b2, o2 + j * 8 + 6, none⟩) (hk.block b2 hb2 (by simp))).trans (hc2 6 (by omega))
      have d7 : ∀ W', Kept [] wr W' → W'.cell? ⟨b2, o2 + j * 8 + 7, none⟩ = some (.slice vb ovs.length vd) := fun W' hk => (World.cell?_of_block (w := wr) (a := ⟨b2, o2 + j * 8 + 7, none⟩) (hk.block b2 hb2 (by simp))).trans (hc2 7 (by omega))
      have hold := Lib.hid (show ∀ W', Kept [] wr W' → (fun w' => Kept [] wr w' ∧ w'.cell? ⟨b1, o1 + j * 8, none⟩ = some (.int .i64 oat) ∧ w'.cell? ⟨b1, o1 + j * 8 + 1, none⟩ = some (.int .i64 0) ∧ w'.cell? ⟨b1, o1 + j * 8 + 2, none⟩ = some (.bool oar) ∧ w'.cell? ⟨b1, o1 + j * 8 + 3, none⟩ = some (.int .i64 okd) ∧ w'.cell? ⟨b1, o1 + j * 8 + 4, none⟩ = some (.int .i64 oty) ∧ w'.cell? ⟨b1, o1 + j * 8 + 5, none⟩ = some (.int .i64 onn) ∧ w'.cell? ⟨b1, o1 + j * 8 + 6, none⟩ = some (.slice ka oks.length kc) ∧ w'.cell? ⟨b1, o1 + j * 8 + 7, none⟩ = some (.slice va ovs.length vc) ∧ w'.cell? ⟨b2, o2 + j * 8, none⟩ = some (.int .i64 oat) ∧ w'.cell? ⟨b2, o2 + j * 8 + 1, none⟩ = some (.int .i64 0) ∧ w'.cell? ⟨b2, o2 + j * 8 + 2, none⟩ = some (.bool oar) ∧ w'.cell? ⟨b2, o2 + j * 8 + 3, none⟩ = some (.int .i64 okd) ∧ w'.cell? ⟨b2, o2 + j * 8 + 4, none⟩ = some (.int .i64 oty) ∧ w'.cell? ⟨b2, o2 + j * 8 + 5, none⟩ = some (.int .i64 onn) ∧ w'.cell? ⟨b2, o2 + j * 8 + 6, none⟩ = some (.slice kb oks.length kd) ∧ w'.cell? ⟨b2, o2 + j * 8 + 7, none⟩ = some (.slice vb ovs.length vd)) W' from fun W' kq => ⟨kq, a0 W' kq, a1 W' kq, a2 W' kq, a3 W' kq, a4 W' kq, a5 W' kq, a6 W' kq, a7 W' kq, d0 W' kq, d1 W' kq, d2 W' kq, d3 W' kq, d4 W' kq, d5 W' kq, d6 W' kq, d7 W' kq⟩)
      have kk0 : Kept [] wr wr.drew := (Kept.refl _ _).drew
      clear a0 a1 a2 a3 a4 a5 a6 a7 d0 d1 d2 d3 d4 d5 d6 d7 hc1 hc2
      go_wp2_with fail
      refine wp_region_pick (fun w' => Kept [] wr w' ∧ w'.cell? ⟨b1, o1 + j * 8, none⟩ = some (.int .i64 oat) ∧ w'.cell? ⟨b1, o1 + j * 8 + 1, none⟩ = some (.int .i64 0) ∧ w'.cell? ⟨b1, o1 + j * 8 + 2, none⟩ = some (.bool oar) ∧ w'.cell? ⟨b1, o1 + j * 8 + 3, none⟩ = some (.int .i64 okd) ∧ w'.cell? ⟨b1, o1 + j * 8 + 4, none⟩ = some (.int .i64 oty) ∧ w'.cell? ⟨b1, o1 + j * 8 + 5, none⟩ = some (.int .i64 onn) ∧ w'.cell? ⟨b1, o1 + j * 8 + 6, none⟩ = some (.slice ka oks.length kc) ∧ w'.cell? ⟨b1, o1 + j * 8 + 7, none⟩ = some (.slice va ovs.length vc) ∧ w'.cell? ⟨b2, o2 + j * 8, none⟩ = some (.int .i64 oat) ∧ w'.cell? ⟨b2, o2 + j * 8 + 1, none⟩ = some (.int .i64 0) ∧ w'.cell? ⟨b2, o2 + j * 8 + 2, none⟩ = some (.bool oar) ∧ w'.cell? ⟨b2, o2 + j * 8 + 3, none⟩ = some (.int .i64 okd) ∧ w'.cell? ⟨b2, o2 + j * 8 + 4, none⟩ = some (.int .i64 oty) ∧ w'.cell? ⟨b2, o2 + j * 8 + 5, none⟩ = some (.int .i64 onn) ∧ w'.cell? ⟨b2, o2 + j * 8 + 6, none⟩ = some (.slice kb oks.length kd) ∧ w'.cell? ⟨b2, o2 + j * 8 + 7, none⟩ = some (.slice vb ovs.length vd)) (by kernel_rfl) (hold.out _ ((Kept.refl _ _).drew)) ?_
      simp only [numbered, List.length_cons, List.length_nil, Nat.reduceAdd]
      repeat (first
        | (refine pick_take0 (v := ?_) rfl (by decide +kernel) (fun _ _ _ h => h) (by rfl) ?_ ?_; rotate_left; (intro w hSw; (try dsimp only at hSw); go_simp; try with_reducible rfl); go_frame)
        | (refine pick_skip0 (by decide +kernel) (fun _ _ _ h => h) (by rfl) ?_; go_frame)
        | (refine pick_take1 (v := ?_) rfl (by decide +kernel) (fun _ _ _ h => h) (by rfl) ?_ ?_; rotate_left; (intro w hSw; (try dsimp only at hSw); go_simp; try with_reducible rfl); go_frame)
        | (refine pick_take2 (v := ?_) rfl (by decide +kernel) (fun _ _ _ h => h) (by rfl) ?_ ?_; rotate_left; (intro w hSw; (try dsimp only at hSw); go_simp; try with_reducible rfl); go_frame)
        | (refine pick_call (by decide +kernel) (by rfl) (fun K hK => ?_); go_simp
           first
           | (go_at_call 11; refine (HS.out _ (by assumption)).mono ?_; rintro e w4 ⟨rfl, k4⟩; have kq : Kept [] wr w4 := Kept.trans (by assumption) k4)
           (try dsimp only)
           refine hK _ _ (hold.out _ (by assumption)) ?_
           clear hK K))
      refine pick_done (by decide +kernel) ?_
      go_wp2
      go_roundw
      case rel => exact ⟨j + 1, by omega, by go_num, hkr.trans kq⟩
      case measure => simp [intOf]; omega
    · have hjl : ¬ (j : Int) < (L1.length : Int) := by omega
      go_wp2
      go_ret
      exact ⟨rfl, hkr⟩
end Go.Proofs.Ythnoohghjcfghaa
