/- Package words: Move. -/
import Derived.Test.YtkdojplbkhdgdaaHolds
import Derived.Test.YtkdojplbkhdgdaaFalling
import Derived.Test.YtkdojplbkhdgdaaRegion
import Derived.Test.YtkdojplbkhdgdaaMoved
namespace Go.Proofs.Ytkdojplbkhdgdaa
open Go.RowKit Go.Shelf

attribute [local go_sem] Oper.semAt_some

/-- May c words from a on be moved to to? -/
def mayMove (n : Nat) (a c to : Int) : Bool := holdsB n a c && holdsB n to c
def mvB (xs : List Int) (a c to : Int) : List Int := if mayMove xs.length a c to then moved xs a.toNat c.toNat to.toNat else xs
theorem mvB_length (xs : List Int) (a c to : Int) : (mvB xs a c to).length = xs.length := by
  unfold mvB; split
  · exact moved_length _ _ _ _
  · rfl

def MovePost (b g : Nat) (xs : List Int) (a c to : Int) (w : World) (e : Ending) (w' : World) : Prop :=
  e = .returned (.int .i64 (errB (mayMove xs.length a c to))) ∧ IsMem w' b g (mvB xs a c to) ∧ Kept [g] w w'

set_option maxRecDepth 100000 in
set_option maxHeartbeats 2000000 in
theorem move_in (n : Nat) (hn : 3 ≤ n) (b g : Nat) (xs : List Int) (a c to : Int) (w : World) (hm : IsMem w b g xs) (ha : a ≤ 9223372036854775807) (ht : to ≤ 9223372036854775807) :
    CallsIn Fence.wide n Try.prog 14 #[.pointer (some ⟨b, 0, none⟩), .agg #[.int .i64 a, .int .i64 c], .int .i64 to] w (MovePost b g xs a c to w) := by
  have h1 : 1 ≤ n := by omega
  have hx := hm.2.2
  have kW : Kept [] w _ := (((Kept.refl [] w).alloc (.cells #[.pointer (some ⟨b, 0, none⟩)] 24)).alloc (.cells #[.int .i64 a, .int .i64 c] 38)).alloc (.cells #[.int .i64 to] 3)
  have hM := hm.kept kW (by simp) (by simp)
  have rP := ((Row.new w 24 [.pointer (some ⟨b, 0, none⟩)]).alloc (.cells #[.int .i64 a, .int .i64 c] 38)).alloc (.cells #[.int .i64 to] 3)
  have rR := (Row.new (w.alloc (.cells #[.pointer (some ⟨b, 0, none⟩)] 24)) 38 [.int .i64 a, .int .i64 c]).alloc (.cells #[.int .i64 to] 3)
  have rV := Row.new ((w.alloc (.cells #[.pointer (some ⟨b, 0, none⟩)] 24)).alloc (.cells #[.int .i64 a, .int .i64 c] 38)) 3 [.int .i64 to]
  simp only [World.size_alloc] at rR rV
  refine callsIn_of_wp_marks Try.func14 rfl trivial ?_ rfl
  simp only [Try.ntmps14, List.size_toArray, List.length_cons, List.length_nil, Nat.reduceAdd, Nat.reduceSub, Array.replicate_succ, Array.replicate_zero, List.push_toArray, List.append_toArray, List.nil_append, List.cons_append]
  gi_wp2_with fail
  generalize ((w.alloc (.cells #[.pointer (some ⟨b, 0, none⟩)] 24)).alloc (.cells #[.int .i64 a, .int .i64 c] 38)).alloc (.cells #[.int .i64 to] 3) = W0 at kW hM rP rR rV ⊢
  refine ⟨trivial, ?_⟩
  refine (callsIn_wide.2 (holds_any b g xs a c W0 hM ha)).mono ?_
  rintro e W1 ⟨rfl, k1⟩
  have hM1 := hM.kept k1 (by simp) (by simp)
  have rP1 := rP.kept k1 (by simp)
  have rR1 := rR.kept k1 (by simp)
  have rV1 := rV.kept k1 (by simp)
  have kW1 := kW.trans k1
  clear hM rP rR rV k1 kW
  have cP1 : W1.cell? ⟨w.heap.size, 0, none⟩ = some (.pointer (some ⟨b, 0, none⟩)) := by simpa using rP1.cell 0
  have cR0 : W1.cell? ⟨w.heap.size + 1, 0, none⟩ = some (.int .i64 a) := by simpa using rR1.cell 0
  have cR1 : W1.cell? ⟨w.heap.size + 1, 1, none⟩ = some (.int .i64 c) := by simpa using rR1.cell 1
  have cV0 : W1.cell? ⟨w.heap.size + 1 + 1, 0, none⟩ = some (.int .i64 to) := by simpa using rV1.cell 0
  cases hh : holdsB xs.length a c with
  | false =>
    have H := Lib.hid hh
    clear hh
    gi_wp2
    refine ⟨trivial, ?_⟩
    gi_wp2
    exact ⟨_, results_tmp rfl _ _ _, ⟨by simp [mayMove, H.out, errB], by simpa [mvB, mayMove, H.out] using hM1, kW1.any⟩⟩
  | true =>
    have H := Lib.hid hh
    have hd : 0 ≤ a ∧ 0 ≤ c ∧ c ≤ (xs.length : Int) - a := by simpa [holdsB] using hh
    clear hh
    obtain ⟨d0, d1, d2⟩ := hd
    obtain ⟨N, rfl⟩ := Int.eq_ofNat_of_zero_le d1
    gi_wp2_with fail
    refine ⟨trivial, ?_⟩
    refine (callsIn_wide.2 (holds_any b g xs to N W1 hM1 ht)).mono ?_
    rintro e W2 ⟨rfl, k2⟩
    have hM2 := hM1.kept k2 (by simp) (by simp)
    have rP2 := rP1.kept k2 (by simp)
    have rR2 := rR1.kept k2 (by simp)
    have rV2 := rV1.kept k2 (by simp)
    have kW2 := kW1.trans k2
    have hkz := kW1.size
    clear hM1 rP1 rR1 rV1 kW1 k2 cP1 cR0 cR1 cV0
    have cP1 : W2.cell? ⟨w.heap.size, 0, none⟩ = some (.pointer (some ⟨b, 0, none⟩)) := by simpa using rP2.cell 0
    have cR0 : W2.cell? ⟨w.heap.size + 1, 0, none⟩ = some (.int .i64 a) := by simpa using rR2.cell 0
    have cR1 : W2.cell? ⟨w.heap.size + 1, 1, none⟩ = some (.int .i64 N) := by simpa using rR2.cell 1
    have cV0 : W2.cell? ⟨w.heap.size + 1 + 1, 0, none⟩ = some (.int .i64 to) := by simpa using rV2.cell 0
    cases hh2 : holdsB xs.length to N with
    | false =>
      have H2 := Lib.hid hh2
      clear hh2
      gi_wp2
      exact ⟨_, results_tmp rfl _ _ _, ⟨by simp [mayMove, H.out, H2.out, errB], by simpa [mvB, mayMove, H.out, H2.out] using hM2, kW2.any⟩⟩
    | true =>
      have H2 := Lib.hid hh2
      have hd2 : 0 ≤ to ∧ 0 ≤ (N : Int) ∧ (N : Int) ≤ (xs.length : Int) - to := by simpa [holdsB] using hh2
      clear hh2
      obtain ⟨f0, _, f2⟩ := hd2
      obtain ⟨A, rfl⟩ := Int.eq_ofNat_of_zero_le d0
      obtain ⟨T, rfl⟩ := Int.eq_ofNat_of_zero_le f0
      by_cases hlt : A < T
      · skip
        gi_wp2_with fail
        refine ⟨trivial, ?_⟩
        refine (falling_in Fence.wide (n - 1) trivial rfl _ _ _).mono ?_
        rintro e W3 ⟨rfl, rfl⟩
        have kR : Kept [] W2 (W2.alloc (.cells #[.int .i64 A, .int .i64 N] 38)) := (Kept.refl [] W2).alloc _
        have hM3 := hM2.kept kR (by simp) (by simp)
        have rP3 := rP2.kept kR (by simp)
        have rR3 := rR2.kept kR (by simp)
        have rV3 := rV2.kept kR (by simp)
        have rQ := Row.new W2 38 [.int .i64 A, .int .i64 N]
        have kW3 := kW2.trans kR
        have hltb := hm.1.lt
        have hltg := hm.2.1.lt
        have hkz2 := kW2.size
        have hvz := rV2.lt
        clear hM2 rP2 rR2 rV2 kW2
        generalize hW3 : W2.alloc (.cells #[.int .i64 A, .int .i64 N] 38) = W3 at kR hM3 rP3 rR3 rV3 rQ kW3 ⊢
        gi_wp2_with fail
        refine wpIn_range_all 8 rfl h1 rfl trivial (enters_of Try.func27 (by kernel_rfl) rfl) (falling_stops Fence.wide (n - 1) trivial rfl (by omega) W2.heap.size A N (by omega) (by omega) W3 rQ) KeepsB.trans (KeepsB.put rQ.lt)
          (fun pre W => IsMem W b g (mvFold ((T : Int) - A) xs (pre.map (·.1))) ∧ Kept [g] W3 W)
          (OwnFrom.and (Own.from (own_mem _) _) (ownFrom_kept (Nat.le_refl _))) ⟨hM3, Kept.refl _ _⟩ ?assignF ?bodyF ?doneF
        case assignF =>
          intro l x W K hK
          simp only [List.setIfInBounds_toArray, List.set_cons_succ, List.set_cons_zero] at hK ⊢
          gi_wp2
          exact hK
        case bodyF =>
          rintro l pre ⟨x, hx0, hx1⟩ W ⟨hr, hk⟩ _
          obtain ⟨k, rfl⟩ := Int.eq_ofNat_of_zero_le (show 0 ≤ x by omega)
          have hkl : k < xs.length := by omega
          have hsl := mvFold_length ((T : Int) - A) xs (pre.map (·.1))
          have hstep : IsMem (W.setCell ⟨g, T + k - A, none⟩ (.int .u64 ((mvFold ((T : Int) - A) xs (pre.map (·.1)))[k]?.getD 0))) b g (mvFold ((T : Int) - A) xs ((pre ++ [(⟨(k : Int), hx0, hx1⟩ : Pl (A : Int) N)]).map (fun x => x.1))) := by
            rw [List.map_append, List.map_cons, List.map_nil, mvFold_snoc]
            have := hr.set (T + k - A) ((mvFold ((T : Int) - A) xs (pre.map (·.1)))[k]?.getD 0)
            unfold mvStep
            rwa [show ((k : Int) + ((T : Int) - A)).toNat = T + k - A from by omega, show ((k : Int)).toNat = k from by omega]
          have HST := Lib.hid hstep
          clear hstep
          generalize mvFold ((T : Int) - A) xs (pre.map (·.1)) = zs at hr hsl HST
          have cP : W.cell? ⟨w.heap.size, 0, none⟩ = some (.pointer (some ⟨b, 0, none⟩)) := by simpa using (rP3.kept hk (by simp; omega)).cell 0
          have cA : W.cell? ⟨w.heap.size + 1, 0, none⟩ = some (.int .i64 A) := by simpa using (rR3.kept hk (by simp; omega)).cell 0
          have cV : W.cell? ⟨w.heap.size + 1 + 1, 0, none⟩ = some (.int .i64 T) := by simpa using (rV3.kept hk (by simp; omega)).cell 0
          have cB := hr.cellB
          rw [hsl] at cB
          have cG := hr.cellG k (by omega)
          have cH := hr.cellG (T + k - A) (by omega)
          have fG := hr.2.1.free (T + k - A)
          have HS := Lib.hid hsl
          clear hsl
          have s1 : IntKind.i64.wrap ((T : Int) + k) = (T : Int) + k := IntWalk.i64_in _ (by omega)
          have s2 : IntKind.i64.wrap ((T : Int) + k - A) = (T : Int) + k - A := IntWalk.i64_in _ (by omega)
          have s3 : 0 ≤ (T : Int) + k - A := by omega
          have s4 : ((T : Int) + k - A).toNat = T + k - A := by omega
          have s5 : (T : Int) + k - A < xs.length := by omega
          have s6 : (A : Int) ≤ (T : Int) + k := by omega
          simp only [List.setIfInBounds_toArray, List.set_cons_succ, List.set_cons_zero]
          gi_wp2
          refine wpIn_region_still_tail 18 (by kernel_rfl) (by kernel_rfl) (by kernel_rfl) ?_
          simp only [List.take_succ_cons, List.take_zero, List.drop_succ_cons, List.drop_zero]
          repeat still_step
          refine wpStill_nil ?_
          gi_wp2
          refine ⟨(KeepsOthers.setCell _ _ _).trans (KeepsOthers.drew _), ?_, ?_, ?_⟩
          · exact heap_setCell_other W _ _ _ (by simp; omega)
          · exact HST.out
          · exact (hk.set (p := ⟨g, T + k - A, none⟩) (.inl (by simp)) _).drew
        case doneF =>
          rintro D ys W hD hys ⟨hr, hk⟩ hK
          rw [hys] at hr
          unfold handed at hr
          rw [moved_falling xs A N T (by omega) hlt] at hr
          gi_wp2
          refine ⟨by simp, .inl ⟨_, _, rfl, run_takeDeferred hK, ?_⟩⟩
          refine ⟨_, results_tmp rfl _ _ _, ⟨by simp [mayMove, H.out, H2.out, errB], ?_, ?_⟩⟩
          · have := hr.putD hK (.deferred none)
            simpa [mvB, mayMove, H.out, H2.out] using this
          · exact (kW3.any.trans hk).put (.inr (by have := kW3.size; omega)) _
      · skip
        gi_wp2_with fail
        refine ⟨trivial, ?_⟩
        refine (rising_in Fence.wide (n - 1) trivial rfl _ _ _).mono ?_
        rintro e W3 ⟨rfl, rfl⟩
        have kR : Kept [] W2 (W2.alloc (.cells #[.int .i64 A, .int .i64 N] 38)) := (Kept.refl [] W2).alloc _
        have hM3 := hM2.kept kR (by simp) (by simp)
        have rP3 := rP2.kept kR (by simp)
        have rR3 := rR2.kept kR (by simp)
        have rV3 := rV2.kept kR (by simp)
        have rQ := Row.new W2 38 [.int .i64 A, .int .i64 N]
        have kW3 := kW2.trans kR
        have hltb := hm.1.lt
        have hltg := hm.2.1.lt
        have hkz2 := kW2.size
        have hvz := rV2.lt
        clear hM2 rP2 rR2 rV2 kW2
        generalize hW3 : W2.alloc (.cells #[.int .i64 A, .int .i64 N] 38) = W3 at kR hM3 rP3 rR3 rV3 rQ kW3 ⊢
        gi_wp2_with fail
        refine wpIn_range_all 8 rfl h1 rfl trivial (enters_of Try.func26 (by kernel_rfl) rfl) (rising_stops Fence.wide (n - 1) trivial rfl (by omega) W2.heap.size A N (by omega) (by omega) W3 rQ) KeepsB.trans (KeepsB.put rQ.lt)
          (fun pre W => IsMem W b g (mvFold ((T : Int) - A) xs (pre.map (·.1))) ∧ Kept [g] W3 W)
          (OwnFrom.and (Own.from (own_mem _) _) (ownFrom_kept (Nat.le_refl _))) ⟨hM3, Kept.refl _ _⟩ ?assignR ?bodyR ?doneR
        case assignR =>
          intro l x W K hK
          simp only [List.setIfInBounds_toArray, List.set_cons_succ, List.set_cons_zero] at hK ⊢
          gi_wp2
          exact hK
        case bodyR =>
          rintro l pre ⟨x, hx0, hx1⟩ W ⟨hr, hk⟩ _
          obtain ⟨k, rfl⟩ := Int.eq_ofNat_of_zero_le (show 0 ≤ x by omega)
          have hkl : k < xs.length := by omega
          have hsl := mvFold_length ((T : Int) - A) xs (pre.map (·.1))
          have hstep : IsMem (W.setCell ⟨g, T + k - A, none⟩ (.int .u64 ((mvFold ((T : Int) - A) xs (pre.map (·.1)))[k]?.getD 0))) b g (mvFold ((T : Int) - A) xs ((pre ++ [(⟨(k : Int), hx0, hx1⟩ : Pl (A : Int) N)]).map (fun x => x.1))) := by
            rw [List.map_append, List.map_cons, List.map_nil, mvFold_snoc]
            have := hr.set (T + k - A) ((mvFold ((T : Int) - A) xs (pre.map (·.1)))[k]?.getD 0)
            unfold mvStep
            rwa [show ((k : Int) + ((T : Int) - A)).toNat = T + k - A from by omega, show ((k : Int)).toNat = k from by omega]
          have HST := Lib.hid hstep
          clear hstep
          generalize mvFold ((T : Int) - A) xs (pre.map (·.1)) = zs at hr hsl HST
          have cP : W.cell? ⟨w.heap.size, 0, none⟩ = some (.pointer (some ⟨b, 0, none⟩)) := by simpa using (rP3.kept hk (by simp; omega)).cell 0
          have cA : W.cell? ⟨w.heap.size + 1, 0, none⟩ = some (.int .i64 A) := by simpa using (rR3.kept hk (by simp; omega)).cell 0
          have cV : W.cell? ⟨w.heap.size + 1 + 1, 0, none⟩ = some (.int .i64 T) := by simpa using (rV3.kept hk (by simp; omega)).cell 0
          have cB := hr.cellB
          rw [hsl] at cB
          have cG := hr.cellG k (by omega)
          have cH := hr.cellG (T + k - A) (by omega)
          have fG := hr.2.1.free (T + k - A)
          have HS := Lib.hid hsl
          clear hsl
          have s1 : IntKind.i64.wrap ((T : Int) + k) = (T : Int) + k := IntWalk.i64_in _ (by omega)
          have s2 : IntKind.i64.wrap ((T : Int) + k - A) = (T : Int) + k - A := IntWalk.i64_in _ (by omega)
          have s3 : 0 ≤ (T : Int) + k - A := by omega
          have s4 : ((T : Int) + k - A).toNat = T + k - A := by omega
          have s5 : (T : Int) + k - A < xs.length := by omega
          have s6 : (A : Int) ≤ (T : Int) + k := by omega
          simp only [List.setIfInBounds_toArray, List.set_cons_succ, List.set_cons_zero]
          gi_wp2
          refine wpIn_region_still_tail 18 (by kernel_rfl) (by kernel_rfl) (by kernel_rfl) ?_
          simp only [List.take_succ_cons, List.take_zero, List.drop_succ_cons, List.drop_zero]
          repeat still_step
          refine wpStill_nil ?_
          gi_wp2
          refine ⟨(KeepsOthers.setCell _ _ _).trans (KeepsOthers.drew _), ?_, ?_, ?_⟩
          · exact heap_setCell_other W _ _ _ (by simp; omega)
          · exact HST.out
          · exact (hk.set (p := ⟨g, T + k - A, none⟩) (.inl (by simp)) _).drew
        case doneR =>
          rintro D ys W hD hys ⟨hr, hk⟩ hK
          rw [hys] at hr
          unfold handed at hr
          rw [moved_rising xs A N T (by omega) (by omega)] at hr
          gi_wp2
          refine ⟨by simp, .inl ⟨_, _, rfl, run_takeDeferred hK, ?_⟩⟩
          refine ⟨_, results_tmp rfl _ _ _, ⟨by simp [mayMove, H.out, H2.out, errB], ?_, ?_⟩⟩
          · have := hr.putD hK (.deferred none)
            simpa [mvB, mayMove, H.out, H2.out] using this
          · exact (kW3.any.trans hk).put (.inr (by have := kW3.size; omega)) _

theorem move_any (b g : Nat) (xs : List Int) (a c to : Int) (w : World) (hm : IsMem w b g xs) (ha : a ≤ 9223372036854775807) (ht : to ≤ 9223372036854775807) :
    Calls Try.prog 14 #[.pointer (some ⟨b, 0, none⟩), .agg #[.int .i64 a, .int .i64 c], .int .i64 to] w (MovePost b g xs a c to w) := (callsIn_wide (n := 3)).1 (move_in 3 (by omega) b g xs a c to w hm ha ht)
end Go.Proofs.Ytkdojplbkhdgdaa
