/- Package words: Fill. -/
import Derived.Test.YthnoohghjcfghaaHolds
import Derived.Test.YthnoohghjcfghaaIter
import Derived.Test.YthnoohghjcfghaaRegion
namespace Go.Proofs.Ythnoohghjcfghaa
open Go.RowKit Go.Shelf

attribute [local go_sem] Oper.semAt_some

/-- The words with v at all the places l. -/
def setAll (xs : List Int) (v : Int) (l : List Int) : List Int := l.foldl (fun ys at_ => ys.set at_.toNat v) xs
theorem setAll_snoc (xs : List Int) (v : Int) (l : List Int) (x : Int) : setAll xs v (l ++ [x]) = (setAll xs v l).set x.toNat v := by simp [setAll]
theorem setAll_length (xs : List Int) (v : Int) (l : List Int) : (setAll xs v l).length = xs.length := by
  unfold setAll
  induction l generalizing xs with
  | nil => rfl
  | cons x r ih => rw [List.foldl_cons, ih, List.length_set]
/-- The words with c of them, from a on, v. -/
def flB (xs : List Int) (a c v : Int) : List Int := if holdsB xs.length a c then setAll xs v (handed (fun i => a + (i : Nat)) c.toNat) else xs
theorem flB_length (xs : List Int) (a c v : Int) : (flB xs a c v).length = xs.length := by
  unfold flB; split
  · exact setAll_length _ _ _
  · rfl

def FillPost (b g : Nat) (xs : List Int) (a c v : Int) (w : World) (e : Ending) (w' : World) : Prop :=
  e = .returned (.int .i64 (errB (holdsB xs.length a c))) ∧ IsMem w' b g (flB xs a c v) ∧ Kept [g] w w'

set_option maxRecDepth 100000 in
set_option maxHeartbeats 1000000 in
theorem fill_in (n : Nat) (hn : 3 ≤ n) (b g : Nat) (xs : List Int) (a c v : Int) (w : World) (hm : IsMem w b g xs) (ha : a ≤ 9223372036854775807) :
    CallsIn Fence.wide n Try.prog 22 #[.pointer (some ⟨b, 0, none⟩), .agg #[.int .i64 a, .int .i64 c], .int .u64 v] w (FillPost b g xs a c v w) := by
  have h1 : 1 ≤ n := by omega
  have hx := hm.2.2
  have kW : Kept [] w _ := (((Kept.refl [] w).alloc (.cells #[.pointer (some ⟨b, 0, none⟩)] 27)).alloc (.cells #[.int .i64 a, .int .i64 c] 30)).alloc (.cells #[.int .u64 v] 61)
  have hM := hm.kept kW (by simp) (by simp)
  have rP := ((Row.new w 27 [.pointer (some ⟨b, 0, none⟩)]).alloc (.cells #[.int .i64 a, .int .i64 c] 30)).alloc (.cells #[.int .u64 v] 61)
  have rR := (Row.new (w.alloc (.cells #[.pointer (some ⟨b, 0, none⟩)] 27)) 30 [.int .i64 a, .int .i64 c]).alloc (.cells #[.int .u64 v] 61)
  have rV := Row.new ((w.alloc (.cells #[.pointer (some ⟨b, 0, none⟩)] 27)).alloc (.cells #[.int .i64 a, .int .i64 c] 30)) 61 [.int .u64 v]
  simp only [World.size_alloc] at rR rV
  refine callsIn_of_wp_marks Try.func22 rfl trivial ?_ rfl
  simp only [Try.ntmps22, List.size_toArray, List.length_cons, List.length_nil, Nat.reduceAdd, Nat.reduceSub, Array.replicate_succ, Array.replicate_zero, List.push_toArray, List.append_toArray, List.nil_append, List.cons_append]
  gi_wp2_with fail
  generalize ((w.alloc (.cells #[.pointer (some ⟨b, 0, none⟩)] 27)).alloc (.cells #[.int .i64 a, .int .i64 c] 30)).alloc (.cells #[.int .u64 v] 61) = W0 at kW hM rP rR rV ⊢
  refine ⟨trivial, ?_⟩
  refine (callsIn_wide.2 (holds_any b g xs a c W0 hM ha)).mono ?_
  rintro e W1 ⟨rfl, k1⟩
  have hM1 := hM.kept k1 (by simp) (by simp)
  have rP1 := rP.kept k1 (by simp)
  have rR1 := rR.kept k1 (by simp)
  have rV1 := rV.kept k1 (by simp)
  have kW1 := kW.trans k1
  clear hM rP rR rV k1 kW
  have cR0 : W1.cell? ⟨w.heap.size + 1, 0, none⟩ = some (.int .i64 a) := by simpa using rR1.cell 0
  have cR1 : W1.cell? ⟨w.heap.size + 1, 1, none⟩ = some (.int .i64 c) := by simpa using rR1.cell 1
  cases hh : holdsB xs.length a c with
  | false =>
    have H := Lib.hid hh
    clear hh
    gi_wp2
    exact ⟨_, results_tmp rfl _ _ _, ⟨by rw [H.out]; rfl, by simpa [flB, H.out] using hM1, kW1.any⟩⟩
  | true =>
    have H := Lib.hid hh
    have hd : 0 ≤ a ∧ 0 ≤ c ∧ c ≤ (xs.length : Int) - a := by simpa [holdsB] using hh
    clear hh
    obtain ⟨d0, d1, d2⟩ := hd
    obtain ⟨N, rfl⟩ := Int.eq_ofNat_of_zero_le d1
    gi_wp2_with fail
    refine ⟨trivial, ?_⟩
    refine (rising_in Fence.wide (n - 1) trivial rfl _ _ _).mono ?_
    rintro e W2 ⟨rfl, rfl⟩
    have kR : Kept [] W1 (W1.alloc (.cells #[.int .i64 a, .int .i64 N] 30)) := (Kept.refl [] W1).alloc _
    have hM2 := hM1.kept kR (by simp) (by simp)
    have rP2 := rP1.kept kR (by simp)
    have rV2 := rV1.kept kR (by simp)
    have rQ := Row.new W1 30 [.int .i64 a, .int .i64 N]
    have kW2 := kW1.trans kR
    have hB := rP1.lt
    have hlt := hm.1.lt
    have hltg := hm.2.1.lt
    have hkz := kW1.size
    have hvz := rV1.lt
    generalize hW2 : W1.alloc (.cells #[.int .i64 a, .int .i64 N] 30) = W2 at kR hM2 rP2 rV2 rQ kW2 ⊢
    gi_wp2_with fail
    refine wpIn_range_all 7 rfl h1 rfl trivial (enters_of Try.func44 (by kernel_rfl) rfl) (rising_stops Fence.wide (n - 1) trivial rfl (by omega) W1.heap.size a N (by omega) (by omega) W2 rQ) KeepsB.trans (KeepsB.put rQ.lt)
      (fun pre W => IsMem W b g (setAll xs v (pre.map (·.1))) ∧ Kept [g] W2 W)
      (OwnFrom.and (Own.from (own_mem _) _) (ownFrom_kept (Nat.le_refl _))) ⟨hM2, Kept.refl _ _⟩ ?assign ?body ?done
    case assign =>
      intro l x W K hK
      simp only [List.setIfInBounds_toArray, List.set_cons_succ, List.set_cons_zero] at hK ⊢
      gi_wp2
      exact hK
    case body =>
      rintro l pre ⟨x, hx0, hx1⟩ W ⟨hr, hk⟩ _
      obtain ⟨k, rfl⟩ := Int.eq_ofNat_of_zero_le (show 0 ≤ x by omega)
      have hkl : k < xs.length := by omega
      have hsl := setAll_length xs v (pre.map (·.1))
      have cP : W.cell? ⟨w.heap.size, 0, none⟩ = some (.pointer (some ⟨b, 0, none⟩)) := by simpa using (rP2.kept hk (by simp; omega)).cell 0
      have cV : W.cell? ⟨w.heap.size + 1 + 1, 0, none⟩ = some (.int .u64 v) := by simpa using (rV2.kept hk (by simp; omega)).cell 0
      have cB := hr.cellB
      rw [hsl] at cB
      have cG := hr.cellG k (by omega)
      have fG := hr.2.1.free k
      have HS := Lib.hid hsl
      clear hsl
      simp only [List.setIfInBounds_toArray, List.set_cons_succ, List.set_cons_zero]
      gi_wp2
      refine wpIn_region_still_tail 7 (by kernel_rfl) (by kernel_rfl) (by kernel_rfl) ?_
      simp only [List.take_succ_cons, List.take_zero, List.drop_succ_cons, List.drop_zero]
      repeat still_step
      refine wpStill_nil ?_
      gi_wp2
      refine ⟨(KeepsOthers.setCell _ _ _).trans (KeepsOthers.drew _), ?_, ?_, ?_⟩
      · exact heap_setCell_other W _ _ _ (by simp; omega)
      · rw [List.map_append, List.map_cons, List.map_nil, setAll_snoc]
        exact hr.set k v
      · exact (hk.set (p := ⟨g, k, none⟩) (.inl (by simp)) _).drew
    case done =>
      rintro D ys W hD hys ⟨hr, hk⟩ hK
      rw [hys] at hr
      gi_wp2
      refine ⟨by simp, .inl ⟨_, _, rfl, run_takeDeferred hK, ?_⟩⟩
      refine ⟨_, results_tmp rfl _ _ _, ⟨by rw [H.out]; rfl, ?_, ?_⟩⟩
      · have := hr.putD hK (.deferred none)
        simpa [flB, H.out] using this
      · exact (kW2.any.trans hk).put (.inr (by have := kW2.size; omega)) _

theorem fill_any (b g : Nat) (xs : List Int) (a c v : Int) (w : World) (hm : IsMem w b g xs) (ha : a ≤ 9223372036854775807) :
    Calls Try.prog 22 #[.pointer (some ⟨b, 0, none⟩), .agg #[.int .i64 a, .int .i64 c], .int .u64 v] w (FillPost b g xs a c v w) := (callsIn_wide (n := 3)).1 (fill_in 3 (by omega) b g xs a c v w hm ha)
end Go.Proofs.Ythnoohghjcfghaa
