/- Package tree: Walk. -/
import Derived.Test.YtnhdikoigpmnkaaDoorTreeStops
import Derived.Test.YtnhdikoigpmnkaaDoorRange
namespace Go.Proofs.YtnhdikoigpmnkaaDoor
open Go.RowKit Go.Shelf

attribute [local go_sem] Oper.semAt_some

theorem cells_of_own {W : World} {B : Nat} {e : TypeId} {size g n c : Nat} {vs : List Value} (h : W.ownsRow B e size (.slice (some ⟨g, 0, none⟩) n c) n vs) : ∃ o : Obj, W.heap[g]? = some o ∧ o.isCells = true := by
  rcases h.2 with ⟨h, _⟩ | ⟨g', cap', cur, h, _, hb, _⟩
  · cases h
  · simp only [Value.slice.injEq, Option.some.injEq, Addr.mk.injEq, and_true, true_and] at h
    obtain ⟨rfl, rfl⟩ := h
    exact ⟨_, hb, rfl⟩
theorem Sl.keptB {w w' : World} {S : List Nat} {k : IntKind} {g : Nat} {zs : List Int} (h : Sl w k (some ⟨g, 0, none⟩) zs) (hk : Kept S w w') (hn : g ∉ S) : Sl w' k (some ⟨g, 0, none⟩) zs := by
  rcases h with h | ⟨b, off, e, hb, hc⟩
  · exact .inl h
  · cases e
    exact .inr ⟨g, 0, rfl, Nat.lt_of_lt_of_le hb hk.size, fun j hj => (World.cell?_of_block (w := w) (a := ⟨g, 0 + j, none⟩) (hk.block g hb hn)).trans (hc j hj)⟩

set_option maxRecDepth 100000 in
set_option maxHeartbeats 4000000 in
theorem treeAll_in {k : Nat} (n : Nat) (hn : 3 ≤ n) (p g : Nat) (rs : List Rw) (w : World) (h : IsTree w p g rs) (hf : Fine k rs) (hk : k < 1000) :
    CallsIn Fence.wide n Tryd.prog 14 #[.pointer (some ⟨p, 0, none⟩)] w (FreshPost (walkB rs 0) w) := by
  have h1 : 1 ≤ n := by omega
  obtain ⟨i0, hi, hz0, hz1, hz2⟩ := info_parts info_tint
  have hrl := hf.len
  have hc := h.cell
  have hlen := fun ty => h.own.len ty
  refine callsIn_of_wp_marks Tryd.func14 rfl trivial ?_ rfl
  simp only [Tryd.ntmps14, List.size_toArray, List.length_cons, List.length_nil, Nat.reduceAdd, Nat.reduceSub, Array.replicate_succ, Array.replicate_zero, List.push_toArray, List.append_toArray, List.nil_append, List.cons_append]
  gi_wp2_with (gi_at_make; refine wpListIn_make_own _ rfl _ _ 34 rfl w.heap.size 3 i0 (.int .i64 0) 1 Tryd.underlying34 hi hz0 hz1 _ _ _ rs.length rfl rfl rfl (by rw [hz2]; omega) (by unfold maxLen; omega) (Nat.le_refl _) ?_; intro w1 hrow1 hg1)
  obtain ⟨G, hG⟩ : ∃ G, w.heap.size = G := ⟨_, rfl⟩
  rw [hG] at hrow1 ⊢
  have rB1 := Row.new w1 34 [.slice (some ⟨G, 0, none⟩) 0 rs.length]
  have kA : Kept [] w1 _ := (Kept.refl [] w1).alloc (.cells #[.slice (some ⟨G, 0, none⟩) 0 rs.length] 34)
  have hrow2 := own_kept hrow1 kA (by simp)
  have k2 : Kept [] w _ := (Kept.of_grown0 hg1).trans kA
  have hGB : G < w1.heap.size := own_lt hrow1
  obtain ⟨B, hB⟩ : ∃ B, w1.heap.size = B := ⟨_, rfl⟩
  have hWB : (w1.alloc (.cells #[.slice (some ⟨G, 0, none⟩) 0 rs.length] 34)).heap.size = B + 1 := by simp [hB]
  rw [hB] at rB1 hGB ⊢
  generalize w1.alloc (.cells #[.slice (some ⟨G, 0, none⟩) 0 rs.length] 34) = W2 at rB1 kA hrow2 k2 hWB ⊢
  clear hrow1 hg1 kA hc hlen hB
  have hT2 := h.kept k2
  refine ⟨trivial, (callsIn_wide.2 (treeWalk_any p g rs W2 hT2 hf.rise (by omega))).mono ?_⟩
  rintro e W0 ⟨K, b, rfl, rK, hkids, hz, k0⟩
  have rB0 := rB1.kept k0 (by simp)
  have hrow0 := own_kept hrow2 k0 (by simp)
  have kw0 : Kept [] w W0 := k2.trans k0
  have hlo := hkids.above
  have hhi := hkids.under
  rw [hWB] at hkids hlo
  have hwl := hf.walk_len hk
  clear rB1 hrow2 k2 k0 hT2
  gi_wp2
  refine wpIn_range_all 4 rfl h1 rfl trivial (enters_of Tryd.func39 (by kernel_rfl) rfl) (walk1_stops hf hk h.fit [G, B] K (B + 1) K b (n - 1) W0 (by simp; omega) (by simp; omega) (by simp; omega) rK hkids) KeptC.trans (KeptC.put (Nat.le_refl _))
    (fun pre W => Row W B 34 [.slice (some ⟨G, 0, none⟩) pre.length rs.length] ∧ W.ownsRow G 3 1 (.slice (some ⟨G, 0, none⟩) pre.length rs.length) pre.length ((raw pre).map (Value.int .i64)) ∧ Kept [G, B] W0 W)
    (OwnFrom.and (Own.from (own_row _) _) (OwnFrom.and (Own.from (own_owns _ _) _) (ownFrom_kept (Nat.le_refl _)))) ⟨rB0, hrow0, Kept.refl _ _⟩ ?assign ?body ?done
  case assign =>
    intro l x W K hK
    simp only [List.setIfInBounds_toArray, List.set_cons_succ, List.set_cons_zero] at hK ⊢
    gi_wp2
    exact hK
  case body =>
    rintro l pre x W ⟨hB, hrow, hkk⟩ hlt
    have cB : W.cell? ⟨B, 0, none⟩ = some (.slice (some ⟨G, 0, none⟩) pre.length rs.length) := by rw [hB.cell 0]; rfl
    have hrowA := own_kept hrow ((Kept.refl [] W).alloc (.cells #[.int .i64 x.1] 3)) (by simp)
    simp only [List.setIfInBounds_toArray, List.set_cons_succ, List.set_cons_zero]
    gi_wp2_with (gi_at_builtin; refine wpListIn_append_fits _ rfl _ _ 34 rfl G 3 i0 1 Tryd.underlying34 hi hz1 G pre.length rs.length _ rfl hrowA ⟨W.heap.size, 0, none⟩ 1 1 [.int .i64 x.1] rfl rfl (cell_one_new _ _ _) (by simp [Value.oneCell']) (by omega) ?_; intro W3 hown3 hg3; have rB3 := (hB.alloc (.cells #[.int .i64 x.1] 3)).kept (Kept.of_grown hg3) (by simp; omega); have cB3 : W3.cell? ⟨B, 0, none⟩ = some (.slice (some ⟨G, 0, none⟩) pre.length rs.length) := (by rw [rB3.cell 0]; rfl); have fB3 := rB3.free 0)
    have kS := (Kept.refl [B] W3).set (p := ⟨B, 0, none⟩) (.inl (by simp)) (.slice (some ⟨G, 0, none⟩) (pre.length + 1) rs.length)
    have kA1 : Kept [G] W W3 := ((Kept.refl [] W).alloc _).chain (Kept.of_grown hg3) (by simp) (by simp)
    have kB : Kept [G, B] W (W3.setCell ⟨B, 0, none⟩ (.slice (some ⟨G, 0, none⟩) (pre.length + 1) rs.length)) := kA1.chain kS (by simp) (by simp)
    refine ⟨(KeepsOthers.alloc _ _).trans ((KeepsOthers.of_grownBy hg3 (fun j o e ho => ?_)).trans (KeepsOthers.setCell _ _ _)), KeptC.of_kept kB, ?_, ?_, hkk.trans kB⟩
    · cases e
      obtain ⟨o', ho', hc'⟩ := cells_of_own hrowA
      rw [ho'] at ho; cases ho; exact hc'
    · have := rB3.set 0 (.slice (some ⟨G, 0, none⟩) (pre.length + 1) rs.length)
      simpa using this
    · have := own_kept hown3 kS (by simp; omega)
      simpa [raw_append, raw_one] using this
  case done =>
    rintro D ys W hD hys ⟨hB, hrow, hkk⟩ hK
    have cB : W.cell? ⟨B, 0, none⟩ = some (.slice (some ⟨G, 0, none⟩) ys.length rs.length) := by rw [hB.cell 0]; rfl
    have hyl : ys.length = (walkB rs 0).length := by rw [← hys]; simp [raw]
    gi_wp2
    refine ⟨by simp, .inl ⟨_, _, rfl, run_takeDeferred hK, ?_⟩⟩
    have kD : Kept [G, B] W0 (W.putObj D (.deferred none)) := hkk.put (.inr hD) _
    have hs := (Sl.of_own (by rw [hyl] at hrow; rw [hys] at hrow; exact hrow)).keptB ((Kept.refl [D] W).put (r := D) (.inl (by simp)) (.deferred none)) (by simp; omega)
    exact ⟨_, results_tmp rfl _ _ _, G, rs.length, by rw [hwl]; rfl, by omega, hs, kw0.chain kD (by simp) (by simp; omega)⟩

theorem treeAll_any {k : Nat} (p g : Nat) (rs : List Rw) (w : World) (h : IsTree w p g rs) (hf : Fine k rs) (hk : k < 1000) :
    Calls Tryd.prog 14 #[.pointer (some ⟨p, 0, none⟩)] w (FreshPost (walkB rs 0) w) := (callsIn_wide (n := 3)).1 (treeAll_in 3 (by omega) p g rs w h hf hk)
end Go.Proofs.YtnhdikoigpmnkaaDoor
