/- Package arena: Release, where there is nothing to give back. -/
import Derived.Test.YtenhelbmcapfkaaArenaRelease
namespace Go.Proofs.Ytenhelbmcapfkaa
open Go.RowKit Go.Shelf

attribute [local go_sem] Oper.semAt_some

/-- What stands of Release's loop. -/
def RelNilI (H : Nat) (W0 : World) (_ : List RunN) (W : World) : Prop := Row W (H + 1) 26 [.int .i64 0] ∧ Kept [] W0 W
theorem RelNilI.own {β : Type} (f : β → List RunN) (H : Nat) (W0 : World) : OwnFrom W0.heap.size (fun (s : β) W => RelNilI H W0 (f s) W) := by
  rintro s W W' row ⟨h2, h3⟩ hg hr
  exact ⟨Own.from (own_row (fun _ : Unit => [_])) W0.heap.size () W W' row h2 hg hr, ownFrom_kept (Nat.le_refl _) () W W' row h3 hg hr⟩

/-- What Release leaves. -/
def RelNilPost (fr : Option Addr) (d : AD) (w : World) (e : Ending) (w' : World) : Prop :=
  ∃ d' : AD, e = .returned (.int .i64 0) ∧ d'.toArN = ⟨⟨0, 0⟩, [], []⟩ ∧ d'.B = d.B ∧ IsArena w' fr d' ∧ (∀ k ∈ d'.foot, k ∈ d.foot ∨ w.heap.size ≤ k) ∧ Kept d.foot w w'

set_option maxRecDepth 100000 in
set_option maxHeartbeats 4000000 in
theorem arenaReleaseNil_in (n : Nat) (hn : 3 ≤ n) (fr : Option Addr) (d : AD) (w : World) (h : IsArena w fr d) (hr0 : d.rs = []) :
    CallsIn Fence.wide n Try.prog 11 #[.pointer (some ⟨d.B, 0, none⟩)] w (RelNilPost fr d w) := by
  have h1 : 1 ≤ n := by omega
  have hrs : ∀ r ∈ d.rs, r.1 ≤ 1024 ∧ r.2 ≤ 1024 := by rw [hr0]; simp
  have hl : d.rs.length ≤ 1099511627776 := by rw [hr0]; simp
  refine callsIn_of_wp_marks Try.func11 rfl trivial ?_ rfl
  simp only [Try.ntmps11, List.size_toArray, List.length_cons, List.length_nil, Nat.reduceAdd, Nat.reduceSub, Array.replicate_succ, Array.replicate_zero, List.push_toArray, List.append_toArray, List.nil_append, List.cons_append]
  gi_wp2
  refine ⟨trivial, (taken_in Fence.wide (n - 1) trivial rfl d.B _).mono ?_⟩
  rintro e w' ⟨rfl, rfl⟩
  simp only [World.size_alloc, Nat.add_assoc, Nat.reduceAdd]
  obtain ⟨W0, hW0, hz, k0, r0, r1, r2⟩ := three_new w (.cells #[.pointer (some ⟨d.B, 0, none⟩)] 32) (.cells #[.int .i64 0] 26) (.cells #[.pointer (some ⟨d.B, 0, none⟩)] 32)
  have q0 : Row W0 w.heap.size 32 [.pointer (some ⟨d.B, 0, none⟩)] := r0
  have q1 : Row W0 (w.heap.size + 1) 26 [.int .i64 0] := r1
  have q2 : Row W0 (w.heap.size + 2) 32 [.pointer (some ⟨d.B, 0, none⟩)] := r2
  have h0 := h.kept k0
  have hlt := h.lt
  rw [hW0]
  obtain ⟨H, hH⟩ : ∃ H, w.heap.size = H := ⟨_, rfl⟩
  rw [hH] at q0 q1 q2 hlt hz ⊢
  clear r0 r1 r2 hW0
  gi_wp2
  have hroad : ∀ k ∈ d.road (H + 2), k < W0.heap.size := by
    intro k hk
    rcases List.mem_cons.1 hk with rfl | hk
    · omega
    · rcases List.mem_cons.1 hk with rfl | hk
      · have := hlt d.B (by simp [AD.foot]); omega
      · have hf := AD.mem_foot.2 (.inr (.inr (.inl (Option.mem_toList.1 hk))))
        have := hlt k hf; omega
  refine wpIn_range_box 3 63 (fun x : RunB => [.int .i64 x.1.1, .int .i64 x.1.2]) rfl h1 rfl trivial (enters_of Try.func51 (by kernel_rfl) rfl) (taken1_stops (n - 1) (H + 2) fr d hrs hl W0 q2 h0) KeepsL.trans (KeepsL.put (fun k hk => (hroad k hk)))
    (fun pre W => RelNilI H W0 (runL pre) W) (fun _ _ _ => False) ?ka (RelNilI.own _ _ _) (fun _ _ _ _ _ h _ _ => h) (fun _ _ h => h.2.size) ⟨q1, Kept.refl _ _⟩ ?assign ?body ?done ?stop
  case ka =>
    intro pre W o hi
    exact KeepsL.refl.alloc (fun k hk => Nat.lt_of_lt_of_le (hroad k hk) hi.2.size) o
  case assign =>
    intro l x W K hK
    unfold encR
    simp only [encR, List.setIfInBounds_toArray, List.set_cons_succ, List.set_cons_zero] at hK ⊢
    gi_wp2
    exact hK
  case body =>
    intro l pre x V W _ _ _ hlt1
    rw [hr0] at hlt1
    exact absurd hlt1 (by simp)
  case done =>
    rintro D ys' W hD hys ⟨hE, hkk⟩ hK
    have c0 : W.cell? ⟨H, 0, none⟩ = some (.pointer (some ⟨d.B, 0, none⟩)) := by simpa using (q0.kept hkk (by simp)).cell 0
    have hAW := h0.keptS hkk (fun k hk hm => by simp at hm)
    have cA := hAW.cell0
    have fE := hE.free 0
    have cE : W.cell? ⟨H + 1, 0, none⟩ = some (.int .i64 0) := by simpa using hE.cell 0
    have hzW := hkk.size
    gi_wp2
    rename_i K0 hK0
    refine wpIn_wide.2 (Code.wp_mono (Q := Exit.then K0 (fun _ _ _ => False)) (by intro e a w h; cases e <;> first | exact h | exact h.elim) ?_)
    have hent := enters_of Try.func10 (by kernel_rfl) rfl
    have kD : Kept [] W W.drew := (Kept.refl [] W).drew
    have a0D := hAW.cell0
    go_region_law (first
      | (refine step_callE1 (by with_reducible rfl) (by rfl) 10 _ _ (by rfl) hent _ (by rfl) (arenaNew_any fr W.drew) ?_; rintro e W1 ⟨dn, rfl, hN, hA, hF, hvr, hvt, k1⟩; refine ⟨_, rfl, ?_⟩
         have kW := kD.trans k1
         have hA1 := hAW.kept kW
         have c01 : W1.cell? ⟨H, 0, none⟩ = some (.pointer (some ⟨d.B, 0, none⟩)) := (by simpa using ((q0.kept hkk (by simp)).kept kW (by simp)).cell 0)
         have n0 := hA.cell0
         have n1 := hA.cell1
         have n2 := hA.cell2
         have n3 := hA.cell3
         rw [hvr] at n2
         rw [hvt] at n3
         have a0 := hA1.cell0
         have a1 := hA1.cell1
         have a2 := hA1.cell2
         have a3 := hA1.cell3
         have f0 := hA1.box.free 0
         have f1 := hA1.box.free 1
         have f2 := hA1.box.free 2
         have f3 := hA1.box.free 3))
    all_goals
      refine hK0 _ _ ?_
      have hE1 := hE.kept kW (by simp)
      have hzd : W.drew.heap.size = W.heap.size := rfl
      rw [hzd] at hF
      obtain ⟨hA2, hk2⟩ := hA1.reborn hA hN (fun k hk => by have := hF k hk; have := hlt d.B (by simp [AD.foot]); omega)
      have hE2 := hE1.kept hk2 (by simp; have := hlt d.B (by simp [AD.foot]); omega)
      have hKb := (kW.block D (lt_of_block hK) (by simp)).trans hK
      have hK2 := (hk2.block D (lt_of_block hKb) (by simp; have := hlt d.B (by simp [AD.foot]); omega)).trans hKb
      generalize ((((W1.setCell ⟨d.B, 0, none⟩ (.pointer fr)).setCell ⟨d.B, 1, none⟩ (.pointer (some ⟨dn.PB, 0, none⟩))).setCell ⟨d.B, 2, none⟩ (.slice none 0 0)).setCell ⟨d.B, 3, none⟩ (.slice none 0 0)) = W2 at hA2 hk2 hE2 hK2 ⊢
      have fE2 := hE2.free 0
      have cE2 : W2.cell? ⟨H + 1, 0, none⟩ = some (.int .i64 0) := by simpa using hE2.cell 0
      clear a0 a1 a2 a3 f0 f1 f2 f3 n0 n1 n2 n3 c01 c0 cA fE cE a0D
      gi_wp2
      try rw [Exit.noGoto_ret]
      have kS := (Kept.refl [H + 1] W2).set (p := ⟨H + 1, 0, none⟩) (.inl (by simp)) (.int .i64 0)
      have hK3 : (W2.setCell ⟨H + 1, 0, none⟩ (.int .i64 0)).heap[D]? = some (.deferred (some [])) := (heap_setCell_other W2 _ D _ (by simp; omega)).trans hK2
      refine ⟨by simp, .inl ⟨_, _, rfl, run_takeDeferred hK3, ?_⟩⟩
      have hR3 : Row (W2.setCell ⟨H + 1, 0, none⟩ (.int .i64 0)) (H + 1) 26 [.int .i64 0] := by simpa using hE2.set 0 (.int .i64 0)
      have hRD := hR3.putD hK3 (.deferred none)
      have kD3 : Kept [H + 1, D] W2 ((W2.setCell ⟨H + 1, 0, none⟩ (.int .i64 0)).putObj D (.deferred none)) := (kS.mono (by simp)).put (.inl (by simp)) _
      refine ⟨_, results_cell1 rfl rfl (run_loadVar_one Try.underlying26 rfl (by simpa using hRD.cell 0)), ⟨⟨⟨0, 0⟩, [], []⟩, d.B, dn.PB, .slice none 0 0, .slice none 0 0⟩, rfl, rfl, rfl, hA2.keptS kD3 ?_, ?_, ?_⟩
      · intro k hk hm
        have hzW1 := kW.size
        have hPB := hF dn.PB (by simp [AD.foot])
        have hBl := hlt d.B (by simp [AD.foot])
        have hPD : dn.PB ≠ D := fun e => by have hr := hA.plan; unfold IsPlan Row at hr; rw [e, hKb] at hr; cases hr
        rcases AD.mem_foot.1 hk with rfl | rfl | h' | h'
        · simp at hm; omega
        · simp at hm; omega
        · simp [Value.ownBlock] at h'
        · simp [Value.ownBlock] at h'
      · intro k hk
        rcases AD.mem_foot.1 hk with rfl | rfl | h' | h'
        · exact .inl (by simp [AD.foot])
        · right; have := hF dn.PB (by simp [AD.foot]); simp only; omega
        · simp [Value.ownBlock] at h'
        · simp [Value.ownBlock] at h'
      · have kT1 : Kept [] W0 W1 := hkk.trans kW
        have kT2 : Kept [d.B] W0 W2 := kT1.any.trans hk2
        have kT3 : Kept [d.B, H + 1, D] W0 _ := kT2.chain kD3 (by intro i hi _; simp at hi; simp [hi]) (by intro i hi _; simp at hi; rcases hi with rfl | rfl <;> simp)
        refine k0.chain kT3 (by simp) ?_
        intro i hi hl
        simp at hi
        rcases hi with rfl | rfl | rfl
        · simp [AD.foot]
        · omega
        · omega
  case stop => exact fun _ _ _ _ _ _ h _ => h.elim

theorem arenaReleaseNil_any (fr : Option Addr) (d : AD) (w : World) (h : IsArena w fr d) (hr0 : d.rs = []) :
    Calls Try.prog 11 #[.pointer (some ⟨d.B, 0, none⟩)] w (RelNilPost fr d w) := (callsIn_wide (n := 3)).1 (arenaReleaseNil_in 3 (by omega) fr d w h hr0)
end Go.Proofs.Ytenhelbmcapfkaa
