/- Package arena: Release, where nobody else gave a page back. -/
import Derived.Test.YtenhelbmcapfkaaArenaPages
import Derived.Test.YtenhelbmcapfkaaArenaTake
import Derived.Test.YtenhelbmcapfkaaRegion
import Derived.Test.YtenhelbmcapfkaaStepCall
import Derived.Test.YtenhelbmcapfkaaRet
namespace Go.Proofs.Ytenhelbmcapfkaa
open Go.RowKit Go.Shelf

attribute [local go_sem] Oper.semAt_some

/-- The marks behind all runs given back. -/
def relN (xs : List Bool) (rs : List RunN) : List Bool := rs.foldl (fun xs r => (backB xs r.1 r.2).1) xs
theorem relN_snoc (xs : List Bool) (rs : List RunN) (r : RunN) : relN xs (rs ++ [r]) = (backB (relN xs rs) r.1 r.2).1 := by simp [relN]
theorem relN_length : ∀ (rs : List RunN) (xs : List Bool), (relN xs rs).length = xs.length
  | [], _ => rfl
  | r :: rs, xs => by
    show (relN (backB xs r.1 r.2).1 rs).length = _
    rw [relN_length rs, backB_length]

/-- What stands of Release's loop. -/
def RelI (p rb rg mb mg : Nat) (xs : List Bool) (ys : List Int) (H : Nat) (W0 : World) (l : List RunN) (W : World) : Prop := IsPages W p rb rg mb mg (relN xs l) ys ∧ Row W (H + 1) 26 [.int .i64 0] ∧ Kept [rg] W0 W
theorem noCells_cell {W : World} {r : Nat} {o : Obj} (h : W.heap[r]? = some o) (hc : o.isCells = false) (j : Nat) : W.cell? ⟨r, j, none⟩ = none := by
  cases o <;> simp [World.cell?, h, Obj.isCells] at hc ⊢
theorem IsPages.grown {w w' : World} {p rb rg mb mg : Nat} {xs : List Bool} {ys : List Int} {row : Option Nat} (h : IsPages w p rb rg mb mg xs ys) (hg : w.grownBy w' row) (hr : ∀ r, row = some r → ∃ o : Obj, w.heap[r]? = some o ∧ o.isCells = false) : IsPages w' p rb rg mb mg xs ys := by
  cases row with
  | none => exact h.kept (Kept.of_grown0 hg)
  | some r =>
    obtain ⟨o, ho, hc⟩ := hr r rfl
    have hrow : ∀ {g : Nat} {t : TypeId} {vs : List Value}, Row w g t vs → g ∉ [r] := by
      intro g t vs hgr hm
      simp at hm; subst hm
      unfold Row at hgr; rw [ho] at hgr; cases hgr; cases hc
    refine h.keptS (Kept.of_grown hg) (hrow h.box) (fun hm => ?_) (hrow h.row.2.1) (hrow h.mem.1) (hrow h.mem.2.1)
    simp at hm; subst hm
    have := h.row.1.2.2
    rw [noCells_cell ho hc] at this; cases this
theorem RelI.own {β : Type} (f : β → List RunN) (p rb rg mb mg : Nat) (xs : List Bool) (ys : List Int) (H : Nat) (W0 : World) : OwnFrom W0.heap.size (fun (s : β) W => RelI p rb rg mb mg xs ys H W0 (f s) W) := by
  rintro s W W' row ⟨h1, h2, h3⟩ hg hr
  exact ⟨h1.grown hg (fun r e => (hr r e).2), Own.from (own_row (fun _ : Unit => [_])) W0.heap.size () W W' row h2 hg hr, ownFrom_kept (Nat.le_refl _) () W W' row h3 hg hr⟩

/-- What Release leaves. -/
def RelPost (p rb rg mb mg : Nat) (d : AD) (xs : List Bool) (ys : List Int) (w : World) (e : Ending) (w' : World) : Prop :=
  ∃ d' : AD, e = .returned (.int .i64 0) ∧ d'.toArN = ⟨⟨0, 0⟩, [], []⟩ ∧ d'.B = d.B ∧ IsArena w' (some ⟨p, 0, none⟩) d' ∧
    IsPages w' p rb rg mb mg (relN xs d.rs) ys ∧ (∀ k ∈ d'.foot, k ∈ d.foot ∨ w.heap.size ≤ k) ∧ Kept (rg :: mg :: d.foot) w w'

/-- An arena that is made anew in the block of an elder one. -/
theorem IsArena.reborn {w : World} {fr : Option Addr} {d dn : AD} (h : IsArena w fr d) (hn : IsArena w fr dn) (he : dn.toArN = ⟨⟨0, 0⟩, [], []⟩) (hne : ∀ k ∈ dn.foot, k ≠ d.B) :
    IsArena ((((w.setCell ⟨d.B, 0, none⟩ (.pointer fr)).setCell ⟨d.B, 1, none⟩ (.pointer (some ⟨dn.PB, 0, none⟩))).setCell ⟨d.B, 2, none⟩ (.slice none 0 0)).setCell ⟨d.B, 3, none⟩ (.slice none 0 0)) fr ⟨⟨⟨0, 0⟩, [], []⟩, d.B, dn.PB, .slice none 0 0, .slice none 0 0⟩ ∧
    Kept [d.B] w ((((w.setCell ⟨d.B, 0, none⟩ (.pointer fr)).setCell ⟨d.B, 1, none⟩ (.pointer (some ⟨dn.PB, 0, none⟩))).setCell ⟨d.B, 2, none⟩ (.slice none 0 0)).setCell ⟨d.B, 3, none⟩ (.slice none 0 0)) := by
  have hk := (Kept.refl [d.B] w).set4 (g := d.B) (.inl (by simp)) (.pointer fr) (.pointer (some ⟨dn.PB, 0, none⟩)) (.slice none 0 0) (.slice none 0 0)
  have hPB := hne dn.PB (by simp [AD.foot])
  have hx : dn.x = ⟨0, 0⟩ := congrArg ArN.x he
  have hpl := hn.plan
  rw [hx] at hpl
  exact ⟨⟨h.box.set4 _ _ _ _, hpl.kept hk (by simpa using hPB), Pl.ok0, OwnR.nil _ _, OwnR.nil _ _, fun e => hPB e.symm, by simp [Value.ownBlock], by simp [Value.ownBlock]⟩, hk⟩

set_option maxRecDepth 100000 in
set_option maxHeartbeats 4000000 in
theorem arenaRelease_in (n : Nat) (hn : 3 ≤ n) (p rb rg mb mg : Nat) (d : AD) (xs : List Bool) (ys : List Int) (w : World) (h : IsArena w (some ⟨p, 0, none⟩) d) (hp : IsPages w p rb rg mb mg xs ys) (ha : Away d p rb rg mb mg) (hrs : ∀ r ∈ d.rs, r.1 ≤ 1024 ∧ r.2 ≤ 1024) (hl : d.rs.length ≤ 1099511627776)
    (hok : ∀ q r t, q ++ r :: t = d.rs → (backB (relN xs q) r.1 r.2).2 = 0) :
    CallsIn Fence.wide n Try.prog 11 #[.pointer (some ⟨d.B, 0, none⟩)] w (RelPost p rb rg mb mg d xs ys w) := by
  have h1 : 1 ≤ n := by omega
  refine callsIn_of_wp_marks Try.func11 rfl trivial ?_ rfl
  simp only [Try.ntmps11, List.size_toArray, List.length_cons, List.length_nil, Nat.reduceAdd, Nat.reduceSub, Array.replicate_succ, Array.replicate_zero, List.push_toArray, List.append_toArray, List.nil_append, List.cons_append]
  gi_wp2
  refine ⟨trivial, (taken_in Fence.wide (n - 1) trivial rfl d.B _).mono ?_⟩
  rintro e w' ⟨rfl, rfl⟩
  simp only [World.size_alloc, Nat.add_assoc, Nat.reduceAdd]
  obtain ⟨W0, hW0, hz, k0, r0, r1, r2⟩ := three_new w (.cells #[.pointer (some ⟨d.B, 0, none⟩)] 32) (.cells #[.int .i64 0] 26) (.cells #[.pointer (some ⟨d.B, 0, none⟩)] 32)
  have q0 : Row W0 w.heap.size 32 [.pointer (some ⟨d.B, 0, none⟩)] := r0
  have q1 : Row W0 (w.heap.size + 1) 26 [.int .i64 0] := r1
  have q2 : Row W0 (w.heap.size + 2) 32 [.pointer (some ⟨d.B, 0, none⟩)] := r2
  have h0 := h.kept k0
  have p0 := hp.kept k0
  have hlt := h.lt
  have hplt := hp.lt
  rw [hW0]
  obtain ⟨H, hH⟩ : ∃ H, w.heap.size = H := ⟨_, rfl⟩
  rw [hH] at q0 q1 q2 hlt hz hplt ⊢
  clear r0 r1 r2 hW0
  gi_wp2
  have hroad : ∀ k ∈ d.road (H + 2), k < W0.heap.size ∧ k ≠ rg := by
    intro k hk
    rcases List.mem_cons.1 hk with rfl | hk
    · omega
    · rcases List.mem_cons.1 hk with rfl | hk
      · have := hlt d.B (by simp [AD.foot]); exact ⟨by omega, (ha d.B (by simp [AD.foot])).2.2.1⟩
      · have hf := AD.mem_foot.2 (.inr (.inr (.inl (Option.mem_toList.1 hk))))
        have := hlt k hf; exact ⟨by omega, (ha k hf).2.2.1⟩
  have aB := ha d.B (by simp [AD.foot])
  refine wpIn_range_box 3 63 (fun x : RunB => [.int .i64 x.1.1, .int .i64 x.1.2]) rfl h1 rfl trivial (enters_of Try.func51 (by kernel_rfl) rfl) (taken1_stops (n - 1) (H + 2) (some ⟨p, 0, none⟩) d hrs hl W0 q2 h0) KeepsL.trans (KeepsL.put (fun k hk => (hroad k hk).1))
    (fun pre W => RelI p rb rg mb mg xs ys H W0 (runL pre) W) (fun c pre W => ∃ (q : List RunN) (r : RunN), runL pre = q ++ [r] ∧ ¬ (backB (relN xs q) r.1 r.2).2 = 0) ?ka (RelI.own _ _ _ _ _ _ _ _ _ _) (fun _ _ _ _ _ h _ _ => h) (fun _ _ h => h.2.2.size) ⟨p0, q1, Kept.refl _ _⟩ ?assign ?body ?done ?stop
  case ka =>
    intro pre W o hi
    exact KeepsL.refl.alloc (fun k hk => Nat.lt_of_lt_of_le (hroad k hk).1 hi.2.2.size) o
  case assign =>
    intro l x W K hK
    unfold encR
    simp only [encR, List.setIfInBounds_toArray, List.set_cons_succ, List.set_cons_zero] at hK ⊢
    gi_wp2
    exact hK
  case body =>
    rintro l pre ⟨⟨x1, x2⟩, hx⟩ V W hV hrV ⟨hpW, hE, hkk⟩ hlt1
    have hx1 : x1 ≤ 1024 := hx.1
    have hap : runL (pre ++ [⟨(x1, x2), hx⟩]) = runL pre ++ [(x1, x2)] := by rw [runL_append, runL_one]
    have HAP := Lib.hid hap
    have c0 : W.cell? ⟨H, 0, none⟩ = some (.pointer (some ⟨d.B, 0, none⟩)) := by simpa using (q0.kept hkk (by simp; omega)).cell 0
    have cA : W.cell? ⟨d.B, 0, none⟩ = some (.pointer (some ⟨p, 0, none⟩)) := by simpa using (h0.box.kept hkk (by simp; omega)).cell 0
    have cV0 : W.cell? ⟨V, 0, none⟩ = some (.int .i64 x1) := by simpa using hrV.cell 0
    have cV1 : W.cell? ⟨V, 1, none⟩ = some (.int .i64 x2) := by simpa using hrV.cell 1
    have fE := hE.free 0
    have cE : W.cell? ⟨H + 1, 0, none⟩ = some (.int .i64 0) := by simpa using hE.cell 0
    have hzW := hkk.size
    simp only [encR, List.setIfInBounds_toArray, List.set_cons_succ, List.set_cons_zero]
    clear hap
    generalize runL pre = l0 at *
    gi_wp2
    refine wpIn_region_still_tail 5 (by kernel_rfl) (by kernel_rfl) (by kernel_rfl) ?_
    simp only [List.take_succ_cons, List.take_zero, List.drop_succ_cons, List.drop_zero]
    repeat still_step
    refine wpStill_nil ?_
    have hpD := hpW.kept (Kept.refl [] W).drew
    have hED := hE.drew
    have kD : Kept [] W W.drew := (Kept.refl [] W).drew
    gi_wp2_with fail
    refine ⟨trivial, (fun h => by cases h), CallsIn.inRound l (callsIn_wide.2 ((pagesBack_any p rb rg mb mg (relN xs l0) ys x1 x2 W.drew hpD (by omega)).mono ?_))⟩
    rintro e W1 ⟨rfl, hp1, k1⟩
    have hE1 := hED.kept k1 (by simp; omega)
    have fE1 := hE1.free 0
    have cE1 : W1.cell? ⟨H + 1, 0, none⟩ = some (.int .i64 0) := by simpa using hE1.cell 0
    have hk1 : Kept [rg] W W1 := kD.any.trans k1
    have HBS := Lib.hid (relN_snoc xs l0 (x1, x2))
    obtain ⟨er, her⟩ : ∃ er, (backB (relN xs l0) x1 x2).2 = er := ⟨_, rfl⟩
    rw [her]
    have HER := Lib.hid her
    clear her
    by_cases e0 : er = 0
    · subst e0
      gi_wp2
      refine ⟨KeepsFrom.of_keptC hk1 (by intro s hs; left; simp at hs; omega), KeepsL.of_kept hk1 (fun k hk => Nat.lt_of_lt_of_le (hroad k hk).1 hzW) (fun k hk hm => (hroad k hk).2 (by simpa using hm)), ?_, hE1, hkk.trans hk1⟩
      rw [HAP.out, HBS.out]
      exact hp1
    · have e1 : (er == 0) = false := by simpa using e0
      have E0 := Lib.hid e0
      clear e0
      gi_wp2
      have hk2 : Kept [rg, H + 1] W (W1.setCell ⟨H + 1, 0, none⟩ (.int .i64 er)) := (hk1.mono (by simp)).set (.inl (by simp)) _
      exact ⟨KeepsFrom.of_keptC hk2 (by intro s hs; left; simp at hs; omega), l0, (x1, x2), HAP.out, fun h => E0.out (HER.out.symm.trans h)⟩
  case done =>
    rintro D ys' W hD hys ⟨hpW, hE, hkk⟩ hK
    rw [hys] at hpW
    have c0 : W.cell? ⟨H, 0, none⟩ = some (.pointer (some ⟨d.B, 0, none⟩)) := by simpa using (q0.kept hkk (by simp; omega)).cell 0
    have hAW := h0.keptS hkk (fun k hk hm => by have := ha k hk; simp at hm; omega)
    have cA := hAW.cell0
    have fE := hE.free 0
    have cE : W.cell? ⟨H + 1, 0, none⟩ = some (.int .i64 0) := by simpa using hE.cell 0
    have hzW := hkk.size
    gi_wp2
    rename_i K0 hK0
    refine wpIn_wide.2 (Code.wp_mono (Q := Exit.then K0 (fun _ _ _ => False)) (by intro e a w h; cases e <;> first | exact h | exact h.elim) ?_)
    have hent := enters_of Try.func10 (by kernel_rfl) rfl
    have kD : Kept [] W W.drew := (Kept.refl [] W).drew
    have a0D := hAW.cell0
    go_region_law (first
      | (refine step_callE1 (by with_reducible rfl) (by rfl) 10 _ _ (by rfl) hent _ (by rfl) (arenaNew_any (some ⟨p, 0, none⟩) W.drew) ?_; rintro e W1 ⟨dn, rfl, hN, hA, hF, hvr, hvt, k1⟩; refine ⟨_, rfl, ?_⟩
         have kW := kD.trans k1
         have hA1 := hAW.kept kW
         have c01 : W1.cell? ⟨H, 0, none⟩ = some (.pointer (some ⟨d.B, 0, none⟩)) := (by simpa using ((q0.kept hkk (by simp; omega)).kept kW (by simp)).cell 0)
         have n0 := hA.cell0
         have n1 := hA.cell1
         have n2 := hA.cell2
         have n3 := hA.cell3
         rw [hvr] at n2
         rw [hvt] at n3
         have a0 := hA1.cell0
         have a1 := hA1.cell1
         have a2 := hA1.cell2
         have a3 := hA1.cell3
         have f0 := hA1.box.free 0
         have f1 := hA1.box.free 1
         have f2 := hA1.box.free 2
         have f3 := hA1.box.free 3))
    all_goals
      refine hK0 _ _ ?_
      have hE1 := hE.kept kW (by simp)
      have hzd : W.drew.heap.size = W.heap.size := rfl
      rw [hzd] at hF
      obtain ⟨hA2, hk2⟩ := hA1.reborn hA hN (fun k hk => by have := hF k hk; have := hlt d.B (by simp [AD.foot]); omega)
      have hp2 := (hpW.kept kW).keptS hk2 (by simp; exact aB.1.symm) (by simp; exact aB.2.1.symm) (by simp; exact aB.2.2.1.symm) (by simp; exact aB.2.2.2.1.symm) (by simp; exact aB.2.2.2.2.symm)
      have hE2 := hE1.kept hk2 (by simp; have := hlt d.B (by simp [AD.foot]); omega)
      have hKb := (kW.block D (lt_of_block hK) (by simp)).trans hK
      have hK2 := (hk2.block D (lt_of_block hKb) (by simp; have := hlt d.B (by simp [AD.foot]); omega)).trans hKb
      generalize ((((W1.setCell ⟨d.B, 0, none⟩ (.pointer (some ⟨p, 0, none⟩))).setCell ⟨d.B, 1, none⟩ (.pointer (some ⟨dn.PB, 0, none⟩))).setCell ⟨d.B, 2, none⟩ (.slice none 0 0)).setCell ⟨d.B, 3, none⟩ (.slice none 0 0)) = W2 at hA2 hk2 hp2 hE2 hK2 ⊢
      have fE2 := hE2.free 0
      have cE2 : W2.cell? ⟨H + 1, 0, none⟩ = some (.int .i64 0) := by simpa using hE2.cell 0
      clear a0 a1 a2 a3 f0 f1 f2 f3 n0 n1 n2 n3 c01 c0 cA fE cE a0D
      gi_wp2
      try rw [Exit.noGoto_ret]
      have kS := (Kept.refl [H + 1] W2).set (p := ⟨H + 1, 0, none⟩) (.inl (by simp)) (.int .i64 0)
      have hK3 : (W2.setCell ⟨H + 1, 0, none⟩ (.int .i64 0)).heap[D]? = some (.deferred (some [])) := (heap_setCell_other W2 _ D _ (by simp; omega)).trans hK2
      refine ⟨by simp, .inl ⟨_, _, rfl, run_takeDeferred hK3, ?_⟩⟩
      have hR3 : Row (W2.setCell ⟨H + 1, 0, none⟩ (.int .i64 0)) (H + 1) 26 [.int .i64 0] := by simpa using hE2.set 0 (.int .i64 0)
      have hRD := hR3.putD hK3 (.deferred none)
      have kD3 : Kept [H + 1, D] W2 ((W2.setCell ⟨H + 1, 0, none⟩ (.int .i64 0)).putObj D (.deferred none)) := (kS.mono (by simp)).put (.inl (by simp)) _
      refine ⟨_, results_cell1 rfl rfl (run_loadVar_one Try.underlying26 rfl (by simpa using hRD.cell 0)), ⟨⟨⟨0, 0⟩, [], []⟩, d.B, dn.PB, .slice none 0 0, .slice none 0 0⟩, rfl, rfl, rfl, hA2.keptS kD3 ?_, hp2.keptS kD3 (by simp; omega) (by simp; omega) (by simp; omega) (by simp; omega) (by simp; omega), ?_, ?_⟩
      · intro k hk hm
        have hzW1 := kW.size
        have hPB := hF dn.PB (by simp [AD.foot])
        have hBl := hlt d.B (by simp [AD.foot])
        have hPD : dn.PB ≠ D := fun e => by have hr := hA.plan; unfold IsPlan Row at hr; rw [e, hKb] at hr; cases hr
        rcases AD.mem_foot.1 hk with rfl | rfl | h' | h'
        · simp at hm; omega
        · simp at hm; omega
        · simp [Value.ownBlock] at h'
        · simp [Value.ownBlock] at h'
      · intro k hk
        rcases AD.mem_foot.1 hk with rfl | rfl | h' | h'
        · exact .inl (by simp [AD.foot])
        · right; have := hF dn.PB (by simp [AD.foot]); simp only; omega
        · simp [Value.ownBlock] at h'
        · simp [Value.ownBlock] at h'
      · have kT1 : Kept [rg] W0 W1 := hkk.trans kW.any
        have kT2 : Kept [rg, d.B] W0 W2 := kT1.chain hk2 (by intro i hi _; simp at hi; simp [hi]) (by intro i hi _; simp at hi; simp [hi])
        have kT3 : Kept [rg, d.B, H + 1, D] W0 _ := kT2.chain kD3 (by intro i hi _; simp at hi; rcases hi with rfl | rfl <;> simp) (by intro i hi _; simp at hi; rcases hi with rfl | rfl <;> simp)
        refine k0.chain kT3 (by simp) ?_
        intro i hi hl
        simp at hi
        rcases hi with rfl | rfl | rfl | rfl
        · simp
        · simp [AD.foot]
        · omega
        · omega
  case stop =>
    rintro D k pre W hD ⟨t, ht⟩ ⟨q, r, hq, hr⟩ hK
    exact absurd (hok q r t (by rw [← ht, hq]; simp)) hr

theorem arenaRelease_any (p rb rg mb mg : Nat) (d : AD) (xs : List Bool) (ys : List Int) (w : World) (h : IsArena w (some ⟨p, 0, none⟩) d) (hp : IsPages w p rb rg mb mg xs ys) (ha : Away d p rb rg mb mg) (hrs : ∀ r ∈ d.rs, r.1 ≤ 1024 ∧ r.2 ≤ 1024) (hl : d.rs.length ≤ 1099511627776)
    (hok : ∀ q r t, q ++ r :: t = d.rs → (backB (relN xs q) r.1 r.2).2 = 0) :
    Calls Try.prog 11 #[.pointer (some ⟨d.B, 0, none⟩)] w (RelPost p rb rg mb mg d xs ys w) := (callsIn_wide (n := 3)).1 (arenaRelease_in 3 (by omega) p rb rg mb mg d xs ys w h hp ha hrs hl hok)
end Go.Proofs.Ytenhelbmcapfkaa
