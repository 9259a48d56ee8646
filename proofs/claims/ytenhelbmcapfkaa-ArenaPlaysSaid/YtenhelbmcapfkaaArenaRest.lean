/- Package arena: Fits, Runs (slices.Collect), Things (slices.Clone). -/
import Derived.Test.YtenhelbmcapfkaaArenaPages
import Derived.Test.YtenhelbmcapfkaaArenaTake
import Derived.Lib.SliceRun
namespace Go.Proofs.Ytenhelbmcapfkaa
open Go.RowKit Go.Shelf

attribute [local go_sem] Oper.semAt_some

set_option maxHeartbeats 2000000 in
theorem arenaFits_any (p rb rg mb mg : Nat) (d : AD) (xs : List Bool) (ys : List Int) (s : Int) (w : World) (h : IsArena w (some ⟨p, 0, none⟩) d) (hp : IsPages w p rb rg mb mg xs ys) :
    Calls Try.prog 14 #[.pointer (some ⟨d.B, 0, none⟩), .int .i64 s] w fun e w' => e = .returned (.bool ((allocN d.toArN xs s).2.2.2 == 0)) ∧ w = w' := by
  have c0 := h.cell0
  have c1 := h.cell1
  rcases allocN_cases d.toArN h.ok xs ys s hp.le with ⟨-, hn, hr, -⟩ | ⟨F, S, rfl, -, -, -, -, hn, -, hr, -⟩ | ⟨N, -, -, hN1, hN2, -, hn, hf, hr, -⟩ | ⟨N, A, S, rfl, -, -, hN1, hN2, -, hA, hn, hf, -, hr, -⟩
  · go_enter Try.func14, Try.ntmps14
    go_wp2_with fail
    refine (planNeed_any d.PB d.x s w h.plan h.ok).mono ?_
    rintro e w1 ⟨rfl, rfl⟩
    rw [hn.out]
    go_wp2
    go_ret
    rw [hr.out]
    exact ⟨rfl, rfl⟩
  · go_enter Try.func14, Try.ntmps14
    go_wp2_with fail
    refine (planNeed_any d.PB d.x S w h.plan h.ok).mono ?_
    rintro e w1 ⟨rfl, rfl⟩
    rw [hn.out]
    go_wp2
    go_ret
    rw [hr.out]
    exact ⟨rfl, rfl⟩
  · have hne : ((N : Int) == 0) = false := by simp; omega
    go_enter Try.func14, Try.ntmps14
    go_wp2_with fail
    refine (planNeed_any d.PB d.x s w h.plan h.ok).mono ?_
    rintro e w1 ⟨rfl, rfl⟩
    rw [hn.out]
    go_wp2_with fail
    refine (pagesFits_any p rb rg mb mg xs ys N w hp (by omega)).mono ?_
    rintro e w1 ⟨rfl, rfl⟩
    rw [hf.out]
    go_wp2
    go_ret
    rw [hr.out]
    exact ⟨rfl, rfl⟩
  · have hne : ((N : Int) == 0) = false := by simp; omega
    go_enter Try.func14, Try.ntmps14
    go_wp2_with fail
    refine (planNeed_any d.PB d.x S w h.plan h.ok).mono ?_
    rintro e w1 ⟨rfl, rfl⟩
    rw [hn.out]
    go_wp2_with fail
    refine (pagesFits_any p rb rg mb mg xs ys N w hp (by omega)).mono ?_
    rintro e w1 ⟨rfl, rfl⟩
    rw [hf.out]
    go_wp2
    go_ret
    rw [hr.out]
    exact ⟨rfl, rfl⟩

/-- A slice of runs of the call's own. -/
def RunsNew (rs : List RunN) (w : World) (e : Ending) (w' : World) : Prop := ∃ v, e = .returned v ∧ OwnR w' w.heap.size v rs ∧ Kept [] w w'

set_option maxHeartbeats 1000000 in
theorem cloneR_any (A : Option Addr) (n ca : Nat) (rs : List RunN) (w : World) (hs : SlR w A rs) (hn : rs.length = n) (hN : n ≤ 1099511627776) :
    Calls Try.prog 47 #[.slice A n ca] w (RunsNew rs w) := by
  subst hn
  have hnil := fun (w : World) (a : Option Addr) (n c n' c' : Nat) => Lib.run_eql_slice_nil w 36 63 a n c n' c' Try.underlying36
  cases A with
  | none =>
    rcases hs with rfl | ⟨b, off, h, _⟩
    · go_enter Try.func47, Try.ntmps47
      go_wp2
      go_ret
      exact ⟨_, rfl, OwnR.nil _ _, Kept.refl _ _⟩
    · cases h
  | some ad =>
    have own0 := OwnR.empty w w.heap.size (Nat.le_refl _)
    have k0 := (Kept.refl [] w).alloc (.cells #[] 63)
    have s0 := hs.kept k0
    go_enter Try.func47, Try.ntmps47
    go_wp2_with (at_builtin; refine wpList_append_runs _ rfl _ _ rfl w.heap.size w.heap.size 0 0 [] rs (some ad) rs.length ca rfl own0 rfl rfl s0 rfl (by omega) k0.size ?_; intro g' cap' w1 hown hk _; rw [Nat.zero_add, List.nil_append] at hown; rw [Nat.zero_add])
    go_ret
    exact ⟨_, rfl, hown, k0.chain hk (by simp) (by simp)⟩

set_option maxHeartbeats 1000000 in
theorem arenaThings_any (fr : Option Addr) (d : AD) (w : World) (h : IsArena w fr d) (hl : d.ts.length ≤ 1099511627776) :
    Calls Try.prog 20 #[.pointer (some ⟨d.B, 0, none⟩)] w (RunsNew d.ts w) := by
  obtain ⟨a, cap, hv, hsl, _⟩ := h.things.slice
  have c3 := h.cell3
  rw [hv] at c3
  go_enter Try.func20, Try.ntmps20
  go_wp2_with fail
  refine (cloneR_any a d.ts.length cap d.ts w hsl rfl hl).mono ?_
  rintro e w1 ⟨v, rfl, h1, h2⟩
  go_wp2
  go_ret
  exact ⟨v, rfl, h1, h2⟩

/-- What stands of the loop that collects. -/
def CollR (H : Nat) (W0 : World) (l : List RunN) (W : World) : Prop := (∃ v, Row W H 36 [v] ∧ OwnR W W0.heap.size v l) ∧ Kept [H] W0 W
theorem CollR.own {β : Type} (f : β → List RunN) (H : Nat) (W0 : World) : OwnFrom W0.heap.size (fun (s : β) W => CollR H W0 (f s) W) := by
  rintro s W W' row ⟨⟨v, h1, h2⟩, h3⟩ hg hr
  exact ⟨⟨v, Own.from (own_row (fun _ : Unit => [_])) W0.heap.size () W W' row h1 hg hr, Own.from (OwnR.own (fun _ : Unit => v) (fun _ => f s)) W0.heap.size () W W' row h2 hg hr⟩, ownFrom_kept (Nat.le_refl _) () W W' row h3 hg hr⟩

set_option maxRecDepth 100000 in
set_option maxHeartbeats 4000000 in
theorem appendSeq_in (n : Nat) (hn : 3 ≤ n) (S : Nat) (fr : Option Addr) (d : AD) (w : World) (h : IsArena w fr d) (hS : Row w S 32 [.pointer (some ⟨d.B, 0, none⟩)]) (hrs : ∀ r ∈ d.rs, r.1 ≤ 1024 ∧ r.2 ≤ 1024) (hl : d.rs.length ≤ 1099511627776) :
    CallsIn Fence.wide n Try.prog 63 #[.slice none 0 0, .func (.func 51) #[] #[.pointer (some ⟨S, 0, none⟩)]] w (RunsNew d.rs w) := by
  have h1 : 1 ≤ n := by omega
  refine callsIn_of_wp_marks Try.func63 rfl trivial ?_ rfl
  simp only [Try.ntmps63, List.size_toArray, List.length_cons, List.length_nil, Nat.reduceAdd, Nat.reduceSub, Array.replicate_succ, Array.replicate_zero, List.push_toArray, List.append_toArray, List.nil_append, List.cons_append]
  gi_wp2
  have q1 := Row.new w 36 [.slice none 0 0]
  have k0 := (Kept.refl [] w).alloc (.cells #[.slice none 0 0] 36)
  have hz : (w.alloc (.cells #[.slice none 0 0] 36)).heap.size = w.heap.size + 1 := by simp
  generalize w.alloc (.cells #[.slice none 0 0] 36) = W0 at q1 k0 hz ⊢
  have h0 := h.kept k0
  have qS := hS.kept k0 (by simp)
  have hlt := h.lt
  have hSl := hS.lt
  obtain ⟨H, hH⟩ : ∃ H, w.heap.size = H := ⟨_, rfl⟩
  rw [hH] at q1 hlt hz hSl ⊢
  have hroad : ∀ k ∈ d.road S, k < W0.heap.size ∧ k < H := by
    intro k hk
    rcases List.mem_cons.1 hk with rfl | hk
    · omega
    · rcases List.mem_cons.1 hk with rfl | hk
      · have := hlt d.B (by simp [AD.foot]); omega
      · have := hlt k (AD.mem_foot.2 (.inr (.inr (.inl (Option.mem_toList.1 hk))))); omega
  refine wpIn_range_box 5 63 (fun x : RunB => [.int .i64 x.1.1, .int .i64 x.1.2]) rfl h1 rfl trivial (enters_of Try.func51 (by kernel_rfl) rfl) (taken1_stops (n - 1) S fr d hrs hl W0 qS h0) KeepsL.trans (KeepsL.put (fun k hk => (hroad k hk).1))
    (fun pre W => CollR H W0 (runL pre) W) (fun _ _ _ => False) ?ka (CollR.own _ _ _) (fun _ _ _ _ _ h _ _ => h) (fun _ _ h => h.2.size) ⟨⟨_, q1, OwnR.nil _ _⟩, Kept.refl _ _⟩ ?assign ?body ?done (fun _ _ _ _ _ _ h _ => h.elim)
  case ka =>
    intro pre W o hi
    exact KeepsL.refl.alloc (fun k hk => Nat.lt_of_lt_of_le (hroad k hk).1 hi.2.size) o
  case assign =>
    intro l x W K hK
    unfold encR
    simp only [encR, List.setIfInBounds_toArray, List.set_cons_succ, List.set_cons_zero] at hK ⊢
    gi_wp2
    exact hK
  case body =>
    rintro l pre ⟨⟨x1, x2⟩, hx⟩ V W hV hrV ⟨⟨v, hB, hown⟩, hkk⟩ hlt1
    have hap : runL (pre ++ [⟨(x1, x2), hx⟩]) = runL pre ++ [(x1, x2)] := by rw [runL_append, runL_one]
    have HAP := Lib.hid hap
    have cB : W.cell? ⟨H, 0, none⟩ = some v := by simpa using hB.cell 0
    have cV0 : W.cell? ⟨V, 0, none⟩ = some (.int .i64 x1) := by simpa using hrV.cell 0
    have cV1 : W.cell? ⟨V, 1, none⟩ = some (.int .i64 x2) := by simpa using hrV.cell 1
    have hzW := hkk.size
    have HBLK := Lib.hid (own_block hown)
    have hlen : (runL pre).length ≤ 1099511627776 := by rw [runL_len]; omega
    simp only [encR, List.setIfInBounds_toArray, List.set_cons_succ, List.set_cons_zero]
    clear hap hrV
    generalize runL pre = l0 at *
    gi_wp2_with (gi_at_builtin; refine wpListIn_append_runN _ rfl _ _ rfl W0.heap.size W v l0 x1 x2 rfl rfl rfl hown hzW hlen ?_; intro g3 c3 W3 hown3 hk3 hat3; have rB3 := hB.kept hk3 (by intro hm; rw [Option.mem_toList] at hm; have := (HBLK.out _ hm).1; omega); have cB3 : W3.cell? ⟨H, 0, none⟩ = some v := (by rw [rB3.cell 0]; rfl); have fB3 := rB3.free 0)
    have kS := (Kept.refl [H] W3).set (p := ⟨H, 0, none⟩) (.inl (by simp)) (.slice (some ⟨g3, 0, none⟩) (l0.length + 1) c3)
    have kA : Kept (H :: v.ownBlock.toList) W _ := hk3.chain kS (by intro i hi _; exact List.mem_cons_of_mem _ hi) (by simp)
    refine ⟨KeepsFrom.of_keptC kA ?_, KeepsL.of_kept kA ?_ ?_, ⟨.slice (some ⟨g3, 0, none⟩) (l0.length + 1) c3, ?_, ?_⟩, ?_⟩
    · intro s hs
      rcases List.mem_cons.1 hs with rfl | hs
      · left; omega
      · rw [Option.mem_toList] at hs; exact .inr (HBLK.out _ hs).2
    · intro k hk; have := (hroad k hk).1; omega
    · intro k hk hm
      have hk1 := (hroad k hk).2
      rcases List.mem_cons.1 hm with rfl | hm
      · omega
      · rw [Option.mem_toList] at hm; have := (HBLK.out _ hm).1; omega
    · simpa using rB3.set 0 (.slice (some ⟨g3, 0, none⟩) (l0.length + 1) c3)
    · have hg3 : H ≠ g3 := by
        rcases hat3 with h' | h'
        · have := (HBLK.out _ h').1; omega
        · omega
      rw [HAP.out]
      exact hown3.keptS kS (fun j hj hm => by simp [Value.ownBlock] at hj hm; omega)
    · exact hkk.chain kA (by simp) (by
        intro i hi hl
        rcases List.mem_cons.1 hi with rfl | hi
        · simp
        · rw [Option.mem_toList] at hi; have := (HBLK.out _ hi).1; omega)
  case done =>
    rintro D ys W hD hys ⟨⟨v, hB, hown⟩, hkk⟩ hK
    rw [hys] at hown
    have cB : W.cell? ⟨H, 0, none⟩ = some v := by simpa using hB.cell 0
    have hblk := own_block hown
    gi_wp2
    try rw [Exit.noGoto_ret]
    refine ⟨by simp, .inl ⟨_, _, rfl, run_takeDeferred hK, ?_⟩⟩
    have kD : Kept [H] W0 (W.putObj D (.deferred none)) := hkk.put (.inr hD) _
    have hown2 := hown.keptS ((Kept.refl [D] W).put (r := D) (.inl (by simp)) (.deferred none)) (by
      intro j hj hm
      obtain ⟨_, o, ho, hc⟩ := hblk j hj
      simp at hm; subst hm; rw [hK] at ho; cases ho; cases hc)
    exact ⟨_, results_tmp rfl _ _ _, v, rfl, hown2.weak (by omega), k0.chain kD (by simp) (by simp; omega)⟩

set_option maxHeartbeats 1000000 in
theorem collect_in (n : Nat) (hn : 4 ≤ n) (S : Nat) (fr : Option Addr) (d : AD) (w : World) (h : IsArena w fr d) (hS : Row w S 32 [.pointer (some ⟨d.B, 0, none⟩)]) (hrs : ∀ r ∈ d.rs, r.1 ≤ 1024 ∧ r.2 ≤ 1024) (hl : d.rs.length ≤ 1099511627776) :
    CallsIn Fence.wide n Try.prog 46 #[.func (.func 51) #[] #[.pointer (some ⟨S, 0, none⟩)]] w (RunsNew d.rs w) := by
  refine callsIn_of_wp Try.func46 rfl trivial ?_ rfl
  simp only [Try.ntmps46, List.size_toArray, List.length_cons, List.length_nil, Nat.reduceAdd, Nat.reduceSub, Array.replicate_succ, Array.replicate_zero, List.push_toArray, List.append_toArray, List.nil_append, List.cons_append]
  gi_wp2
  refine ⟨trivial, (fun h => by cases h), (appendSeq_in (n - 1) (by omega) S fr d w h hS hrs hl).mono ?_⟩
  rintro e w1 ⟨v, rfl, h1, h2⟩
  gi_wp2
  go_ret
  exact ⟨v, rfl, h1, h2⟩

set_option maxHeartbeats 1000000 in
theorem arenaRuns_in (n : Nat) (hn : 5 ≤ n) (fr : Option Addr) (d : AD) (w : World) (h : IsArena w fr d) (hrs : ∀ r ∈ d.rs, r.1 ≤ 1024 ∧ r.2 ≤ 1024) (hl : d.rs.length ≤ 1099511627776) :
    CallsIn Fence.wide n Try.prog 19 #[.pointer (some ⟨d.B, 0, none⟩)] w (RunsNew d.rs w) := by
  have k0 := (Kept.refl [] w).alloc (.cells #[.pointer (some ⟨d.B, 0, none⟩)] 32)
  refine callsIn_of_wp Try.func19 rfl trivial ?_ rfl
  simp only [Try.ntmps19, List.size_toArray, List.length_cons, List.length_nil, Nat.reduceAdd, Nat.reduceSub, Array.replicate_succ, Array.replicate_zero, List.push_toArray, List.append_toArray, List.nil_append, List.cons_append]
  gi_wp2
  refine ⟨trivial, (fun h => by cases h), (taken_in Fence.wide (n - 1) trivial rfl d.B _).mono ?_⟩
  rintro e w' ⟨rfl, rfl⟩
  gi_wp2
  refine ⟨trivial, (fun h => by cases h), (collect_in (n - 1) (by omega) w.heap.size fr d _ (h.kept k0) (Row.new w _ _) hrs hl).mono ?_⟩
  rintro e w1 ⟨v, rfl, h1, h2⟩
  gi_wp2
  go_ret
  exact ⟨v, rfl, h1.weak (by simp), k0.trans h2⟩
theorem arenaRuns_any (fr : Option Addr) (d : AD) (w : World) (h : IsArena w fr d) (hrs : ∀ r ∈ d.rs, r.1 ≤ 1024 ∧ r.2 ≤ 1024) (hl : d.rs.length ≤ 1099511627776) :
    Calls Try.prog 19 #[.pointer (some ⟨d.B, 0, none⟩)] w (RunsNew d.rs w) := (callsIn_wide (n := 5)).1 (arenaRuns_in 5 (by omega) fr d w h hrs hl)
end Go.Proofs.Ytenhelbmcapfkaa
