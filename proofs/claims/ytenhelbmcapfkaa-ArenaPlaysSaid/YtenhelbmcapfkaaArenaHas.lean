/- Package arena: Has. -/
import Derived.Test.YtenhelbmcapfkaaArenaPages
import Derived.Test.YtenhelbmcapfkaaRet
namespace Go.Proofs.Ytenhelbmcapfkaa
open Go.RowKit Go.Shelf

attribute [local go_sem] Oper.semAt_some

/-- Does the word stand in this run? -/
def inOne (at_ : Int) (r : RunN) : Bool := decide (16 * (r.1 : Int) ≤ at_ ∧ at_ < 16 * ((r.1 : Int) + r.2))
theorem inR_snoc (rs : List RunN) (r : RunN) (at_ : Int) : inR (rs ++ [r]) at_ = (inR rs at_ || inOne at_ r) := by simp [inR, inOne]
theorem inR_hit {rs t q : List RunN} {r : RunN} {at_ : Int} (h : q ++ r :: t = rs) (hr : inOne at_ r = true) : inR rs at_ = true := by
  subst h
  unfold inR
  rw [List.any_append, List.any_cons]
  have : decide (16 * (r.1 : Int) ≤ at_ ∧ at_ < 16 * ((r.1 : Int) + r.2)) = true := hr
  rw [this]; simp
def HasPost (rs : List RunN) (at_ : Int) (w : World) (e : Ending) (w' : World) : Prop := e = .returned (.bool (inR rs at_)) ∧ Kept [] w w'

/-- What stands of Has' loop: none of the runs so far has the word. -/
def HasI (H : Nat) (W0 : World) (at_ : Int) (l : List RunN) (W : World) : Prop := inR l at_ = false ∧ (∃ v, Row W (H + 1) 4 [v]) ∧ Kept [H + 1] W0 W
theorem HasI.own {β : Type} (f : β → List RunN) (H : Nat) (W0 : World) (at_ : Int) : OwnFrom W0.heap.size (fun (s : β) W => HasI H W0 at_ (f s) W) := by
  rintro s W W' row ⟨h1, ⟨v, h2⟩, h3⟩ hg hr
  exact ⟨h1, ⟨v, Own.from (own_row (fun _ : Unit => [_])) W0.heap.size () W W' row h2 hg hr⟩, ownFrom_kept (Nat.le_refl _) () W W' row h3 hg hr⟩

set_option maxRecDepth 100000 in
set_option maxHeartbeats 4000000 in
theorem arenaHas_in (n : Nat) (hn : 3 ≤ n) (fr : Option Addr) (d : AD) (at_ : Int) (w : World) (h : IsArena w fr d) (hrs : ∀ r ∈ d.rs, r.1 ≤ 1024 ∧ r.2 ≤ 1024) (hl : d.rs.length ≤ 1099511627776) :
    CallsIn Fence.wide n Try.prog 23 #[.pointer (some ⟨d.B, 0, none⟩), .int .i64 at_] w (HasPost d.rs at_ w) := by
  have h1 : 1 ≤ n := by omega
  refine callsIn_of_wp_marks Try.func23 rfl trivial ?_ rfl
  simp only [Try.ntmps23, List.size_toArray, List.length_cons, List.length_nil, Nat.reduceAdd, Nat.reduceSub, Array.replicate_succ, Array.replicate_zero, List.push_toArray, List.append_toArray, List.nil_append, List.cons_append]
  gi_wp2
  refine ⟨trivial, (taken_in Fence.wide (n - 1) trivial rfl d.B _).mono ?_⟩
  rintro e w' ⟨rfl, rfl⟩
  simp only [World.size_alloc, Nat.add_assoc, Nat.reduceAdd]
  obtain ⟨W0, hW0, hz, k0, r0, r1, r2⟩ := three_new w (.cells #[.int .i64 at_] 3) (.cells #[.bool false] 4) (.cells #[.pointer (some ⟨d.B, 0, none⟩)] 32)
  have q0 : Row W0 w.heap.size 3 [.int .i64 at_] := r0
  have q1 : Row W0 (w.heap.size + 1) 4 [.bool false] := r1
  have q2 : Row W0 (w.heap.size + 2) 32 [.pointer (some ⟨d.B, 0, none⟩)] := r2
  have h0 := h.kept k0
  have hlt := h.lt
  rw [hW0]
  obtain ⟨H, hH⟩ : ∃ H, w.heap.size = H := ⟨_, rfl⟩
  rw [hH] at q0 q1 q2 hlt hz ⊢
  clear r0 r1 r2 hW0
  gi_wp2
  have hroad : ∀ k ∈ d.road (H + 2), k < W0.heap.size ∧ k ≠ H + 1 := by
    intro k hk
    rcases List.mem_cons.1 hk with rfl | hk
    · omega
    · rcases List.mem_cons.1 hk with rfl | hk
      · have := hlt d.B (by simp [AD.foot]); omega
      · have := hlt k (AD.mem_foot.2 (.inr (.inr (.inl (Option.mem_toList.1 hk))))); omega
  refine wpIn_range_box 5 63 (fun x : RunB => [.int .i64 x.1.1, .int .i64 x.1.2]) rfl h1 rfl trivial (enters_of Try.func51 (by kernel_rfl) rfl) (taken1_stops (n - 1) (H + 2) fr d hrs hl W0 q2 h0) KeepsL.trans (KeepsL.put (fun k hk => (hroad k hk).1))
    (fun pre W => HasI H W0 at_ (runL pre) W) (fun c pre W => c = .ret ∧ ∃ q r, runL pre = q ++ [r] ∧ inOne at_ r = true ∧ Row W (H + 1) 4 [.bool true] ∧ Kept [H + 1] W0 W) ?ka (HasI.own _ _ _ _) ?ix (fun _ _ h => h.2.2.size) ⟨rfl, ⟨_, q1⟩, Kept.refl _ _⟩ ?assign ?body ?done ?stop
  case ka =>
    intro pre W o hi
    exact KeepsL.refl.alloc (fun k hk => Nat.lt_of_lt_of_le (hroad k hk).1 hi.2.2.size) o
  case ix =>
    rintro k s W W' row ⟨hk, q, r, h1, h2, h3, h4⟩ hg hr
    exact ⟨hk, q, r, h1, h2, Own.from (own_row (fun _ : Unit => [_])) W0.heap.size () W W' row h3 hg hr, ownFrom_kept (Nat.le_refl _) () W W' row h4 hg hr⟩
  case assign =>
    intro l x W K hK
    unfold encR
    simp only [encR, List.setIfInBounds_toArray, List.set_cons_succ, List.set_cons_zero] at hK ⊢
    gi_wp2
    exact hK
  case body =>
    rintro l pre ⟨⟨x1, x2⟩, hx⟩ V W hV hrV ⟨hin, ⟨v, hR⟩, hkk⟩ hlt1
    have hx1 : x1 ≤ 1024 := hx.1
    have hx2 : x2 ≤ 1024 := hx.2
    have hap : runL (pre ++ [⟨(x1, x2), hx⟩]) = runL pre ++ [(x1, x2)] := by rw [runL_append, runL_one]
    have HAP := Lib.hid hap
    have HIN := Lib.hid hin
    have c0 : W.cell? ⟨H, 0, none⟩ = some (.int .i64 at_) := by simpa using (q0.kept hkk (by simp)).cell 0
    have fR := hR.free 0
    have cR : W.cell? ⟨H + 1, 0, none⟩ = some v := by simpa using hR.cell 0
    have cV0 : W.cell? ⟨V, 0, none⟩ = some (.int .i64 x1) := by simpa using hrV.cell 0
    have cV1 : W.cell? ⟨V, 1, none⟩ = some (.int .i64 x2) := by simpa using hrV.cell 1
    have hzW := hkk.size
    have u1 : IntKind.i64.wrap ((x1 : Int) * 16) = (x1 : Int) * 16 := by rw [IntKind.wrap_i64]; omega
    have u2 : IntKind.i64.wrap ((x2 : Int) * 16) = (x2 : Int) * 16 := by rw [IntKind.wrap_i64]; omega
    have u3 : IntKind.i64.wrap ((x1 : Int) * 16 + (x2 : Int) * 16) = (x1 : Int) * 16 + (x2 : Int) * 16 := by rw [IntKind.wrap_i64]; omega
    simp only [encR, List.setIfInBounds_toArray, List.set_cons_succ, List.set_cons_zero]
    clear hap hrV hin
    by_cases g1 : (x1 : Int) * 16 ≤ at_
    · by_cases g2 : at_ < (x1 : Int) * 16 + (x2 : Int) * 16
      · have HO := Lib.hid (show inOne at_ (x1, x2) = true by unfold inOne; simp only [decide_eq_true_eq]; omega)
        have d1 : decide ((x1 : Int) * 16 ≤ at_) = true := by simpa using g1
        have d2 : decide (at_ < (x1 : Int) * 16 + (x2 : Int) * 16) = true := by simpa using g2
        clear g1 g2
        gi_wp2
        have kA : Kept [H + 1] W _ := (Kept.refl [H + 1] W).set (p := ⟨H + 1, 0, none⟩) (.inl (by simp)) (.bool true)
        exact ⟨KeepsFrom.of_keptC kA (by intro s hs; left; simp at hs; omega), rfl, runL pre, (x1, x2), HAP.out, HO.out, by simpa using hR.set 0 (.bool true), hkk.trans kA⟩
      · have HO := Lib.hid (show inOne at_ (x1, x2) = false by unfold inOne; simp only [decide_eq_false_iff_not]; omega)
        have d1 : decide ((x1 : Int) * 16 ≤ at_) = true := by simpa using g1
        have d2 : decide (at_ < (x1 : Int) * 16 + (x2 : Int) * 16) = false := by simpa using g2
        clear g1 g2
        gi_wp2
        exact ⟨KeepsFrom.refl _ _, KeepsL.refl, by rw [HAP.out, inR_snoc, HIN.out, HO.out]; rfl, ⟨v, hR⟩, hkk⟩
    · have HO := Lib.hid (show inOne at_ (x1, x2) = false by unfold inOne; simp only [decide_eq_false_iff_not]; omega)
      have d1 : decide ((x1 : Int) * 16 ≤ at_) = false := by simpa using g1
      clear g1
      gi_wp2
      exact ⟨KeepsFrom.refl _ _, KeepsL.refl, by rw [HAP.out, inR_snoc, HIN.out, HO.out]; rfl, ⟨v, hR⟩, hkk⟩
  case done =>
    rintro D ys W hD hys ⟨hin, ⟨v, hR⟩, hkk⟩ hK
    rw [hys] at hin
    have HIN := Lib.hid hin
    have fR := hR.free 0
    have cR : W.cell? ⟨H + 1, 0, none⟩ = some v := by simpa using hR.cell 0
    clear hys hin
    gi_wp2
    try rw [Exit.noGoto_ret]
    have kA : Kept [H + 1] W _ := (Kept.refl [H + 1] W).set (p := ⟨H + 1, 0, none⟩) (.inl (by simp)) (.bool false)
    have hR2 : Row (W.setCell ⟨H + 1, 0, none⟩ (.bool false)) (H + 1) 4 [.bool false] := by simpa using hR.set 0 (.bool false)
    have hK2 : (W.setCell ⟨H + 1, 0, none⟩ (.bool false)).heap[D]? = some (.deferred (some [])) := (heap_setCell_other W _ D _ (by simp; omega)).trans hK
    refine ⟨by simp, .inl ⟨_, _, rfl, run_takeDeferred hK2, ?_⟩⟩
    have hRD := hR2.putD hK2 (.deferred none)
    have kD : Kept [H + 1] W0 ((W.setCell ⟨H + 1, 0, none⟩ (.bool false)).putObj D (.deferred none)) := (hkk.trans kA).put (.inr hD) _
    exact ⟨_, results_cell1 rfl rfl (run_loadVar_one Try.underlying4 rfl (by simpa using hRD.cell 0)), by rw [HIN.out], k0.chain kD (by simp) (by simp; omega)⟩
  case stop =>
    rintro D k pre W hD ⟨t, ht⟩ ⟨rfl, q, r, hq, hr, hR, hkk⟩ hK
    have hres : inR d.rs at_ = true := inR_hit (q := q) (t := t) (by rw [← ht, hq]; simp) hr
    have HR := Lib.hid hres
    clear hres ht hq hr
    gi_wp2
    try rw [Exit.noGoto_ret]
    refine ⟨by simp, .inl ⟨_, _, rfl, run_takeDeferred hK, ?_⟩⟩
    have hRD := hR.putD hK (.deferred none)
    have kD : Kept [H + 1] W0 (W.putObj D (.deferred none)) := hkk.put (.inr hD) _
    exact ⟨_, results_cell1 rfl rfl (run_loadVar_one Try.underlying4 rfl (by simpa using hRD.cell 0)), by rw [HR.out], k0.chain kD (by simp) (by simp; omega)⟩

theorem arenaHas_any (fr : Option Addr) (d : AD) (at_ : Int) (w : World) (h : IsArena w fr d) (hrs : ∀ r ∈ d.rs, r.1 ≤ 1024 ∧ r.2 ≤ 1024) (hl : d.rs.length ≤ 1099511627776) :
    Calls Try.prog 23 #[.pointer (some ⟨d.B, 0, none⟩), .int .i64 at_] w (HasPost d.rs at_ w) := (callsIn_wide (n := 3)).1 (arenaHas_in 3 (by omega) fr d at_ w h hrs hl)
end Go.Proofs.Ytenhelbmcapfkaa
