/- Package sweep: targets (the region of each place at which an object begins). -/
import Derived.Test.YtionleocbjfgaaaDoorSweepBegins
namespace Go.Proofs.YtionleocbjfgaaaDoor
open Go.RowKit Go.Shelf

attribute [local go_sem] Oper.semAt_some

/-- 'make(map[K]V, n)'. -/
theorem run_makeMap_hint {P : Program} {t k e : TypeId} (ht : P.underlying t = some (.map k e)) (z : Int) (w : World) : (Instr.makeMap t (some (.int .i64 z))).run P w = .ok (.map (some w.heap.size)) (w.alloc (.map #[] 0)) := by
  simp [Instr.makeMap, go_sem, run_underlying ht]

/-- What targets leaves: a map in a new block that answers for each word the region that it points to. -/
def TargetsPost (ps : List (Int × Int)) (w : World) (e : Ending) (w' : World) : Prop :=
  ∃ g, e = .returned (.map (some g)) ∧ w.heap.size ≤ g ∧ OwnF w' g ps ∧ Kept [] w w'
/-- What stands of the loop: the first entries, so far. -/
def TargetsI (g : Nat) (W0 : World) (ps : List (Int × Int)) (W : World) : Prop := OwnF W g ps ∧ Kept [g] W0 W
theorem TargetsI.own {β : Type} (f : β → List (Int × Int)) (g : Nat) (W0 : World) (hg0 : g < W0.heap.size) : OwnFrom W0.heap.size (fun (s : β) W => TargetsI g W0 (f s) W) := by
  rintro s W W' row ⟨h1, h2⟩ hg hr
  have hk : Kept row.toList W W' := ⟨hg.os, hg.tape, hg.output, hg.size, fun k hk hn => hg.block k hk (fun e => hn (by simp [← e]))⟩
  exact ⟨h1.kept hk (fun hm => by have := (hr g (by simpa using hm)).1; omega), ownFrom_kept (Nat.le_refl _) () W W' row h2 hg hr⟩

set_option maxRecDepth 100000 in
set_option maxHeartbeats 4000000 in
theorem targets18_in (n : Nat) (hn : 3 ≤ n) (a : Option Addr) (cap : Nat) (qs : List ObQ) (hfit : ∀ q ∈ qs, q.o.Fit) (w : World) (hs : SlO w a qs) (hl : qs.length ≤ 1099511627776) :
    CallsIn Fence.wide n Tryd.prog 12 #[.slice a qs.length cap] w (TargetsPost (begP (objs qs)) w) := by
  have h1 : 1 ≤ n := by omega
  have hmm := fun w => run_makeMap_hint (P := Tryd.prog) Tryd.underlying42 (qs.length : Int) w
  have hbl := begP_len (objs qs)
  rw [objs_len] at hbl
  refine callsIn_of_wp_marks Tryd.func12 rfl trivial ?_ rfl
  simp only [Tryd.ntmps12, List.size_toArray, List.length_cons, List.length_nil, Nat.reduceAdd, Nat.reduceSub, Array.replicate_succ, Array.replicate_zero, List.push_toArray, List.append_toArray, List.nil_append, List.cons_append]
  gi_wp2
  refine ⟨trivial, (begins18_in Fence.wide (n - 1) trivial rfl a qs.length cap _).mono ?_⟩
  rintro e w' ⟨rfl, rfl⟩
  simp only [World.size_alloc, Nat.add_assoc, Nat.reduceAdd]
  obtain ⟨W0, hW0, hz, k0, q0, q1, q2⟩ := three_new w (.map #[] 0) (.cells #[.map (some w.heap.size)] 42) (.cells #[.slice a qs.length cap] 22)
  have p1 : Row W0 (w.heap.size + 1) 42 [.map (some w.heap.size)] := q1
  have p2 : Row W0 (w.heap.size + 2) 22 [.slice a qs.length cap] := q2
  have hF0 : OwnF W0 w.heap.size [] := by
    have h := ((OwnF.made w).kept ((Kept.refl [] _).alloc (.cells #[.map (some w.heap.size)] 42)) (by simp)).kept ((Kept.refl [] _).alloc (.cells #[.slice a qs.length cap] 22)) (by simp)
    rwa [hW0] at h
  rw [hW0]
  have hold : OldB w W0 := OldB.of_kept k0 (by simp)
  obtain ⟨P, hP⟩ : ∃ P, w.heap.size = P := ⟨_, rfl⟩
  have HP := Lib.hid hP
  have hst := begins18_stops (n - 1) (P + 2) W0.heap.size [P] a cap qs hfit w W0 hs hold.size (by intro z hz; simp at hz; omega) hold (by rw [← hP]; exact p2) hl
  rw [hP] at p1 p2 hz hF0 ⊢
  clear q0 q1 q2 hW0 hP
  gi_wp2
  refine wpIn_range_two 4 5 rfl h1 rfl trivial (enters_of Tryd.func27 (by kernel_rfl) rfl) hst KeptC.trans (fun W l o o' hl hW hc hw => KeptC.put (Nat.le_refl _) W l o o' hl hW hc hw)
    (fun pre W => TargetsI P W0 (begX pre) W) (fun _ _ _ => False) (TargetsI.own _ _ _ (by omega)) (fun _ _ _ _ _ h _ _ => h) ⟨hF0, Kept.refl _ _⟩ ?assign ?body ?done ?stop
  case assign =>
    intro l x W K hK
    simp only [encB1, encB2, List.setIfInBounds_toArray, List.set_cons_succ, List.set_cons_zero] at hK ⊢
    gi_wp2
    exact hK
  case body =>
    rintro lp pre ⟨⟨x1, x2⟩, hx1, hx2⟩ W ⟨hF, hkk⟩ hlt
    have w1 := p1.kept hkk (by simp)
    have cM : W.cell? ⟨P + 1, 0, none⟩ = some (.map (some P)) := by simpa using w1.cell 0
    have hpl : (begX pre).length < 2199023255552 := by rw [begX_len]; omega
    have HAP := Lib.hid (show begX (pre ++ [⟨(x1, x2), hx1, hx2⟩]) = begX pre ++ [(x1, x2)] from by rw [begX_append, begX_one])
    have hszW := hkk.size
    have hlk := hF.look_ok hx1
    clear hlt w1
    simp only [encB1, encB2, List.setIfInBounds_toArray, List.set_cons_succ, List.set_cons_zero]
    generalize begX pre = ps at HAP hpl hF hlk
    by_cases hm : x1 ∈ keysL ps
    · have hF2 := hF.mono (x := (x1, x2)) hm
      rw [decide_eq_true hm] at hlk
      generalize cntY ps x1 = y at hlk
      clear hm
      gi_wp2_with fail
      exact ⟨KeepsFrom.of_keptC (S := []) (Kept.refl _ _) (by simp), KeptC.refl, by rw [HAP.out]; exact hF2, hkk⟩
    · rw [decide_eq_false hm] at hlk
      have HM := Lib.hid hm
      generalize cntY ps x1 = y at hlk
      clear hm
      gi_wp2_with (first
        | (gi_at_mapUpdate; refine wpListIn_mapUpdate_F _ rfl _ _ _ rfl P ps rfl hF (by unfold maxLen; omega) x1 hx1 HM.out x2 hx2 rfl rfl ?_; intro w2 hF2 kw2)
        | fail)
      exact ⟨KeepsFrom.of_keptC kw2 (by intro s hs; left; simp at hs; omega), KeptC.of_kept kw2, by rw [HAP.out]; exact hF2, hkk.trans kw2⟩
  case done =>
    rintro D ys W hD hys ⟨hF, hkk⟩ hK
    rw [hys] at hF
    have w1 := p1.kept hkk (by simp)
    have cM : W.cell? ⟨P + 1, 0, none⟩ = some (.map (some P)) := by simpa using w1.cell 0
    have kW : Kept [] w W := k0.chain hkk (by simp) (by have := HP.out; simp; omega)
    gi_wp2
    refine ⟨by simp, .inl ⟨_, _, rfl, run_takeDeferred hK, ?_⟩⟩
    have hDP : P ∉ [D] := by simp; omega
    have kD1 : Kept [D] W (W.putObj D (.deferred none)) := (Kept.refl [D] W).put (r := D) (.inl (by simp)) _
    have kD : Kept [] w (W.putObj D (.deferred none)) := kW.put (.inr (by have := k0.size; omega)) _
    exact ⟨_, results_tmp rfl _ _ _, P, rfl, by have := HP.out; omega, hF.kept kD1 hDP, kD⟩
  case stop =>
    intro D c pre W hD hsp h hK
    exact h.elim
theorem targets18_any (a : Option Addr) (cap : Nat) (qs : List ObQ) (hfit : ∀ q ∈ qs, q.o.Fit) (w : World) (hs : SlO w a qs) (hl : qs.length ≤ 1099511627776) :
    Calls Tryd.prog 12 #[.slice a qs.length cap] w (TargetsPost (begP (objs qs)) w) := (callsIn_wide (n := 3)).1 (targets18_in 3 (by omega) a cap qs hfit w hs hl)
end Go.Proofs.YtionleocbjfgaaaDoor
