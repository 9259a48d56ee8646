/- Package starts: Before. -/
import Derived.Test.YtkfdkmdjdghdkaaStartsIn
namespace Go.Proofs.Ytkfdkmdjdghdkaa
open Go.RowKit Go.Shelf

attribute [local go_sem] Oper.semAt_some

/-- The last place, as two results. -/
def optI (o : Option Int) : Value := .tuple #[.int .i64 (o.getD 0), .bool o.isSome]
def BeforePost (o : Option Int) (w : World) (e : Ending) (w' : World) : Prop := e = .returned (optI o) ∧ Kept [] w w'

/-- What stands of Before's loop. -/
def BefI (P : Nat) (W0 : World) (at_ : Int) (l : List Int) (W : World) : Prop :=
  (∀ x ∈ l, x ≤ at_) ∧ Row W (P + 1) 3 [.int .i64 ((lastL l at_).getD 0)] ∧ Row W (P + 2) 4 [.bool (lastL l at_).isSome] ∧ Kept [P + 1, P + 2] W0 W
theorem BefI.own {β : Type} (f : β → List Int) (P : Nat) (W0 : World) (at_ : Int) : OwnFrom W0.heap.size (fun (s : β) W => BefI P W0 at_ (f s) W) := by
  rintro s W W' row ⟨h1, h2, h3, h4⟩ hg hr
  exact ⟨h1, Own.from (own_row (fun _ : Unit => [_])) W0.heap.size () W W' row h2 hg hr, Own.from (own_row (fun _ : Unit => [_])) W0.heap.size () W W' row h3 hg hr, ownFrom_kept (Nat.le_refl _) () W W' row h4 hg hr⟩

/-- Five new blocks. -/
theorem five_new (w : World) (o0 o1 o2 o3 o4 : Obj) : ∃ W, (((((w.alloc o0).alloc o1).alloc o2).alloc o3).alloc o4) = W ∧ W.heap.size = w.heap.size + 5 ∧ Kept [] w W ∧
    W.heap[w.heap.size]? = some o0 ∧ W.heap[w.heap.size + 1]? = some o1 ∧ W.heap[w.heap.size + 2]? = some o2 ∧ W.heap[w.heap.size + 3]? = some o3 ∧ W.heap[w.heap.size + 4]? = some o4 := by
  obtain ⟨W4, h4, z4, k4, r0, r1, r2, r3⟩ := four_new w o0 o1 o2 o3
  have n4 := heap_alloc_new W4 o4
  rw [z4] at n4
  have up : ∀ (W : World) (o : Obj) {k : Nat} {v : Obj}, W.heap[k]? = some v → (W.alloc o).heap[k]? = some v := fun W o k v h => (Below.heap_alloc W o k (Array.getElem?_eq_some_iff.1 h).1).trans h
  rw [h4]
  exact ⟨_, rfl, by simp [z4], k4.alloc _, up _ _ r0, up _ _ r1, up _ _ r2, up _ _ r3, n4⟩
theorem heap_drewN (W : World) (n : Nat) : (W.drewN n).heap = W.heap := by
  induction n with
  | zero => rfl
  | succ n ih => exact ih

set_option maxRecDepth 100000 in
set_option maxHeartbeats 4000000 in
theorem startsBefore_in (n : Nat) (hn : 3 ≤ n) (p b g : Nat) (xs : List Bool) (at_ : Int) (w : World) (h : IsStarts w p b g xs) :
    CallsIn Fence.wide n Try.prog 13 #[.pointer (some ⟨p, 0, none⟩), .int .i64 at_] w (BeforePost (lastL (placesB xs) at_) w) := by
  have h1 : 1 ≤ n := by omega
  have hle := h.le
  refine callsIn_of_wp_marks Try.func13 rfl trivial ?_ rfl
  simp only [Try.ntmps13, List.size_toArray, List.length_cons, List.length_nil, Nat.reduceAdd, Nat.reduceSub, Array.replicate_succ, Array.replicate_zero, List.push_toArray, List.append_toArray, List.nil_append, List.cons_append]
  gi_wp2
  refine wpIn_scope_wide ?_
  gi_wp2
  refine wpIn_label_wide ?_
  gi_wp2
  refine ⟨trivial, (from_in Fence.wide (n - 1) trivial rfl p 0 _).mono ?_⟩
  rintro e w' ⟨rfl, rfl⟩
  simp only [World.size_alloc, Nat.add_assoc, Nat.reduceAdd]
  obtain ⟨W0, hW0, hz, k0, r0, r1, r2, r3, r4⟩ := five_new w (.cells #[.int .i64 at_] 3) (.cells #[.int .i64 0] 3) (.cells #[.bool false] 4) (.cells #[.pointer (some ⟨p, 0, none⟩)] 26) (.cells #[.int .i64 0] 3)
  have q0 : Row W0 w.heap.size 3 [.int .i64 at_] := r0
  have q1 : Row W0 (w.heap.size + 1) 3 [.int .i64 0] := r1
  have q2 : Row W0 (w.heap.size + 2) 4 [.bool false] := r2
  have q3 : Row W0 (w.heap.size + 3) 26 [.pointer (some ⟨p, 0, none⟩)] := r3
  have q4 : Row W0 (w.heap.size + 4) 3 [.int .i64 0] := r4
  have h0 := h.kept k0
  obtain ⟨lp, lb, lg⟩ := h.lt
  rw [hW0]
  obtain ⟨P, hP⟩ : ∃ P, w.heap.size = P := ⟨_, rfl⟩
  rw [hP] at q0 q1 q2 q3 q4 lp lb lg hz ⊢
  clear r0 r1 r2 r3 r4 hW0
  have hall0 := marksB_all (xs := xs) (c := 0) (Int.le_refl _)
  gi_wp2
  refine wpIn_range_some 8 rfl h1 rfl trivial (enters_of Try.func26 (by kernel_rfl) rfl) (from1_stops (n - 1) (P + 3) (P + 4) p b g xs 0 (by omega) W0 q3 q4 h0) KeepsL.trans (KeepsL.put (by simp; omega))
    (fun pre W => BefI P W0 at_ (posL pre) W)
    (fun k pre W => k = .exit 0 ∧ ∃ q x, posL pre = q ++ [x] ∧ ¬ x ≤ at_ ∧ BefI P W0 at_ q W)
    (BefI.own _ _ _ _) ?ix ⟨by simp [posL], q1, q2, Kept.refl _ _⟩ ?assign ?body ?done ?stop
  case ix =>
    rintro k s W W' row ⟨hk, q, x, h1, h2, h3⟩ hg hr
    exact ⟨hk, q, x, h1, h2, BefI.own (fun _ : Unit => q) P W0 at_ () W W' row h3 hg hr⟩
  case assign =>
    intro l x W K hK
    simp only [List.setIfInBounds_toArray, List.set_cons_succ, List.set_cons_zero] at hK ⊢
    gi_wp2
    exact hK
  case body =>
    rintro l pre ⟨x, hx0, hx1⟩ W ⟨hall, hL, hF, hkk⟩ hlt
    have w0 := q0.kept hkk (by simp)
    have c0 : W.cell? ⟨P, 0, none⟩ = some (.int .i64 at_) := by rw [w0.cell 0]; rfl
    have cL : W.cell? ⟨P + 1, 0, none⟩ = some (.int .i64 ((lastL (posL pre) at_).getD 0)) := by rw [hL.cell 0]; rfl
    have cF : W.cell? ⟨P + 2, 0, none⟩ = some (.bool (lastL (posL pre) at_).isSome) := by rw [hF.cell 0]; rfl
    have fL := hL.free 0
    have fF := hF.free 0
    have hap : posL (pre ++ [⟨x, hx0, hx1⟩]) = posL pre ++ [x] := by rw [posL_append, posL_one]
    have HAP := Lib.hid hap
    have HA := Lib.hid hall
    have hlW := hkk.size
    simp only [List.setIfInBounds_toArray, List.set_cons_succ, List.set_cons_zero]
    clear hap hall hlt
    generalize posL pre = l0 at hL hF cL cF HAP HA
    by_cases hin : x ≤ at_
    · have HIN := Lib.hid hin
      gi_wp2
      have kA : Kept [P + 1, P + 2] W _ := ((Kept.refl [P + 1, P + 2] W).set (p := ⟨P + 1, 0, none⟩) (.inl (by simp)) (.int .i64 x)).set (p := ⟨P + 2, 0, none⟩) (.inl (by simp)) (.bool true)
      refine ⟨KeepsFrom.of_keptC kA (by intro s hs; left; simp at hs; omega), KeepsL.of_kept kA (by intro k hk; simp at hk; omega) (by intro k hk hm; simp at hk hm; omega), ?_, ?_, ?_, hkk.trans kA⟩
      · rw [HAP.out]
        intro y hy
        rcases List.mem_append.1 hy with h' | h'
        · exact HA.out y h'
        · rw [List.mem_singleton.1 h']; exact HIN.out
      · rw [HAP.out, lastL_snoc_in HIN.out]
        have := (hL.set 0 (.int .i64 x)).other ⟨P + 2, 0, none⟩ (.bool true) (by simp)
        simpa using this
      · rw [HAP.out, lastL_snoc_in HIN.out]
        have := (hF.other ⟨P + 1, 0, none⟩ (.int .i64 x) (by simp)).set 0 (.bool true)
        simpa using this
    · have hin' : decide (x ≤ at_) = false := by simpa using hin
      have HIN := Lib.hid hin
      clear hin
      gi_wp2
      exact ⟨KeepsFrom.refl _ _, rfl, l0, x, HAP.out, HIN.out, HA.out, hL, hF, hkk⟩
  case done =>
    rintro D ys W hD hys ⟨hall, hL, hF, hkk⟩ hK
    have cL : W.cell? ⟨P + 1, 0, none⟩ = some (.int .i64 ((lastL (posL ys) at_).getD 0)) := by rw [hL.cell 0]; rfl
    have cF : W.cell? ⟨P + 2, 0, none⟩ = some (.bool (lastL (posL ys) at_).isSome) := by rw [hF.cell 0]; rfl
    have HR := Lib.hid (hys.trans hall0)
    clear hys hall0 hall
    gi_wp2
    gi_quiet (fail)
    gi_wp2
    try rw [Exit.noGoto_ret]
    have hKd : (W.drewN nq).heap[D]? = some (.deferred (some [])) := by rw [heap_drewN]; exact hK
    have kD : Kept [P + 1, P + 2] W0 ((W.drewN nq).putObj D (.deferred none)) := (hkk.drewN nq).put (.inr hD) _
    refine ⟨by simp, .inl ⟨_, _, rfl, run_takeDeferred hKd, ?_⟩⟩
    exact ⟨_, results_tmp2 rfl _ _ _, by rw [← HR.out]; rfl, k0.chain kD (by simp) (by simp; omega)⟩
  case stop =>
    rintro D k pre W hD ⟨t, ht⟩ ⟨rfl, q, x, hq, hx, hall, hL, hF, hkk⟩ hK
    have hres : lastL (placesB xs) at_ = lastL q at_ := by
      rw [← hall0, ← ht, hq, List.append_assoc]
      refine lastL_append_out ?_
      have hr := marksB_rise xs 0
      rw [← ht, hq, List.append_assoc] at hr
      have hr2 := (List.pairwise_append.1 hr).2.1
      rw [List.singleton_append, List.pairwise_cons] at hr2
      intro y hy
      rcases List.mem_cons.1 hy with rfl | hy
      · exact hx
      · have := hr2.1 y hy; omega
    have cL : W.cell? ⟨P + 1, 0, none⟩ = some (.int .i64 ((lastL q at_).getD 0)) := by rw [hL.cell 0]; rfl
    have cF : W.cell? ⟨P + 2, 0, none⟩ = some (.bool (lastL q at_).isSome) := by rw [hF.cell 0]; rfl
    have HR := Lib.hid hres
    clear hres ht hq hall0 hall hx
    gi_wp2
    gi_quiet (fail)
    gi_wp2
    try rw [Exit.noGoto_ret]
    have hKd : (W.drewN nq).heap[D]? = some (.deferred (some [])) := by rw [heap_drewN]; exact hK
    have kD : Kept [P + 1, P + 2] W0 ((W.drewN nq).putObj D (.deferred none)) := (hkk.drewN nq).put (.inr hD) _
    refine ⟨by simp, .inl ⟨_, _, rfl, run_takeDeferred hKd, ?_⟩⟩
    exact ⟨_, results_tmp2 rfl _ _ _, by rw [HR.out]; rfl, k0.chain kD (by simp) (by simp; omega)⟩

theorem startsBefore_any (p b g : Nat) (xs : List Bool) (at_ : Int) (w : World) (h : IsStarts w p b g xs) :
    Calls Try.prog 13 #[.pointer (some ⟨p, 0, none⟩), .int .i64 at_] w (BeforePost (lastL (placesB xs) at_) w) := (callsIn_wide (n := 3)).1 (startsBefore_in 3 (by omega) p b g xs at_ w h)
end Go.Proofs.Ytkfdkmdjdghdkaa
