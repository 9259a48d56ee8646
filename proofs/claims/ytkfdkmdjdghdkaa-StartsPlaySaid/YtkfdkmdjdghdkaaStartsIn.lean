/- Package starts: In. -/
import Derived.Test.YtkfdkmdjdghdkaaStartsFrom
import Derived.Test.YtkfdkmdjdghdkaaAppendIn
import Derived.Test.YtkfdkmdjdghdkaaScope
namespace Go.Proofs.Ytkfdkmdjdghdkaa
open Go.RowKit Go.Shelf

attribute [local go_sem] Oper.semAt_some

/-- A slice of places: nil, or in a new block. -/
def InPost (zs : List Int) (w : World) (e : Ending) (w' : World) : Prop :=
  ∃ A cap, e = .returned (.slice A zs.length cap) ∧ Sl w' .i64 A zs ∧ (A = none ∨ ∃ G, A = some ⟨G, 0, none⟩ ∧ w.heap.size ≤ G) ∧ Kept [] w w'

theorem own_slice {w : World} {B : Nat} {e : TypeId} {V : Value} {n : Nat} {zs : List Int} (h : w.ownsRow B e 1 V n (zs.map (Value.int .i64))) :
    ∃ A cap, V = .slice A n cap ∧ Sl w .i64 A zs ∧ (A = none ∨ ∃ G, A = some ⟨G, 0, none⟩ ∧ B ≤ G) ∧ (∀ G, A = some ⟨G, 0, none⟩ → ∃ o : Obj, w.heap[G]? = some o ∧ o.isCells = true) := by
  have hl : zs.length = n := by have := h.1; simpa using this
  have h' := h
  rcases h.2 with ⟨rfl, h0⟩ | ⟨g', cap', cur, rfl, hB, hr, _⟩
  · exact ⟨none, 0, by rw [h0], .inl (List.eq_nil_of_length_eq_zero (by omega)), .inl rfl, by intro G hG; cases hG⟩
  · exact ⟨some ⟨g', 0, none⟩, cap', rfl, Sl.of_own h', .inr ⟨g', rfl, hB⟩, by intro G hG; cases hG; exact ⟨_, hr, rfl⟩⟩

/-- What stands of In's loop: the slice, so far. -/
def InI (B : Nat) (W0 : World) (a c : Int) (l : List Int) (W : World) : Prop :=
  (∀ x ∈ l, x - a < c) ∧ (∃ V, Row W B 28 [V] ∧ W.ownsRow W0.heap.size 3 1 V l.length (l.map (Value.int .i64))) ∧ Kept [B] W0 W
theorem InI.own {β : Type} (f : β → List Int) (B : Nat) (W0 : World) (a c : Int) : OwnFrom W0.heap.size (fun (s : β) W => InI B W0 a c (f s) W) := by
  rintro s W W' row ⟨h1, ⟨V, h2, h3⟩, h4⟩ hg hr
  exact ⟨h1, ⟨V, Own.from (own_row (fun _ : Unit => [V])) W0.heap.size () W W' row h2 hg hr, Own.from (own_ownsV (fun _ : Unit => V) (fun _ => (f s).length) (fun _ => (f s).map (Value.int .i64))) W0.heap.size () W W' row h3 hg hr⟩, ownFrom_kept (Nat.le_refl _) () W W' row h4 hg hr⟩

theorem Sl.keptP {w w' : World} {S : List Nat} {k : IntKind} {G : Nat} {zs : List Int} (h : Sl w k (some ⟨G, 0, none⟩) zs) (hk : Kept S w w') (hn : G ∉ S) : Sl w' k (some ⟨G, 0, none⟩) zs := by
  rcases h with h | ⟨b, off, e, hb, hc⟩
  · exact .inl h
  · cases e
    exact .inr ⟨G, 0, rfl, Nat.lt_of_lt_of_le hb hk.size, fun j hj => (World.cell?_of_block (w := w) (a := ⟨G, 0 + j, none⟩) (hk.block G hb hn)).trans (hc j hj)⟩

/-- Four new blocks. -/
theorem four_new (w : World) (o0 o1 o2 o3 : Obj) : ∃ W, ((((w.alloc o0).alloc o1).alloc o2).alloc o3) = W ∧ W.heap.size = w.heap.size + 4 ∧ Kept [] w W ∧
    W.heap[w.heap.size]? = some o0 ∧ W.heap[w.heap.size + 1]? = some o1 ∧ W.heap[w.heap.size + 2]? = some o2 ∧ W.heap[w.heap.size + 3]? = some o3 := by
  have n0 := heap_alloc_new w o0
  have n1 := heap_alloc_new (w.alloc o0) o1
  have n2 := heap_alloc_new ((w.alloc o0).alloc o1) o2
  have n3 := heap_alloc_new (((w.alloc o0).alloc o1).alloc o2) o3
  simp only [World.size_alloc, Nat.add_assoc, Nat.reduceAdd] at n1 n2 n3
  have up : ∀ (W : World) (o : Obj) {k : Nat} {v : Obj}, W.heap[k]? = some v → (W.alloc o).heap[k]? = some v := fun W o k v h => (Below.heap_alloc W o k (Array.getElem?_eq_some_iff.1 h).1).trans h
  exact ⟨_, rfl, by simp, ((((Kept.refl [] w).alloc _).alloc _).alloc _).alloc _, up _ _ (up _ _ (up _ _ n0)), up _ _ (up _ _ n1), up _ _ n2, n3⟩

set_option maxRecDepth 100000 in
set_option maxHeartbeats 4000000 in
theorem startsIn_in (n : Nat) (hn : 3 ≤ n) (p b g : Nat) (xs : List Bool) (a c : Int) (w : World) (h : IsStarts w p b g xs) (ha : a ≤ 9223372036854775807) :
    CallsIn Fence.wide n Try.prog 16 #[.pointer (some ⟨p, 0, none⟩), .agg #[.int .i64 a, .int .i64 c]] w (InPost (inL (placesB xs) a c) w) := by
  have h1 : 1 ≤ n := by omega
  obtain ⟨i0, hi, hz0, hz1, hz2⟩ := info_parts infoI
  have hle := h.le
  by_cases ha0 : 0 ≤ a
  · by_cases hc0 : 0 ≤ c
    · have ha' : decide (a < 0) = false := by simpa using ha0
      have hc' : decide (c < 0) = false := by simpa using hc0
      refine callsIn_of_wp_marks Try.func16 rfl trivial ?_ rfl
      simp only [Try.ntmps16, List.size_toArray, List.length_cons, List.length_nil, Nat.reduceAdd, Nat.reduceSub, Array.replicate_succ, Array.replicate_zero, List.push_toArray, List.append_toArray, List.nil_append, List.cons_append]
      gi_wp2
      refine wpIn_scope_wide ?_
      gi_wp2
      refine wpIn_label_wide ?_
      gi_wp2
      refine ⟨trivial, (from_in Fence.wide (n - 1) trivial rfl p a _).mono ?_⟩
      rintro e w' ⟨rfl, rfl⟩
      simp only [World.size_alloc, Nat.add_assoc, Nat.reduceAdd]
      obtain ⟨W0, hW0, hz, k0, r0, r1, r2, r3⟩ := four_new w (.cells #[.int .i64 a, .int .i64 c] 24) (.cells #[.slice none 0 0] 28) (.cells #[.pointer (some ⟨p, 0, none⟩)] 26) (.cells #[.int .i64 a] 3)
      have q0 : Row W0 w.heap.size 24 [.int .i64 a, .int .i64 c] := r0
      have q1 : Row W0 (w.heap.size + 1) 28 [.slice none 0 0] := r1
      have q2 : Row W0 (w.heap.size + 2) 26 [.pointer (some ⟨p, 0, none⟩)] := r2
      have q3 : Row W0 (w.heap.size + 3) 3 [.int .i64 a] := r3
      have h0 := h.kept k0
      obtain ⟨lp, lb, lg⟩ := h.lt
      rw [hW0]
      obtain ⟨P, hP⟩ : ∃ P, w.heap.size = P := ⟨_, rfl⟩
      rw [hP] at q0 q1 q2 q3 lp lb lg hz ⊢
      clear r0 r1 r2 r3 hW0
      gi_wp2
      refine wpIn_range_some 6 rfl h1 rfl trivial (enters_of Try.func26 (by kernel_rfl) rfl) (from1_stops (n - 1) (P + 2) (P + 3) p b g xs a ha W0 q2 q3 h0) KeepsL.trans (KeepsL.put (by simp; omega))
        (fun pre W => InI (P + 1) W0 a c (posL pre) W)
        (fun k pre W => k = .exit 0 ∧ ∃ q x, posL pre = q ++ [x] ∧ ¬ x - a < c ∧ InI (P + 1) W0 a c q W)
        (InI.own _ _ _ _ _) ?ix ⟨by simp [posL], ⟨_, q1, World.ownsRow_nil _ _ _ _⟩, Kept.refl _ _⟩ ?assign ?body ?done ?stop
      case ix =>
        rintro k s W W' row ⟨hk, q, x, h1, h2, h3⟩ hg hr
        exact ⟨hk, q, x, h1, h2, InI.own (fun _ : Unit => q) (P + 1) W0 a c () W W' row h3 hg hr⟩
      case assign =>
        intro l x W K hK
        simp only [List.setIfInBounds_toArray, List.set_cons_succ, List.set_cons_zero] at hK ⊢
        gi_wp2
        exact hK
      case body =>
        rintro l pre ⟨x, hx0, hx1⟩ W ⟨hall, ⟨V, hB, hown⟩, hkk⟩ hlt
        have w0 := q0.kept hkk (by simp)
        have c0 : W.cell? ⟨P, 0, none⟩ = some (.int .i64 a) := by rw [w0.cell 0]; rfl
        have c1 : W.cell? ⟨P, 1, none⟩ = some (.int .i64 c) := by rw [w0.cell 1]; rfl
        have cB : W.cell? ⟨P + 1, 0, none⟩ = some V := by rw [hB.cell 0]; rfl
        have hsz := hkk.size
        have hBW := hB.lt
        have hall2 : x - a < c → ∀ y ∈ posL (pre ++ [⟨x, hx0, hx1⟩]), y - a < c := fun hin y hy => by
          rw [posL_append, posL_one] at hy
          rcases List.mem_append.1 hy with h' | h'
          · exact hall y h'
          · rw [List.mem_singleton.1 h']; exact hin
        have HA := Lib.hid hall
        have HA2 := Lib.hid hall2
        have HBLK := Lib.hid (own_block hown)
        have hml := marksB_len xs a
        have hl2 : (posL pre).length ≤ 16384 := by rw [posL_len]; omega
        have hap : posL (pre ++ [⟨x, hx0, hx1⟩]) = posL pre ++ [x] := by rw [posL_append, posL_one]
        have HAP := Lib.hid hap
        clear hall hall2 hap hml hlt
        generalize posL pre = l0 at hown hl2 HA HAP
        simp only [List.setIfInBounds_toArray, List.set_cons_succ, List.set_cons_zero]
        by_cases hin : x - a < c
        · have HIN := Lib.hid hin
          gi_wp2_with (gi_at_builtin; refine wpListIn_append_one _ rfl _ _ 28 rfl W0.heap.size 3 i0 (.int .i64 0) 8 Try.underlying28 hi hz0 hz1 hz2 rfl W (.int .i64 x) V l0.length (l0.map (Value.int .i64)) rfl rfl rfl hown hsz rfl (by omega) (by omega) ?_; intro g3 c3 W3 hown3 hk3 hat3; have rB3 := hB.kept hk3 (by intro hm; rw [Option.mem_toList] at hm; have := (HBLK.out _ hm).1; omega); have cB3 : W3.cell? ⟨P + 1, 0, none⟩ = some V := (by rw [rB3.cell 0]; rfl); have fB3 := rB3.free 0)
          have kS := (Kept.refl [P + 1] W3).set (p := ⟨P + 1, 0, none⟩) (.inl (by simp)) (.slice (some ⟨g3, 0, none⟩) (l0.length + 1) c3)
          have kA : Kept ((P + 1) :: V.ownBlock.toList) W _ := hk3.chain kS (by intro i hi _; exact List.mem_cons_of_mem _ hi) (by simp)
          refine ⟨KeepsFrom.of_keptC kA ?_, KeepsL.of_kept kA ?_ ?_, ?_, ⟨.slice (some ⟨g3, 0, none⟩) (l0.length + 1) c3, ?_, ?_⟩, ?_⟩
          · intro s hs
            rcases List.mem_cons.1 hs with rfl | hs
            · left; omega
            · rw [Option.mem_toList] at hs; exact .inr (HBLK.out _ hs).2
          · intro k hk; simp at hk; omega
          · intro k hk hm
            rcases List.mem_cons.1 hm with rfl | hm
            · simp at hk; omega
            · rw [Option.mem_toList] at hm; have := (HBLK.out _ hm).1; simp at hk; omega
          · exact HA2.out HIN.out
          · have := rB3.set 0 (.slice (some ⟨g3, 0, none⟩) (l0.length + 1) c3)
            simpa using this
          · have hg3 : P + 1 ≠ g3 := by
              rcases hat3 with h' | h'
              · have := (HBLK.out _ h').1; omega
              · omega
            have := own_kept hown3 kS (by simpa using hg3.symm)
            rw [HAP.out]
            simpa using this
          · exact hkk.chain kA (by simp) (by
              intro i hi hl
              rcases List.mem_cons.1 hi with rfl | hi
              · simp
              · rw [Option.mem_toList] at hi; have := (HBLK.out _ hi).1; omega)
        · have hin' : decide (x - a < c) = false := by simpa using hin
          have HIN := Lib.hid hin
          clear hin
          gi_wp2
          exact ⟨KeepsFrom.refl _ _, rfl, l0, x, HAP.out, HIN.out, HA.out, ⟨V, hB, hown⟩, hkk⟩
      case done =>
        rintro D ys W hD hys ⟨hall, ⟨V, hB, hown⟩, hkk⟩ hK
        have hres : inL (placesB xs) a c = posL ys := inL_part ha0 hc0 (q := posL ys) (t := []) (by rw [List.append_nil]; exact hys) hall (by simp)
        have HR := Lib.hid hres
        obtain ⟨A, cap, rfl, hsl, hA, hcell⟩ := own_slice hown
        have cB : W.cell? ⟨P + 1, 0, none⟩ = some (.slice A (posL ys).length cap) := by rw [hB.cell 0]; rfl
        clear hres hys hall
        gi_wp2
        try rw [Exit.noGoto_ret]
        refine ⟨by simp, .inl ⟨_, _, rfl, run_takeDeferred hK, ?_⟩⟩
        have kD : Kept [P + 1] W0 (W.putObj D (.deferred none)) := hkk.put (.inr hD) _
        refine ⟨_, results_tmp rfl _ _ _, ?_⟩
        rw [HR.out]
        refine ⟨A, cap, rfl, ?_, ?_, k0.chain kD (by simp) (by simp; omega)⟩
        · rcases hA with rfl | ⟨G, rfl, hG⟩
          · rcases hsl with h' | ⟨_, _, h', _⟩
            · exact .inl h'
            · cases h'
          · refine Sl.keptP hsl ((Kept.refl [D] W).put (r := D) (.inl (by simp)) (.deferred none)) (by
              intro e
              obtain ⟨o, ho, hc⟩ := hcell G rfl
              simp at e; subst e; rw [hK] at ho; cases ho; cases hc)
        · rcases hA with h' | ⟨G, h', hG⟩
          · exact .inl h'
          · exact .inr ⟨G, h', by omega⟩
      case stop =>
        rintro D k pre W hD ⟨t, ht⟩ ⟨rfl, q, x, hq, hx, hall, ⟨V, hB, hown⟩, hkk⟩ hK
        have hres : inL (placesB xs) a c = q := by
          refine inL_part ha0 hc0 (q := q) (t := x :: t) (by rw [← ht, hq]; simp) hall ?_
          have hr := marksB_rise xs a
          rw [← ht, hq, List.append_assoc] at hr
          have hr2 := (List.pairwise_append.1 hr).2.1
          rw [List.singleton_append, List.pairwise_cons] at hr2
          intro y hy
          rcases List.mem_cons.1 hy with rfl | hy
          · exact hx
          · have := hr2.1 y hy; omega
        have HR := Lib.hid hres
        obtain ⟨A, cap, rfl, hsl, hA, hcell⟩ := own_slice hown
        have cB : W.cell? ⟨P + 1, 0, none⟩ = some (.slice A q.length cap) := by rw [hB.cell 0]; rfl
        clear hres ht hq hall hx
        gi_wp2
        try rw [Exit.noGoto_ret]
        refine ⟨by simp, .inl ⟨_, _, rfl, run_takeDeferred hK, ?_⟩⟩
        have kD : Kept [P + 1] W0 (W.putObj D (.deferred none)) := hkk.put (.inr hD) _
        refine ⟨_, results_tmp rfl _ _ _, ?_⟩
        rw [HR.out]
        refine ⟨A, cap, rfl, ?_, ?_, k0.chain kD (by simp) (by simp; omega)⟩
        · rcases hA with rfl | ⟨G, rfl, hG⟩
          · rcases hsl with h' | ⟨_, _, h', _⟩
            · exact .inl h'
            · cases h'
          · refine Sl.keptP hsl ((Kept.refl [D] W).put (r := D) (.inl (by simp)) (.deferred none)) (by
              intro e
              obtain ⟨o, ho, hc⟩ := hcell G rfl
              simp at e; subst e; rw [hK] at ho; cases ho; cases hc)
        · rcases hA with h' | ⟨G, h', hG⟩
          · exact .inl h'
          · exact .inr ⟨G, h', by omega⟩
    · have hc' : decide (c < 0) = true := by simp; omega
      have ha' : decide (a < 0) = false := by simpa using ha0
      have hres : inL (placesB xs) a c = [] := by unfold inL; rw [if_neg (by omega)]
      have HR := Lib.hid hres
      clear hres
      have kW := (Kept.refl [] w).alloc (.cells #[.int .i64 a, .int .i64 c] 24)
      refine callsIn_of_wp_marks Try.func16 rfl trivial ?_ rfl
      simp only [Try.ntmps16, List.size_toArray, List.length_cons, List.length_nil, Nat.reduceAdd, Nat.reduceSub, Array.replicate_succ, Array.replicate_zero, List.push_toArray, List.append_toArray, List.nil_append, List.cons_append]
      gi_wp2
      refine wpIn_scope_wide ?_
      gi_wp2
      try rw [Exit.noGoto_ret]
      exact ⟨_, results_tmp rfl _ _ _, by rw [HR.out]; exact ⟨none, 0, rfl, .inl rfl, .inl rfl, kW⟩⟩
  · have ha' : decide (a < 0) = true := by simp; omega
    have hres : inL (placesB xs) a c = [] := by unfold inL; rw [if_neg (by omega)]
    have HR := Lib.hid hres
    clear hres
    have kW := (Kept.refl [] w).alloc (.cells #[.int .i64 a, .int .i64 c] 24)
    refine callsIn_of_wp_marks Try.func16 rfl trivial ?_ rfl
    simp only [Try.ntmps16, List.size_toArray, List.length_cons, List.length_nil, Nat.reduceAdd, Nat.reduceSub, Array.replicate_succ, Array.replicate_zero, List.push_toArray, List.append_toArray, List.nil_append, List.cons_append]
    gi_wp2
    refine wpIn_scope_wide ?_
    gi_wp2
    try rw [Exit.noGoto_ret]
    exact ⟨_, results_tmp rfl _ _ _, by rw [HR.out]; exact ⟨none, 0, rfl, .inl rfl, .inl rfl, kW⟩⟩

theorem startsIn_any (p b g : Nat) (xs : List Bool) (a c : Int) (w : World) (h : IsStarts w p b g xs) (ha : a ≤ 9223372036854775807) :
    Calls Try.prog 16 #[.pointer (some ⟨p, 0, none⟩), .agg #[.int .i64 a, .int .i64 c]] w (InPost (inL (placesB xs) a c) w) := (callsIn_wide (n := 3)).1 (startsIn_in 3 (by omega) p b g xs a c w h ha)
end Go.Proofs.Ytkfdkmdjdghdkaa
