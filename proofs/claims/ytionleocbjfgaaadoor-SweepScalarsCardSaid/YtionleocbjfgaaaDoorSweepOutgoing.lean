/- Package sweep: count, Outgoing. -/
import Derived.Test.YtionleocbjfgaaaDoorSweepTargets
import Derived.Test.YtionleocbjfgaaaDoorSweepPointers
import Derived.Test.YtionleocbjfgaaaDoorRangeTwoBox
import Derived.Test.YtionleocbjfgaaaDoorTallySwap
import Derived.Test.YtionleocbjfgaaaDoorTallyAll
namespace Go.Proofs.YtionleocbjfgaaaDoor
open Go.RowKit Go.Shelf

attribute [local go_sem] Oper.semAt_some

set_option maxRecDepth 100000 in
set_option maxHeartbeats 2000000 in
theorem count18_any (p g : Nat) (gs : List RunZ) (kd h t : Int) (w : World) (hI : IsTally w p g gs) (ht : 0 ≤ t ∧ t ≤ 9223372036854775807) (hm : cntY gs t ≠ 2147483647) (hl : gs.length < 1099511627000) :
    Calls Tryd.prog 15 #[.pointer (some ⟨p, 0, none⟩), .int .i64 kd, .int .i64 h, .int .i64 t] w (PutPostY p g (tlyG gs (countE kd h t)) w) := by
  obtain ⟨c, hc⟩ : ∃ c, cntB kd h t = c := ⟨_, rfl⟩
  cases c with
  | false =>
    have HR := Lib.hid (show tlyG gs (countE kd h t) = gs by unfold countE; rw [hc]; rfl)
    go_enter Tryd.func15, Tryd.ntmps15
    go_wp2_with fail
    refine (annotCounts_any kd h t w).mono ?_
    rintro e w1 ⟨rfl, rfl⟩
    rw [hc]
    go_wp2
    go_end0
    rw [HR.out]
    exact ⟨rfl, hI, Kept.refl _ _⟩
  | true =>
    have hsw : swapY gs 0 t = (giveY gs t, 0) := by
      have h0 : t ≠ 0 := by
        intro e; subst e
        simp [cntB] at hc
      rw [swapY_ok (by omega) (by simp) (fun h => hm h.2), takeY_zero]
    have HR := Lib.hid (show tlyG gs (countE kd h t) = giveY gs t by unfold countE; rw [hc]; rfl)
    have HS := Lib.hid (tallySwap_any p g gs 0 t w hI (by unfold Fit64; omega) (by unfold Fit64; omega) hl)
    rw [hsw] at HS
    clear hsw
    go_enter Tryd.func15, Tryd.ntmps15
    go_wp2_with fail
    refine (annotCounts_any kd h t w).mono ?_
    rintro e w1 ⟨rfl, rfl⟩
    rw [hc]
    go_wp2_with fail
    refine HS.out.mono ?_
    rintro e w1 ⟨rfl, hI1, hk1⟩
    go_wp2
    go_end0
    rw [HR.out]
    exact ⟨rfl, hI1, hk1⟩

theorem kept_row {W W' : World} {row : Option Nat} (hg : W.grownBy W' row) : Kept row.toList W W' :=
  ⟨hg.os, hg.tape, hg.output, hg.size, fun k hk hn => hg.block k hk (fun e => hn (by simp [← e]))⟩
/-- What stands of a loop that counts: the tally, so far. -/
def TallyI (p g : Nat) (W0 : World) (gs : List RunZ) (W : World) : Prop := IsTally W p g gs ∧ Kept [g] W0 W
theorem TallyI.own {β : Type} (f : β → List RunZ) (p g : Nat) (W0 : World) (hp : p < W0.heap.size) (hg0 : g < W0.heap.size) : OwnFrom W0.heap.size (fun (s : β) W => TallyI p g W0 (f s) W) := by
  rintro s W W' row ⟨h1, h2⟩ hg hr
  exact ⟨h1.keptS (kept_row hg) (fun hm => by have := (hr p (by simpa using hm)).1; omega) (fun hm => by have := (hr g (by simpa using hm)).1; omega), ownFrom_kept (Nat.le_refl _) () W W' row h2 hg hr⟩

/-- What goes with a region, of some pointers. -/
def outX (bs : List (Int × Int)) (r : Int) (xs : List PtP) : List Int := hitsP bs (xs.filter fun x => decide (x.1 = r))
theorem outX_yes {bs : List (Int × Int)} {r : Int} {xs : List PtP} {x : PtP} (h : x.1 = r) : outX bs r (xs ++ [x]) = outX bs r xs ++ countE x.2.1 x.1 (cntY bs x.2.2) := by
  unfold outX
  rw [List.filter_append, hitsP_append, show [x].filter (fun x => decide (x.1 = r)) = [x] from by simp [h], hitsP_one]; rfl
theorem outX_no {bs : List (Int × Int)} {r : Int} {xs : List PtP} {x : PtP} (h : ¬ x.1 = r) : outX bs r (xs ++ [x]) = outX bs r xs := by
  unfold outX
  rw [List.filter_append, show [x].filter (fun x => decide (x.1 = r)) = [] from by simp [h], List.append_nil]
theorem outX_len (bs : List (Int × Int)) (r : Int) (xs : List PtP) : (outX bs r xs).length ≤ xs.length :=
  Nat.le_trans (hitsP_len bs _) (List.length_filter_le _ _)

set_option maxRecDepth 100000 in
set_option maxHeartbeats 8000000 in
theorem outgoing18_in (n : Nat) (hn : 3 ≤ n) (a : Option Addr) (cap : Nat) (qs : List ObQ) (r : Int) (hfit : ∀ q ∈ qs, q.o.Fit) (w : World) (hs : SlO w a qs) (hT : Tab w) (hl : qs.length ≤ 1099511627) (hN : (ptrP (objs qs)).length ≤ 2000000000) :
    CallsIn Fence.wide n Tryd.prog 7 #[.slice a qs.length cap, .int .i64 r] w (AllPostY (tlyP (outP (objs qs) r)) w) := by
  have h1 : 1 ≤ n := by omega
  have HLOW := Lib.hid (begP_low (l := objs qs) (fun o ho => by obtain ⟨q, hq, rfl⟩ := List.mem_map.1 ho; exact (hfit q hq).reg.2))
  have HO : Hid (outP (objs qs) r = outX (begP (objs qs)) r (ptrP (objs qs))) := rfl
  have HTG := fun W (hk : Kept [] w W) => targets18_any a cap qs hfit W (hs.kept hk) (by omega)
  rw [HO.out]
  generalize hbs : begP (objs qs) = bs at HLOW HTG
  refine callsIn_of_wp_marks Tryd.func7 rfl trivial ?_ rfl
  simp only [Tryd.ntmps7, List.size_toArray, List.length_cons, List.length_nil, Nat.reduceAdd, Nat.reduceSub, Array.replicate_succ, Array.replicate_zero, List.push_toArray, List.append_toArray, List.nil_append, List.cons_append]
  have kb := (Kept.refl [] w).alloc (.cells #[.int .i64 r] 3)
  have rb := Row.new w 3 [.int .i64 r]
  gi_wp2
  refine ⟨trivial, callsIn_wide.2 ((HTG _ kb).mono ?_)⟩
  rintro e w2 ⟨gt, rfl, hgt, hF2, k2⟩
  gi_wp2
  refine ⟨trivial, callsIn_wide.2 ((tallyNew_any w2).mono ?_)⟩
  rintro e w3 ⟨p, g, rfl, ⟨hp, hg⟩, hI3, k3⟩
  gi_wp2
  refine ⟨trivial, (pointers18_in Fence.wide (n - 1) trivial rfl a qs.length cap _).mono ?_⟩
  rintro e w' ⟨rfl, rfl⟩
  simp only [World.size_alloc, Nat.add_assoc, Nat.reduceAdd]
  obtain ⟨W0, hW0, hz, k0, q0, q1, q2⟩ := three_new w3 (.cells #[.map (some gt)] 42) (.cells #[.pointer (some ⟨p, 0, none⟩)] 44) (.cells #[.slice a qs.length cap] 22)
  have p0 : Row W0 w3.heap.size 42 [.map (some gt)] := q0
  have p1 : Row W0 (w3.heap.size + 1) 44 [.pointer (some ⟨p, 0, none⟩)] := q1
  have p2 : Row W0 (w3.heap.size + 2) 22 [.slice a qs.length cap] := q2
  rw [hW0]
  have kw3 : Kept [] w w3 := (kb.trans k2).trans k3
  have kw0 : Kept [] w W0 := kw3.trans k0
  have hF0 := (hF2.kept k3 (by simp)).kept k0 (by simp)
  have hI0 := hI3.kept k0
  have rb0 := ((rb.kept k2 (by simp)).kept k3 (by simp)).kept k0 (by simp)
  have hlt3 := hI3.lt
  have hsz3 := k3.size
  have hgt2 := hF2.lt
  have hszb := kb.size
  have hgl := (Kept.refl [] w).alloc (.cells #[.int .i64 r] 3)
  have hrbl := rb.lt
  have hold : OldB w W0 := OldB.of_kept kw0 (by simp)
  rw [World.size_alloc] at hgt hrbl
  have hszk2 := k2.size
  rw [World.size_alloc] at hszk2
  have hst := pointers18_stops (n - 1) (w3.heap.size + 2) W0.heap.size [g] a cap qs hfit w W0 hs hold.size (by intro z hz'; simp at hz'; omega) hT hold p2 (by omega)
  obtain ⟨P, hP⟩ : ∃ P, w3.heap.size = P := ⟨_, rfl⟩
  obtain ⟨Q, hQ⟩ : ∃ Q, w.heap.size = Q := ⟨_, rfl⟩
  rw [hP] at p0 p1 p2 hz hst hlt3 hsz3 ⊢
  rw [hQ] at rb0 hgt hszk2 hrbl ⊢
  have HQ := Lib.hid hQ
  clear q0 q1 q2 hW0 hP hQ rb kb hszb hgl hF2 hI3 k3 k2
  gi_wp2
  refine wpIn_range_twobox 7 8 49 (fun x : PtrX => [.int .i64 x.1.2.1, .int .u64 x.1.2.2]) rfl h1 rfl trivial (enters_of Tryd.func20 (by kernel_rfl) rfl) hst KeptC.trans (fun W l o o' hl hW hc hw => KeptC.put (Nat.le_refl _) W l o o' hl hW hc hw)
    (fun pre W => TallyI p g W0 (tlyP (outX bs r (ptrX pre))) W) (fun _ _ _ => False) (fun pre W o _ => KeptC.refl.alloc o) (TallyI.own _ _ _ _ (by omega) (by omega)) (fun _ _ _ _ _ h _ _ => h) (fun pre W h => h.2.size) ⟨hI0, Kept.refl _ _⟩ ?assign ?body ?done ?stop
  case assign =>
    intro l x W K hK
    simp only [encP1, encP2, List.setIfInBounds_toArray, List.set_cons_succ, List.set_cons_zero] at hK ⊢
    gi_wp2
    exact hK
  case body =>
    rintro lp pre ⟨⟨x1, x2, x3⟩, hx1, hx2, hx3⟩ V W hV hrV ⟨hI, hkk⟩ hlt
    have hg0 : ∀ k, k ≠ g → k ∉ [g] := fun k h => by simpa using h
    have wb := rb0.kept hkk (hg0 _ (by omega))
    have w0 := p0.kept hkk (hg0 _ (by omega))
    have w1 := p1.kept hkk (hg0 _ (by omega))
    have hFW := hF0.kept hkk (hg0 _ (by omega))
    have cB : W.cell? ⟨Q, 0, none⟩ = some (.int .i64 r) := by simpa using wb.cell 0
    have cM : W.cell? ⟨P, 0, none⟩ = some (.map (some gt)) := by simpa using w0.cell 0
    have cT : W.cell? ⟨P + 1, 0, none⟩ = some (.pointer (some ⟨p, 0, none⟩)) := by simpa using w1.cell 0
    have cV0 : W.cell? ⟨V, 0, none⟩ = some (.int .i64 x2) := by simpa using hrV.cell 0
    have cV1 : W.cell? ⟨V, 1, none⟩ = some (.int .u64 x3) := by simpa using hrV.cell 1
    have hlk := hFW.look hx3
    have HAP := Lib.hid (show ptrX (pre ++ [⟨(x1, x2, x3), hx1, hx2, hx3⟩]) = ptrX pre ++ [(x1, x2, x3)] from by rw [ptrX_append, ptrX_one])
    have hpl : (ptrX pre).length < 2000000000 := by rw [ptrX_len]; omega
    have hszW := hkk.size
    simp only [encP1, encP2, List.setIfInBounds_toArray, List.set_cons_succ, List.set_cons_zero]
    generalize ptrX pre = xs at HAP hpl hI
    have hxl := outX_len bs r xs
    obtain ⟨_, hcn, hll⟩ := tlyP_good (ts := outX bs r xs) (hitsP_tgt HLOW.out _) (by omega)
    by_cases hr : x1 = r
    · subst hr
      have ht := HLOW.out.count x3
      have HS := Lib.hid (outX_yes (bs := bs) (r := x1) (xs := xs) (x := (x1, x2, x3)) rfl)
      have hm : cntY (tlyP (outX bs x1 xs)) (cntY bs x3) ≠ 2147483647 := by
        rw [hcn]
        have := List.count_le_length (a := cntY bs x3) (l := outX bs x1 xs)
        omega
      have HC := Lib.hid (count18_any p g (tlyP (outX bs x1 xs)) x2 x1 (cntY bs x3) W hI ht hm (by omega))
      simp only at HS
      generalize cntY bs x3 = t at hlk HS HC
      clear hcn hll hxl hlt hm ht
      gi_wp2_with fail
      refine ⟨trivial, (fun h => by cases h), CallsIn.inRound lp (callsIn_wide.2 (HC.out.mono ?_))⟩
      rintro e w4 ⟨rfl, hI4, hk4⟩
      gi_wp2
      exact ⟨KeepsFrom.of_keptC hk4 (by intro s hs; left; simp at hs; omega), KeptC.of_kept hk4, by rw [HAP.out, HS.out, tlyP_append]; exact hI4, hkk.trans hk4⟩
    · have hr' : decide (x1 = r) = false := by simpa using hr
      have hr2 : (x1 == r) = false := by simpa using hr
      have HS := Lib.hid (outX_no (bs := bs) (r := r) (xs := xs) (x := (x1, x2, x3)) hr)
      clear hcn hll hxl hlt hr
      gi_wp2_with fail
      exact ⟨KeepsFrom.of_keptC (S := []) (Kept.refl _ _) (by simp), KeptC.refl, by rw [HAP.out, HS.out]; exact hI, hkk⟩
  case done =>
    rintro D ys W hD hys ⟨hI, hkk⟩ hK
    rw [hys] at hI
    have hg0 : ∀ k, k ≠ g → k ∉ [g] := fun k h => by simpa using h
    have w1 := p1.kept hkk (hg0 _ (by omega))
    have cT : W.cell? ⟨P + 1, 0, none⟩ = some (.pointer (some ⟨p, 0, none⟩)) := by simpa using w1.cell 0
    have hxl := outX_len bs r (ptrP (objs qs))
    obtain ⟨_, _, hll⟩ := tlyP_good (ts := outX bs r (ptrP (objs qs))) (hitsP_tgt HLOW.out _) (by omega)
    have HA := Lib.hid (tallyAll_any p g (tlyP (outX bs r (ptrP (objs qs)))) W hI (by omega))
    have hszW := hkk.size
    have kW : Kept [] w W := kw0.chain hkk (by simp) (by have := HQ.out; simp; omega)
    have hDl : D < W.heap.size := (Array.getElem?_eq_some_iff.1 hK).1
    obtain ⟨gs, hgs⟩ : ∃ gs, tlyP (outX bs r (ptrP (objs qs))) = gs := ⟨_, rfl⟩
    rw [hgs] at HA
    have HGS := Lib.hid hgs
    clear hgs
    clear hI hxl hll
    gi_wp2_with fail
    refine ⟨trivial, callsIn_wide.2 (HA.out.mono ?_)⟩
    rintro e w4 ⟨G, c, rfl, hG, hsl, hk4⟩
    have hK4 : w4.heap[D]? = some (.deferred (some [])) := (hk4.block D hDl (by simp)).trans hK
    gi_wp2
    refine ⟨by simp, .inl ⟨_, _, rfl, run_takeDeferred hK4, ?_⟩⟩
    have kD1 : Kept [D] w4 (w4.putObj D (.deferred none)) := (Kept.refl [D] w4).put (r := D) (.inl (by simp)) _
    have kD : Kept [] w (w4.putObj D (.deferred none)) := (kW.trans hk4).put (.inr (by have := kw0.size; omega)) _
    refine ⟨_, results_tmp rfl _ _ _, ?_⟩
    rw [HGS.out]
    exact ⟨G, c, rfl, by have := kW.size; omega, hsl.keptS kD1 (by intro b off e; cases e; simp; omega), kD⟩
  case stop =>
    intro D c pre W hD hsp h hK
    exact h.elim
theorem outgoing18_any (a : Option Addr) (cap : Nat) (qs : List ObQ) (r : Int) (hfit : ∀ q ∈ qs, q.o.Fit) (w : World) (hs : SlO w a qs) (hT : Tab w) (hl : qs.length ≤ 1099511627) (hN : (ptrP (objs qs)).length ≤ 2000000000) :
    Calls Tryd.prog 7 #[.slice a qs.length cap, .int .i64 r] w (AllPostY (tlyP (outP (objs qs) r)) w) := (callsIn_wide (n := 3)).1 (outgoing18_in 3 (by omega) a cap qs r hfit w hs hT hl hN)
end Go.Proofs.YtionleocbjfgaaaDoor
