/- Package sweep: comes, Incoming, Counts. -/
import Derived.Test.YtionleocbjfgaaaDoorSweepOutgoing
namespace Go.Proofs.YtionleocbjfgaaaDoor
open Go.RowKit Go.Shelf

attribute [local go_sem] Oper.semAt_some

/-- What comes leaves: a tally in new blocks. -/
def ComesPost (gs : List RunZ) (w : World) (e : Ending) (w' : World) : Prop :=
  ∃ p g, e = .returned (.pointer (some ⟨p, 0, none⟩)) ∧ (w.heap.size ≤ p ∧ w.heap.size ≤ g) ∧ IsTally w' p g gs ∧ Kept [] w w'
/-- What comes of some pointers. -/
def rootX (v : Int) : PtP := (0, 1, v)
theorem comP_eq (l : List ObP) (roots : List Int) : comP l roots = hitsP (begP l) (ptrP l ++ roots.map rootX) := rfl
theorem rootX_take {roots : List Int} {j : Nat} (hj : j < roots.length) : (roots.take (j + 1)).map rootX = (roots.take j).map rootX ++ [rootX (roots[j]?.getD 0)] := by
  rw [List.take_succ_eq_append_getElem hj, List.map_append, List.getElem?_eq_getElem hj]; rfl

set_option maxRecDepth 100000 in
set_option maxHeartbeats 8000000 in
theorem comes18_in (n : Nat) (hn : 3 ≤ n) (a : Option Addr) (cap : Nat) (qs : List ObQ) (R : Option Addr) (rc : Nat) (roots : List Int) (hfit : ∀ q ∈ qs, q.o.Fit) (hrf : ∀ v ∈ roots, FitU v) (w : World) (hs : SlO w a qs) (hsr : Sl w .u64 R roots) (hT : Tab w) (hl : qs.length ≤ 1099511627) (hN : (ptrP (objs qs)).length + roots.length ≤ 2000000000) :
    CallsIn Fence.wide n Tryd.prog 17 #[.slice a qs.length cap, .slice R roots.length rc] w (ComesPost (tlyP (comP (objs qs) roots)) w) := by
  have h1 : 1 ≤ n := by omega
  have HLOW := Lib.hid (begP_low (l := objs qs) (fun o ho => by obtain ⟨q, hq, rfl⟩ := List.mem_map.1 ho; exact (hfit q hq).reg.2))
  have HTG := targets18_any a cap qs hfit w hs (by omega)
  rw [comP_eq]
  generalize begP (objs qs) = bs at HLOW HTG
  refine callsIn_of_wp_marks Tryd.func17 rfl trivial ?_ rfl
  simp only [Tryd.ntmps17, List.size_toArray, List.length_cons, List.length_nil, Nat.reduceAdd, Nat.reduceSub, Array.replicate_succ, Array.replicate_zero, List.push_toArray, List.append_toArray, List.nil_append, List.cons_append]
  gi_wp2
  refine ⟨trivial, callsIn_wide.2 (HTG.mono ?_)⟩
  rintro e w2 ⟨gt, rfl, hgt, hF2, k2⟩
  gi_wp2
  refine ⟨trivial, callsIn_wide.2 ((tallyNew_any w2).mono ?_)⟩
  rintro e w3 ⟨p, g, rfl, ⟨hp, hg⟩, hI3, k3⟩
  gi_wp2
  refine ⟨trivial, (pointers18_in Fence.wide (n - 1) trivial rfl a qs.length cap _).mono ?_⟩
  rintro e w' ⟨rfl, rfl⟩
  simp only [World.size_alloc, Nat.add_assoc, Nat.reduceAdd]
  obtain ⟨W0, hW0, hz, k0, q0, q1, q2⟩ := three_new w3 (.cells #[.map (some gt)] 42) (.cells #[.pointer (some ⟨p, 0, none⟩)] 44) (.cells #[.slice a qs.length cap] 22)
  have p0 : Row W0 w3.heap.size 42 [.map (some gt)] := q0
  have p1 : Row W0 (w3.heap.size + 1) 44 [.pointer (some ⟨p, 0, none⟩)] := q1
  have p2 : Row W0 (w3.heap.size + 2) 22 [.slice a qs.length cap] := q2
  rw [hW0]
  have kw3 : Kept [] w w3 := k2.trans k3
  have kw0 : Kept [] w W0 := kw3.trans k0
  have hF0 := (hF2.kept k3 (by simp)).kept k0 (by simp)
  have hI0 := hI3.kept k0
  have hlt3 := hI3.lt
  have hsz3 := k3.size
  have hgt2 := hF2.lt
  have hold : OldB w W0 := OldB.of_kept kw0 (by simp)
  have hszk2 := k2.size
  have hst := pointers18_stops (n - 1) (w3.heap.size + 2) W0.heap.size [g] a cap qs hfit w W0 hs hold.size (by intro z hz'; simp at hz'; omega) hT hold p2 (by omega)
  obtain ⟨P, hP⟩ : ∃ P, w3.heap.size = P := ⟨_, rfl⟩
  obtain ⟨Q, hQ⟩ : ∃ Q, w.heap.size = Q := ⟨_, rfl⟩
  rw [hP] at p0 p1 p2 hz hst hlt3 hsz3 ⊢
  rw [hQ] at hgt hszk2
  have HQ := Lib.hid hQ
  clear q0 q1 q2 hW0 hP hQ hF2 hI3 k3 k2
  gi_wp2
  refine wpIn_range_twobox 7 8 49 (fun x : PtrX => [.int .i64 x.1.2.1, .int .u64 x.1.2.2]) rfl h1 rfl trivial (enters_of Tryd.func20 (by kernel_rfl) rfl) hst KeptC.trans (fun W l o o' hl hW hc hw => KeptC.put (Nat.le_refl _) W l o o' hl hW hc hw)
    (fun pre W => TallyI p g W0 (tlyP (hitsP bs (ptrX pre))) W) (fun _ _ _ => False) (fun pre W o _ => KeptC.refl.alloc o) (TallyI.own _ _ _ _ (by omega) (by omega)) (fun _ _ _ _ _ h _ _ => h) (fun pre W h => h.2.size) ⟨hI0, Kept.refl _ _⟩ ?assign ?body ?done ?stop
  case assign =>
    intro l x W K hK
    simp only [encP1, encP2, List.setIfInBounds_toArray, List.set_cons_succ, List.set_cons_zero] at hK ⊢
    gi_wp2
    exact hK
  case body =>
    rintro lp pre ⟨⟨x1, x2, x3⟩, hx1, hx2, hx3⟩ V W hV hrV ⟨hI, hkk⟩ hlt
    have hg0 : ∀ k, k ≠ g → k ∉ [g] := fun k h => by simpa using h
    have w0 := p0.kept hkk (hg0 _ (by omega))
    have w1 := p1.kept hkk (hg0 _ (by omega))
    have hFW := hF0.kept hkk (hg0 _ (by omega))
    have cM : W.cell? ⟨P, 0, none⟩ = some (.map (some gt)) := by simpa using w0.cell 0
    have cT : W.cell? ⟨P + 1, 0, none⟩ = some (.pointer (some ⟨p, 0, none⟩)) := by simpa using w1.cell 0
    have cV0 : W.cell? ⟨V, 0, none⟩ = some (.int .i64 x2) := by simpa using hrV.cell 0
    have cV1 : W.cell? ⟨V, 1, none⟩ = some (.int .u64 x3) := by simpa using hrV.cell 1
    have hlk := hFW.look hx3
    have HAP := Lib.hid (show ptrX (pre ++ [⟨(x1, x2, x3), hx1, hx2, hx3⟩]) = ptrX pre ++ [(x1, x2, x3)] from by rw [ptrX_append, ptrX_one])
    have hpl : (ptrX pre).length < 2000000000 := by rw [ptrX_len]; omega
    have hszW := hkk.size
    simp only [encP1, encP2, List.setIfInBounds_toArray, List.set_cons_succ, List.set_cons_zero]
    generalize ptrX pre = xs at HAP hpl hI
    have hxl := hitsP_len bs xs
    obtain ⟨_, hcn, hll⟩ := tlyP_good (ts := hitsP bs xs) (hitsP_tgt HLOW.out _) (by omega)
    have ht := HLOW.out.count x3
    have HS : Hid (hitsP bs (xs ++ [(x1, x2, x3)]) = hitsP bs xs ++ countE x2 x1 (cntY bs x3)) := by show _ = _; rw [hitsP_append, hitsP_one]; rfl
    have hm : cntY (tlyP (hitsP bs xs)) (cntY bs x3) ≠ 2147483647 := by
      rw [hcn]
      have := List.count_le_length (a := cntY bs x3) (l := hitsP bs xs)
      omega
    have HC := Lib.hid (count18_any p g (tlyP (hitsP bs xs)) x2 x1 (cntY bs x3) W hI ht hm (by omega))
    generalize cntY bs x3 = t at hlk HS HC
    clear hcn hll hxl hlt hm ht
    gi_wp2_with fail
    refine ⟨trivial, (fun h => by cases h), CallsIn.inRound lp (callsIn_wide.2 (HC.out.mono ?_))⟩
    rintro e w4 ⟨rfl, hI4, hk4⟩
    gi_wp2
    exact ⟨KeepsFrom.of_keptC hk4 (by intro s hs; left; simp at hs; omega), KeptC.of_kept hk4, by rw [HAP.out, HS.out, tlyP_append]; exact hI4, hkk.trans hk4⟩
  case done =>
    rintro D ys W hD hys ⟨hI, hkk⟩ hK
    rw [hys] at hI
    have hg0 : ∀ k, k ≠ g → k ∉ [g] := fun k h => by simpa using h
    have w0 := p0.kept hkk (hg0 _ (by omega))
    have w1 := p1.kept hkk (hg0 _ (by omega))
    have hFW := hF0.kept hkk (hg0 _ (by omega))
    have kW : Kept [] w W := kw0.chain hkk (by simp) (by have := HQ.out; simp; omega)
    have hoW : OldB w W := OldB.of_kept kW (by simp)
    have hszW := kw0.size
    have hgD : D ∉ [g] := by simp; omega
    clear hI0 hF0 p0 p1 p2 hst hkk
    gi_wp2
    gi_loopw [29] (fun i wr => ∃ j : Nat, j ≤ roots.length ∧ i = .int .i64 j ∧ IsTally wr p g (tlyP (hitsP bs (ptrP (objs qs) ++ (roots.take j).map rootX))) ∧ Kept [g] W wr) (fun i _ => roots.length - (intOf i).toNat)
    case atStart => exact ⟨0, Nat.zero_le _, rfl, by simpa using hI, Kept.refl _ _⟩
    case round =>
      obtain ⟨j, hj, rfl, hIr, hkr⟩ := hrel
      clear hI
      have hKr : wr.heap[D]? = some (.deferred (some [])) := (hkr.block D (Array.getElem?_eq_some_iff.1 hK).1 hgD).trans hK
      have cT : wr.cell? ⟨P + 1, 0, none⟩ = some (.pointer (some ⟨p, 0, none⟩)) := by simpa using (w1.kept hkr (hg0 _ (by omega))).cell 0
      by_cases hlt : j < roots.length
      · have cM : wr.cell? ⟨P, 0, none⟩ = some (.map (some gt)) := by simpa using (w0.kept hkr (hg0 _ (by omega))).cell 0
        obtain ⟨b1, off1, rfl, e1⟩ := (hsr.old (hoW.kept hkr (by intro s hs'; simp at hs'; have := HQ.out; omega))).cell hlt
        have hv : FitU (roots[j]?.getD 0) := by rw [List.getElem?_eq_getElem hlt]; exact hrf _ (List.getElem_mem hlt)
        have HTK := Lib.hid (rootX_take hlt)
        generalize roots[j]?.getD 0 = v at e1 hv HTK
        have hlk := (hFW.kept hkr (hg0 _ (by omega))).look hv
        have h2 : (j : Int) < (roots.length : Int) := by omega
        obtain ⟨xs, hxs⟩ : ∃ xs, ptrP (objs qs) ++ (roots.take j).map rootX = xs := ⟨_, rfl⟩
        have hxl0 : xs.length < 2000000000 := by rw [← hxs]; simp; omega
        have HX : Hid (ptrP (objs qs) ++ (roots.take (j + 1)).map rootX = xs ++ [rootX v]) := by show _ = _; rw [HTK.out, ← hxs, List.append_assoc]
        rw [hxs] at hIr
        clear hxs
        have hxl := hitsP_len bs xs
        obtain ⟨_, hcn, hll⟩ := tlyP_good (ts := hitsP bs xs) (hitsP_tgt HLOW.out _) (by omega)
        have ht := HLOW.out.count v
        have HS : Hid (hitsP bs (xs ++ [rootX v]) = hitsP bs xs ++ countE 1 0 (cntY bs v)) := by show _ = _; rw [hitsP_append, hitsP_one]; rfl
        have hm : cntY (tlyP (hitsP bs xs)) (cntY bs v) ≠ 2147483647 := by
          rw [hcn]
          have := List.count_le_length (a := cntY bs v) (l := hitsP bs xs)
          omega
        have HC := Lib.hid (count18_any p g (tlyP (hitsP bs xs)) 1 0 (cntY bs v) wr hIr ht hm (by omega))
        generalize cntY bs v = t at hlk HS HC
        clear hcn hll hxl hm ht
        gi_wp2_with fail
        refine ⟨trivial, callsIn_wide.2 (HC.out.mono ?_)⟩
        rintro e w4 ⟨rfl, hI4, hk4⟩
        gi_wp2
        go_roundw
        case rel => exact ⟨j + 1, by omega, by go_num, by rw [HX.out, HS.out, tlyP_append]; exact hI4, hkr.trans hk4⟩
        case measure => simp [intOf]; omega
      · obtain rfl : j = roots.length := by omega
        rw [List.take_length] at hIr
        have hgl := hIr.lt
        gi_wp2_with fail
        refine ⟨by simp, .inl ⟨_, _, rfl, run_takeDeferred hKr, ?_⟩⟩
        have kD1 : Kept [D] wr (wr.putObj D (.deferred none)) := (Kept.refl [D] wr).put (r := D) (.inl (by simp)) _
        have kD : Kept [] w (wr.putObj D (.deferred none)) := (kW.chain hkr (by simp) (by have := HQ.out; simp; omega) : Kept [] w wr).put (.inr (by omega)) _
        exact ⟨_, results_tmp rfl _ _ _, p, g, rfl, by have := HQ.out; omega, hIr.keptS kD1 (by simp; omega) (by simp; omega), kD⟩
  case stop =>
    intro D c pre W hD hsp h hK
    exact h.elim
theorem comes18_any (a : Option Addr) (cap : Nat) (qs : List ObQ) (R : Option Addr) (rc : Nat) (roots : List Int) (hfit : ∀ q ∈ qs, q.o.Fit) (hrf : ∀ v ∈ roots, FitU v) (w : World) (hs : SlO w a qs) (hsr : Sl w .u64 R roots) (hT : Tab w) (hl : qs.length ≤ 1099511627) (hN : (ptrP (objs qs)).length + roots.length ≤ 2000000000) :
    Calls Tryd.prog 17 #[.slice a qs.length cap, .slice R roots.length rc] w (ComesPost (tlyP (comP (objs qs) roots)) w) := (callsIn_wide (n := 3)).1 (comes18_in 3 (by omega) a cap qs R rc roots hfit hrf w hs hsr hT hl hN)
theorem comP_len (l : List ObP) (roots : List Int) : (comP l roots).length ≤ (ptrP l).length + roots.length := by
  have := hitsP_len (begP l) (ptrP l ++ roots.map rootX)
  rw [comP_eq]
  simpa using this

set_option maxRecDepth 100000 in
set_option maxHeartbeats 2000000 in
theorem incoming18_any (a : Option Addr) (cap : Nat) (qs : List ObQ) (R : Option Addr) (rc : Nat) (roots : List Int) (r : Int) (hr : Fit64 r) (hfit : ∀ q ∈ qs, q.o.Fit) (hrf : ∀ v ∈ roots, FitU v) (w : World) (hs : SlO w a qs) (hsr : Sl w .u64 R roots) (hT : Tab w) (hl : qs.length ≤ 1099511627) (hN : (ptrP (objs qs)).length + roots.length ≤ 2000000000) :
    Calls Tryd.prog 8 #[.slice a qs.length cap, .slice R roots.length rc, .int .i64 r] w fun e w' => e = .returned (.int .i64 ((comP (objs qs) roots).count r)) ∧ Kept [] w w' := by
  have HT := Lib.hid (hitsP_tgt (begP_low (l := objs qs) (fun o ho => by obtain ⟨q, hq, rfl⟩ := List.mem_map.1 ho; exact (hfit q hq).reg.2)) (ptrP (objs qs) ++ roots.map rootX))
  have HC := Lib.hid (comes18_any a cap qs R rc roots hfit hrf w hs hsr hT hl hN)
  have hlen := comP_len (objs qs) roots
  obtain ⟨_, hc, _⟩ := tlyP_good (ts := comP (objs qs) roots) HT.out (by omega)
  rw [← hc r]
  generalize tlyP (comP (objs qs) roots) = gs at HC
  clear hc hlen HT hfit
  go_enter Tryd.func8, Tryd.ntmps8
  go_wp2_with fail
  refine HC.out.mono ?_
  rintro e w1 ⟨p, g, rfl, _, hI, k1⟩
  go_wp2_with fail
  refine (tallyOf_any p g gs r w1 hI hr).mono ?_
  rintro e w2 ⟨rfl, rfl⟩
  go_wp2
  go_ret
  exact ⟨rfl, k1⟩

set_option maxRecDepth 100000 in
set_option maxHeartbeats 2000000 in
theorem counts18_any (a : Option Addr) (cap : Nat) (qs : List ObQ) (R : Option Addr) (rc : Nat) (roots : List Int) (hfit : ∀ q ∈ qs, q.o.Fit) (hrf : ∀ v ∈ roots, FitU v) (w : World) (hs : SlO w a qs) (hsr : Sl w .u64 R roots) (hT : Tab w) (hl : qs.length ≤ 1099511627) (hN : (ptrP (objs qs)).length + roots.length ≤ 2000000000) :
    Calls Tryd.prog 11 #[.slice a qs.length cap, .slice R roots.length rc] w (AllPostY (tlyP (comP (objs qs) roots)) w) := by
  have HT := Lib.hid (hitsP_tgt (begP_low (l := objs qs) (fun o ho => by obtain ⟨q, hq, rfl⟩ := List.mem_map.1 ho; exact (hfit q hq).reg.2)) (ptrP (objs qs) ++ roots.map rootX))
  have HC := Lib.hid (comes18_any a cap qs R rc roots hfit hrf w hs hsr hT hl hN)
  have hlen := comP_len (objs qs) roots
  obtain ⟨_, _, hll⟩ := tlyP_good (ts := comP (objs qs) roots) HT.out (by omega)
  have hgl : (tlyP (comP (objs qs) roots)).length < 1099511627776 := by omega
  generalize tlyP (comP (objs qs) roots) = gs at HC hgl ⊢
  clear hll hlen HT hfit
  go_enter Tryd.func11, Tryd.ntmps11
  go_wp2_with fail
  refine HC.out.mono ?_
  rintro e w1 ⟨p, g, rfl, _, hI, k1⟩
  go_wp2_with fail
  refine (tallyAll_any p g gs w1 hI hgl).mono ?_
  rintro e w2 ⟨G, c, rfl, hG, hsl, k2⟩
  go_wp2
  go_ret
  exact ⟨G, c, rfl, by have := k1.size; omega, hsl, k1.trans k2⟩
end Go.Proofs.YtionleocbjfgaaaDoor
