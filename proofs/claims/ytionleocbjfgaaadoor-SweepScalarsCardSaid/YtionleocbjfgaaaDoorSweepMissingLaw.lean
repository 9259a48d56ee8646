/- The law SweepMissing: its walk. -/
import Derived.Test.YtionleocbjfgaaaDoorSweepFixed
import Derived.Test.YtionleocbjfgaaaDoorSweepMissing
import Derived.Test.YtionleocbjfgaaaDoorTallyRef
import Derived.Test.YtionleocbjfgaaaDoorRegionPick
namespace Go.Proofs.YtionleocbjfgaaaDoor
open Go.RowKit

theorem info_object18 : (Tryd.prog.info? 30).map (fun i => (i.zero, i.size, i.bytes)) = some (some (.agg #[.int .i64 0, .int .i64 0, .bool false, .int .i64 0, .int .i64 0, .int .i64 0, .slice none 0 0, .slice none 0 0]), 8, 96) := by kernel_rfl
/-- Without a region's objects, as they lie. -/
def restQ (r : Int) (qs : List ObQ) : List ObQ := qs.filter fun q => q.o.reg != r
theorem restQ_objs (r : Int) (qs : List ObQ) : objs (restQ r qs) = restO (objs qs) r := by
  unfold objs restQ restO
  rw [List.filter_map]; rfl
theorem restQ_len (r : Int) (qs : List ObQ) : (restQ r qs).length ≤ qs.length := List.length_filter_le _ _
theorem restQ_take {r : Int} {qs : List ObQ} {j : Nat} (hj : j < qs.length) : restQ r (qs.take (j + 1)) = restQ r (qs.take j) ++ if (qs[j].o.reg != r) = true then [qs[j]] else [] := by
  unfold restQ
  rw [List.take_succ_eq_append_getElem hj, List.filter_append, List.filter_cons]; rfl
theorem restQ_mem {r : Int} {qs : List ObQ} {q : ObQ} (h : q ∈ restQ r qs) : q ∈ qs ∧ q.o.reg ≠ r := by
  have := List.mem_filter.1 h
  exact ⟨this.1, by simpa using this.2⟩
theorem ptrP_len {n : Nat} : ∀ {l : List ObP}, (∀ o ∈ l, o.ks.length ≤ n) → (ptrP l).length ≤ l.length * n
  | [], _ => by simp [ptrP]
  | o :: l, h => by
    have h1 := ptrO_len o
    have h2 := h o (by simp)
    have ih := ptrP_len (n := n) (l := l) (fun o ho => h o (by simp [ho]))
    rw [ptrP_cons, List.length_append, List.length_cons, Nat.succ_mul]; omega

set_option maxRecDepth 100000 in
set_option maxHeartbeats 2000000 in
theorem sweepMissing_great (a R : Option Addr) (cap rc : Nat) (qs : List ObQ) (rl : Nat) (r : Int) (w : World) (hs : SlO w a qs) (hT : Tab w) (hl : qs.length ≤ maxLen) (hr : rl ≤ maxLen) (hg : greatQ qs = true ∨ 60 < rl) :
    Calls Tryd.prog 3 #[.slice a qs.length cap, .slice R rl rc, .int .i64 r] w (FixedPost w) := by
  unfold maxLen at hr
  have HG := Lib.hid (great18_any a cap qs w hs hl)
  have HF := Lib.hid (fun W (hk : Kept [] w W) => fixed18_any W (hT.kept hk))
  cases hgq : greatQ qs with
  | true =>
    rw [hgq] at HG
    clear hg hgq
    go_enter Tryd.func3, Tryd.ntmps3
    go_wp2_with fail
    refine HG.out.mono ?_
    rintro e w1 ⟨rfl, k1⟩
    go_wp2_with fail
    refine (HF.out w1 k1).mono ?_
    rintro e w2 ⟨rfl, k2⟩
    go_wp2
    go_ret
    exact ⟨rfl, k1.trans k2⟩
  | false =>
    have h60 : decide ((60 : Int) < (rl : Int)) = true := by
      rcases hg with h | h
      · rw [h] at hgq; cases hgq
      · simp; omega
    rw [hgq] at HG
    clear hg hgq
    go_enter Tryd.func3, Tryd.ntmps3
    go_wp2_with fail
    refine HG.out.mono ?_
    rintro e w1 ⟨rfl, k1⟩
    go_wp2_with fail
    refine (HF.out w1 k1).mono ?_
    rintro e w2 ⟨rfl, k2⟩
    go_wp2
    go_ret
    exact ⟨rfl, k1.trans k2⟩

set_option maxRecDepth 100000 in
set_option maxHeartbeats 8000000 in
theorem sweepMissing_law (a : Option Addr) (cap : Nat) (qs : List ObQ) (R : Option Addr) (rc : Nat) (roots : List Int) (r : Int) (w : World) (hfit : ∀ q ∈ qs, q.o.Fit) (hrf : ∀ v ∈ roots, FitU v) (hr : Fit64 r) (hs : SlO w a qs) (hsr : Sl w .u64 R roots) (hT : Tab w) (hg : greatQ qs = false) (hrl : roots.length ≤ 60) (hcap : qs.length ≤ cap) :
    Calls Tryd.prog 3 #[.slice a qs.length cap, .slice R roots.length rc, .int .i64 r] w (FixedPost w) := by
  obtain ⟨hl, hkv⟩ := greatQ_no hg
  obtain ⟨i0, hi, hz0, hz1, hz2⟩ := info_parts info_object18
  have h60 : decide ((60 : Int) < (roots.length : Int)) = false := by simp; omega
  have HG := Lib.hid (great18_any a cap qs w hs (by unfold maxLen; omega))
  rw [hg] at HG
  have HF := Lib.hid (fun W (hk : Kept [] w W) => fixed18_any W (hT.kept hk))
  go_enter Tryd.func3, Tryd.ntmps3
  go_wp2_with fail
  refine HG.out.mono ?_
  rintro e w1 ⟨rfl, k1⟩
  have own1 : OwnS 30 ObQ.cells 8 w1 w1.heap.size (.slice none 0 0) [] := OwnS.nil
  clear hg
  go_wp2_with fail
  go_loopw [25, 7] (fun i v wr => ∃ j : Nat, j ≤ qs.length ∧ i = .int .i64 j ∧ OwnS 30 ObQ.cells 8 wr w1.heap.size v (restQ r (qs.take j)) ∧ Hid (ApartO (objs (qs.take j))) ∧ Kept [] w1 wr) (fun i _ _ => qs.length - (intOf i).toNat)
  case atStart => exact ⟨0, Nat.zero_le _, rfl, own1, List.Pairwise.nil, Kept.refl _ _⟩
  case round =>
    obtain ⟨j, hj, rfl, hown, HAP, hkr⟩ := hrel
    clear own1
    have hk := k1.trans hkr
    by_cases hlt : j < qs.length
    · obtain ⟨b, off, rfl, _, c0, c1, c2, c3, c4, c5, c6, c7⟩ := (hs.kept hk).1.obj hlt
      have HT := Lib.hid (objs_take hlt)
      have HRT := Lib.hid (restQ_take (r := r) hlt)
      have hrl0 := restQ_len r (qs.take j)
      have hrl1 : (restQ r (qs.take j)).length ≤ 60 := by rw [List.length_take] at hrl0; omega
      obtain ⟨q, hq⟩ : ∃ q, qs[j] = q := ⟨_, rfl⟩
      rw [hq] at c0 c1 c2 c3 c4 c5 c6 c7 HT HRT
      obtain ⟨⟨oat, org, oks, ovs⟩, ⟨oar, okd, oty, onn⟩, ka, kc, va, vc⟩ := q
      simp only at c0 c1 c2 c3 c4 c5 c6 c7 HT HRT
      have h1 : (j : Int) < (qs.length : Int) := by omega
      have hjc : (j : Int) ≤ (cap : Int) := by omega
      have rO := Row.new wr 30 [.int .i64 oat, .int .i64 org, .bool oar, .int .i64 okd, .int .i64 oty, .int .i64 onn, .slice ka oks.length kc, .slice va ovs.length vc]
      have kA := (Kept.refl [] wr).alloc (.cells #[.int .i64 oat, .int .i64 org, .bool oar, .int .i64 okd, .int .i64 oty, .int .i64 onn, .slice ka oks.length kc, .slice va ovs.length vc] 30)
      have hownA := hown.keptS kA (by simp)
      have hge := hown.ge
      have hszr := hkr.size
      obtain ⟨B, hB⟩ : ∃ B, wr.heap.size = B := ⟨_, rfl⟩
      have HB := Lib.hid hB
      rw [hB] at rO
      clear hq hrl0 hB
      have hBo : ∀ i, u7.ownBlock = some i → i ≠ B := fun i hi e => by have := hown.lt i hi; have := HB.out; omega
      have kwa := hkr.trans kA
      have HAPJ := Lib.hid HAP.out
      go_wp2_with fail
      rw [HB.out]
      clear c0 c1 c2 c3 c4 c5 c6 c7 hown hk
      generalize wr.alloc (.cells #[.int .i64 oat, .int .i64 org, .bool oar, .int .i64 okd, .int .i64 oty, .int .i64 onn, .slice ka oks.length kc, .slice va ovs.length vc] 30) = wa at rO hownA kwa ⊢
      clear hszr kA hkr
      go_loopw [34] (fun i wr => ∃ m : Nat, m ≤ j ∧ i = .int .i64 m ∧ Hid (∀ x ∈ objs (qs.take m), x.at_ ≠ oat) ∧ Kept [] wa wr) (fun i _ => j - (intOf i).toNat)
      case atStart => exact ⟨0, Nat.zero_le _, rfl, by show ∀ _, _; simp [objs], Kept.refl _ _⟩
      case round =>
        obtain ⟨m, hm, rfl, HNE, hkq⟩ := hrel
        have kw := (k1.trans kwa).trans hkq
        have rOq := rO.kept hkq (by simp)
        have e0 : wr.cell? ⟨B, 0, none⟩ = some (.int .i64 oat) := by simpa using rOq.cell 0
        by_cases hlt2 : m < j
        · obtain ⟨b', off', hb', _, c0, c1, c2, c3, c4, c5, c6, c7⟩ := (hs.kept kw).1.obj (show m < qs.length by omega)
          obtain ⟨rfl, rfl⟩ : b = b' ∧ off = off' := by simpa using hb'
          have HTM := Lib.hid (objs_take (show m < qs.length by omega))
          obtain ⟨⟨⟨xat, xrg, xks, xvs⟩, ⟨xar, xkd, xty, xnn⟩, xka, xkc, xva, xvc⟩, hq⟩ : ∃ q, qs[m]'(by omega) = q := ⟨_, rfl⟩
          rw [hq] at c0 c1 c2 c3 c4 c5 c6 c7 HTM
          simp only at c0 c1 c2 c3 c4 c5 c6 c7 HTM
          have h2 : (m : Int) < (j : Int) := by omega
          have kX := hkq.alloc (.cells #[.int .i64 xat, .int .i64 xrg, .bool xar, .int .i64 xkd, .int .i64 xty, .int .i64 xnn, .slice xka xks.length xkc, .slice xva xvs.length xvc] 30)
          have e0a : (wr.alloc (.cells #[.int .i64 xat, .int .i64 xrg, .bool xar, .int .i64 xkd, .int .i64 xty, .int .i64 xnn, .slice xka xks.length xkc, .slice xva xvs.length xvc] 30)).cell? ⟨B, 0, none⟩ = some (.int .i64 oat) := by simpa using (rOq.alloc (.cells #[.int .i64 xat, .int .i64 xrg, .bool xar, .int .i64 xkd, .int .i64 xty, .int .i64 xnn, .slice xka xks.length xkc, .slice xva xvs.length xvc] 30)).cell 0
          clear hq hb'
          by_cases he : xat = oat
          · subst he
            have HFW := Lib.hid (HF.out _ ((k1.trans kwa).trans kX))
            go_wp2_with fail
            refine HFW.out.mono ?_
            rintro e w4 ⟨rfl, k4⟩
            go_wp2
            go_ret
            exact ⟨rfl, ((k1.trans kwa).trans kX).trans k4⟩
          · have he' : decide (xat = oat) = false := by simpa using he
            have he2 : (xat == oat) = false := by simpa using he
            have HE := Lib.hid he
            clear he
            go_wp2_with fail
            go_roundw
            case rel => exact ⟨m + 1, by omega, by go_num, by show ∀ _, _; rw [HTM.out]; intro x hx; rcases List.mem_append.1 hx with hx | hx; exact HNE.out x hx; rw [List.mem_singleton.1 hx]; exact HE.out, kX⟩
            case measure => simp [intOf]; omega
        · obtain rfl : m = j := by omega
          have HAP2 : Hid (ApartO (objs (qs.take (m + 1)))) := by
            show ApartO _
            rw [HT.out]
            exact List.pairwise_append.2 ⟨HAPJ.out, List.pairwise_singleton _ _, fun x hx y hy => by rw [List.mem_singleton.1 hy]; exact HNE.out x hx⟩
          have e1 : wr.cell? ⟨B, 1, none⟩ = some (.int .i64 org) := by simpa using rOq.cell 1
          have hownq := hownA.keptS hkq (by simp)
          clear HNE HT HAPJ hownA rO
          by_cases her : org = r
          · subst her
            have hne : (org != org) = false := by simp
            have HR2 : Hid (restQ org (qs.take (m + 1)) = restQ org (qs.take m)) := by show _ = _; rw [HRT.out]; simp
            clear HRT
            go_wp2_with fail
            go_roundw
            case rel => exact ⟨m + 1, by omega, by go_num, by rw [HR2.out]; exact hownq, HAP2, kwa.trans hkq⟩
            case measure => simp [intOf]; omega
          · have hne : (org != r) = true := by simpa using her
            have HR2 : Hid (restQ r (qs.take (m + 1)) = restQ r (qs.take m) ++ [⟨⟨oat, org, oks, ovs⟩, ⟨oar, okd, oty, onn⟩, ka, kc, va, vc⟩]) := by show _ = _; rw [HRT.out, if_pos hne]
            clear HRT her
            have e2 : wr.cell? ⟨B, 2, none⟩ = some (.bool oar) := by simpa using rOq.cell 2
            have e3 : wr.cell? ⟨B, 3, none⟩ = some (.int .i64 okd) := by simpa using rOq.cell 3
            have e4 : wr.cell? ⟨B, 4, none⟩ = some (.int .i64 oty) := by simpa using rOq.cell 4
            have e5 : wr.cell? ⟨B, 5, none⟩ = some (.int .i64 onn) := by simpa using rOq.cell 5
            have e6 : wr.cell? ⟨B, 6, none⟩ = some (.slice ka oks.length kc) := by simpa using rOq.cell 6
            have e7 : wr.cell? ⟨B, 7, none⟩ = some (.slice va ovs.length vc) := by simpa using rOq.cell 7
            have hszq := (kwa.trans hkq).size
            go_wp2_with (first
              | (at_builtin; refine wpList_append_s _ rfl _ _ 22 rfl w1.heap.size i0 _ 96 Tryd.underlying22 hi hz0 hz1 hz2 rfl (by decide) (by decide) wr u7 _ ⟨⟨oat, org, oks, ovs⟩, ⟨oar, okd, oty, onn⟩, ka, kc, va, vc⟩ (ObQ.cells_length _) (ObQ.cells_one _) rfl rfl rfl hownq hszq (by omega) ?_; intro g3 c3 w3 hown3 hk3 hat3; go_frame)
              | fail)
            have hk4 : Kept [] w1 w3 := (kwa.trans hkq).chain hk3 (by simp) (by intro i hi hlt; rw [Option.mem_toList] at hi; have := hge i hi; omega)
            go_roundw
            case rel => exact ⟨m + 1, by omega, by go_num, by rw [HR2.out]; simpa using hown3, HAP2, hk4⟩
            case measure => simp [intOf]; omega
    · obtain rfl : j = qs.length := by omega
      rw [List.take_length] at hown HAP
      obtain ⟨A2, cp2, rfl, hsl2, _⟩ := hown.slice ObQ.cells_length
      clear hown
      have hl2 := restQ_len r qs
      have hfit2 : ∀ q ∈ restQ r qs, q.o.Fit := fun q hq => hfit q (restQ_mem hq).1
      have hpos : ∀ q ∈ restQ r qs, q.o.reg ≠ r := fun q hq => (restQ_mem hq).2
      have hs2 : SlO wr A2 (restQ r qs) := ⟨hsl2, fun q hq => (hs.kept hk).2 q (restQ_mem hq).1⟩
      have hkl : ∀ o ∈ objs qs, o.ks.length ≤ 40 := fun o ho => by obtain ⟨q, hq, rfl⟩ := List.mem_map.1 ho; exact (hkv q hq).1
      have hN := ptrP_len hkl
      rw [objs_len] at hN
      have hkl2 : ∀ o ∈ objs (restQ r qs), o.ks.length ≤ 40 := fun o ho => by obtain ⟨q, hq, rfl⟩ := List.mem_map.1 ho; exact (hkv q (restQ_mem hq).1).1
      have hN2 := ptrP_len hkl2
      rw [objs_len] at hN2
      have hNm : qs.length * 40 ≤ 2400 := by omega
      have HMC := Lib.hid (fun (R : Int) (hR : 0 < R) (hne : R ≠ r) => missing_count HAP.out roots hR hne)
      have HRO := Lib.hid (restO_out (objs qs) r)
      have HSELF := Lib.hid (outP_self (objs qs) r)
      have HTG := Lib.hid (hitsP_tgt (begP_low (l := objs qs) (fun o ho => by obtain ⟨q, hq, rfl⟩ := List.mem_map.1 ho; exact (hfit q hq).reg.2)) ((ptrP (objs qs)).filter fun x => decide (x.1 = r)))
      have hoL : (outP (objs qs) r).length ≤ 2400 := Nat.le_trans (outX_len _ _ _) (by omega)
      have hcL : (comP (objs qs) roots).length ≤ 2460 := Nat.le_trans (comP_len _ _) (by omega)
      have hcL2 : (comP (objs (restQ r qs)) roots).length ≤ 2460 := Nat.le_trans (comP_len _ _) (by omega)
      rw [← restQ_objs] at HMC HRO
      have HCNT := Lib.hid (tlyP_good (ts := outP (objs qs) r) HTG.out (by omega))
      have HOUT := Lib.hid (outgoing18_any a cap qs r hfit wr (hs.kept hk) (hT.kept hk) (by omega) (by omega))
      have HOUT2 := Lib.hid (fun W (hk2 : Kept [] wr W) => outgoing18_any A2 cp2 (restQ r qs) r hfit2 W (hs2.kept hk2) ((hT.kept hk).kept hk2) (by omega) (by omega))
      have HIN := Lib.hid (fun (R' : Int) (hR' : Fit64 R') W (hk2 : Kept [] wr W) => incoming18_any a cap qs R rc roots R' hR' hfit hrf W ((hs.kept hk).kept hk2) (hsr.kept (hk.trans hk2)) ((hT.kept hk).kept hk2) (by omega) (by omega))
      have HIN2 := Lib.hid (fun (R' : Int) (hR' : Fit64 R') W (hk2 : Kept [] wr W) => incoming18_any A2 cp2 (restQ r qs) R rc roots R' hR' hfit2 hrf W (hs2.kept hk2) (hsr.kept (hk.trans hk2)) ((hT.kept hk).kept hk2) (by omega) (by omega))
      rw [HRO.out] at HOUT2
      have HREG := Lib.hid (fun q (hq : q ∈ restQ r qs) => (hfit2 q hq).reg)
      have hln2 : (restQ r qs).length ≤ 60 := by omega
      obtain ⟨cl, hcl⟩ : ∃ c, (fun R' => (comP (objs qs) roots).count R') = c := ⟨_, rfl⟩
      obtain ⟨cr, hcr⟩ : ∃ c, (fun R' => (comP (objs (restQ r qs)) roots).count R') = c := ⟨_, rfl⟩
      have hclb : ∀ R', cl R' ≤ 2460 := fun R' => by rw [← hcl]; exact Nat.le_trans List.count_le_length hcL
      have hcrb : ∀ R', cr R' ≤ 2460 := fun R' => by rw [← hcr]; exact Nat.le_trans List.count_le_length hcL2
      obtain ⟨gs, hgs⟩ : ∃ gs, tlyP (outP (objs qs) r) = gs := ⟨_, rfl⟩
      rw [hgs] at HOUT HCNT
      have hgl : gs.length ≤ 2400 := by have := HCNT.out.2.2; omega
      have HCL : Hid (∀ R', (comP (objs qs) roots).count R' = cl R') := fun R' => by rw [← hcl]
      have HCR : Hid (∀ R', (comP (objs (restQ r qs)) roots).count R' = cr R') := fun R' => by rw [← hcr]
      have HIN' : Hid (∀ (R' : Int) (hR' : Fit64 R') W (hk2 : Kept [] wr W), Calls Tryd.prog 8 #[.slice a qs.length cap, .slice R roots.length rc, .int .i64 R'] W fun e w' => e = .returned (.int .i64 (cl R' : Nat)) ∧ Kept [] W w') := fun R' hR' W hk2 => by rw [← HCL.out]; exact HIN.out R' hR' W hk2
      have HIN2' : Hid (∀ (R' : Int) (hR' : Fit64 R') W (hk2 : Kept [] wr W), Calls Tryd.prog 8 #[.slice A2 (restQ r qs).length cp2, .slice R roots.length rc, .int .i64 R'] W fun e w' => e = .returned (.int .i64 (cr R' : Nat)) ∧ Kept [] W w') := fun R' hR' W hk2 => by rw [← HCR.out]; exact HIN2.out R' hR' W hk2
      have HEQ : Hid (∀ R', 0 < R' → R' ≠ r → (cr R' : Int) = (cl R' : Int) - cntY gs R' ∧ 0 ≤ cntY gs R' ∧ cntY gs R' ≤ 2400) := fun R' h1 h2 => by
        rw [HCNT.out.2.1, ← HCL.out, ← HCR.out]
        have := List.count_le_length (a := R') (l := outP (objs qs) r)
        exact ⟨HMC.out R' h1 h2, by omega, by omega⟩
      have HZ : Hid (cntY gs r = 0) := by show _ = _; rw [HCNT.out.2.1, HSELF.out]; rfl
      clear HIN HIN2 HCL HCR HMC HSELF HCNT HTG hcl hcr hgs hoL hcL hcL2 hN hN2 hNm hkl hkl2 hkv HRO HAP hfit hfit2 hsl2
      go_wp2_with fail
      refine HOUT.out.mono ?_
      rintro e w2 ⟨G, gc, rfl, _, hsg, k2⟩
      have HS2 := Lib.hid hs2
      clear HOUT HG
      obtain ⟨N, hNl⟩ : ∃ N, (restQ r qs).length = N := ⟨_, rfl⟩
      rw [hNl] at hln2 HIN2' HOUT2
      have HNL := Lib.hid hNl
      rw [hNl]
      clear hNl hl2 hs2
      go_wp2_with fail
      go_loopw [59] (fun i wr => ∃ j : Nat, j ≤ N ∧ i = .int .i64 j ∧ Kept [] w2 wr) (fun i _ => N - (intOf i).toNat)
      case atStart => exact ⟨0, Nat.zero_le _, rfl, Kept.refl _ _⟩
      case round =>
        obtain ⟨j, hj, rfl, hkq⟩ := hrel
        have kw := k2.trans hkq
        by_cases hlt2 : j < N
        · obtain ⟨b, off, rfl, _, c0, c1, c2, c3, c4, c5, c6, c7⟩ := (HS2.out.kept kw).1.obj (show j < (restQ r qs).length by have := HNL.out; omega)
          have hrp := hpos _ (List.getElem_mem (show j < (restQ r qs).length by have := HNL.out; omega))
          have hrf2 := HREG.out _ (List.getElem_mem (show j < (restQ r qs).length by have := HNL.out; omega))
          obtain ⟨⟨⟨oat, org, oks, ovs⟩, ⟨oar, okd, oty, onn⟩, ka, kc, va, vc⟩, hq⟩ : ∃ q, (restQ r qs)[j]'(by have := HNL.out; omega) = q := ⟨_, rfl⟩
          rw [hq] at c0 c1 c2 c3 c4 c5 c6 c7 hrp hrf2
          simp only at c0 c1 c2 c3 c4 c5 c6 c7 hrp hrf2
          have h1 : (j : Int) < (N : Int) := by omega
          have rO := Row.new wr 30 [.int .i64 oat, .int .i64 org, .bool oar, .int .i64 okd, .int .i64 oty, .int .i64 onn, .slice ka oks.length kc, .slice va ovs.length vc]
          have kA := hkq.alloc (.cells #[.int .i64 oat, .int .i64 org, .bool oar, .int .i64 okd, .int .i64 oty, .int .i64 onn, .slice ka oks.length kc, .slice va ovs.length vc] 30)
          obtain ⟨B, hB⟩ : ∃ B, wr.heap.size = B := ⟨_, rfl⟩
          rw [hB] at rO
          clear hq
          go_wp2_with fail
          clear c0 c1 c2 c3 c4 c5 c6 c7
          generalize wr.alloc (.cells #[.int .i64 oat, .int .i64 org, .bool oar, .int .i64 okd, .int .i64 oty, .int .i64 onn, .slice ka oks.length kc, .slice va ovs.length vc] 30) = wa at rO kA ⊢
          clear hkq kw hB
          have hold := Lib.hid (show ∀ W', Kept [] wa W' → (fun w' => Kept [] wa w' ∧ w'.cell? ⟨B, 1, none⟩ = some (.int .i64 org)) W' from fun W' kq => ⟨kq, by simpa using (rO.kept kq (by simp)).cell 1⟩)
          have kq0 : Kept [] wa wa.drew := (Kept.refl _ _).drew
          by_cases hpo : 0 < org
          · have hpo' : decide (0 < org) = true := by simpa using hpo
            obtain ⟨heq, hb0, hb1⟩ := HEQ.out org hpo hrp
            have hclo := hclb org
            have hcro := hcrb org
            have hIN1 := Lib.hid (HIN2'.out org hrf2)
            have hIN2 := Lib.hid (HIN'.out org hrf2)
            have hOF := Lib.hid (fun W (hk2 : Kept [] wa W) => refOf15_any (some ⟨G, 0, none⟩) gs.length gc gs org W (hsg.kept (kA.trans hk2)) rfl (by omega))
            generalize cl org = x1 at heq hclo hIN2
            generalize cr org = x2 at heq hcro hIN1
            generalize cntY gs org = x3 at heq hb0 hb1 hOF
            have hwr : IntKind.i64.wrap ((x1 : Int) - x3) = (x1 : Int) - x3 := IntWalk.i64_in _ (by omega)
            have hne : ((x2 : Int) != (x1 : Int) - x3) = false := by rw [heq]; simp
            clear heq hb0 hb1 hclo hcro hpo hrp hrf2
            refine wp_region_pick (fun w' => Kept [] wa w' ∧ w'.cell? ⟨B, 1, none⟩ = some (.int .i64 org)) (by kernel_rfl) (hold.out _ kq0) ?_
            simp only [numbered, List.length_cons, List.length_nil, Nat.reduceAdd]
            repeat (first
          | (refine pick_take0 (v := ?_) rfl (by decide +kernel) (fun _ _ _ h => h) (by rfl) ?_ ?_; rotate_left; (intro w hSw; (try dsimp only at hSw); go_simp; try with_reducible rfl); go_frame)
          | (refine pick_skip0 (by decide +kernel) (fun _ _ _ h => h) (by rfl) ?_; go_frame)
          | (refine pick_take1 (v := ?_) rfl (by decide +kernel) (fun _ _ _ h => h) (by rfl) ?_ ?_; rotate_left; (intro w hSw; (try dsimp only at hSw); go_simp; try with_reducible rfl); go_frame)
          | (refine pick_take2 (v := ?_) rfl (by decide +kernel) (fun _ _ _ h => h) (by rfl) ?_ ?_; rotate_left; (intro w hSw; (try dsimp only at hSw); go_simp; try with_reducible rfl); go_frame))
            refine pick_call (by decide +kernel) (by rfl) (fun K hK => ?_)
            go_simp
            go_at_call 8
            refine (hIN1.out _ ((k2.trans kA).trans kq0)).mono ?_
            rintro e q1 ⟨rfl, j1⟩
            have kq1 : Kept [] wa q1 := kq0.trans j1
            (try dsimp only)
            refine hK _ _ (hold.out _ kq1) ?_
            clear hK K
            repeat (first
          | (refine pick_take0 (v := ?_) rfl (by decide +kernel) (fun _ _ _ h => h) (by rfl) ?_ ?_; rotate_left; (intro w hSw; (try dsimp only at hSw); go_simp; try with_reducible rfl); go_frame)
          | (refine pick_skip0 (by decide +kernel) (fun _ _ _ h => h) (by rfl) ?_; go_frame)
          | (refine pick_take1 (v := ?_) rfl (by decide +kernel) (fun _ _ _ h => h) (by rfl) ?_ ?_; rotate_left; (intro w hSw; (try dsimp only at hSw); go_simp; try with_reducible rfl); go_frame)
          | (refine pick_take2 (v := ?_) rfl (by decide +kernel) (fun _ _ _ h => h) (by rfl) ?_ ?_; rotate_left; (intro w hSw; (try dsimp only at hSw); go_simp; try with_reducible rfl); go_frame))
            refine pick_call (by decide +kernel) (by rfl) (fun K hK => ?_)
            go_simp
            go_at_call 8
            refine (hIN2.out _ ((k2.trans kA).trans kq1)).mono ?_
            rintro e q2 ⟨rfl, j2⟩
            have kq2 : Kept [] wa q2 := kq1.trans j2
            (try dsimp only)
            refine hK _ _ (hold.out _ kq2) ?_
            clear hK K
            repeat (first
          | (refine pick_take0 (v := ?_) rfl (by decide +kernel) (fun _ _ _ h => h) (by rfl) ?_ ?_; rotate_left; (intro w hSw; (try dsimp only at hSw); go_simp; try with_reducible rfl); go_frame)
          | (refine pick_skip0 (by decide +kernel) (fun _ _ _ h => h) (by rfl) ?_; go_frame)
          | (refine pick_take1 (v := ?_) rfl (by decide +kernel) (fun _ _ _ h => h) (by rfl) ?_ ?_; rotate_left; (intro w hSw; (try dsimp only at hSw); go_simp; try with_reducible rfl); go_frame)
          | (refine pick_take2 (v := ?_) rfl (by decide +kernel) (fun _ _ _ h => h) (by rfl) ?_ ?_; rotate_left; (intro w hSw; (try dsimp only at hSw); go_simp; try with_reducible rfl); go_frame))
            refine pick_call (by decide +kernel) (by rfl) (fun K hK => ?_)
            go_simp
            go_at_call 9
            refine (hOF.out _ kq2).mono ?_
            rintro e q3 ⟨rfl, rfl⟩
            (try dsimp only)
            refine hK _ _ (hold.out _ kq2) ?_
            clear hK K
            repeat (first
          | (refine pick_take0 (v := ?_) rfl (by decide +kernel) (fun _ _ _ h => h) (by rfl) ?_ ?_; rotate_left; (intro w hSw; (try dsimp only at hSw); go_simp; try with_reducible rfl); go_frame)
          | (refine pick_skip0 (by decide +kernel) (fun _ _ _ h => h) (by rfl) ?_; go_frame)
          | (refine pick_take1 (v := ?_) rfl (by decide +kernel) (fun _ _ _ h => h) (by rfl) ?_ ?_; rotate_left; (intro w hSw; (try dsimp only at hSw); go_simp; try with_reducible rfl); go_frame)
          | (refine pick_take2 (v := ?_) rfl (by decide +kernel) (fun _ _ _ h => h) (by rfl) ?_ ?_; rotate_left; (intro w hSw; (try dsimp only at hSw); go_simp; try with_reducible rfl); go_frame))
            refine pick_done (by decide +kernel) ?_
            go_wp2
            go_roundw
            case rel => exact ⟨j + 1, by omega, by go_num, kA.trans kq2⟩
            case measure => simp [intOf]; omega
          · have hpo' : decide (0 < org) = false := by simpa using hpo
            have e1 : wa.cell? ⟨B, 1, none⟩ = some (.int .i64 org) := (hold.out _ (Kept.refl _ _)).2
            clear hpo hold
            go_quiet (fail)
            go_wp2
            go_roundw
            case rel => exact ⟨j + 1, by omega, by go_num, kA.drewN _⟩
            case measure => simp [intOf]; omega
        · obtain rfl : j = N := by omega
          have hOF := Lib.hid (fun W (hk2 : Kept [] w2 W) => refOf15_any (some ⟨G, 0, none⟩) gs.length gc gs r W (hsg.kept hk2) rfl (by omega))
          rw [HZ.out] at hOF
          go_wp2_with fail
          refine (HF.out wr (hk.trans kw)).mono ?_
          rintro e w4 ⟨rfl, k4⟩
          go_wp2_with fail
          refine (HOUT2.out w4 (kw.trans k4)).mono ?_
          rintro e w5 ⟨G5, c5, rfl, _, _, k5⟩
          rw [show (tlyP ([] : List Int)).length = 0 from rfl]
          go_wp2_with fail
          refine (hOF.out w5 ((hkq.trans k4).trans k5)).mono ?_
          rintro e w6 ⟨rfl, rfl⟩
          go_wp2
          go_ret
          exact ⟨rfl, ((hk.trans kw).trans k4).trans k5⟩
end Go.Proofs.YtionleocbjfgaaaDoor
