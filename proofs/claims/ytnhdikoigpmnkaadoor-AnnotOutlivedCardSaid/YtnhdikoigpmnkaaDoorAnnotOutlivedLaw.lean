/- The law AnnotOutlived: its walk. -/
import Derived.Test.YtnhdikoigpmnkaaDoorAnnotLaid
namespace Go.Proofs.YtnhdikoigpmnkaaDoor
open Go.RowKit

/-- The tree's own changes leave slices of integers alone. -/
theorem Sl.keptG {w w' : World} {k : IntKind} {a : Option Addr} {zs : List Int} {p g : Nat} {rs : List Rw} (h : Sl w k a zs) (ht : IsTree w p g rs) (hk : Kept [g] w w') : Sl w' k a zs := by
  cases zs with
  | nil => exact .inl rfl
  | cons z zs =>
    refine h.keptS hk (fun b off e hb => ?_)
    obtain rfl := List.mem_singleton.1 hb
    rcases h with h | ⟨b', off', e', _, hc⟩
    · cases h
    · rw [e] at e'; cases e'
      obtain ⟨es, clock, hm, _⟩ := ht.own
      have := hc 0 (by simp)
      simp [World.cell?, hm] at this

section
variable {k : Nat} {rs : List Rw} {h t : Int}
theorem targ_self (hf : Fine k rs) {kd : Int} (hk : kd = 2 ∨ kd = 3) (hh : h ∈ idsT rs) : h ∈ targB rs kd h := by
  have hp := hf.pos' hh
  refine targB_mem.2 ⟨hh, ?_⟩
  rcases hk with rfl | rfl
  · rw [annB_same (by omega) ⟨hh, hh⟩, if_pos rfl]
  · rw [annB_up (by omega) ⟨hh, hh⟩, if_pos (by unfold inB; exact decide_eq_true ⟨hh, hh, by simp [subT]⟩)]
theorem targ_same (hf : Fine k rs) (hh : h ∈ idsT rs) : targB rs 2 h = [h] := by
  have hnd : (targB rs 2 h).Nodup := (targB_rise hf 2 h).imp (fun h => by omega)
  have hall : ∀ y ∈ targB rs 2 h, y = h := fun y hy => by
    obtain ⟨h1, h2⟩ := targB_mem.1 hy
    have hp := hf.pos' h1
    rw [annB_same (by omega) ⟨hh, h1⟩] at h2
    by_cases e : y = h
    · exact e
    · rw [if_neg e] at h2; omega
  have hm := targ_self hf (.inl rfl) hh
  generalize targB rs 2 h = ys at *
  match ys, hm, hnd, hall with
  | [y], hm, _, _ => rw [List.mem_singleton.1 hm]
  | y :: z :: ys, _, hnd, hall =>
    have h1 := hall y (by simp)
    have h2 := hall z (by simp)
    subst h1; subst h2
    simp at hnd
theorem targ_all (hf : Fine k rs) (hh : h ∈ idsT rs) : targB rs 1 h = idsT rs := by
  unfold targB
  refine List.filter_eq_self.2 (fun y hy => ?_)
  have hp := hf.pos' hy
  rw [annB_one (by omega) ⟨hh, hy⟩]; rfl
/-- It can't be taken out ahead of its holder. -/
theorem targ_busy (hf : Fine k rs) (hk : k < 1000) {kd : Int} (hkd : kd = 2 ∨ kd = 3) (hh : h ∈ idsT rs) (ht : t ∈ targB rs kd h) (hn : t ≠ h) : remB rs t = (rs, 6) := by
  obtain ⟨h1, h2⟩ := targB_mem.1 ht
  have hp := hf.pos' h1
  have hw := annB_within hkd (by omega) hh h1 h2
  unfold inB at hw
  obtain ⟨_, _, h3⟩ := of_decide_eq_true hw
  refine remB_busy h1 (fun e => ?_)
  rcases List.mem_cons.1 h3 with e' | e'
  · exact hn e'.symm
  · rw [hf.walk hk t, e] at e'; cases e'
end

set_option maxRecDepth 100000 in
set_option maxHeartbeats 2000000 in
theorem annotOutlived_big (a0 : Option Addr) (len cap : Nat) (z : Int) (w : World) (hT : Tab w) (hl : 60 < len) (hm : len ≤ maxLen) :
    Calls Tryd.prog 4 #[.slice a0 len cap, .int .u8 z] w (FixedPost w) := by
  unfold maxLen at hm
  go_enter Tryd.func4, Tryd.ntmps4
  go_wp2_with fail
  refine (fixed14_any _ hT).mono ?_
  rintro e w5 ⟨rfl, kw5⟩
  go_wp2
  go_ret
  exact ⟨rfl, kw5⟩

set_option maxRecDepth 100000 in
set_option maxHeartbeats 4000000 in
theorem annotOutlived_law (a0 : Option Addr) (cap : Nat) (l : List ActT) (z : Nat) (w : World) (hT : Tab w) (hs : SlAT w a0 l) (hl : l.length ≤ 60) (hb : ∀ x ∈ l, x.fit) (hz : z < 256) :
    Calls Tryd.prog 4 #[.slice a0 l.length cap, .int .u8 (z : Int)] w (FixedPost w) := by
  have h5 : decide ((60 : Int) < l.length) = false := by simp; omega
  obtain ⟨r, hr, hr2⟩ : ∃ r : Int, (z : Int).tmod 2 = r ∧ (r = 0 ∨ r = 1) := by
    refine ⟨_, rfl, ?_⟩
    rw [Int.tmod_eq_emod_of_nonneg (by omega)]; omega
  have hw8 : IntKind.u8.wrap r = r := by rcases hr2 with rfl | rfl <;> decide
  go_enter Tryd.func4, Tryd.ntmps4
  go_wp2_with fail
  refine (grown14_any a0 cap l w hs hl hb).mono ?_
  rintro e w1 ⟨p, g, rs, ab, ao, cp, rfl, hnew, hf, hI, hsr, k1⟩
  have hk1 : l.length < 1000 := by omega
  have hwl := hf.walk_len hk1
  have hrl := hf.len
  clear hsr
  rcases hr2 with rfl | rfl
  · go_wp2_with fail
    refine (treeAll_any p g rs w1 hI hf hk1).mono ?_
    rintro e w2 ⟨G, c, rfl, hG, hsw, k2⟩
    have kk2 := k1.trans k2
    have hI2 := hI.kept k2
    have hgl := hI2.lt
    have HM : Hid (∀ j, j < (walkB rs 0).length → (walkB rs 0)[j]?.getD 0 ∈ idsT rs ∧ Fit64 ((walkB rs 0)[j]?.getD 0)) := by
      intro j hj
      rw [List.getElem?_eq_getElem hj, Option.getD_some]
      have hm := hf.walk_ids hk1 (z := 0) (List.getElem_mem hj)
      obtain ⟨pp, hpp⟩ := mem_ids.1 hm
      exact ⟨hm, (hI.fit _ hpp).1⟩
    have HF := Lib.hid hI.fit
    have hxl : (walkB rs 0).length ≤ 60 := by omega
    have HWL := Lib.hid hwl
    clear hI k1 k2 hwl hgl
    obtain ⟨xs, hxs⟩ : ∃ xs, walkB rs 0 = xs := ⟨_, rfl⟩
    have HXS := Lib.hid hxs
    rw [hxs] at HM hxl hsw HWL ⊢
    clear hxs
    go_wp2_with fail
    go_loopw [31] (fun i wr => ∃ j : Nat, j ≤ xs.length ∧ i = .int .i64 j ∧ IsTree wr p g rs ∧ Sl wr .i64 (some ⟨G, 0, none⟩) xs ∧ Kept [] w wr) (fun i _ => xs.length - (intOf i).toNat)
    case atStart => exact ⟨0, Nat.zero_le _, rfl, hI2, hsw, kk2⟩
    case round =>
      obtain ⟨j, hj, rfl, hIr, hsr, hkr⟩ := hrel
      clear hI2 hsw kk2
      by_cases hlt : j < xs.length
      · obtain ⟨b, off, he, cG⟩ := hsr.cell hlt
        obtain ⟨rfl, rfl⟩ : G = b ∧ 0 = off := by simpa using he
        obtain ⟨hm, hfx⟩ := HM.out j hlt
        obtain ⟨h, hx⟩ : ∃ x, xs[j]?.getD 0 = x := ⟨_, rfl⟩
        rw [hx] at cG hm hfx
        rw [Nat.zero_add] at cG
        have HH := Lib.hid hm
        have hlt' : (j : Int) < (xs.length : Int) := by omega
        clear hx he hm
        go_wp2_with fail
        refine (annotTargets_any p g rs 2 h _ (hT.kept hkr) hIr hf hk1 hfx).mono ?_
        rintro e w3 ⟨A, ca, rfl, hsT, k3⟩
        have HT : Hid (∀ q, q < (targB rs 2 h).length → (targB rs 2 h)[q]?.getD 0 ∈ idsT rs ∧ Fit64 ((targB rs 2 h)[q]?.getD 0) ∧ inB rs h ((targB rs 2 h)[q]?.getD 0) = true ∧ ((targB rs 2 h)[q]?.getD 0 ≠ h → remB rs ((targB rs 2 h)[q]?.getD 0) = (rs, 6))) := by
          intro q hq
          rw [List.getElem?_eq_getElem hq, Option.getD_some]
          have hmem : (targB rs 2 h)[q] ∈ targB rs 2 h := List.getElem_mem hq
          obtain ⟨h1, h2⟩ := targB_mem.1 hmem
          obtain ⟨pp, hpp⟩ := mem_ids.1 h1
          have hp := hf.pos' h1
          exact ⟨h1, (HF.out _ hpp).1, annB_within (kd := 2) (by decide) (by omega) HH.out h1 h2, targ_busy hf hk1 (kd := 2) (by decide) HH.out hmem⟩
        have hT1 := targ_same hf HH.out
        have hTl : (targB rs 2 h).length = 1 := by rw [hT1]; rfl
        have hTm := targB_len rs 2 h
        obtain ⟨T, hTT⟩ : ∃ T, targB rs 2 h = T := ⟨_, rfl⟩
        have HTT := Lib.hid hTT
        rw [hTT] at hsT HT hTl hTm ⊢
        rw [hTT] at hT1
        have HT1 := Lib.hid hT1
        clear hTT hT1
        have hI3 := hIr.kept k3
        have hs3 := hsr.kept k3
        have kk3 := hkr.trans k3
        have HTL := Lib.hid hTl
        clear hsr hIr hkr k3 hTl
        go_wp2_with fail
        go_loopw [41] (fun i wq => ∃ q : Nat, q ≤ T.length ∧ i = .int .i64 q ∧ IsTree wq p g rs ∧ Sl wq .i64 (some ⟨G, 0, none⟩) xs ∧ Sl wq .i64 A T ∧ Kept [] w wq) (fun i _ => T.length - (intOf i).toNat)
        case atStart => exact ⟨0, Nat.zero_le _, rfl, hI3, hs3, hsT, kk3⟩
        case round =>
          obtain ⟨q, hq, rfl, hIq, hsq, hsTq, hkq⟩ := hrel
          clear hI3 hs3 hsT kk3
          by_cases hql : q < T.length
          · obtain ⟨b, off, rfl, cT⟩ := hsTq.cell hql
            obtain ⟨ht1, hft, hin, hbusy⟩ := HT.out q hql
            obtain ⟨t, ht⟩ : ∃ t, T[q]?.getD 0 = t := ⟨_, rfl⟩
            rw [ht] at cT ht1 hft hin hbusy
            have HIN := Lib.hid hin
            have HBU := Lib.hid hbusy
            have hql' : (q : Int) < (T.length : Int) := by omega
            have HCN := Lib.hid (show cntB 2 h t = false by unfold cntB; exact decide_eq_false (fun e => absurd e.1 (by decide)))
            clear ht ht1 hin hbusy
            go_wp2_with fail
            refine (treeWithin_any p g rs h t wr hIq hf hk1 hfx hft).mono ?_
            rintro e w4 ⟨rfl, rfl⟩
            rw [HIN.out]
            by_cases e1 : t = h
            · subst e1
              have ne1 : (t != t) = false := by simp
              go_wp2_with fail
              refine (annotCounts_any 2 t t wr).mono ?_
              rintro e w4 ⟨rfl, rfl⟩
              rw [HCN.out]
              go_wp2
              go_roundw
              case rel => exact ⟨q + 1, by omega, by go_num, hIq, hsq, hsTq, hkq⟩
              case measure => simp [intOf]; omega
            · have ne1 : (t != h) = true := by simpa using e1
              have HB := Lib.hid (HBU.out e1)
              clear e1
              go_wp2_with fail
              refine (treeRemove_any p g rs t wr hIq hft hf.rise (by omega)).mono ?_
              rintro e w4 ⟨rfl, hI4, k4⟩
              rw [HB.out] at hI4 ⊢
              simp only at hI4 ⊢
              have hs4 := hsq.keptG hIq k4
              have hsT4 := hsTq.keptG hIq k4
              have kk4 : Kept [] w w4 := hkq.chain k4 (by simp) (by intro i hi hlt; simp at hi; omega)
              go_wp2_with fail
              refine (annotCounts_any 2 h t w4).mono ?_
              rintro e w5 ⟨rfl, rfl⟩
              rw [HCN.out]
              go_wp2
              go_roundw
              case rel => exact ⟨q + 1, by omega, by go_num, hI4, hs4, hsT4, kk4⟩
              case measure => simp [intOf]; omega
          · obtain rfl : q = T.length := by omega
            clear hql hq
            have HA := Lib.hid (show (targB rs 1 h).length = xs.length by rw [targ_all hf HH.out, HWL.out]; simp [idsT])
            have hTl := HTL.out
            have hl1 : decide ((T.length : Int) < 1) = false := by simp; omega
            have hl2 : ((T.length : Int) != 1) = false := by simp; omega
            have hl3 : (h != h) = false := by simp
            have hl4 : 0 < T.length := by omega
            obtain ⟨b, off, rfl, c0⟩ := hsTq.cell hl4
            have e0 : T[0]?.getD 0 = h := by rw [HT1.out]; rfl
            rw [e0, Nat.add_zero] at c0
            clear e0
            have ne1 : ((xs.length : Int) != (xs.length : Int)) = false := by simp
            clear hTl
            go_wp2_with fail
            refine (annotTargets_any p g rs 1 h wr (hT.kept hkq) hIq hf hk1 hfx).mono ?_
            rintro e w4 ⟨A4, c4, rfl, _, k4⟩
            rw [HA.out]
            go_wp2_with fail
            refine (treeAll_any p g rs w4 (hIq.kept k4) hf hk1).mono ?_
            rintro e w5 ⟨G5, c5, rfl, _, _, k5⟩
            rw [HXS.out]
            have k45 := k4.trans k5
            go_wp2
            go_roundw
            case rel => exact ⟨j + 1, by omega, by go_num, hIq.kept k45, hsq.kept k45, hkq.trans k45⟩
            case measure => simp [intOf]; omega
      · obtain rfl : j = xs.length := by omega
        go_wp2_with fail
        refine (fixed14_any _ (hT.kept hkr)).mono ?_
        rintro e w4 ⟨rfl, k4⟩
        go_wp2
        go_ret
        exact ⟨rfl, hkr.trans k4⟩
  · go_wp2_with fail
    refine (treeAll_any p g rs w1 hI hf hk1).mono ?_
    rintro e w2 ⟨G, c, rfl, hG, hsw, k2⟩
    have kk2 := k1.trans k2
    have hI2 := hI.kept k2
    have hgl := hI2.lt
    have HM : Hid (∀ j, j < (walkB rs 0).length → (walkB rs 0)[j]?.getD 0 ∈ idsT rs ∧ Fit64 ((walkB rs 0)[j]?.getD 0)) := by
      intro j hj
      rw [List.getElem?_eq_getElem hj, Option.getD_some]
      have hm := hf.walk_ids hk1 (z := 0) (List.getElem_mem hj)
      obtain ⟨pp, hpp⟩ := mem_ids.1 hm
      exact ⟨hm, (hI.fit _ hpp).1⟩
    have HF := Lib.hid hI.fit
    have hxl : (walkB rs 0).length ≤ 60 := by omega
    have HWL := Lib.hid hwl
    clear hI k1 k2 hwl hgl
    obtain ⟨xs, hxs⟩ : ∃ xs, walkB rs 0 = xs := ⟨_, rfl⟩
    have HXS := Lib.hid hxs
    rw [hxs] at HM hxl hsw HWL ⊢
    clear hxs
    go_wp2_with fail
    go_loopw [31] (fun i wr => ∃ j : Nat, j ≤ xs.length ∧ i = .int .i64 j ∧ IsTree wr p g rs ∧ Sl wr .i64 (some ⟨G, 0, none⟩) xs ∧ Kept [] w wr) (fun i _ => xs.length - (intOf i).toNat)
    case atStart => exact ⟨0, Nat.zero_le _, rfl, hI2, hsw, kk2⟩
    case round =>
      obtain ⟨j, hj, rfl, hIr, hsr, hkr⟩ := hrel
      clear hI2 hsw kk2
      by_cases hlt : j < xs.length
      · obtain ⟨b, off, he, cG⟩ := hsr.cell hlt
        obtain ⟨rfl, rfl⟩ : G = b ∧ 0 = off := by simpa using he
        obtain ⟨hm, hfx⟩ := HM.out j hlt
        obtain ⟨h, hx⟩ : ∃ x, xs[j]?.getD 0 = x := ⟨_, rfl⟩
        rw [hx] at cG hm hfx
        rw [Nat.zero_add] at cG
        have HH := Lib.hid hm
        have hlt' : (j : Int) < (xs.length : Int) := by omega
        clear hx he hm
        go_wp2_with fail
        refine (annotTargets_any p g rs 3 h _ (hT.kept hkr) hIr hf hk1 hfx).mono ?_
        rintro e w3 ⟨A, ca, rfl, hsT, k3⟩
        have HT : Hid (∀ q, q < (targB rs 3 h).length → (targB rs 3 h)[q]?.getD 0 ∈ idsT rs ∧ Fit64 ((targB rs 3 h)[q]?.getD 0) ∧ inB rs h ((targB rs 3 h)[q]?.getD 0) = true ∧ ((targB rs 3 h)[q]?.getD 0 ≠ h → remB rs ((targB rs 3 h)[q]?.getD 0) = (rs, 6))) := by
          intro q hq
          rw [List.getElem?_eq_getElem hq, Option.getD_some]
          have hmem : (targB rs 3 h)[q] ∈ targB rs 3 h := List.getElem_mem hq
          obtain ⟨h1, h2⟩ := targB_mem.1 hmem
          obtain ⟨pp, hpp⟩ := mem_ids.1 h1
          have hp := hf.pos' h1
          exact ⟨h1, (HF.out _ hpp).1, annB_within (kd := 3) (by decide) (by omega) HH.out h1 h2, targ_busy hf hk1 (kd := 3) (by decide) HH.out hmem⟩
        have hTl : 1 ≤ (targB rs 3 h).length := List.length_pos_of_mem (targ_self hf (.inr rfl) HH.out)
        have hTm := targB_len rs 3 h
        obtain ⟨T, hTT⟩ : ∃ T, targB rs 3 h = T := ⟨_, rfl⟩
        have HTT := Lib.hid hTT
        rw [hTT] at hsT HT hTl hTm ⊢
        skip
        skip
        clear hTT 
        have hI3 := hIr.kept k3
        have hs3 := hsr.kept k3
        have kk3 := hkr.trans k3
        have HTL := Lib.hid hTl
        clear hsr hIr hkr k3 hTl
        go_wp2_with fail
        go_loopw [41] (fun i wq => ∃ q : Nat, q ≤ T.length ∧ i = .int .i64 q ∧ IsTree wq p g rs ∧ Sl wq .i64 (some ⟨G, 0, none⟩) xs ∧ Sl wq .i64 A T ∧ Kept [] w wq) (fun i _ => T.length - (intOf i).toNat)
        case atStart => exact ⟨0, Nat.zero_le _, rfl, hI3, hs3, hsT, kk3⟩
        case round =>
          obtain ⟨q, hq, rfl, hIq, hsq, hsTq, hkq⟩ := hrel
          clear hI3 hs3 hsT kk3
          by_cases hql : q < T.length
          · obtain ⟨b, off, rfl, cT⟩ := hsTq.cell hql
            obtain ⟨ht1, hft, hin, hbusy⟩ := HT.out q hql
            obtain ⟨t, ht⟩ : ∃ t, T[q]?.getD 0 = t := ⟨_, rfl⟩
            rw [ht] at cT ht1 hft hin hbusy
            have HIN := Lib.hid hin
            have HBU := Lib.hid hbusy
            have hql' : (q : Int) < (T.length : Int) := by omega
            have HCN := Lib.hid (show cntB 3 h t = false by unfold cntB; exact decide_eq_false (fun e => absurd e.1 (by decide)))
            clear ht ht1 hin hbusy
            go_wp2_with fail
            refine (treeWithin_any p g rs h t wr hIq hf hk1 hfx hft).mono ?_
            rintro e w4 ⟨rfl, rfl⟩
            rw [HIN.out]
            by_cases e1 : t = h
            · subst e1
              have ne1 : (t != t) = false := by simp
              go_wp2_with fail
              refine (annotCounts_any 3 t t wr).mono ?_
              rintro e w4 ⟨rfl, rfl⟩
              rw [HCN.out]
              go_wp2
              go_roundw
              case rel => exact ⟨q + 1, by omega, by go_num, hIq, hsq, hsTq, hkq⟩
              case measure => simp [intOf]; omega
            · have ne1 : (t != h) = true := by simpa using e1
              have HB := Lib.hid (HBU.out e1)
              clear e1
              go_wp2_with fail
              refine (treeRemove_any p g rs t wr hIq hft hf.rise (by omega)).mono ?_
              rintro e w4 ⟨rfl, hI4, k4⟩
              rw [HB.out] at hI4 ⊢
              simp only at hI4 ⊢
              have hs4 := hsq.keptG hIq k4
              have hsT4 := hsTq.keptG hIq k4
              have kk4 : Kept [] w w4 := hkq.chain k4 (by simp) (by intro i hi hlt; simp at hi; omega)
              go_wp2_with fail
              refine (annotCounts_any 3 h t w4).mono ?_
              rintro e w5 ⟨rfl, rfl⟩
              rw [HCN.out]
              go_wp2
              go_roundw
              case rel => exact ⟨q + 1, by omega, by go_num, hI4, hs4, hsT4, kk4⟩
              case measure => simp [intOf]; omega
          · obtain rfl : q = T.length := by omega
            clear hql hq
            have HA := Lib.hid (show (targB rs 1 h).length = xs.length by rw [targ_all hf HH.out, HWL.out]; simp [idsT])
            have hTl := HTL.out
            have hl1 : decide ((T.length : Int) < 1) = false := by simp; omega
            have hl2 : ((3 : Int) == 2) = false := by decide
            have ne1 : ((xs.length : Int) != (xs.length : Int)) = false := by simp
            clear hTl
            go_wp2_with fail
            refine (annotTargets_any p g rs 1 h wr (hT.kept hkq) hIq hf hk1 hfx).mono ?_
            rintro e w4 ⟨A4, c4, rfl, _, k4⟩
            rw [HA.out]
            go_wp2_with fail
            refine (treeAll_any p g rs w4 (hIq.kept k4) hf hk1).mono ?_
            rintro e w5 ⟨G5, c5, rfl, _, _, k5⟩
            rw [HXS.out]
            have k45 := k4.trans k5
            go_wp2
            go_roundw
            case rel => exact ⟨j + 1, by omega, by go_num, hIq.kept k45, hsq.kept k45, hkq.trans k45⟩
            case measure => simp [intOf]; omega
      · obtain rfl : j = xs.length := by omega
        go_wp2_with fail
        refine (fixed14_any _ (hT.kept hkr)).mono ?_
        rintro e w4 ⟨rfl, k4⟩
        go_wp2
        go_ret
        exact ⟨rfl, hkr.trans k4⟩
end Go.Proofs.YtnhdikoigpmnkaaDoor
