/- The law TreePlays: its walk. -/
import Derived.Test.YtnooamkbejbalaaTreeFixed
import Derived.Test.YtnooamkbejbalaaTreeActs
import Derived.Test.YtnooamkbejbalaaTreeInterval
import Derived.Test.YtnooamkbejbalaaTreeRefIns
import Derived.Test.YtnooamkbejbalaaTreeRefWalk
import Derived.Deep.RegionHeld3
namespace Go.Proofs.Ytnooamkbejbalaa
open Go.RowKit

/-- The tree's own changes leave rows of cells alone. -/
theorem SlT.keptG {w w' : World} {b off p g : Nat} {rs rs' : List Rw} (h : SlT w (some ⟨b, off, none⟩) rs) (ht : IsTree w p g rs') (hk : Kept [g] w w') : SlT w' (some ⟨b, off, none⟩) rs := by
  by_cases e : b = g
  · subst e
    rcases h with h | ⟨b', off', e, hb, hc⟩
    · exact .inl h
    · cases e
      cases rs with
      | nil => exact .inl rfl
      | cons r rs =>
        obtain ⟨es, clock, hm, _⟩ := ht.own
        have := (hc 0 (by simp)).1
        simp [World.cell?, hm] at this
  · exact h.keptS hk (by simpa using e)

/-- What Interval answers, in one form. -/
theorem treeInterval_form {k : Nat} (p g : Nat) (rs : List Rw) (z : Int) (w : World) (h : IsTree w p g rs) (hf : Fine k rs) (hk : k < 1000) (hz : Fit64 z) :
    Calls Try.prog 13 #[.pointer (some ⟨p, 0, none⟩), .int .i64 z] w fun e w' => ∃ (A B : Nat) (b : Bool), e = .returned (.tuple #[.agg #[.int .i64 A, .int .i64 B], .bool b]) ∧ Hid (decide (z ∈ idsT rs) = b) ∧ Hid (b = false → A = 0 ∧ B = 0) ∧ Kept [] w w' := by
  refine (treeInterval_any p g rs z w h hf hk hz).mono ?_
  rintro e w' ⟨he, hk'⟩
  by_cases hi : z ∈ idsT rs
  · rw [if_pos hi] at he
    exact ⟨_, _, true, he, Lib.hid (by simpa using hi), Lib.hid (fun h => by cases h), hk'⟩
  · rw [if_neg hi] at he
    exact ⟨0, 0, false, he, Lib.hid (by simpa using hi), Lib.hid (fun _ => ⟨rfl, rfl⟩), hk'⟩
theorem treeInterval_is {k : Nat} (p g : Nat) (rs : List Rw) (z : Int) (w : World) (h : IsTree w p g rs) (hf : Fine k rs) (hk : k < 1000) (hz : Fit64 z) (hi : z ∈ idsT rs) (A B : Nat) (hA : fromB rs z = A) (hB : manyB rs z = B) :
    Calls Try.prog 13 #[.pointer (some ⟨p, 0, none⟩), .int .i64 z] w fun e w' => e = .returned (.tuple #[.agg #[.int .i64 A, .int .i64 B], .bool true]) ∧ Kept [] w w' := by
  refine (treeInterval_any p g rs z w h hf hk hz).mono ?_
  rintro e w' ⟨he, hk'⟩
  rw [if_pos hi, hA, hB] at he
  exact ⟨he, hk'⟩

set_option maxRecDepth 100000 in
set_option maxHeartbeats 2000000 in
theorem treePlays_big (a0 : Option Addr) (len cap : Nat) (x y : Int) (w : World) (hl : 60 < len) (hm : len ≤ maxLen) :
    Calls Try.prog 3 #[.slice a0 len cap, .int .i64 x, .int .i64 y] w (FixedPost w) := by
  unfold maxLen at hm
  go_enter Try.func3, Try.ntmps3
  go_wp2_with fail
  refine (fixed05_any _).mono ?_
  rintro e w5 ⟨rfl, kw5⟩
  go_wp2
  go_ret
  exact ⟨rfl, kw5⟩

/-- What the region's loads and calls ask for: only new blocks since wr; the interval's box. -/
theorem held_run {wr w' : World} {B : Nat} {t : TypeId} {a c : Int} (hr : Row wr B t [.int .i64 a, .int .i64 c]) (hc : Kept [] wr w') :
    Kept [] wr w' ∧ w'.cell? ⟨B, 0, none⟩ = some (.int .i64 a) ∧ w'.cell? ⟨B, 1, none⟩ = some (.int .i64 c) :=
  ⟨hc, by simpa using (hr.kept hc (by simp)).cell 0, by simpa using (hr.kept hc (by simp)).cell 1⟩

set_option maxRecDepth 100000 in
set_option maxHeartbeats 4000000 in
theorem treePlays_any (a0 : Option Addr) (cap : Nat) (l : List ActT) (x y : Int) (w : World) (hs : SlA w a0 l) (hl : l.length ≤ 60) (hb : ∀ x ∈ l, x.fit) (hx : Fit64 x) (hy : Fit64 y) :
    Calls Try.prog 3 #[.slice a0 l.length cap, .int .i64 x, .int .i64 y] w (FixedPost w) := by
  have h5 : decide ((60 : Int) < l.length) = false := by simp; omega
  go_enter Try.func3, Try.ntmps3
  go_wp2_with fail
  refine (treeNew_any w).mono ?_
  rintro e w1 ⟨p, g, rfl, hnew, ht1, kw1⟩
  have kX := (Kept.refl [] w1).alloc (.cells #[] 56)
  have htX := ht1.kept kX
  have kwX := kw1.trans kX
  clear ht1 kw1 kX
  go_wp2_with fail
  generalize w1.alloc (.cells #[] 56) = wX at htX kwX ⊢
  go_loopw [8, 30] (fun v i wr => ∃ (j : Nat) (rs : List Rw) (ab ao cp : Nat), j ≤ l.length ∧ v = .slice (some ⟨ab, ao, none⟩) rs.length cp ∧ i = .int .i64 j ∧ Fine j rs ∧ IsTree wr p g rs ∧ SlT wr (some ⟨ab, ao, none⟩) rs ∧ Hid (rs.length ≤ cp ∧ cp ≤ maxLen) ∧ Kept [] w wr) (fun _ i _ => l.length - (intOf i).toNat)
  case atStart => exact ⟨0, [], _, _, _, Nat.zero_le _, rfl, rfl, Fine.nil, htX, .inl rfl, Lib.hid ⟨Nat.le_refl _, Nat.zero_le _⟩, kwX⟩
  case round =>
    obtain ⟨j, rs, ab, ao, cp, hj, rfl, rfl, hf, htr, hsr, hcp, kWr⟩ := hrel
    clear htX kwX
    have hrl := hf.len
    by_cases hlt : j < l.length
    · obtain ⟨b, off, ac, rfl, hac, hbl, c0, c1, c2⟩ := (hs.kept kWr).cell hlt
      have hbx := hb ac (List.mem_of_getElem? hac)
      obtain ⟨zi, zp, zo⟩ := ac
      simp only at c0 c1 c2
      have kA := (Kept.refl [] wr).alloc (.cells #[.int .i64 zi, .int .i64 zp, .bool zo] 28)
      have rB := Row.new wr 28 [.int .i64 zi, .int .i64 zp, .bool zo]
      have htA := htr.kept kA
      have hsA := hsr.kept kA
      have kWA := kWr.trans kA
      have hgl := htr.lt.2
      cases zo with
      | true =>
        go_wp2_with fail
        generalize wr.alloc (.cells #[.int .i64 zi, .int .i64 zp, .bool true] 28) = wa at kA htA hsA rB kWA ⊢
        refine (treeRemove_any p g rs zi wa htA hbx.1 hf.rise (by omega)).mono ?_
        rintro e w3 ⟨rfl, ht3, kw3⟩
        have kW3 : Kept [] w w3 := kWA.chain kw3 (by simp) (by intro i hi hlt; simp at hi; omega)
        have hs3 := hsA.keptG htA kw3
        have rB3 := rB.kept kw3 (by simp; omega)
        have d0 : w3.cell? ⟨wr.heap.size, 0, none⟩ = some (.int .i64 zi) := by simpa using rB3.cell 0
        have hf3 := hf.remB zi
        obtain ⟨n, hn⟩ : ∃ n, (remB rs zi).2 = n := ⟨_, rfl⟩
        rw [hn]
        have HN := Lib.hid hn
        clear kA htA hsA kWA kw3 rB rB3 hn c0 c1 c2
        go_wp2_with fail
        refine (refRemove05_any ab ao cp rs zi w3 hs3 (by omega) hcp.out).mono ?_
        rintro e w4 ⟨b4, o4, c4, rfl, hs4, hc4, kw4⟩
        rw [HN.out]
        have ht4 := ht3.kept kw4
        have kW4 := kW3.trans kw4
        have HC := Lib.hid hc4
        clear hc4 ht3 kw4 kW3 hs3 d0
        go_wp2
        go_roundw
        case rel => exact ⟨j + 1, _, b4, o4, c4, by omega, rfl, by go_num, hf3, ht4, hs4, HC, kW4⟩
        case measure => simp [intOf]; omega
      | false =>
        go_wp2_with fail
        generalize wr.alloc (.cells #[.int .i64 zi, .int .i64 zp, .bool false] 28) = wa at kA htA hsA rB kWA ⊢
        refine (treeAdd_any p g rs zi zp wa htA hbx.1 hbx.2 (by omega)).mono ?_
        rintro e w3 ⟨rfl, ht3, kw3⟩
        have kW3 : Kept [] w w3 := kWA.chain kw3 (by simp) (by intro i hi hlt; simp at hi; omega)
        have hs3 := hsA.keptG htA kw3
        have rB3 := rB.kept kw3 (by simp; omega)
        have d0 : w3.cell? ⟨wr.heap.size, 0, none⟩ = some (.int .i64 zi) := by simpa using rB3.cell 0
        have d1 : w3.cell? ⟨wr.heap.size, 1, none⟩ = some (.int .i64 zp) := by simpa using rB3.cell 1
        have hf3 := hf.addB zi zp
        obtain ⟨n, hn⟩ : ∃ n, (addB rs zi zp).2 = n := ⟨_, rfl⟩
        rw [hn]
        have HN := Lib.hid hn
        clear kA htA hsA kWA kw3 rB rB3 hn c0 c1 c2
        go_wp2_with fail
        refine (refAdd05_any ab ao cp rs zi zp w3 hs3 (by omega) hcp.out).mono ?_
        rintro e w4 ⟨b4, o4, c4, rfl, hs4, hc4, kw4⟩
        rw [HN.out]
        have ht4 := ht3.kept kw4
        have kW4 := kW3.trans kw4
        have HC := Lib.hid hc4
        clear hc4 ht3 kw4 kW3 hs3 d0 d1
        go_wp2
        go_roundw
        case rel => exact ⟨j + 1, _, b4, o4, c4, by omega, rfl, by go_num, hf3, ht4, hs4, HC, kW4⟩
        case measure => simp [intOf]; omega
    · -- all is done: the walk
      have hk1 : j < 1000 := by omega
      have HW0 := Lib.hid (hf.walk_len (by omega))
      clear hs
      go_wp2_with fail
      refine (refWalk05_any rs hf hk1 0 ab ao cp wr hsr).mono ?_
      rintro e w2 ⟨wa, wc, rfl, hwa, how, kw2⟩
      have hsw := Sl.of_own how
      have hfit0 := Lib.hid htr.fit
      have ht2 := htr.kept kw2
      have hs2 := hsr.kept kw2
      have kW2 := kWr.trans kw2
      have hmem : Hid (∀ q, q < (walkB rs 0).length → (walkB rs 0)[q]?.getD 0 ∈ idsT rs ∧ Fit64 ((walkB rs 0)[q]?.getD 0) ∧ fromB rs ((walkB rs 0)[q]?.getD 0) = q) := by
        intro q hq
        have hm : (walkB rs 0)[q]?.getD 0 ∈ idsT rs := by
          rw [List.getElem?_eq_getElem hq, Option.getD_some]
          exact hf.walk_ids hk1 (z := 0) (List.getElem_mem hq)
        refine ⟨hm, ?_, ?_⟩
        · obtain ⟨pp, hpp⟩ := mem_ids.1 hm
          exact (hfit0.out _ hpp).1
        · rw [List.getElem?_eq_getElem hq, Option.getD_some]
          exact hf.from_at hk1 hq
      obtain ⟨M, hM⟩ : ∃ M, (walkB rs 0).length = M := ⟨_, rfl⟩
      have HM := Lib.hid hM
      have hM60 : M ≤ 60 := by have := HW0.out; omega
      rw [hM] at hmem ⊢
      clear htr kw2 kWr hM how hsr
      go_wp2_with fail
      go_loopw [70] (fun i wq => ∃ q : Nat, q ≤ M ∧ i = .int .i64 q ∧ Kept [] w2 wq) (fun i _ => M - (intOf i).toNat)
      case atStart => exact ⟨0, Nat.zero_le _, rfl, Kept.refl _ _⟩
      case round =>
        obtain ⟨q, hq, rfl, hkq⟩ := hrel
        by_cases hqM : q < M
        · obtain ⟨bs, offs, he, co⟩ := (hsw.kept hkq).cell (by rw [HM.out]; exact hqM)
          obtain ⟨rfl, rfl⟩ : wa = bs ∧ 0 = offs := by simpa using he
          obtain ⟨ha, hfa, hfr⟩ := hmem.out q hqM
          obtain ⟨a, hae⟩ : ∃ a, (walkB rs 0)[q]?.getD 0 = a := ⟨_, rfl⟩
          rw [hae, Nat.zero_add] at co
          rw [hae] at ha hfa hfr
          obtain ⟨wl, hwl⟩ : ∃ wl, (walkB rs a).length = wl := ⟨_, rfl⟩
          have HNA : Hid (manyB rs a = wl + 1) := Lib.hid (by simp [manyB, subT, hwl])
          obtain ⟨na, hna⟩ : ∃ na, na = wl + 1 := ⟨_, rfl⟩
          rw [← hna] at HNA
          have hnw : (1 : Int) + wl = na := by omega
          have hwle : wl ≤ 1000 := by have := hf.walk_le hk1 a; omega
          have hwn : IntKind.i64.wrap (na : Int) = na := IntWalk.i64_in _ (by omega)
          have HA := Lib.hid ha
          have HFA := Lib.hid hfr
          have HWL := Lib.hid hwl
          clear he hae ha hfr hwl hna
          go_wp2_with fail
          refine (treeInterval_is p g rs a _ (ht2.kept hkq) hf hk1 hfa HA.out q na HFA.out HNA.out).mono ?_
          rintro e w3 ⟨rfl, kw3⟩
          have rA := Row.new w3 38 [.int .i64 q, .int .i64 na]
          have kqA := (hkq.trans kw3).alloc (.cells #[.int .i64 q, .int .i64 na] 38)
          have htA := ht2.kept kqA
          have hsA := hs2.kept kqA
          clear kw3 hkq co
          go_wp2_with fail
          generalize w3.alloc (.cells #[.int .i64 q, .int .i64 na] 38) = wA at rA kqA htA hsA ⊢
          have cA0 : wA.cell? ⟨w3.heap.size, 0, none⟩ = some (.int .i64 q) := by simpa using rA.cell 0
          have cA1 : wA.cell? ⟨w3.heap.size, 1, none⟩ = some (.int .i64 na) := by simpa using rA.cell 1
          have kk0 : Kept [] wA wA.drew := (Kept.refl _ _).drew
          go_region_held3 (fun w' => Kept [] wA w' ∧ w'.cell? ⟨w3.heap.size, 0, none⟩ = some (.int .i64 q) ∧ w'.cell? ⟨w3.heap.size, 1, none⟩ = some (.int .i64 na)) (exact held_run rA (by assumption))
            (first
              | (go_at_call 12; refine (refWalk05_any rs hf hk1 a ab ao cp _ ?_).mono ?_; (exact hsA.kept (by assumption)); rintro e w' ⟨gW, cW, rfl, _, _, kk⟩; have kq : Kept [] wA w' := Kept.trans (by assumption) kk; rw [HWL.out])
              | (go_at_call 14; refine (treeHas_any p g rs a _ ?_ hfa).mono ?_; (exact htA.kept (by assumption)); rintro e w' ⟨rfl, hw'⟩; subst hw'; rw [decide_eq_true HA.out]))
          go_wp2
          go_roundw
          case rel => exact ⟨q + 1, by omega, by go_num, kqA.trans (by assumption)⟩
          case measure => simp [intOf]; omega
        · have hsQ := hs2.kept hkq
          have hswQ := hsw.kept hkq
          have kWq := kW2.trans hkq
          have htQ := ht2.kept hkq
          clear hsw ht2 hs2 kW2 hmem hkq
          go_wp2_with fail
          clear hqM hq
          refine (treeInterval_form p g rs x wr htQ hf hk1 hx).mono ?_
          rintro e w3 ⟨fx, nx, b, rfl, HB, HZ, kw3⟩
          have rA := Row.new w3 38 [.int .i64 fx, .int .i64 nx]
          have kq3 := kw3.alloc (.cells #[.int .i64 fx, .int .i64 nx] 38)
          have htA := htQ.kept kq3
          have hsA := hsQ.kept kq3
          have hswA := hswQ.kept kq3
          have kWA := kWq.trans kq3
          clear kw3 kq3 htQ hsQ hswQ kWq
          go_wp2_with fail
          generalize w3.alloc (.cells #[.int .i64 fx, .int .i64 nx] 38) = wA at rA kWA htA hsA hswA ⊢
          refine (fixed05_any _).mono ?_
          rintro e w5 ⟨rfl, kw5⟩
          go_wp2_with fail
          refine (treeAll_any p g rs w5 (htA.kept kw5) hf hk1).mono ?_
          rintro e w6 ⟨va, vc, rfl, hva, hsv, kw6⟩
          rw [HM.out]
          have kk6 := kw5.trans kw6
          go_wp2_with fail
          refine (refSame04_yes _ _ M M vc wc (walkB rs 0) w6 hsv (hswA.kept kk6) HM.out HM.out (by omega)).mono ?_
          rintro e w7 ⟨rfl, kw7⟩
          have kk7 := kk6.trans kw7
          have rA7 := rA.kept kk7 (by simp)
          have ht7 := htA.kept kk7
          have hs7 := hsA.kept kk7
          have kW7 := kWA.trans kk7
          clear kw5 kw6 kk6 kw7 kk7 rA htA hsA kWA hswA hsv
          go_wp2_with fail
          refine (treeHas_any p g rs x w7 ht7 hx).mono ?_
          rintro e w8 ⟨rfl, hw8⟩
          subst hw8
          rw [HB.out]
          go_wp2_with fail
          refine (refHas05_any _ cp rs x w7 hs7 (by omega)).mono ?_
          rintro e w8 ⟨rfl, hw8⟩
          subst hw8
          rw [HB.out]
          go_wp2_with fail
          refine (treeParent_any p g rs x w7 ht7 hx).mono ?_
          rintro e w8 ⟨rfl, hw8⟩
          subst hw8
          obtain ⟨pa, hpa⟩ : ∃ pa, parB rs x = pa := ⟨_, rfl⟩
          have HPA := Lib.hid hpa
          rw [hpa]
          clear hpa
          go_wp2_with fail
          refine (refParent05_any _ cp rs x w7 hs7 hf.rise (by omega)).mono ?_
          rintro e w8 ⟨rfl, hw8⟩
          subst hw8
          rw [HPA.out]
          go_wp2_with fail
          refine (treeKids_any p g rs x w7 ht7 hf.rise (by omega)).mono ?_
          rintro e w8 ⟨ak, ck, rfl, hsk, kw8⟩
          have hkl := kids_len rs x
          obtain ⟨K, hK⟩ : ∃ K, (kidsB rs x).length = K := ⟨_, rfl⟩
          rw [hK] at hkl ⊢
          have HK := Lib.hid hK
          clear hK
          go_wp2_with fail
          refine (refKids05_any _ cp rs x w8 (hs7.kept kw8) (by omega)).mono ?_
          rintro e w9 ⟨gk, ck2, rfl, _, hok, kw9⟩
          rw [HK.out]
          have hsk2 := Sl.of_own hok
          go_wp2_with fail
          refine (refSame04_yes _ _ K K ck ck2 (kidsB rs x) w9 (hsk.kept kw9) hsk2 HK.out HK.out (by omega)).mono ?_
          rintro e w10 ⟨rfl, kw10⟩
          have kk10 := (kw8.trans kw9).trans kw10
          have rA10 := rA7.kept kk10 (by simp)
          have ht10 := ht7.kept kk10
          have hs10 := hs7.kept kk10
          have kW10 := kW7.trans kk10
          have cA0 : w10.cell? ⟨w3.heap.size, 0, none⟩ = some (.int .i64 fx) := by simpa using rA10.cell 0
          have cA1 : w10.cell? ⟨w3.heap.size, 1, none⟩ = some (.int .i64 nx) := by simpa using rA10.cell 1
          clear kw8 kw9 kw10 kk10 rA7 rA10 ht7 hs7 kW7 hok hsk hsk2
          go_wp2_with fail
          refine (treeWithin_any p g rs x y w10 ht10 hf hk1 hx hy).mono ?_
          rintro e w11 ⟨rfl, hw11⟩
          subst hw11
          obtain ⟨wi, hwi⟩ : ∃ wi, inB rs x y = wi := ⟨_, rfl⟩
          rw [hwi]
          have HWI := Lib.hid hwi
          clear hwi
          go_wp2_with fail
          refine (refWithin05_any _ cp rs x y w10 hs10 hf hk1).mono ?_
          rintro e w11 ⟨rfl, hw11⟩
          subst hw11
          rw [HWI.out]
          go_wp2_with fail
          refine (refHas05_any _ cp rs x w10 hs10 (by omega)).mono ?_
          rintro e w11 ⟨rfl, hw11⟩
          subst hw11
          rw [HB.out]
          cases b with
          | true =>
            go_wp2
            go_ret
            exact ⟨rfl, kW10⟩
          | false =>
            obtain ⟨rfl, rfl⟩ := HZ.out rfl
            go_wp2
            go_ret
            exact ⟨rfl, kW10⟩
end Go.Proofs.Ytnooamkbejbalaa
