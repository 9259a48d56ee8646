/- The law TreeIntervals: its walk. -/
import Derived.Test.YtnooamkbejbalaaTreeFixed
import Derived.Test.YtnooamkbejbalaaTreeActs
import Derived.Test.YtnooamkbejbalaaTreeInterval
namespace Go.Proofs.Ytnooamkbejbalaa
open Go.RowKit

set_option maxRecDepth 100000 in
set_option maxHeartbeats 2000000 in
theorem treeIntervals_big (a0 : Option Addr) (len cap : Nat) (w : World) (hl : 60 < len) (hm : len ≤ maxLen) :
    Calls Try.prog 4 #[.slice a0 len cap] w (FixedPost w) := by
  unfold maxLen at hm
  go_enter Try.func4, Try.ntmps4
  go_wp2_with fail
  refine (fixed05_any _).mono ?_
  rintro e w5 ⟨rfl, kw5⟩
  go_wp2
  go_ret
  exact ⟨rfl, kw5⟩

/-- What Interval answers of one that is there. -/
theorem treeInterval_there {k : Nat} (p g : Nat) (rs : List Rw) (z : Int) (w : World) (h : IsTree w p g rs) (hf : Fine k rs) (hk : k < 1000) (hz : Fit64 z) (hi : z ∈ idsT rs) (A B : Nat) (hA : fromB rs z = A) (hB : manyB rs z = B) :
    Calls Try.prog 13 #[.pointer (some ⟨p, 0, none⟩), .int .i64 z] w fun e w' => e = .returned (.tuple #[.agg #[.int .i64 A, .int .i64 B], .bool true]) ∧ Kept [] w w' := by
  refine (treeInterval_any p g rs z w h hf hk hz).mono ?_
  rintro e w' ⟨he, hk'⟩
  rw [if_pos hi, hA, hB] at he
  exact ⟨he, hk'⟩

/-- The interval of one and of another: all that the law holds them to. -/
structure Two (rs : List Rw) (a b : Int) (fa na fb nb M : Nat) : Prop where
  pa : 1 ≤ na
  pb : 1 ≤ nb
  ea : fa + na ≤ M
  eb : fb + nb ≤ M
  iff : inB rs a b = decide (fb ≤ fa ∧ fa + na ≤ fb + nb)
  back : ¬ (fb + nb ≤ fa) → ¬ (fa + na ≤ fb) → ¬ (fb ≤ fa ∧ fa + na ≤ fb + nb) → inB rs b a = true
  par : parB rs a = b → fb ≤ fa ∧ fa + na ≤ fb + nb
theorem Fine.two {k : Nat} {rs : List Rw} (hf : Fine k rs) (hk : k < 1000) {a b : Int} (ha : a ∈ idsT rs) (hb : b ∈ idsT rs) : Two rs a b (fromB rs a) (manyB rs a) (fromB rs b) (manyB rs b) (walkB rs 0).length := by
  refine ⟨Nat.pos_of_ne_zero (manyB_pos rs a), Nat.pos_of_ne_zero (manyB_pos rs b), (hf.many_le hk ha).1, (hf.many_le hk hb).1, ?_, fun h1 h2 h3 => ?_, fun h => ?_⟩
  · unfold inB
    rw [decide_eq_decide]
    rw [← hf.in_iff hk hb]
    simp [ha, hb]
  · unfold inB
    rcases hf.overlap hk ha hb h1 h2 with e | e
    · exact absurd ((hf.in_iff hk hb).1 e) h3
    · exact decide_eq_true ⟨hb, ha, e⟩
  · refine (hf.in_iff hk hb).1 ?_
    rw [hf.sub_iff hk ha, h]
    exact .inr (by simp [subT])

/-- How often z was met. -/
theorem count_one : ∀ {l : List Int}, l.Nodup → ∀ z : Int, l.count z = if z ∈ l then 1 else 0
  | [], _, z => by simp
  | x :: xs, h, z => by
    rw [List.nodup_cons] at h
    have ih := count_one h.2 z
    rw [List.count_cons, ih]
    by_cases e : x = z
    · subst e
      rw [if_neg h.1]
      simp
    · have e' : z ≠ x := fun q => e q.symm
      simp [e, e']

set_option maxRecDepth 100000 in
set_option maxHeartbeats 4000000 in
theorem treeIntervals_any (a0 : Option Addr) (cap : Nat) (l : List ActT) (w : World) (hs : SlA w a0 l) (hl : l.length ≤ 60) (hb : ∀ x ∈ l, x.fit) :
    Calls Try.prog 4 #[.slice a0 l.length cap] w (FixedPost w) := by
  have h5 : decide ((60 : Int) < l.length) = false := by simp; omega
  go_enter Try.func4, Try.ntmps4
  go_wp2_with fail
  refine (treeNew_any w).mono ?_
  rintro e w1 ⟨p, g, rfl, hnew, ht1, kw1⟩
  go_wp2_with fail
  go_loopw [31] (fun i wr => ∃ (j : Nat) (rs : List Rw), j ≤ l.length ∧ i = .int .i64 j ∧ Fine j rs ∧ IsTree wr p g rs ∧ Kept [] w wr) (fun i _ => l.length - (intOf i).toNat)
  case atStart => exact ⟨0, [], Nat.zero_le _, rfl, Fine.nil, ht1, kw1⟩
  case round =>
    obtain ⟨j, rs, hj, rfl, hf, htr, kWr⟩ := hrel
    clear ht1 kw1
    have hrl := hf.len
    by_cases hlt : j < l.length
    · obtain ⟨b, off, x, rfl, hx, hbl, c0, c1, c2⟩ := (hs.kept kWr).cell hlt
      have hbx := hb x (List.mem_of_getElem? hx)
      obtain ⟨zi, zp, zo⟩ := x
      simp only at c0 c1 c2
      have kA := (Kept.refl [] wr).alloc (.cells #[.int .i64 zi, .int .i64 zp, .bool zo] 28)
      have htA := htr.kept kA
      have kWA := kWr.trans kA
      cases zo with
      | true =>
        go_wp2_with fail
        generalize wr.alloc (.cells #[.int .i64 zi, .int .i64 zp, .bool true] 28) = wa at kA htA kWA ⊢
        refine (treeRemove_any p g rs zi wa htA hbx.1 hf.rise (by omega)).mono ?_
        rintro e w3 ⟨rfl, ht3, kw3⟩
        have kW3 : Kept [] w w3 := kWA.chain kw3 (by simp) (by intro i hi hlt; simp at hi; omega)
        have hf3 := hf.remB zi
        clear kA htA kWA kw3
        go_wp2
        go_roundw
        case rel => exact ⟨j + 1, _, by omega, by go_num, hf3, ht3, kW3⟩
        case measure => simp [intOf]; omega
      | false =>
        go_wp2_with fail
        generalize wr.alloc (.cells #[.int .i64 zi, .int .i64 zp, .bool false] 28) = wa at kA htA kWA ⊢
        refine (treeAdd_any p g rs zi zp wa htA hbx.1 hbx.2 (by omega)).mono ?_
        rintro e w3 ⟨rfl, ht3, kw3⟩
        have kW3 : Kept [] w w3 := kWA.chain kw3 (by simp) (by intro i hi hlt; simp at hi; omega)
        have hf3 := hf.addB zi zp
        clear kA htA kWA kw3
        go_wp2
        go_roundw
        case rel => exact ⟨j + 1, _, by omega, by go_num, hf3, ht3, kW3⟩
        case measure => simp [intOf]; omega
    · -- all is done: the walk
      have hk1 : j < 1000 := by omega
      have HW0 := Lib.hid (hf.walk_len (by omega))
      go_wp2_with fail
      refine (treeAll_any p g rs wr htr hf (by omega)).mono ?_
      rintro e w2 ⟨wa, wc, rfl, hwa, hsw, kw2⟩
      have hfit0 := Lib.hid htr.fit
      have ht2 := htr.kept kw2
      have kW2 := kWr.trans kw2
      have hmem : Hid (∀ q, q < (walkB rs 0).length → (walkB rs 0)[q]?.getD 0 ∈ idsT rs ∧ Fit64 ((walkB rs 0)[q]?.getD 0) ∧ fromB rs ((walkB rs 0)[q]?.getD 0) = q) := by
        intro q hq
        have hm : (walkB rs 0)[q]?.getD 0 ∈ idsT rs := by
          rw [List.getElem?_eq_getElem hq, Option.getD_some]
          exact hf.walk_ids hk1 (z := 0) (List.getElem_mem hq)
        refine ⟨hm, ?_, ?_⟩
        · obtain ⟨pp, hpp⟩ := mem_ids.1 hm
          exact (hfit0.out _ hpp).1
        · rw [List.getElem?_eq_getElem hq, Option.getD_some]
          exact hf.from_at hk1 hq
      have hnd := Lib.hid (hf.nodup hk1 0)
      have hall : Hid (∀ z, z ∈ walkB rs 0 ↔ z ∈ idsT rs) := fun z => hf.walk_all hk1
      obtain ⟨M, hM⟩ : ∃ M, (walkB rs 0).length = M := ⟨_, rfl⟩
      have HM := Lib.hid hM
      have hM60 : M ≤ 60 := by have := HW0.out; omega
      rw [hM] at hmem ⊢
      clear htr kw2 kWr hM
      go_wp2_with fail
      go_loopw [52] (fun i wq => ∃ q : Nat, q ≤ M ∧ i = .int .i64 q ∧ Kept [] w2 wq) (fun i _ => M - (intOf i).toNat)
      case atStart => exact ⟨0, Nat.zero_le _, rfl, Kept.refl _ _⟩
      case round =>
        obtain ⟨q, hq, rfl, hkq⟩ := hrel
        by_cases hqM : q < M
        · obtain ⟨bs, offs, he, co⟩ := (hsw.kept hkq).cell (by rw [HM.out]; exact hqM)
          obtain ⟨rfl, rfl⟩ : wa = bs ∧ 0 = offs := by simpa using he
          obtain ⟨ha, hfa, hfr⟩ := hmem.out q hqM
          obtain ⟨a, hae⟩ : ∃ a, (walkB rs 0)[q]?.getD 0 = a := ⟨_, rfl⟩
          rw [hae, Nat.zero_add] at co
          rw [hae] at ha hfa hfr
          obtain ⟨na, hna⟩ : ∃ na, manyB rs a = na := ⟨_, rfl⟩
          have HA := Lib.hid ha
          have HNA := Lib.hid hna
          have HFA := Lib.hid hfr
          have hto := hf.two hk1 ha ha
          rw [hna, hfr, HM.out] at hto
          obtain ⟨hpa, _, hea, _, _, _, _⟩ := hto
          clear he hae ha hna hfr
          go_wp2_with fail
          refine (treeInterval_there p g rs a _ (ht2.kept hkq) hf hk1 hfa HA.out q na HFA.out HNA.out).mono ?_
          rintro e w3 ⟨rfl, kw3⟩
          have rA := Row.new w3 38 [.int .i64 q, .int .i64 na]
          have kA := (Kept.refl [] w3).alloc (.cells #[.int .i64 q, .int .i64 na] 38)
          have kqA := (hkq.trans kw3).trans kA
          have g1 : decide ((na : Int) < 1) = false := by simp; omega
          have g2 : decide ((M : Int) < (q : Int) + na) = false := by simp; omega
          clear kw3 hkq kA
          obtain ⟨PA, hPA⟩ : ∃ PA, w3.heap.size = PA := ⟨_, rfl⟩
          rw [hPA] at rA
          go_wp2_with fail
          generalize w3.alloc (.cells #[.int .i64 q, .int .i64 na] 38) = wA at rA kqA ⊢
          clear co g1 g2 hPA
          go_loopw [88] (fun i wq => ∃ r : Nat, r ≤ M ∧ i = .int .i64 r ∧ Kept [] wA wq) (fun i _ => M - (intOf i).toNat)
          case atStart => exact ⟨0, Nat.zero_le _, rfl, Kept.refl _ _⟩
          case round =>
            obtain ⟨r, hr, rfl, hkr⟩ := hrel
            by_cases hrM : r < M
            · obtain ⟨bs, offs, he, co⟩ := (hsw.kept (kqA.trans hkr)).cell (by rw [HM.out]; exact hrM)
              obtain ⟨rfl, rfl⟩ : wa = bs ∧ 0 = offs := by simpa using he
              obtain ⟨hbm, hfb, hfr⟩ := hmem.out r hrM
              obtain ⟨b, hbe⟩ : ∃ b, (walkB rs 0)[r]?.getD 0 = b := ⟨_, rfl⟩
              rw [hbe, Nat.zero_add] at co
              rw [hbe] at hbm hfb hfr
              obtain ⟨nb, hnb⟩ : ∃ nb, manyB rs b = nb := ⟨_, rfl⟩
              have hto := hf.two hk1 HA.out hbm
              rw [hnb, hfr, HM.out, HNA.out, HFA.out] at hto
              have T := Lib.hid hto
              have HBM := Lib.hid hbm
              have HNB := Lib.hid hnb
              have HFB := Lib.hid hfr
              have hpb := hto.pb
              have heb := hto.eb
              clear he hbe hbm hnb hfr hto
              go_wp2_with fail
              refine (treeInterval_there p g rs b _ (ht2.kept (kqA.trans hkr)) hf hk1 hfb HBM.out r nb HFB.out HNB.out).mono ?_
              rintro e w5 ⟨rfl, kw5⟩
              have rB := Row.new w5 38 [.int .i64 r, .int .i64 nb]
              have kB := (Kept.refl [] w5).alloc (.cells #[.int .i64 r, .int .i64 nb] 38)
              have kR := (hkr.trans kw5).trans kB
              have rA5 := rA.kept kR (by simp)
              have htB := ht2.kept (kqA.trans kR)
              have cA0 := rA5.cell 0
              have cA1 := rA5.cell 1
              have cB0 := rB.cell 0
              have cB1 := rB.cell 1
              simp only [List.getElem?_cons_zero, List.getElem?_cons_succ] at cA0 cA1 cB0 cB1
              have hqw : (q : Int) + na ≤ 1000 := by omega
              have hrw : (r : Int) + nb ≤ 1000 := by omega
              by_cases h1 : r ≤ q
              · by_cases h2 : q + na ≤ r + nb
                · -- within
                  have HIN := Lib.hid (T.out.iff.trans (decide_eq_true ⟨h1, h2⟩))
                  have h2i : (q : Int) + na ≤ (r : Int) + nb := by omega
                  have h3i : decide ((r : Int) + nb ≤ q) = false := by simp; omega
                  have h4i : decide ((q : Int) + na ≤ r) = false := by simp; omega
                  clear h2
                  go_wp2_with fail
                  refine (treeWithin_any p g rs a b _ htB hf hk1 hfa hfb).mono ?_
                  rintro e w6 ⟨rfl, rfl⟩
                  rw [HIN.out]
                  go_wp2_with fail
                  refine (treeParent_any p g rs a _ htB hfa).mono ?_
                  rintro e w6 ⟨rfl, rfl⟩
                  obtain ⟨pa, hpa'⟩ : ∃ pa, parB rs a = pa := ⟨_, rfl⟩
                  rw [hpa']
                  clear hpa'
                  by_cases hpe : pa = b
                  · have hpn : (pa == b) = true := by simpa using hpe
                    clear hpe
                    go_wp2_with fail
                    go_roundw
                    case rel => exact ⟨r + 1, by omega, by go_num, kR⟩
                    case measure => simp [intOf]; omega
                  · have hpn : (pa == b) = false := by simpa using hpe
                    clear hpe
                    go_wp2_with fail
                    go_roundw
                    case rel => exact ⟨r + 1, by omega, by go_num, kR⟩
                    case measure => simp [intOf]; omega
                · have h2i : decide ((q : Int) + na ≤ (r : Int) + nb) = false := by simp; omega
                  have HNI := Lib.hid (show ¬ (r ≤ q ∧ q + na ≤ r + nb) by omega)
                  have HIN := Lib.hid (T.out.iff.trans (decide_eq_false HNI.out))
                  by_cases h3 : r + nb ≤ q
                  · -- apart
                    have h3i : (r : Int) + nb ≤ q := by omega
                    clear h2 h3
                    go_wp2_with fail
                    refine (treeWithin_any p g rs a b _ htB hf hk1 hfa hfb).mono ?_
                    rintro e w6 ⟨rfl, rfl⟩
                    rw [HIN.out]
                    go_wp2_with fail
                    refine (treeParent_any p g rs a _ htB hfa).mono ?_
                    rintro e w6 ⟨rfl, rfl⟩
                    obtain ⟨pa, hpa'⟩ : ∃ pa, parB rs a = pa := ⟨_, rfl⟩
                    rw [hpa']
                    have hpn : (pa == b) = false := by
                      simp only [beq_eq_false_iff_ne]
                      intro e
                      exact HNI.out (T.out.par (hpa'.trans e))
                    clear hpa'
                    go_wp2_with fail
                    go_roundw
                    case rel => exact ⟨r + 1, by omega, by go_num, kR⟩
                    case measure => simp [intOf]; omega
                  · have h3i : decide ((r : Int) + nb ≤ q) = false := by simp; omega
                    have h4i : decide ((q : Int) + na ≤ r) = false := by simp; omega
                    have HB := Lib.hid (T.out.back h3 (by omega) HNI.out)
                    clear h2 h3
                    go_wp2_with fail
                    refine (treeWithin_any p g rs a b _ htB hf hk1 hfa hfb).mono ?_
                    rintro e w6 ⟨rfl, rfl⟩
                    rw [HIN.out]
                    go_wp2_with fail
                    refine (treeWithin_any p g rs b a _ htB hf hk1 hfb hfa).mono ?_
                    rintro e w6 ⟨rfl, rfl⟩
                    rw [HB.out]
                    go_wp2_with fail
                    refine (treeParent_any p g rs a _ htB hfa).mono ?_
                    rintro e w6 ⟨rfl, rfl⟩
                    obtain ⟨pa, hpa'⟩ : ∃ pa, parB rs a = pa := ⟨_, rfl⟩
                    rw [hpa']
                    have hpn : (pa == b) = false := by
                      simp only [beq_eq_false_iff_ne]
                      intro e
                      exact HNI.out (T.out.par (hpa'.trans e))
                    clear hpa'
                    go_wp2_with fail
                    go_roundw
                    case rel => exact ⟨r + 1, by omega, by go_num, kR⟩
                    case measure => simp [intOf]; omega
              · have h1i : decide ((r : Int) ≤ q) = false := by simp; omega
                have h1n : decide (r ≤ q) = false := by simp; omega
                have HNI := Lib.hid (show ¬ (r ≤ q ∧ q + na ≤ r + nb) by omega)
                have HIN := Lib.hid (T.out.iff.trans (decide_eq_false HNI.out))
                have h3i : decide ((r : Int) + nb ≤ q) = false := by simp; omega
                by_cases h4 : q + na ≤ r
                · have h4i : (q : Int) + na ≤ r := by omega
                  clear h1 h4
                  go_wp2_with fail
                  refine (treeWithin_any p g rs a b _ htB hf hk1 hfa hfb).mono ?_
                  rintro e w6 ⟨rfl, rfl⟩
                  rw [HIN.out]
                  go_wp2_with fail
                  refine (treeParent_any p g rs a _ htB hfa).mono ?_
                  rintro e w6 ⟨rfl, rfl⟩
                  obtain ⟨pa, hpa'⟩ : ∃ pa, parB rs a = pa := ⟨_, rfl⟩
                  rw [hpa']
                  have hpn : (pa == b) = false := by
                    simp only [beq_eq_false_iff_ne]
                    intro e
                    exact HNI.out (T.out.par (hpa'.trans e))
                  clear hpa'
                  go_wp2_with fail
                  go_roundw
                  case rel => exact ⟨r + 1, by omega, by go_num, kR⟩
                  case measure => simp [intOf]; omega
                · have h4i : decide ((q : Int) + na ≤ r) = false := by simp; omega
                  have HB := Lib.hid (T.out.back (by omega) h4 HNI.out)
                  clear h1 h4
                  go_wp2_with fail
                  refine (treeWithin_any p g rs a b _ htB hf hk1 hfa hfb).mono ?_
                  rintro e w6 ⟨rfl, rfl⟩
                  rw [HIN.out]
                  go_wp2_with fail
                  refine (treeWithin_any p g rs b a _ htB hf hk1 hfb hfa).mono ?_
                  rintro e w6 ⟨rfl, rfl⟩
                  rw [HB.out]
                  go_wp2_with fail
                  refine (treeParent_any p g rs a _ htB hfa).mono ?_
                  rintro e w6 ⟨rfl, rfl⟩
                  obtain ⟨pa, hpa'⟩ : ∃ pa, parB rs a = pa := ⟨_, rfl⟩
                  rw [hpa']
                  have hpn : (pa == b) = false := by
                    simp only [beq_eq_false_iff_ne]
                    intro e
                    exact HNI.out (T.out.par (hpa'.trans e))
                  clear hpa'
                  go_wp2_with fail
                  go_roundw
                  case rel => exact ⟨r + 1, by omega, by go_num, kR⟩
                  case measure => simp [intOf]; omega
            · go_wp2_with fail
              go_roundw
              case rel => exact ⟨q + 1, by omega, by go_num, kqA.trans hkr⟩
              case measure => simp [intOf]; omega
        · -- each that the acts name: how often it is met
          go_wp2_with fail
          go_loopw [170] (fun i wq => ∃ t : Nat, t ≤ l.length ∧ i = .int .i64 t ∧ Kept [] w2 wq) (fun i _ => l.length - (intOf i).toNat)
          case atStart => exact ⟨0, Nat.zero_le _, rfl, hkq⟩
          case round =>
            obtain ⟨t, ht, rfl, hkt⟩ := hrel
            clear hkq hqM hq
            by_cases htl : t < l.length
            · obtain ⟨b, off, x, rfl, hx, hbl, c0, c1, c2⟩ := (hs.kept (kW2.trans hkt)).cell htl
              have hbx := hb x (List.mem_of_getElem? hx)
              obtain ⟨zi, zp, zo⟩ := x
              simp only at c0 c1 c2
              have kA := (Kept.refl [] wr).alloc (.cells #[.int .i64 zi, .int .i64 zp, .bool zo] 28)
              have rA := Row.new wr 28 [.int .i64 zi, .int .i64 zp, .bool zo]
              have kqA := hkt.trans kA
              obtain ⟨PA, hPA⟩ : ∃ PA, wr.heap.size = PA := ⟨_, rfl⟩
              rw [hPA] at rA
              have hfz : Fit64 zi := hbx.1
              clear hx hbx
              go_wp2_with fail
              clear c0 c1 c2
              generalize wr.alloc (.cells #[.int .i64 zi, .int .i64 zp, .bool zo] 28) = wA at rA kA kqA ⊢
              have cA0 : wA.cell? ⟨PA, 0, none⟩ = some (.int .i64 zi) := by rw [rA.cell 0]; rfl
              clear hPA
              go_loopw [19, 176] (fun m i wq => ∃ r c : Nat, r ≤ M ∧ i = .int .i64 r ∧ m = .int .i64 c ∧ c ≤ r ∧ Hid (((walkB rs 0).take r).count zi = c) ∧ wA = wq) (fun _ i _ => M - (intOf i).toNat)
              case atStart => exact ⟨0, 0, Nat.zero_le _, rfl, rfl, Nat.le_refl _, Lib.hid (by simp), rfl⟩
              case round =>
                obtain ⟨r, c, hr, rfl, rfl, hcr, HC, rfl⟩ := hrel
                by_cases hrM : r < M
                · obtain ⟨bs, offs, he, co⟩ := (hsw.kept kqA).cell (by rw [HM.out]; exact hrM)
                  obtain ⟨rfl, rfl⟩ : wa = bs ∧ 0 = offs := by simpa using he
                  obtain ⟨o, hoe⟩ : ∃ o, (walkB rs 0)[r]?.getD 0 = o := ⟨_, rfl⟩
                  have HS : Hid (((walkB rs 0).take (r + 1)).count zi = ((walkB rs 0).take r).count zi + if o = zi then 1 else 0) := by
                    have hrl' : r < (walkB rs 0).length := by rw [HM.out]; exact hrM
                    rw [List.getElem?_eq_getElem hrl', Option.getD_some] at hoe
                    refine Lib.hid ?_
                    rw [List.take_succ_eq_append_getElem hrl', hoe, List.count_append, List.count_singleton]
                    simp only [beq_iff_eq]
                  rw [hoe, Nat.zero_add] at co
                  clear he hoe
                  by_cases hoz : o = zi
                  · subst hoz
                    go_wp2_with fail
                    go_roundw
                    case rel => exact ⟨r + 1, c + 1, by omega, by go_num, by go_num, by omega, Lib.hid (by rw [HS.out, HC.out]; simp), by trivial⟩
                    case measure => simp [intOf]; omega
                  · have hoz' : (o == zi) = false := by simpa using hoz
                    have HO := Lib.hid hoz
                    clear hoz
                    go_wp2_with fail
                    go_roundw
                    case rel => exact ⟨r + 1, c, by omega, by go_num, rfl, by omega, Lib.hid (by rw [HS.out, HC.out]; simp [HO.out]), by trivial⟩
                    case measure => simp [intOf]; omega
                · obtain rfl : r = M := by omega
                  have hcz : c = if zi ∈ walkB rs 0 then 1 else 0 := by
                    rw [← HC.out, ← HM.out, List.take_length, count_one hnd.out]
                  by_cases hzi : zi ∈ idsT rs
                  · rw [if_pos ((hall.out zi).2 hzi)] at hcz
                    subst hcz
                    have HZ := Lib.hid hzi
                    clear hzi
                    go_wp2_with fail
                    refine (treeHas_any p g rs zi _ (ht2.kept kqA) hfz).mono ?_
                    rintro e w6 ⟨rfl, rfl⟩
                    rw [decide_eq_true HZ.out]
                    go_wp2_with fail
                    go_roundw
                    case rel => exact ⟨t + 1, by omega, by go_num, kqA⟩
                    case measure => simp [intOf]; omega
                  · rw [if_neg (fun h => hzi ((hall.out zi).1 h))] at hcz
                    subst hcz
                    have HZ := Lib.hid hzi
                    clear hzi
                    go_wp2_with fail
                    refine (treeHas_any p g rs zi _ (ht2.kept kqA) hfz).mono ?_
                    rintro e w6 ⟨rfl, rfl⟩
                    rw [decide_eq_false HZ.out]
                    go_wp2_with fail
                    go_roundw
                    case rel => exact ⟨t + 1, by omega, by go_num, kqA⟩
                    case measure => simp [intOf]; omega
            · go_wp2_with fail
              refine (fixed05_any _).mono ?_
              rintro e w5 ⟨rfl, kw5⟩
              go_wp2
              go_ret
              exact ⟨rfl, (kW2.trans hkt).trans kw5⟩
end Go.Proofs.Ytnooamkbejbalaa
