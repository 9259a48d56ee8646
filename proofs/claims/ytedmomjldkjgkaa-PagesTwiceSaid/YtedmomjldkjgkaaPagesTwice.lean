/- The law PagesTwice: its walk. -/
import Derived.Test.YtedmomjldkjgkaaPagesPlain2
import Derived.Test.YtedmomjldkjgkaaPagesFixed
import Derived.Test.YtedmomjldkjgkaaMapB
namespace Go.Proofs.Ytedmomjldkjgkaa
open Go.RowKit

set_option maxRecDepth 100000 in
set_option maxHeartbeats 2000000 in
theorem pagesTwice_big (n many : Int) (a0 : Option Addr) (len cap : Nat) (w : World) (hl : 60 < len) (hm : len ≤ maxLen) :
    Calls Try.prog 4 #[.int .u8 n, .slice a0 len cap, .int .u8 many] w (FixedPost w) := by
  unfold maxLen at hm
  go_enter Try.func4, Try.ntmps4
  go_wp2_with fail
  refine (fixed03_any _).mono ?_
  rintro e w5 ⟨rfl, kw5⟩
  go_wp2
  go_ret
  exact ⟨rfl, kw5⟩

/-- All five blocks lie ahead of o. -/
def Ahead (p rb rg mb mg o : Nat) : Prop := p < o ∧ rb < o ∧ rg < o ∧ mb < o ∧ mg < o
theorem IsPages.map {w w' : World} {p rb rg mb mg o : Nat} {xs : List Bool} {ys : List Int} (h : IsPages w p rb rg mb mg xs ys) (hk : Kept [o] w w') (ha : Ahead p rb rg mb mg o) : IsPages w' p rb rg mb mg xs ys := by
  obtain ⟨h1, h2, h3, h4, h5⟩ := ha
  exact h.keptS hk (by simp; omega) (by simp; omega) (by simp; omega) (by simp; omega) (by simp; omega)

set_option maxRecDepth 100000 in
set_option maxHeartbeats 16000000 in
theorem pagesTwice_any (n many : Int) (a0 : Option Addr) (cap : Nat) (l : List I3) (w : World) (hs : SlI3 w a0 l) (hl : l.length ≤ 60) (hn0 : 0 ≤ n) (hn : n < 256) (hm0 : 0 ≤ many) (hm : many < 256) (hb : ∀ x ∈ l, x.fit) :
    Calls Try.prog 4 #[.int .u8 n, .slice a0 l.length cap, .int .u8 many] w (FixedPost w) := by
  have hmm := @run_makeMap Try.prog
  have h5 : decide ((60 : Int) < l.length) = false := by simp; omega
  go_enter Try.func4, Try.ntmps4
  go_wp2_with fail
  obtain ⟨m, hmn, hm1, hm60⟩ : ∃ m : Nat, 1 + n % 60 = (m : Int) ∧ 1 ≤ m ∧ m ≤ 60 := ⟨(1 + n % 60).toNat, by omega, by omega, by omega⟩
  rw [hmn]
  clear hmn
  refine (pagesNew_yes m w hm1 (by omega)).mono ?_
  rintro e w1 ⟨p, rb, rg, mb, mg, rfl, hnew, hp1, kw1⟩
  have hah : Ahead p rb rg mb mg w1.heap.size := hp1.lt
  have own0 := OwnB.made w1
  have kM := kw1.alloc (.map #[] 0)
  have hp2 := hp1.kept ((Kept.refl [] w1).alloc (.map #[] 0))
  rw [hasM_none m] at own0
  clear hp1 kw1
  go_wp2_with fail
  generalize w1.alloc (.map #[] 0) = w2 at own0 kM hp2 ⊢
  generalize w1.heap.size = o at own0 hah ⊢
  go_loopw [43] (fun i wr => ∃ (j M : Nat) (xs : List Bool) (ys : List Int), j ≤ l.length ∧ M ≤ 60 * j ∧ i = .int .i64 j ∧ xs.length = m ∧ IsPages wr p rb rg mb mg xs ys ∧ OwnB wr o M (hasM xs) ∧ Kept [] w wr) (fun i _ => l.length - (intOf i).toNat)
  case atStart => exact ⟨0, 0, _, _, Nat.zero_le _, Nat.zero_le _, rfl, List.length_replicate, hp2, own0, kM⟩
  case round =>
    obtain ⟨j, M, xs, ys, hj, hM, rfl, hlen, hpr, hown, kWr⟩ := hrel
    have HL := Lib.hid hlen
    clear hlen own0 kM hp2
    by_cases hlt : j < l.length
    · obtain ⟨b, off, x, rfl, hx, hbl, c0, c1, c2⟩ := (hs.kept kWr).cell hlt
      obtain ⟨hfa, hfb, hfc⟩ := hb x (List.mem_of_getElem? hx)
      unfold Fit64 at hfa hfb hfc
      have hol := hown.lt
      obtain ⟨BLK, hBLK⟩ : ∃ BLK, wr.heap.size = BLK := ⟨_, rfl⟩
      have rB := Row.new wr 35 [.int .i64 x.a, .int .i64 x.b, .int .i64 x.c]
      have kA := (Kept.refl [] wr).alloc (.cells #[.int .i64 x.a, .int .i64 x.b, .int .i64 x.c] 35)
      have hpA := hpr.kept kA
      have ownA := hown.kept kA (by simp)
      have kWA := kWr.trans kA
      rw [hBLK] at rB
      clear hs hb kA hpr hown
      have hahl := hah
      unfold Ahead at hahl
      by_cases k0 : x.a = 0
      · have k0' : (x.a == 0) = true := by simp; omega
        clear k0
        have hgc := grant_cases xs ys x.c
        go_wp2_with fail
        generalize wr.alloc (.cells #[.int .i64 x.a, .int .i64 x.b, .int .i64 x.c] 35) = wa at rB hpA ownA kWA ⊢
        refine (pagesGrant_any p rb rg mb mg xs ys x.c wa hpA (by omega)).mono ?_
        rintro e w4 ⟨rfl, hp4, kw4⟩
        have rB4 := rB.kept kw4 (by simp; omega)
        have own4 := ownA.kept kw4 (by simp; omega)
        have kW4 : Kept [] w w4 := kWA.chain kw4 (by simp) (by simp; omega)
        clear rB hpA ownA kWA kw4
        rcases hgc with ⟨er, her, hg, hw⟩ | ⟨B, N, hcN, hN1, hBN, hwh, _, hg, hw⟩
        · rw [hg, hw] at hp4
          rw [hg]
          clear hg hw
          go_wp2_with fail
          go_loopw [14] (fun i wq => i = .int .i64 0 ∧ w4 = wq) (fun _ _ => 0)
          case atStart => exact ⟨rfl, rfl⟩
          case round =>
            obtain ⟨rfl, rfl⟩ := hrel
            go_wp2
            go_roundw
            case rel => exact ⟨j + 1, M, xs, ys, by omega, by omega, by go_num, HL.out, hp4, own4, kW4⟩
            case measure => simp [intOf]; omega
        · rw [hg, hw] at hp4
          rw [hg]
          have hBN60 : B + N ≤ 60 := by have := HL.out; omega
          rw [markB_at true hBN] at hp4
          have HWH : Hid (∀ i, i < N → mk xs (B + i) = false) := fun i hi => by simpa using ((wholeB_iff _ _ _ _).1 hwh).2 i (by simpa using hi)
          have HBN := Lib.hid hBN
          have hlm := HL.out
          have hBm : B + N ≤ m := by omega
          rw [hcN] at rB4
          clear hg hw hwh hBN hlm hcN
          go_wp2_with fail
          go_loopw [14] (fun i wq => ∃ d : Nat, d ≤ N ∧ i = .int .i64 ((B + d : Nat) : Int) ∧ OwnB wq o (M + d) (hasM (setFrom xs B true d)) ∧ Kept [o] w4 wq) (fun i _ => B + N - (intOf i).toNat)
          case atStart => exact ⟨0, Nat.zero_le _, by simp, own4, Kept.refl _ _⟩
          case round =>
            obtain ⟨d, hd, rfl, ownq, hkq⟩ := hrel
            have hpq := hp4.map hkq hah
            have rBq := rB4.kept hkq (by simp; omega)
            have d2 : wr.cell? ⟨BLK, 2, none⟩ = some (.int .i64 N) := by simpa using rBq.cell 2
            by_cases hdN : d < N
            · have hfit : Fit64 ((B + d : Nat) : Int) := by unfold Fit64; omega
              have hlook := ownq.look hfit
              rw [hasM_at xs B d true (by have := HBN.out; omega), HWH.out d hdN, Int.natCast_add] at hlook
              have ht : ((B + d : Nat) : Int) < (B : Int) + N := by omega
              have ht0 : decide (((B + d : Nat) : Int) < 0) = false := by simp; omega
              have ht1 : decide ((m : Int) ≤ ((B + d : Nat) : Int)) = false := by simp; omega
              have HST := Lib.hid (hasM_step xs B d true (by have := HBN.out; omega))
              go_wp2_with fail
              refine (pagesLen_any p rb rg mb mg _ _ wr hpq).mono ?_
              rintro e w5 ⟨rfl, rfl⟩
              rw [setFrom_length, HL.out]
              go_wp2_with (at_mapUpdate; refine wpList_mapUpdate_B _ rfl _ _ _ rfl o (M + d) _ rfl ownq (by unfold maxLen; omega) ((B + d : Nat) : Int) hfit true rfl rfl ?_; intro w6 own6 kw6; rw [HST.out] at own6)
              go_roundw
              case rel => exact ⟨d + 1, by omega, by go_num, own6, hkq.trans kw6⟩
              case measure => simp [intOf]; omega
            · obtain rfl : d = N := by omega
              have ht : decide (((B + d : Nat) : Int) < (B : Int) + d) = false := by simp
              go_wp2
              go_roundw
              case rel => exact ⟨j + 1, M + d, _, _, by omega, by omega, by go_num, by rw [setFrom_length]; exact HL.out, hpq, ownq, kW4.chain hkq (by simp) (by simp; omega)⟩
              case measure => simp [intOf]; omega
      · have k0' : (x.a == 0) = false := by simp; omega
        by_cases k1 : x.a = 1
        · have k1' : (x.a == 1) = true := by simp; omega
          clear k0 k1
          have hbc := back_cases xs x.b x.c
          go_wp2_with fail
          generalize wr.alloc (.cells #[.int .i64 x.a, .int .i64 x.b, .int .i64 x.c] 35) = wa at rB hpA ownA kWA ⊢
          refine (pagesBack_any p rb rg mb mg xs ys x.b x.c wa hpA (by omega)).mono ?_
          rintro e w4 ⟨rfl, hp4, kw4⟩
          have rB4 := rB.kept kw4 (by simp; omega)
          have own4 := ownA.kept kw4 (by simp; omega)
          have kW4 : Kept [] w w4 := kWA.chain kw4 (by simp) (by simp; omega)
          clear rB hpA ownA kWA kw4
          rcases hbc with ⟨er, her, hg⟩ | ⟨B, N, hbB, hcN, hN1, hBN, hall, hg, hg2⟩
          · rw [hg] at hp4 ⊢
            clear hg
            go_wp2
            go_roundw
            case rel => exact ⟨j + 1, M, xs, ys, by omega, by omega, by go_num, HL.out, hp4, own4, kW4⟩
            case measure => simp [intOf]; omega
          · rw [hg] at hp4 ⊢
            have hlm := HL.out
            have hBm : B + N ≤ m := by omega
            have HBN := Lib.hid hBN
            have HALL := Lib.hid hall
            have HG2 := Lib.hid hg2
            rw [hbB, hcN] at rB4
            rw [hbB, hcN] at HG2
            have d1 : w4.cell? ⟨BLK, 1, none⟩ = some (.int .i64 B) := by simpa using rB4.cell 1
            clear hg hg2 hall hBN hlm hbB hcN
            go_wp2_with fail
            go_loopw [15] (fun i wq => ∃ d : Nat, d ≤ N ∧ i = .int .i64 ((B + d : Nat) : Int) ∧ OwnB wq o (M + d) (hasM (setFrom xs B false d)) ∧ Kept [o] w4 wq) (fun i _ => B + N - (intOf i).toNat)
            case atStart => exact ⟨0, Nat.zero_le _, by simp, own4, Kept.refl _ _⟩
            case round =>
              obtain ⟨d, hd, rfl, ownq, hkq⟩ := hrel
              have hpq := hp4.map hkq hah
              have rBq := rB4.kept hkq (by simp; omega)
              have d1 : wr.cell? ⟨BLK, 1, none⟩ = some (.int .i64 B) := by simpa using rBq.cell 1
              have d2 : wr.cell? ⟨BLK, 2, none⟩ = some (.int .i64 N) := by simpa using rBq.cell 2
              by_cases hdN : d < N
              · have hfit : Fit64 ((B + d : Nat) : Int) := by unfold Fit64; omega
                have hlook := ownq.look hfit
                rw [hasM_at xs B d false (by have := HBN.out; omega), HALL.out d hdN, Int.natCast_add] at hlook
                have ht : ((B + d : Nat) : Int) < (B : Int) + N := by omega
                have HST := Lib.hid (hasM_step xs B d false (by have := HBN.out; omega))
                go_wp2_with (at_mapUpdate; refine wpList_mapUpdate_B _ rfl _ _ _ rfl o (M + d) _ rfl ownq (by unfold maxLen; omega) ((B + d : Nat) : Int) hfit false rfl rfl ?_; intro w6 own6 kw6; rw [HST.out] at own6)
                go_roundw
                case rel => exact ⟨d + 1, by omega, by go_num, own6, hkq.trans kw6⟩
                case measure => simp [intOf]; omega
              · obtain rfl : d = N := by omega
                have ht : decide (((B + d : Nat) : Int) < (B : Int) + d) = false := by simp
                go_wp2_with fail
                refine (pagesBack_any p rb rg mb mg _ ys B d wr hpq (by omega)).mono ?_
                rintro e w5 ⟨rfl, hp5, kw5⟩
                rw [HG2.out] at hp5 ⊢
                have own5 := ownq.kept kw5 (by simp; omega)
                go_wp2
                go_roundw
                case rel => exact ⟨j + 1, M + d, _, _, by omega, by omega, by go_num, by rw [setFrom_length]; exact HL.out, hp5, own5, (kW4.chain (U := []) hkq (by simp) (by simp; omega)).chain kw5 (by simp) (by simp; omega)⟩
                case measure => simp [intOf]; omega
        · have k1' : (x.a == 1) = false := by simp; omega
          clear k0 k1
          go_wp2_with fail
          generalize wr.alloc (.cells #[.int .i64 x.a, .int .i64 x.b, .int .i64 x.c] 35) = wa at rB hpA ownA kWA ⊢
          go_wp2
          go_roundw
          case rel => exact ⟨j + 1, M, xs, ys, by omega, by omega, by go_num, HL.out, hpA, ownA, kWA⟩
          case measure => simp [intOf]; omega
    · clear hs hb hown
      obtain ⟨k, hkm, hk1, hk8⟩ : ∃ k : Nat, 1 + many % 8 = (k : Int) ∧ 1 ≤ k ∧ k ≤ 8 := ⟨(1 + many % 8).toNat, by omega, by omega, by omega⟩
      have hgc := grant_cases xs ys k
      have hcb := countB_le xs
      rw [HL.out] at hcb
      unfold Ahead at hah
      go_wp2_with fail
      refine (pagesGrant_any p rb rg mb mg xs ys k wr hpr (by omega)).mono ?_
      rintro e w4 ⟨rfl, hp4, kw4⟩
      have kW4 : Kept [] w w4 := kWr.chain kw4 (by simp) (by simp; omega)
      rcases hgc with ⟨er, her, hg, hw⟩ | ⟨B, N, hcN, hN1, hBN, hwh, hfi, hg, hw⟩
      · have her3 := grant_er (by omega) hg her
        subst her3
        rw [hg]
        clear hg hw
        go_wp2_with fail
        refine (fixed03_any _).mono ?_
        rintro e w5 ⟨rfl, kw5⟩
        go_wp2
        go_ret
        exact ⟨rfl, kW4.trans kw5⟩
      · obtain rfl : k = N := by omega
        obtain ⟨hgb, hcc⟩ := grant_back hN1 hBN hwh
        have HG := Lib.hid hg
        rw [hg] at hp4
        rw [markB_at true hBN] at hp4
        rw [hg]
        have hll := HL.out
        have hBm : B + k ≤ m := by omega
        have HGB := Lib.hid hgb
        have HBN := Lib.hid hBN
        obtain ⟨C, HC⟩ : ∃ C, Hid (countB xs = C) := ⟨_, rfl⟩
        rw [HC.out] at hcc hcb
        have HCC := Lib.hid hcc
        have HLS : Hid ((setFrom xs B true k).length = m) := (setFrom_length _ _ _ _).trans HL.out
        clear hg hw hgb hcc hBN hwh hfi hll hcN
        have hcb2 : C + k ≤ m := by
          have := countB_le (setFrom xs B true k)
          rw [HCC.out, HLS.out] at this
          exact this
        go_wp2_with fail
        refine (pagesFree_any p rb rg mb mg _ _ w4 hp4).mono ?_
        rintro e w5 ⟨rfl, kw5⟩
        rw [HLS.out, HCC.out]
        have hp5 := hp4.kept kw5
        have kW5 := kW4.trans kw5
        go_wp2_with fail
        refine (pagesBack_any p rb rg mb mg _ _ B k w5 hp5 (by omega)).mono ?_
        rintro e w6 ⟨rfl, hp6, kw6⟩
        rw [HGB.out] at hp6 ⊢
        have kW6 : Kept [] w w6 := kW5.chain kw6 (by simp) (by simp; omega)
        go_wp2_with fail
        refine (pagesFree_any p rb rg mb mg _ _ w6 hp6).mono ?_
        rintro e w7 ⟨rfl, kw7⟩
        rw [HL.out, HC.out]
        have hp7 := hp6.kept kw7
        have kW7 := kW6.trans kw7
        go_wp2_with fail
        refine (pagesGrant_any p rb rg mb mg xs _ k w7 hp7 (by omega)).mono ?_
        rintro e w8 ⟨rfl, hp8, kw8⟩
        rw [HG.out] at hp8 ⊢
        rw [markB_at true HBN.out] at hp8
        have kW8 : Kept [] w w8 := kW7.chain kw8 (by simp) (by simp; omega)
        go_wp2_with fail
        refine (fixed03_any _).mono ?_
        rintro e w9 ⟨rfl, kw9⟩
        have hp9 := hp8.kept kw9
        go_wp2_with fail
        refine (pagesFree_any p rb rg mb mg _ _ w9 hp9).mono ?_
        rintro e w10 ⟨rfl, kw10⟩
        rw [HLS.out, HCC.out]
        go_wp2
        go_ret
        exact ⟨rfl, (kW8.trans kw9).trans kw10⟩
end Go.Proofs.Ytedmomjldkjgkaa
