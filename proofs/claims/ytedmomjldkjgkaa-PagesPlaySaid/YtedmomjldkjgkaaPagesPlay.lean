/- The law PagesPlay: its walk. -/
import Derived.Test.YtedmomjldkjgkaaPagesPlain
import Derived.Test.YtedmomjldkjgkaaPagesFixed
import Derived.Test.YtedmomjldkjgkaaPagesRef
import Derived.Test.YtedmomjldkjgkaaAll
import Derived.Test.YtedmomjldkjgkaaI3
import Derived.Deep.RegionHeld3
namespace Go.Proofs.Ytedmomjldkjgkaa
open Go.RowKit

set_option maxRecDepth 100000 in
set_option maxHeartbeats 2000000 in
theorem pagesPlay_fixed (n many : Int) (a0 : Option Addr) (len cap : Nat) (w : World) (hm : len ≤ maxLen) (h : (60 < n ∧ n ≤ 1024) ∨ (¬ (60 < n ∧ n ≤ 1024) ∧ 60 < len)) :
    Calls Try.prog 3 #[.int .i64 n, .slice a0 len cap, .int .i64 many] w (FixedPost w) := by
  unfold maxLen at hm
  rcases h with ⟨h1, h2⟩ | ⟨h1, h2⟩
  · go_enter Try.func3, Try.ntmps3
    go_wp2_with fail
    refine (fixed03_any _).mono ?_
    rintro e w5 ⟨rfl, kw5⟩
    go_wp2
    go_ret
    exact ⟨rfl, kw5⟩
  · by_cases h3 : 60 < n
    · have h4 : decide (n ≤ 1024) = false := by simp; omega
      go_enter Try.func3, Try.ntmps3
      go_wp2_with fail
      refine (fixed03_any _).mono ?_
      rintro e w5 ⟨rfl, kw5⟩
      go_wp2
      go_ret
      exact ⟨rfl, kw5⟩
    · have h4 : decide (60 < n) = false := by simpa using h3
      go_enter Try.func3, Try.ntmps3
      go_wp2_with fail
      refine (fixed03_any _).mono ?_
      rintro e w5 ⟨rfl, kw5⟩
      go_wp2
      go_ret
      exact ⟨rfl, kw5⟩

set_option maxRecDepth 100000 in
set_option maxHeartbeats 2000000 in
theorem pagesPlay_none (n many : Int) (a0 : Option Addr) (len cap : Nat) (w : World) (hm : len ≤ 60) (h : n < 1 ∨ 1024 < n) :
    Calls Try.prog 3 #[.int .i64 n, .slice a0 len cap, .int .i64 many] w (FixedPost w) := by
  have h5 : decide (60 < len) = false := by simp; omega
  have h6 : decide ((60 : Int) < len) = false := by simp; omega
  have h3 : ∃ b1 b2, decide (60 < n) = b1 ∧ decide (n ≤ 1024) = b2 ∧ (b1 && b2) = false := by
    refine ⟨_, _, rfl, rfl, ?_⟩
    simp; omega
  obtain ⟨b1, b2, hb1, hb2, hb⟩ := h3
  cases b1 <;> cases b2 <;> simp at hb
  all_goals
    go_enter Try.func3, Try.ntmps3
    go_wp2_with fail
    refine (pagesNew_no n w h).mono ?_
    rintro e w1 ⟨rfl, rfl⟩
    go_wp2_with fail
    refine (refNew03_no n w h).mono ?_
    rintro e w2 ⟨A, cp, rfl, _, _, _, kw2⟩
    go_wp2_with fail
    refine (fixed03_any _).mono ?_
    rintro e w5 ⟨rfl, kw5⟩
    go_wp2
    go_ret
    exact ⟨rfl, kw2.trans kw5⟩

set_option maxRecDepth 100000 in
set_option maxHeartbeats 16000000 in
theorem pagesPlay_any (n : Nat) (many : Int) (a0 : Option Addr) (cap : Nat) (l : List I3) (w : World) (hs : SlI3 w a0 l) (hl : l.length ≤ 60) (hn1 : 1 ≤ n) (hn : n ≤ 60) (hmany : many ≤ 9223372036854775807) (hb : ∀ x ∈ l, x.fit) :
    Calls Try.prog 3 #[.int .i64 n, .slice a0 l.length cap, .int .i64 many] w (FixedPost w) := by
  have h4 : decide ((60 : Int) < n) = false := by simp; omega
  have h5 : decide ((60 : Int) < l.length) = false := by simp; omega
  obtain ⟨L, HL0, hL2⟩ : ∃ L : Nat, Hid (L = 16 * n) ∧ (16 : Int) * n = L := ⟨16 * n, rfl, by omega⟩
  go_enter Try.func3, Try.ntmps3
  go_wp2_with fail
  refine (pagesNew_yes n w hn1 (by omega)).mono ?_
  rintro e w1 ⟨p, rb, rg, mb, mg, rfl, hnew, hp1, kw1⟩
  rw [← HL0.out] at hp1
  go_wp2_with fail
  refine (refNew03_yes n w1 hn1 (by omega)).mono ?_
  rintro e w2 ⟨A, cp, rfl, hl2, hs2, hA, kw2⟩
  have hp2 := hp1.kept kw2
  have kW2 := kw1.trans kw2
  have hlt1 := hp1.lt
  have hA2 : ∀ b off, A = some ⟨b, off, none⟩ → b ≠ rg ∧ b ≠ mg := by
    intro b off e
    rcases hA with h | ⟨g, h, hg⟩
    · rw [h] at e; cases e
    · rw [h] at e; cases e; omega
  clear kw1 kw2 hp1 hA hl2
  have hlz : (List.replicate L (0 : Int)).length = L := List.length_replicate
  go_wp2_with fail
  refine (pagesMem_any p rb rg mb mg _ _ w2 hp2).mono ?_
  rintro e w3 ⟨rfl, rfl⟩
  go_wp2_with fail
  refine (pagesMem_any p rb rg mb mg _ _ w2 hp2).mono ?_
  rintro e w3 ⟨rfl, rfl⟩
  go_wp2_with fail
  refine (len_any mb mg _ w2 hp2.mem).mono ?_
  rintro e w3 ⟨rfl, rfl⟩
  rw [hlz]
  go_wp2_with fail
  go_loopw [9, 72] (fun x i wr => ∃ (j : Nat) (A : Option Addr) (cp : Nat) (xs : List Bool) (ys : List Int), j ≤ l.length ∧ x = .slice A n cp ∧ i = .int .i64 j ∧ xs.length = n ∧ ys.length = L ∧ IsPages wr p rb rg mb mg xs ys ∧ SlG Value.bool wr A xs ∧ (∀ b off, A = some ⟨b, off, none⟩ → b ≠ rg ∧ b ≠ mg) ∧ Kept [rg, mg] w2 wr) (fun _ i _ => l.length - (intOf i).toNat)
  case atStart => exact ⟨0, A, cp, _, _, Nat.zero_le _, rfl, rfl, List.length_replicate, hlz, hp2, hs2, hA2, Kept.refl _ _⟩
  case round =>
    obtain ⟨j, A, cp, xs, ys, hj, rfl, rfl, hlen, hleny, hpr, hsr, hAr, hkr⟩ := hrel
    have kWr : Kept [] w wr := kW2.chain hkr (by simp) (by simp; omega)
    have HL := Lib.hid hlen
    have HY := Lib.hid hleny
    clear hlen hleny
    by_cases hlt : j < l.length
    · obtain ⟨b, off, x, rfl, hx, hbl, c0, c1, c2⟩ := (hs.kept kWr).cell hlt
      obtain ⟨hfa, hfb, hfc⟩ := hb x (List.mem_of_getElem? hx)
      unfold Fit64 at hfa hfb hfc
      have rB := Row.new wr 35 [.int .i64 x.a, .int .i64 x.b, .int .i64 x.c]
      have kA := (Kept.refl [] wr).alloc (.cells #[.int .i64 x.a, .int .i64 x.b, .int .i64 x.c] 35)
      have hpA := hpr.kept kA
      have hsA := hsr.kept kA
      have hltr := hpr.lt
      obtain ⟨BLK, hBLK⟩ : ∃ BLK, wr.heap.size = BLK := ⟨_, rfl⟩
      clear hs hb hp2 hs2 hA2
      go_wp2_with fail
      generalize wr.alloc (.cells #[.int .i64 x.a, .int .i64 x.b, .int .i64 x.c] 35) = wa at rB kA hpA hsA ⊢
      refine (pagesMem_any p rb rg mb mg xs ys wa hpA).mono ?_
      rintro e w3 ⟨rfl, rfl⟩
      go_wp2_with fail
      refine (all_any mb mg ys wa hpA.mem).mono ?_
      rintro e w3 ⟨r0, rfl, hr0, rW, kw3⟩
      rw [HY.out]
      have hp3 := hpA.kept kw3
      have hs3 := hsA.kept kw3
      have rB3 := rB.kept kw3 (by simp)
      rw [hBLK] at rB3
      have k3 := kA.trans kw3
      have hpz := hpA.lt
      have hBl := rB.lt
      clear rB kA kw3 hpA hsA
      have d0 : w3.cell? ⟨BLK, 0, none⟩ = some (.int .i64 x.a) := by simpa using rB3.cell 0
      have d1 : w3.cell? ⟨BLK, 1, none⟩ = some (.int .i64 x.b) := by simpa using rB3.cell 1
      have d2 : w3.cell? ⟨BLK, 2, none⟩ = some (.int .i64 x.c) := by simpa using rB3.cell 2
      by_cases k2 : x.a = 2
      · have k0' : (x.a == 0) = false := by simp; omega
        have k1' : (x.a == 1) = false := by simp; omega
        have k2' : (x.a == 2) = true := by simp; omega
        clear k2
        go_wp2_with fail
        have hpd : IsPages w3.drew p rb rg mb mg xs ys := hp3.kept ((Kept.refl [] w3).drew)
        have hkd : Kept [] w3 w3.drew := (Kept.refl [] w3).drew
        go_region_with (first
          | (go_at_call 8; refine (pagesMem_any p rb rg mb mg xs ys _ hpd).mono ?_; rintro e w' ⟨rfl, rfl⟩)
          | (go_at_call 15; refine (write_any mb mg ys x.b 5 _ hpd.mem).mono ?_; rintro e w4 ⟨rfl, hm4, kw4⟩))
        all_goals
          have hp4 := hpd.written hm4 kw4 (wrB_length _ _ _)
          have hs4 := (hs3.kept hkd).keptS kw4 (fun b off e => by have := (hAr b off e).2; simpa using this)
          have K4 : Kept [rg, mg] w2 w4 := ((hkr.trans k3.any).trans hkd.any).trans kw4.right
          go_wp2
          go_roundw
          case rel => exact ⟨j + 1, A, cp, xs, _, by omega, rfl, by go_num, HL.out, (wrB_length _ _ _).trans HY.out, hp4, hs4, hAr, K4⟩
          case measure => simp [intOf]; omega
      · by_cases k0 : x.a = 0
        · have k0' : (x.a == 0) = true := by simp; omega
          clear k2 k0
          have hgc := grant_cases xs ys x.c
          go_wp2_with fail
          refine (pagesGrant_any p rb rg mb mg xs ys x.c w3 hp3 (by omega)).mono ?_
          rintro e w4 ⟨rfl, hp4, kw4⟩
          have rB4 := rB3.kept kw4 (by simp; omega)
          have rW4 := rW.kept kw4 (by simp; omega)
          have hs4 := hs3.keptS kw4 (fun b off e => by have := hAr b off e; simpa using this)
          clear d0 d1 d2
          have d0 : w4.cell? ⟨BLK, 0, none⟩ = some (.int .i64 x.a) := by simpa using rB4.cell 0
          have d1 : w4.cell? ⟨BLK, 1, none⟩ = some (.int .i64 x.b) := by simpa using rB4.cell 1
          have d2 : w4.cell? ⟨BLK, 2, none⟩ = some (.int .i64 x.c) := by simpa using rB4.cell 2
          have hlt4 := hp4.lt
          go_wp2_with fail
          refine (refGrant03 A n cp xs x.c w4 hs4 HL.out (by omega)).mono ?_
          rintro e w5 ⟨A1, cp1, rfl, hl5, hs5, hA1, kw5⟩
          have hA5 : ∀ b off, A1 = some ⟨b, off, none⟩ → b ≠ rg ∧ b ≠ mg := fun b off e => ⟨apart_ofG hA1 (fun b off e => (hAr b off e).1) hlt4.2.2.1 b off e, apart_ofG hA1 (fun b off e => (hAr b off e).2) hlt4.2.2.2.2 b off e⟩
          have hp5 := hp4.kept kw5
          have rB5 := rB4.kept kw5 (by simp)
          have rW5 := rW4.kept kw5 (by simp)
          have K5 : Kept [rg, mg] w2 w5 := ((hkr.trans k3.any).trans kw4).trans kw5.any
          rcases hgc with ⟨er, her, hg, hw⟩ | ⟨B, N, hcN, hN1, hBN, _, _, hg, hw⟩
          · rw [hg, hw] at hp5
            rw [hg] at hs5 hl5 ⊢
            clear hp4 hs4 rB4 rW4 kw4 kw5 hA1 hp3 hs3 rB3 rW k3 d0 d1 d2 hsr hpr hkr hg hw
            have HW := HY
            have HL5 := Lib.hid hl5
            clear hl5
            have hcb := countB_le xs
            rw [HL5.out] at hcb
            clear hAr
            have e0 : w5.cell? ⟨BLK, 0, none⟩ = some (.int .i64 x.a) := by simpa using rB5.cell 0
            go_wp2_with fail
            refine (pagesFree_any p rb rg mb mg _ _ w5 hp5).mono ?_
            rintro e w6 ⟨rfl, kw6⟩
            rw [HL5.out]
            have hp6 := hp5.kept kw6
            have hs6 := hs5.kept kw6
            have rB6 := rB5.kept kw6 (by simp)
            have rW6 := rW5.kept kw6 (by simp)
            have K6 := K5.trans kw6.any
            clear hp5 hs5 rB5 rW5 K5 kw6 e0
            go_wp2_with fail
            refine (refCount02 A1 n cp1 _ w6 hs6 HL5.out (by omega)).mono ?_
            rintro e w7 ⟨rfl, rfl⟩
            generalize countB xs = cb at hcb ⊢
            go_wp2_with fail
            refine (pagesLen_any p rb rg mb mg _ _ w6 hp6).mono ?_
            rintro e w7 ⟨rfl, rfl⟩
            rw [HL5.out]
            go_wp2_with fail
            refine (pagesMem_any p rb rg mb mg _ _ w6 hp6).mono ?_
            rintro e w7 ⟨rfl, rfl⟩
            go_wp2_with fail
            refine (all_any mb mg _ w6 hp6.mem).mono ?_
            rintro e w7 ⟨r7, rfl, hr7, rN, kw7⟩
            rw [HW.out]
            have hp7 := hp6.kept kw7
            have hs7 := hs6.kept kw7
            have rB7 := rB6.kept kw7 (by simp)
            have rW7 := rW6.kept kw7 (by simp)
            have K7 := K6.trans kw7.any
            clear hp6 hs6 rB6 rW6 K6 kw7
            go_wp2_with fail
            go_loopw [157] (fun i wq => ∃ k : Nat, k ≤ L ∧ i = .int .i64 k ∧ Kept [] w7 wq) (fun i _ => L - (intOf i).toNat)
            case atStart => exact ⟨0, Nat.zero_le _, rfl, Kept.refl _ _⟩
            case round =>
              obtain ⟨k, hk, rfl, hkq⟩ := hrel
              have hp8 := hp7.kept hkq
              have hs8 := hs7.kept hkq
              have rB8 := rB7.kept hkq (by simp)
              have rW8 := rW7.kept hkq (by simp)
              have rN8 := rN.kept hkq (by simp)
              by_cases hkl : k < L
              · have cW := rW8.cellInt k (by rw [HY.out]; exact hkl)
                have cN := rN8.cellInt k (by rw [HW.out]; exact hkl)
                obtain ⟨q, HQ, hdiv, hqn⟩ : ∃ q : Nat, Hid (q = k / 16) ∧ (k : Int).tdiv 16 = (q : Int) ∧ q < n := ⟨k / 16, rfl, (Int.ofNat_tdiv k 16).symm, by omega⟩
                obtain ⟨b2, off2, rfl, cX⟩ := hs8.cellMk (j := q) (by rw [HL5.out]; exact hqn)
                have d0 : wr.cell? ⟨BLK, 0, none⟩ = some (.int .i64 x.a) := by simpa using rB8.cell 0
                have d2 : wr.cell? ⟨BLK, 2, none⟩ = some (.int .i64 x.c) := by simpa using rB8.cell 2
                generalize ys[k]?.getD 0 = y at cW cN
                go_wp2_with fail
                go_quiet (first | (go_at_call 19; refine quiet_same (pagesGranted_nat p rb rg mb mg _ _ q _ (hp8.drewN _))))
                go_wp2
                go_roundw
                case rel => exact ⟨k + 1, by omega, by go_num, hkq.drewN _⟩
                case measure => simp [intOf]; omega
              · obtain rfl : k = L := by omega
                go_wp2
                go_roundw
                case rel => exact ⟨j + 1, _, _, _, _, by omega, rfl, by go_num, HL5.out, HW.out, hp8, hs8, hA5, K7.trans hkq.any⟩
                case measure => simp [intOf]; omega
          · rw [hg, hw] at hp5
            rw [hg] at hs5 hl5 ⊢
            have hlen5 := hl5
            rw [markB_length] at hlen5
            have HG := Lib.hid (fun k hk => wipe_get (ys := ys) (A := B) (N := N) (HY.out.trans HL0.out) (by omega) k hk)
            have hcN' : x.c = (N : Int) := hcN
            have HW : Hid ((flB ys ((B : Int) * 16) ((N : Int) * 16) 0).length = L) := (flB_length _ _ _ _).trans HY.out
            clear hp4 hs4 rB4 rW4 kw4 kw5 hA1 hp3 hs3 rB3 rW k3 d0 d1 d2 hsr hpr hkr hg hw
            have HL5 := Lib.hid hl5
            clear hl5
            have hcb := countB_le (markB xs B N true)
            rw [HL5.out] at hcb
            clear hAr
            have e0 : w5.cell? ⟨BLK, 0, none⟩ = some (.int .i64 x.a) := by simpa using rB5.cell 0
            go_wp2_with fail
            refine (pagesFree_any p rb rg mb mg _ _ w5 hp5).mono ?_
            rintro e w6 ⟨rfl, kw6⟩
            rw [HL5.out]
            have hp6 := hp5.kept kw6
            have hs6 := hs5.kept kw6
            have rB6 := rB5.kept kw6 (by simp)
            have rW6 := rW5.kept kw6 (by simp)
            have K6 := K5.trans kw6.any
            clear hp5 hs5 rB5 rW5 K5 kw6 e0
            go_wp2_with fail
            refine (refCount02 A1 n cp1 _ w6 hs6 HL5.out (by omega)).mono ?_
            rintro e w7 ⟨rfl, rfl⟩
            generalize countB (markB xs B N true) = cb at hcb ⊢
            go_wp2_with fail
            refine (pagesLen_any p rb rg mb mg _ _ w6 hp6).mono ?_
            rintro e w7 ⟨rfl, rfl⟩
            rw [HL5.out]
            go_wp2_with fail
            refine (pagesMem_any p rb rg mb mg _ _ w6 hp6).mono ?_
            rintro e w7 ⟨rfl, rfl⟩
            go_wp2_with fail
            refine (all_any mb mg _ w6 hp6.mem).mono ?_
            rintro e w7 ⟨r7, rfl, hr7, rN, kw7⟩
            rw [HW.out]
            have hp7 := hp6.kept kw7
            have hs7 := hs6.kept kw7
            have rB7 := rB6.kept kw7 (by simp)
            have rW7 := rW6.kept kw7 (by simp)
            have K7 := K6.trans kw7.any
            clear hp6 hs6 rB6 rW6 K6 kw7
            go_wp2_with fail
            go_loopw [157] (fun i wq => ∃ k : Nat, k ≤ L ∧ i = .int .i64 k ∧ Kept [] w7 wq) (fun i _ => L - (intOf i).toNat)
            case atStart => exact ⟨0, Nat.zero_le _, rfl, Kept.refl _ _⟩
            case round =>
              obtain ⟨k, hk, rfl, hkq⟩ := hrel
              have hp8 := hp7.kept hkq
              have hs8 := hs7.kept hkq
              have rB8 := rB7.kept hkq (by simp)
              have rW8 := rW7.kept hkq (by simp)
              have rN8 := rN.kept hkq (by simp)
              by_cases hkl : k < L
              · have cW := rW8.cellInt k (by rw [HY.out]; exact hkl)
                have cN := rN8.cellInt k (by rw [HW.out]; exact hkl)
                obtain ⟨q, HQ, hdiv, hqn⟩ : ∃ q : Nat, Hid (q = k / 16) ∧ (k : Int).tdiv 16 = (q : Int) ∧ q < n := ⟨k / 16, rfl, (Int.ofNat_tdiv k 16).symm, by omega⟩
                obtain ⟨b2, off2, rfl, cX⟩ := hs8.cellMk (j := q) (by rw [HL5.out]; exact hqn)
                have d0 : wr.cell? ⟨BLK, 0, none⟩ = some (.int .i64 x.a) := by simpa using rB8.cell 0
                have d2 : wr.cell? ⟨BLK, 2, none⟩ = some (.int .i64 x.c) := by simpa using rB8.cell 2
                have hg := HG.out k (by rw [HY.out]; exact hkl)
                rw [← HQ.out] at hg
                by_cases hin : B ≤ q ∧ q < B + N
                · rw [if_pos hin] at hg
                  rw [hg] at cN
                  obtain ⟨hin1, hin2⟩ := hin
                  clear hg
                  have i1 : (B : Int) ≤ q := by omega
                  have i2 : (q : Int) < (B : Int) + N := by omega
                  rw [hcN'] at d2
                  go_wp2_with fail
                  go_quiet (first | (go_at_call 19; refine quiet_same (pagesGranted_nat p rb rg mb mg _ _ q _ (hp8.drewN _))))
                  go_wp2
                  go_roundw
                  case rel => exact ⟨k + 1, by omega, by go_num, hkq.drewN _⟩
                  case measure => simp [intOf]; omega
                · rw [if_neg hin] at hg
                  rw [hg] at cN
                  clear hg
                  generalize ys[k]?.getD 0 = y at cW cN
                  rw [hcN'] at d2
                  by_cases i1 : B ≤ q
                  · have i2 : decide ((q : Int) < (B : Int) + N) = false := by simp; omega
                    go_wp2_with fail
                    go_quiet (first | (go_at_call 19; refine quiet_same (pagesGranted_nat p rb rg mb mg _ _ q _ (hp8.drewN _))))
                    go_wp2
                    go_roundw
                    case rel => exact ⟨k + 1, by omega, by go_num, hkq.drewN _⟩
                    case measure => simp [intOf]; omega
                  · have i2 : decide ((B : Int) ≤ q) = false := by simp; omega
                    go_wp2_with fail
                    go_quiet (first | (go_at_call 19; refine quiet_same (pagesGranted_nat p rb rg mb mg _ _ q _ (hp8.drewN _))))
                    go_wp2
                    go_roundw
                    case rel => exact ⟨k + 1, by omega, by go_num, hkq.drewN _⟩
                    case measure => simp [intOf]; omega
              · obtain rfl : k = L := by omega
                go_wp2
                go_roundw
                case rel => exact ⟨j + 1, _, _, _, _, by omega, rfl, by go_num, HL5.out, HW.out, hp8, hs8, hA5, K7.trans hkq.any⟩
                case measure => simp [intOf]; omega
        · have k0' : (x.a == 0) = false := by simp; omega
          by_cases k1 : x.a = 1
          · have k1' : (x.a == 1) = true := by simp; omega
            clear k2 k0 k1
            go_wp2_with fail
            refine (pagesBack_any p rb rg mb mg xs ys x.b x.c w3 hp3 (by omega)).mono ?_
            rintro e w4 ⟨rfl, hp4, kw4⟩
            have rB4 := rB3.kept kw4 (by simp; omega)
            have rW4 := rW.kept kw4 (by simp; omega)
            have hs4 := hs3.keptS kw4 (fun b off e => by have := (hAr b off e).1; simpa using this)
            clear d0 d1 d2
            have d0 : w4.cell? ⟨BLK, 0, none⟩ = some (.int .i64 x.a) := by simpa using rB4.cell 0
            have d1 : w4.cell? ⟨BLK, 1, none⟩ = some (.int .i64 x.b) := by simpa using rB4.cell 1
            have d2 : w4.cell? ⟨BLK, 2, none⟩ = some (.int .i64 x.c) := by simpa using rB4.cell 2
            have hlt4 := hp4.lt
            go_wp2_with fail
            refine (refBack03 A n cp xs x.b x.c w4 hs4 HL.out (by omega)).mono ?_
            rintro e w5 ⟨A1, cp1, rfl, hl5, hs5, hA1, kw5⟩
            have hA5 : ∀ b off, A1 = some ⟨b, off, none⟩ → b ≠ rg ∧ b ≠ mg := fun b off e => ⟨apart_ofG hA1 (fun b off e => (hAr b off e).1) hlt4.2.2.1 b off e, apart_ofG hA1 (fun b off e => (hAr b off e).2) hlt4.2.2.2.2 b off e⟩
            have hp5 := hp4.kept kw5
            have rB5 := rB4.kept kw5 (by simp)
            have rW5 := rW4.kept kw5 (by simp)
            have K5 : Kept [rg, mg] w2 w5 := ((hkr.trans k3.any).trans kw4.left).trans kw5.any
            clear hp4 hs4 rB4 rW4 kw4 kw5 hA1 hp3 hs3 rB3 rW k3 d0 d1 d2 hsr hpr hkr
            have HW := HY
            have HL5 := Lib.hid hl5
            clear hl5
            have hcb := countB_le (backB xs x.b x.c).1
            rw [HL5.out] at hcb
            clear hAr
            have e0 : w5.cell? ⟨BLK, 0, none⟩ = some (.int .i64 x.a) := by simpa using rB5.cell 0
            go_wp2_with fail
            refine (pagesFree_any p rb rg mb mg _ _ w5 hp5).mono ?_
            rintro e w6 ⟨rfl, kw6⟩
            rw [HL5.out]
            have hp6 := hp5.kept kw6
            have hs6 := hs5.kept kw6
            have rB6 := rB5.kept kw6 (by simp)
            have rW6 := rW5.kept kw6 (by simp)
            have K6 := K5.trans kw6.any
            clear hp5 hs5 rB5 rW5 K5 kw6 e0
            go_wp2_with fail
            refine (refCount02 A1 n cp1 _ w6 hs6 HL5.out (by omega)).mono ?_
            rintro e w7 ⟨rfl, rfl⟩
            generalize countB (backB xs x.b x.c).1 = cb at hcb ⊢
            go_wp2_with fail
            refine (pagesLen_any p rb rg mb mg _ _ w6 hp6).mono ?_
            rintro e w7 ⟨rfl, rfl⟩
            rw [HL5.out]
            go_wp2_with fail
            refine (pagesMem_any p rb rg mb mg _ _ w6 hp6).mono ?_
            rintro e w7 ⟨rfl, rfl⟩
            go_wp2_with fail
            refine (all_any mb mg _ w6 hp6.mem).mono ?_
            rintro e w7 ⟨r7, rfl, hr7, rN, kw7⟩
            rw [HW.out]
            have hp7 := hp6.kept kw7
            have hs7 := hs6.kept kw7
            have rB7 := rB6.kept kw7 (by simp)
            have rW7 := rW6.kept kw7 (by simp)
            have K7 := K6.trans kw7.any
            clear hp6 hs6 rB6 rW6 K6 kw7
            go_wp2_with fail
            go_loopw [157] (fun i wq => ∃ k : Nat, k ≤ L ∧ i = .int .i64 k ∧ Kept [] w7 wq) (fun i _ => L - (intOf i).toNat)
            case atStart => exact ⟨0, Nat.zero_le _, rfl, Kept.refl _ _⟩
            case round =>
              obtain ⟨k, hk, rfl, hkq⟩ := hrel
              have hp8 := hp7.kept hkq
              have hs8 := hs7.kept hkq
              have rB8 := rB7.kept hkq (by simp)
              have rW8 := rW7.kept hkq (by simp)
              have rN8 := rN.kept hkq (by simp)
              by_cases hkl : k < L
              · have cW := rW8.cellInt k (by rw [HY.out]; exact hkl)
                have cN := rN8.cellInt k (by rw [HW.out]; exact hkl)
                obtain ⟨q, HQ, hdiv, hqn⟩ : ∃ q : Nat, Hid (q = k / 16) ∧ (k : Int).tdiv 16 = (q : Int) ∧ q < n := ⟨k / 16, rfl, (Int.ofNat_tdiv k 16).symm, by omega⟩
                obtain ⟨b2, off2, rfl, cX⟩ := hs8.cellMk (j := q) (by rw [HL5.out]; exact hqn)
                have d0 : wr.cell? ⟨BLK, 0, none⟩ = some (.int .i64 x.a) := by simpa using rB8.cell 0
                have d2 : wr.cell? ⟨BLK, 2, none⟩ = some (.int .i64 x.c) := by simpa using rB8.cell 2
                generalize ys[k]?.getD 0 = y at cW cN
                go_wp2_with fail
                go_quiet (first | (go_at_call 19; refine quiet_same (pagesGranted_nat p rb rg mb mg _ _ q _ (hp8.drewN _))))
                go_wp2
                go_roundw
                case rel => exact ⟨k + 1, by omega, by go_num, hkq.drewN _⟩
                case measure => simp [intOf]; omega
              · obtain rfl : k = L := by omega
                go_wp2
                go_roundw
                case rel => exact ⟨j + 1, _, _, _, _, by omega, rfl, by go_num, HL5.out, HW.out, hp8, hs8, hA5, K7.trans hkq.any⟩
                case measure => simp [intOf]; omega
          · have k1' : (x.a == 1) = false := by simp; omega
            have k2' : (x.a == 2) = false := by simp; omega
            clear k2 k0 k1
            obtain ⟨A1, cp1, hA1, hcp1⟩ : ∃ A1 cp1, A1 = A ∧ cp1 = cp := ⟨_, _, rfl, rfl⟩
            subst hA1 hcp1
            have hl5 := HL.out
            have hp5 := hp3
            have hs5 := hs3
            have hA5 := hAr
            have rB5 := rB3
            have rW5 := rW
            have K5 : Kept [rg, mg] w2 w3 := hkr.trans k3.any
            generalize hw5 : w3 = w5 at hp5 hs5 rB5 rW5 K5 ⊢
            have d0 : w5.cell? ⟨BLK, 0, none⟩ = some (.int .i64 x.a) := by simpa using rB5.cell 0
            clear hw5 hp3 hs3 rB3 rW k3 hsr hpr hkr
            have HW := HY
            have HL5 := Lib.hid hl5
            clear hl5
            have hcb := countB_le xs
            rw [HL5.out] at hcb
            clear hAr
            have e0 : w5.cell? ⟨BLK, 0, none⟩ = some (.int .i64 x.a) := by simpa using rB5.cell 0
            go_wp2_with fail
            refine (pagesFree_any p rb rg mb mg _ _ w5 hp5).mono ?_
            rintro e w6 ⟨rfl, kw6⟩
            rw [HL5.out]
            have hp6 := hp5.kept kw6
            have hs6 := hs5.kept kw6
            have rB6 := rB5.kept kw6 (by simp)
            have rW6 := rW5.kept kw6 (by simp)
            have K6 := K5.trans kw6.any
            clear hp5 hs5 rB5 rW5 K5 kw6 e0
            go_wp2_with fail
            refine (refCount02 A1 n cp1 _ w6 hs6 HL5.out (by omega)).mono ?_
            rintro e w7 ⟨rfl, rfl⟩
            generalize countB xs = cb at hcb ⊢
            go_wp2_with fail
            refine (pagesLen_any p rb rg mb mg _ _ w6 hp6).mono ?_
            rintro e w7 ⟨rfl, rfl⟩
            rw [HL5.out]
            go_wp2_with fail
            refine (pagesMem_any p rb rg mb mg _ _ w6 hp6).mono ?_
            rintro e w7 ⟨rfl, rfl⟩
            go_wp2_with fail
            refine (all_any mb mg _ w6 hp6.mem).mono ?_
            rintro e w7 ⟨r7, rfl, hr7, rN, kw7⟩
            rw [HW.out]
            have hp7 := hp6.kept kw7
            have hs7 := hs6.kept kw7
            have rB7 := rB6.kept kw7 (by simp)
            have rW7 := rW6.kept kw7 (by simp)
            have K7 := K6.trans kw7.any
            clear hp6 hs6 rB6 rW6 K6 kw7
            go_wp2_with fail
            go_loopw [157] (fun i wq => ∃ k : Nat, k ≤ L ∧ i = .int .i64 k ∧ Kept [] w7 wq) (fun i _ => L - (intOf i).toNat)
            case atStart => exact ⟨0, Nat.zero_le _, rfl, Kept.refl _ _⟩
            case round =>
              obtain ⟨k, hk, rfl, hkq⟩ := hrel
              have hp8 := hp7.kept hkq
              have hs8 := hs7.kept hkq
              have rB8 := rB7.kept hkq (by simp)
              have rW8 := rW7.kept hkq (by simp)
              have rN8 := rN.kept hkq (by simp)
              by_cases hkl : k < L
              · have cW := rW8.cellInt k (by rw [HY.out]; exact hkl)
                have cN := rN8.cellInt k (by rw [HW.out]; exact hkl)
                obtain ⟨q, HQ, hdiv, hqn⟩ : ∃ q : Nat, Hid (q = k / 16) ∧ (k : Int).tdiv 16 = (q : Int) ∧ q < n := ⟨k / 16, rfl, (Int.ofNat_tdiv k 16).symm, by omega⟩
                obtain ⟨b2, off2, rfl, cX⟩ := hs8.cellMk (j := q) (by rw [HL5.out]; exact hqn)
                have d0 : wr.cell? ⟨BLK, 0, none⟩ = some (.int .i64 x.a) := by simpa using rB8.cell 0
                have d2 : wr.cell? ⟨BLK, 2, none⟩ = some (.int .i64 x.c) := by simpa using rB8.cell 2
                generalize ys[k]?.getD 0 = y at cW cN
                go_wp2_with fail
                go_quiet (first | (go_at_call 19; refine quiet_same (pagesGranted_nat p rb rg mb mg _ _ q _ (hp8.drewN _))))
                go_wp2
                go_roundw
                case rel => exact ⟨k + 1, by omega, by go_num, hkq.drewN _⟩
                case measure => simp [intOf]; omega
              · obtain rfl : k = L := by omega
                go_wp2
                go_roundw
                case rel => exact ⟨j + 1, _, _, _, _, by omega, rfl, by go_num, HL5.out, HW.out, hp8, hs8, hA5, K7.trans hkq.any⟩
                case measure => simp [intOf]; omega
    · clear hs hb hp2 hs2 hA2
      obtain ⟨t, HT⟩ : ∃ t, Hid ((findB xs many).isSome = t) := ⟨_, rfl⟩
      obtain ⟨z, HZ⟩ : ∃ z, Hid (optV (findB xs many) = .tuple #[.int .i64 z, .bool t]) := ⟨_, by unfold Hid optV; rw [HT.out]⟩
      have hlen := HL.out
      have HN1 := Lib.hid (show hasM xs (-1) = false from by simp [hasM])
      have HN2 := Lib.hid (show hasM xs (n : Int) = false from by simp [hasM, mk, hlen])
      clear hlen
      cases t
      all_goals
        go_wp2_with fail
        refine (refFind02 A n cp xs many wr hsr HL.out (by omega)).mono ?_
        rintro e w5 ⟨rfl, kw5⟩
        rw [HZ.out]
        go_wp2_with fail
        refine (fixed03_any _).mono ?_
        rintro e w6 ⟨rfl, kw6⟩
        have hp6 := (hpr.kept kw5).kept kw6
        go_wp2_with fail
        refine (pagesFits_any p rb rg mb mg xs ys many w6 hp6 hmany).mono ?_
        rintro e w7 ⟨rfl, rfl⟩
        rw [HT.out]
        go_wp2_with fail
        refine (pagesGranted_any p rb rg mb mg xs ys (-1) w6 hp6).mono ?_
        rintro e w7 ⟨rfl, rfl⟩
        rw [HN1.out]
        go_wp2_with fail
        refine (pagesGranted_any p rb rg mb mg xs ys n w6 hp6).mono ?_
        rintro e w7 ⟨rfl, rfl⟩
        rw [HN2.out]
        go_wp2
        go_ret
        exact ⟨rfl, (kWr.trans kw5).trans kw6⟩
end Go.Proofs.Ytedmomjldkjgkaa
