/- The law BitsPlay: its walk. -/
import Derived.Test.YtoeoaeaabljjlaaBitsFixed
import Derived.Test.YtoeoaeaabljjlaaBitsRef
import Derived.Deep.RegionHeld3
namespace Go.Proofs.Ytoeoaeaabljjlaa
open Go.RowKit

set_option maxRecDepth 100000 in
set_option maxHeartbeats 2000000 in
theorem bitsPlay_fixed (n a c : Int) (a0 : Option Addr) (len cap : Nat) (w : World) (hm : len ≤ maxLen) (h : (300 < n ∧ n ≤ 16384) ∨ (¬ (300 < n ∧ n ≤ 16384) ∧ 60 < len)) :
    Calls Try.prog 3 #[.int .i64 n, .slice a0 len cap, .agg #[.int .i64 a, .int .i64 c]] w (FixedPost w) := by
  unfold maxLen at hm
  rcases h with ⟨h1, h2⟩ | ⟨h1, h2⟩
  · go_enter Try.func3, Try.ntmps3
    go_wp2_with fail
    refine (fixed02_any _).mono ?_
    rintro e w5 ⟨rfl, kw5⟩
    go_wp2
    go_ret
    exact ⟨rfl, ((Kept.refl [] w).alloc _).trans kw5⟩
  · by_cases h3 : 300 < n
    · have h4 : decide (n ≤ 16384) = false := by simp; omega
      go_enter Try.func3, Try.ntmps3
      go_wp2_with fail
      refine (fixed02_any _).mono ?_
      rintro e w5 ⟨rfl, kw5⟩
      go_wp2
      go_ret
      exact ⟨rfl, ((Kept.refl [] w).alloc _).trans kw5⟩
    · have h4 : decide (300 < n) = false := by simpa using h3
      go_enter Try.func3, Try.ntmps3
      go_wp2_with fail
      refine (fixed02_any _).mono ?_
      rintro e w5 ⟨rfl, kw5⟩
      go_wp2
      go_ret
      exact ⟨rfl, ((Kept.refl [] w).alloc _).trans kw5⟩

set_option maxRecDepth 100000 in
set_option maxHeartbeats 2000000 in
theorem bitsPlay_none (n a c : Int) (a0 : Option Addr) (len cap : Nat) (w : World) (hm : len ≤ 60) (h : n < 0 ∨ 16384 < n) :
    Calls Try.prog 3 #[.int .i64 n, .slice a0 len cap, .agg #[.int .i64 a, .int .i64 c]] w (FixedPost w) := by
  have h5 : decide (60 < len) = false := by simp; omega
  have h6 : decide ((60 : Int) < len) = false := by simp; omega
  have h3 : ∃ b1 b2, decide (300 < n) = b1 ∧ decide (n ≤ 16384) = b2 ∧ (b1 && b2) = false := by
    refine ⟨_, _, rfl, rfl, ?_⟩
    simp; omega
  obtain ⟨b1, b2, hb1, hb2, hb⟩ := h3
  have kW := (Kept.refl [] w).alloc (.cells #[.int .i64 a, .int .i64 c] 24)
  cases b1 <;> cases b2 <;> simp at hb
  all_goals
    go_enter Try.func3, Try.ntmps3
    go_wp2_with fail
    generalize w.alloc (.cells #[.int .i64 a, .int .i64 c] 24) = W at kW ⊢
    refine (bitsNew_no n W h).mono ?_
    rintro e w1 ⟨rfl, rfl⟩
    go_wp2_with fail
    refine (refNew02_no n W h).mono ?_
    rintro e w2 ⟨A, cp, rfl, _, _, _, kw2⟩
    go_wp2_with fail
    refine (fixed02_any _).mono ?_
    rintro e w5 ⟨rfl, kw5⟩
    go_wp2
    go_ret
    exact ⟨rfl, (kW.trans kw2).trans kw5⟩

/-- What a region's loads and calls ask for: only new blocks since wr; the run's box. -/
theorem held_now {wr w' : World} {B : Nat} {t : TypeId} {a c : Int} (hr : Row wr B t [.int .i64 a, .int .i64 c]) (hc : Kept [] wr w') :
    Kept [] wr w' ∧ w'.cell? ⟨B, 0, none⟩ = some (.int .i64 a) ∧ w'.cell? ⟨B, 1, none⟩ = some (.int .i64 c) :=
  ⟨hc, by simpa using (hr.kept hc (by simp)).cell 0, by simpa using (hr.kept hc (by simp)).cell 1⟩

set_option maxRecDepth 100000 in
set_option maxHeartbeats 16000000 in
theorem bitsPlay_any (n : Nat) (a c : Int) (a0 : Option Addr) (cap : Nat) (l : List ActB) (w : World) (hs : SlActs w a0 l) (hl : l.length ≤ 60) (hn : n ≤ 300) (ha : a ≤ 9223372036854775807) (hc : c ≤ 9223372036854775807) (hb : ∀ x ∈ l, x.a ≤ 9223372036854775807) :
    Calls Try.prog 3 #[.int .i64 n, .slice a0 l.length cap, .agg #[.int .i64 a, .int .i64 c]] w (FixedPost w) := by
  have h4 : decide ((300 : Int) < n) = false := by simp; omega
  have rR := Row.new w 24 [.int .i64 a, .int .i64 c]
  have kW := (Kept.refl [] w).alloc (.cells #[.int .i64 a, .int .i64 c] 24)
  go_enter Try.func3, Try.ntmps3
  go_wp2_with fail
  generalize w.alloc (.cells #[.int .i64 a, .int .i64 c] 24) = W at rR kW ⊢
  refine (bitsNew_yes n W (by omega)).mono ?_
  rintro e w1 ⟨mb, mg, rfl, hmb, hmg, hm1, kw1⟩
  go_wp2_with fail
  refine (refNew02_yes n w1 (by omega)).mono ?_
  rintro e w2 ⟨A, cp, rfl, hl2, hs2, hA, kw2⟩
  have hm2 := hm1.kept kw2 (by simp) (by simp)
  have kW2 := (kW.trans kw1).trans kw2
  have rR2 := (rR.kept kw1 (by simp)).kept kw2 (by simp)
  have hmgl := hm1.ltG
  have hWz := kW.size
  have hRz := rR.lt
  have hA2 : ∀ b off, A = some ⟨b, off, none⟩ → b ≠ mg := by
    intro b off e
    rcases hA with h | ⟨g, h, hg⟩
    · rw [h] at e; cases e
    · rw [h] at e; cases e; omega
  clear rR kW kw1 kw2 hm1 hA hl2
  go_wp2_with fail
  go_loopw [9, 62] (fun x i wr => ∃ (j : Nat) (A : Option Addr) (cp : Nat) (xs : List Bool), j ≤ l.length ∧ x = .slice A n cp ∧ i = .int .i64 j ∧ xs.length = n ∧ IsRow wr mb 0 mg xs ∧ SlG Value.bool wr A xs ∧ (∀ b off, A = some ⟨b, off, none⟩ → b ≠ mg) ∧ Kept [mg] w2 wr) (fun _ i _ => l.length - (intOf i).toNat)
  case atStart => exact ⟨0, A, cp, _, Nat.zero_le _, rfl, rfl, List.length_replicate, hm2, hs2, hA2, Kept.refl _ _⟩
  case round =>
    obtain ⟨j, A, cp, xs, hj, rfl, rfl, hlen, hmr, hsr, hAr, hkr⟩ := hrel
    have kWr : Kept [] w wr := kW2.chain hkr (by simp) (by simp; omega)
    have HL := Lib.hid hlen
    clear hlen
    by_cases hlt : j < l.length
    · obtain ⟨b, off, x, rfl, hx, hbl, c0, c1, c2⟩ := (hs.kept kWr).cell hlt
      have hbx := hb x (List.mem_of_getElem? hx)
      have rB := Row.new wr 34 [.int .i64 x.a, .int .i64 x.c, .bool x.on]
      have kA := (Kept.refl [] wr).alloc (.cells #[.int .i64 x.a, .int .i64 x.c, .bool x.on] 34)
      have hmA := hmr.kept kA (by simp) (by simp)
      have hsA := hsr.kept kA
      have hgr := hmr.ltG
      go_wp2_with fail
      generalize wr.alloc (.cells #[.int .i64 x.a, .int .i64 x.c, .bool x.on] 34) = wa at rB kA hmA hsA ⊢
      refine (bitsMark_any mb 0 mg xs x.a x.c x.on wa hmA hbx).mono ?_
      rintro e w3 ⟨rfl, hm3, kw3⟩
      rw [HL.out]
      have rB3 := rB.kept kw3 (by simp; omega)
      have d0 : w3.cell? ⟨wr.heap.size, 0, none⟩ = some (.int .i64 x.a) := by simpa using rB3.cell 0
      have d1 : w3.cell? ⟨wr.heap.size, 1, none⟩ = some (.int .i64 x.c) := by simpa using rB3.cell 1
      have d2 : w3.cell? ⟨wr.heap.size, 2, none⟩ = some (.bool x.on) := by simpa using rB3.cell 2
      have hs3 := hsA.keptS kw3 (fun b off e => by simpa using hAr b off e)
      have hgl := hm3.ltG
      go_wp2_with fail
      refine (refMark02 A n cp xs x.a x.c x.on w3 hs3 HL.out (by omega)).mono ?_
      rintro e w4 ⟨A1, cp1, rfl, hl4, hs4, hA1, kw4⟩
      have hm4 := hm3.kept kw4 (by simp) (by simp)
      have hA4 := apart_ofG hA1 hAr hgl
      have HL4 := Lib.hid hl4
      clear hl4
      have K4 : Kept [mg] w2 w4 := ((hkr.trans kA.any).trans kw3).trans kw4.any
      go_wp2_with fail
      refine (bitsLen_any mb 0 mg _ w4 hm4).mono ?_
      rintro e w5 ⟨rfl, rfl⟩
      rw [HL4.out]
      go_wp2_with fail
      refine (bitsCount_any mb 0 mg _ w4 hm4).mono ?_
      rintro e w5 ⟨rfl, rfl⟩
      go_wp2_with fail
      refine (refCount02 A1 n cp1 _ w4 hs4 HL4.out (by omega)).mono ?_
      rintro e w5 ⟨rfl, rfl⟩
      go_wp2
      go_roundw
      case rel => exact ⟨j + 1, A1, cp1, _, by omega, rfl, by go_num, HL4.out, hm4, hs4, hA4, K4⟩
      case measure => simp [intOf]; omega
    · clear hb hs hm2 hs2 hA2
      have rRr := rR2.kept hkr (by simp; omega)
      have cR0 : wr.cell? ⟨w.heap.size, 0, none⟩ = some (.int .i64 a) := by simpa using rRr.cell 0
      have cR1 : wr.cell? ⟨w.heap.size, 1, none⟩ = some (.int .i64 c) := by simpa using rRr.cell 1
      go_wp2_with fail
      go_loop [16] (fun i => ∃ at_ : Int, -1 ≤ at_ ∧ at_ ≤ n + 1 ∧ i = .int .i64 at_) (fun i => (n + 1 - intOf i).toNat)
      case atStart => exact ⟨-1, by omega, by omega, rfl⟩
      case round =>
        obtain ⟨at_, hat1, hat2, rfl⟩ := hrel
        by_cases hle : at_ ≤ n
        · by_cases h0 : 0 ≤ at_
          · obtain ⟨k, rfl⟩ := Int.eq_ofNat_of_zero_le h0
            by_cases hkn : k < n
            · obtain ⟨b, off, rfl, cG⟩ := hsr.cellMk (j := k) (by rw [HL.out]; exact hkn)
              go_wp2_with fail
              refine (bitsHas_any mb 0 mg xs k wr hmr).mono ?_
              rintro e w5 ⟨rfl, rfl⟩
              rw [show hasM xs (k : Int) = mk xs k from by simp [hasM]]
              go_wp2
              go_round
              case rel => exact ⟨k + 1, by omega, by omega, by go_num⟩
              case measure => simp [intOf]; omega
            · have hkn' : decide ((k : Int) < n) = false := by simp; omega
              have hkn2 : decide (k < n) = false := by simp; omega
              have hno : hasM xs (k : Int) = false := by
                have := HL.out
                simp [hasM, mk, show ¬ k < xs.length by omega]
              have HN := Lib.hid hno
              clear hno
              go_wp2_with fail
              refine (bitsHas_any mb 0 mg xs k wr hmr).mono ?_
              rintro e w5 ⟨rfl, rfl⟩
              rw [HN.out]
              go_wp2
              go_round
              case rel => exact ⟨k + 1, by omega, by omega, by go_num⟩
              case measure => simp [intOf]; omega
          · have h0' : decide (0 ≤ at_) = false := by simpa using h0
            have HN := Lib.hid (show hasM xs at_ = false by simp [hasM]; intro h; omega)
            go_wp2_with fail
            refine (bitsHas_any mb 0 mg xs at_ wr hmr).mono ?_
            rintro e w5 ⟨rfl, rfl⟩
            rw [HN.out]
            go_wp2
            go_round
            case rel => exact ⟨at_ + 1, by omega, by omega, by go_num⟩
            case measure => simp [intOf]; omega
        · go_wp2_with fail
          refine (bitsFind_any mb 0 mg xs c wr hmr hc).mono ?_
          rintro e w5 ⟨rfl, rfl⟩
          obtain ⟨z1, t1, hz1⟩ : ∃ z t, Hid (optV (findB xs c) = .tuple #[.int .i64 z, .bool t]) := ⟨_, _, rfl⟩
          obtain ⟨z2, t2, hz2⟩ : ∃ z t, Hid (optV (nextB xs a) = .tuple #[.int .i64 z, .bool t]) := ⟨_, _, rfl⟩
          rw [hz1.out]
          go_wp2_with fail
          refine (refFind02 A n cp xs c wr hsr HL.out (by omega)).mono ?_
          rintro e w6 ⟨rfl, kw6⟩
          rw [hz1.out]
          have hm6 := hmr.kept kw6 (by simp) (by simp)
          have hs6 := hsr.kept kw6
          have rR6 := rRr.kept kw6 (by simp)
          have cR0 : w6.cell? ⟨w.heap.size, 0, none⟩ = some (.int .i64 a) := by simpa using rR6.cell 0
          have cR1 : w6.cell? ⟨w.heap.size, 1, none⟩ = some (.int .i64 c) := by simpa using rR6.cell 1
          go_wp2_with fail
          refine (bitsNext_any mb 0 mg xs a w6 hm6 ha).mono ?_
          rintro e w7 ⟨rfl, rfl⟩
          rw [hz2.out]
          go_wp2_with fail
          refine (refNext02 A n cp xs a w6 hs6 HL.out (by omega)).mono ?_
          rintro e w7 ⟨rfl, kw7⟩
          rw [hz2.out]
          have hm7 := hm6.kept kw7 (by simp) (by simp)
          have hs7 := hs6.kept kw7
          have rR7 := rR6.kept kw7 (by simp)
          have kW7 := (kWr.trans kw6).trans kw7
          clear hm6 hs6 rR6 cR0 cR1 hmr hsr rRr hkr kWr rR2 kW2 kw6 kw7
          have cR0 : w7.cell? ⟨w.heap.size, 0, none⟩ = some (.int .i64 a) := by simpa using rR7.cell 0
          have cR1 : w7.cell? ⟨w.heap.size, 1, none⟩ = some (.int .i64 c) := by simpa using rR7.cell 1
          have kk0 : Kept [] w7 w7.drew := (Kept.refl _ _).drew
          go_wp2_with fail
          go_region_held3 (fun w' => Kept [] w7 w' ∧ w'.cell? ⟨w.heap.size, 0, none⟩ = some (.int .i64 a) ∧ w'.cell? ⟨w.heap.size, 1, none⟩ = some (.int .i64 c)) (exact held_now rR7 (by assumption))
            (first
              | (go_at_call 7; refine (fixed02_any _).mono ?_; rintro e w' ⟨rfl, kk⟩; have kq : Kept [] w7 w' := Kept.trans (by assumption) kk)
              | (go_at_call 20; refine (bitsWhole_any mb 0 mg xs a c _ _ ?_ ha).mono ?_; (exact hm7.kept (by assumption) (by simp) (by simp)); rintro e w' ⟨rfl, kk⟩; have kq : Kept [] w7 w' := Kept.trans (by assumption) kk)
              | (go_at_call 21; refine (refWhole02 A n cp xs a c _ _ ?_ HL.out (by omega)).mono ?_; (exact hs7.kept (by assumption)); rintro e w' ⟨rfl, kk⟩; have kq : Kept [] w7 w' := Kept.trans (by assumption) kk))
          go_wp2
          go_ret
          exact ⟨rfl, kW7.trans kq⟩
end Go.Proofs.Ytoeoaeaabljjlaa
