/- The law OwnerPlays: its walk. -/
import Derived.Test.YthlkammoinokoaaOwnerFixed
import Derived.Test.YthlkammoinokoaaOwnerOwned
import Derived.Test.YthlkammoinokoaaOwnerRefOf
import Derived.Deep.RegionHeld3
namespace Go.Proofs.Ythlkammoinokoaa
open Go.RowKit

set_option maxRecDepth 100000 in
set_option maxHeartbeats 2000000 in
theorem ownerPlays_size (n p0 p1 : Int) (a0 : Option Addr) (len cap : Nat) (w : World) (h1 : 300 < n) (h2 : n ≤ 1024) :
    Calls Try.prog 3 #[.int .i64 n, .slice a0 len cap, .agg #[.int .i64 p0, .int .i64 p1]] w (FixedPost w) := by
  have kW := (Kept.refl [] w).alloc (.cells #[.int .i64 p0, .int .i64 p1] 23)
  go_enter Try.func3, Try.ntmps3
  go_wp2_with fail
  refine (fixed06_any _).mono ?_
  rintro e w5 ⟨rfl, kw5⟩
  go_wp2
  go_ret
  exact ⟨rfl, kW.trans kw5⟩

set_option maxRecDepth 100000 in
set_option maxHeartbeats 2000000 in
theorem ownerPlays_big (n p0 p1 : Int) (a0 : Option Addr) (len cap : Nat) (w : World) (h1 : ¬ (300 < n ∧ n ≤ 1024)) (hl : 60 < len) (hm : len ≤ maxLen) :
    Calls Try.prog 3 #[.int .i64 n, .slice a0 len cap, .agg #[.int .i64 p0, .int .i64 p1]] w (FixedPost w) := by
  unfold maxLen at hm
  have kW := (Kept.refl [] w).alloc (.cells #[.int .i64 p0, .int .i64 p1] 23)
  by_cases h3 : 300 < n
  · have h4 : decide (n ≤ 1024) = false := by simp; omega
    clear h1
    go_enter Try.func3, Try.ntmps3
    go_wp2_with fail
    refine (fixed06_any _).mono ?_
    rintro e w5 ⟨rfl, kw5⟩
    go_wp2
    go_ret
    exact ⟨rfl, kW.trans kw5⟩
  · have h4 : decide (300 < n) = false := by simp; omega
    clear h1
    go_enter Try.func3, Try.ntmps3
    go_wp2_with fail
    refine (fixed06_any _).mono ?_
    rintro e w5 ⟨rfl, kw5⟩
    go_wp2
    go_ret
    exact ⟨rfl, kW.trans kw5⟩

/-- What the region's loads and calls ask for: only new blocks since wr; the box of the two numbers. -/
theorem held_two {wr w' : World} {B : Nat} {t : TypeId} {a c : Int} (hr : Row wr B t [.int .i64 a, .int .i64 c]) (hc : Kept [] wr w') :
    Kept [] wr w' ∧ w'.cell? ⟨B, 0, none⟩ = some (.int .i64 a) ∧ w'.cell? ⟨B, 1, none⟩ = some (.int .i64 c) :=
  ⟨hc, by simpa using (hr.kept hc (by simp)).cell 0, by simpa using (hr.kept hc (by simp)).cell 1⟩
theorem ofB_len (xs : List Int) (o : Int) : (ofB xs o).length ≤ xs.length := by
  unfold ofB; split
  · simp
  · exact runsTo_len _ _ _
theorem SlG.toSl {w : World} {A : Option Addr} {xs : List Int} (h : SlG (Value.int .i64) w A xs) : Sl w .i64 A xs := by
  rcases h with h | ⟨b, off, rfl, hb, hc⟩
  · exact .inl h
  · exact .inr ⟨b, off, rfl, hb, fun j hj => by rw [hc j _ (List.getElem?_eq_getElem hj), List.getElem?_eq_getElem hj]; rfl⟩
theorem refOf06_any (A : Option Addr) (n cap : Nat) (xs : List Int) (o : Int) (w : World) (hs : SlG (Value.int .i64) w A xs) (hn : xs.length = n) (hx : n ≤ 1024) :
    Calls Try.prog 16 #[.slice A n cap, .int .i64 o] w (RunsPost (ofB xs o) w) := by
  by_cases h : o < 1
  · exact refOf06_low A n cap xs o w hn hx h
  · exact refOf06_high A n cap xs o w hs.toSl hn hx h
theorem cntG_step' {v : List Int} {i : Nat} (hi : i < v.length) {y : Int} (hy : v[i]?.getD 0 = y) : cntG (v.take (i + 1)) = cntG (v.take i) + if y = 0 then 0 else 1 := by rw [cntG_step hi, hy]
theorem word_lo {xs : List Int} {j : Nat} (hj : j < xs.length) : wordB xs (16 * (j : Int)) = xs[j]?.getD 0 := by
  unfold wordB
  rw [if_neg (by omega), show ((16 : Int) * (j : Int)).tdiv 16 = (j : Int) from by rw [Int.mul_comm]; exact Int.mul_tdiv_cancel _ (by omega), pageB_at hj]
theorem word_hi {xs : List Int} {j : Nat} (hj : j < xs.length) : wordB xs (16 * (j : Int) + 15) = xs[j]?.getD 0 := by
  unfold wordB
  rw [if_neg (by omega), show ((16 : Int) * (j : Int) + 15).tdiv 16 = (j : Int) from by
    rw [show (16 : Int) * (j : Int) + 15 = ((16 * j + 15 : Nat) : Int) from by omega, show ((16 * j + 15 : Nat) : Int).tdiv 16 = (((16 * j + 15) / 16 : Nat) : Int) from (Int.ofNat_tdiv _ 16).symm]
    omega, pageB_at hj]

set_option maxRecDepth 100000 in
set_option maxHeartbeats 16000000 in
theorem ownerPlays_any (n p0 p1 : Int) (a0 : Option Addr) (cap : Nat) (l : List I3) (w : World) (hs : SlI3 w a0 l) (hl : l.length ≤ 60) (hn : ¬ (300 < n ∧ n ≤ 1024)) (hb : ∀ x ∈ l, x.fit) (hp0 : Fit64 p0) :
    Calls Try.prog 3 #[.int .i64 n, .slice a0 l.length cap, .agg #[.int .i64 p0, .int .i64 p1]] w (FixedPost w) := by
  have h60 : decide ((60 : Int) < l.length) = false := by simp; omega
  have rP := Row.new w 23 [.int .i64 p0, .int .i64 p1]
  have kW := (Kept.refl [] w).alloc (.cells #[.int .i64 p0, .int .i64 p1] 23)
  obtain ⟨N, hN⟩ : ∃ N, sizeB n = N := ⟨_, rfl⟩
  have hN1024 : N ≤ 1024 := by rw [← hN]; unfold sizeB; omega
  have HN := Lib.hid hN
  clear hN
  unfold Fit64 at hp0
  rcases (show (300 < n ∧ decide (n ≤ 1024) = false) ∨ decide (300 < n) = false from by
    by_cases h : 300 < n
    · exact .inl ⟨h, by simp; omega⟩
    · exact .inr (by simpa using h)) with ⟨h3, h4⟩ | h3
  all_goals
    clear hn
    go_enter Try.func3, Try.ntmps3
    go_wp2_with fail
    generalize w.alloc (.cells #[.int .i64 p0, .int .i64 p1] 23) = W at rP kW ⊢
    refine (ownerNew_any n W).mono ?_
    rintro e w1 ⟨p, g, rfl, hnew, ho1, kw1⟩
    rw [HN.out] at ho1
    go_wp2_with fail
    refine (refNew06_any n w1).mono ?_
    rintro e w2 ⟨gA, cA, rfl, hs2, hgA, kw2⟩
    rw [HN.out, List.length_replicate]
    rw [HN.out] at hs2
    have ho2 := ho1.kept kw2
    have kW2 := (kW.trans kw1).trans kw2
    have rP2 := (rP.kept kw1 (by simp)).kept kw2 (by simp)
    have hgl := ho1.lt
    have hWz := kW.size
    have hPz := rP.lt
    have hA2 : ∀ b off, some (⟨gA, 0, none⟩ : Addr) = some ⟨b, off, none⟩ → b ≠ g := by
      intro b off e
      cases e
      omega
    clear rP kW kw1 kw2 ho1 hgA
    go_wp2_with fail
    go_loopw [8, 37] (fun x i wr => ∃ (j : Nat) (A : Option Addr) (cp : Nat) (xs : List Int), j ≤ l.length ∧ x = .slice A N cp ∧ i = .int .i64 j ∧ Hid (xs.length = N) ∧ IsOwner wr p g xs ∧ SlG (Value.int .i64) wr A xs ∧ Hid (∀ b off, A = some ⟨b, off, none⟩ → b ≠ g) ∧ Kept [g] w2 wr) (fun _ i _ => l.length - (intOf i).toNat)
    case atStart => exact ⟨0, _, cA, _, Nat.zero_le _, rfl, rfl, List.length_replicate, ho2, hs2, hA2, Kept.refl _ _⟩
    case round =>
      obtain ⟨j, A, cp, xs, hj, rfl, rfl, HL, hor, hsr, HA, hkr⟩ := hrel
      have kWr : Kept [] w wr := kW2.chain hkr (by simp) (by simp; omega)
      clear hA2
      by_cases hlt : j < l.length
      · obtain ⟨b, off, x, rfl, hx, hbl, c0, c1, c2⟩ := (hs.kept kWr).cell hlt
        obtain ⟨hfa, hfb, hfc⟩ := hb x (List.mem_of_getElem? hx)
        have rB := Row.new wr 32 [.int .i64 x.a, .int .i64 x.b, .int .i64 x.c]
        have kA := (Kept.refl [] wr).alloc (.cells #[.int .i64 x.a, .int .i64 x.b, .int .i64 x.c] 32)
        have hoA := hor.kept kA
        have hsA := hsr.kept kA
        have hgr := hor.lt
        go_wp2_with fail
        generalize wr.alloc (.cells #[.int .i64 x.a, .int .i64 x.b, .int .i64 x.c] 32) = wa at rB kA hoA hsA ⊢
        refine (ownerSet_any p g xs x.a x.b x.c wa hoA hfa hfb hfc.2).mono ?_
        rintro e w3 ⟨rfl, ho3, kw3⟩
        have rB3 := rB.kept kw3 (by simp; omega)
        have d0 : w3.cell? ⟨wr.heap.size, 0, none⟩ = some (.int .i64 x.a) := by simpa using rB3.cell 0
        have d1 : w3.cell? ⟨wr.heap.size, 1, none⟩ = some (.int .i64 x.b) := by simpa using rB3.cell 1
        have d2 : w3.cell? ⟨wr.heap.size, 2, none⟩ = some (.int .i64 x.c) := by simpa using rB3.cell 2
        have hs3 := hsA.keptS kw3 (fun b off e => by simpa using HA.out b off e)
        have hgl3 := ho3.lt
        obtain ⟨er, her⟩ : ∃ er, (setB xs x.a x.b x.c).2 = er := ⟨_, rfl⟩
        have HE := Lib.hid her
        rw [her]
        clear her
        go_wp2_with fail
        refine (refSet06_any A N cp xs x.a x.b x.c w3 hs3 HL.out (by omega)).mono ?_
        rintro e w4 ⟨A1, cp1, rfl, hl4, hs4, hA1, kw4⟩
        rw [HE.out]
        have ho4 := ho3.kept kw4
        have HA4 := Lib.hid (apart_ofG hA1 HA.out hgl3.2)
        have HL4 := Lib.hid hl4
        clear hl4 hA1
        have K4 : Kept [g] w2 w4 := ((hkr.trans kA.any).trans kw3).trans kw4.any
        go_wp2
        go_roundw
        case rel => exact ⟨j + 1, A1, cp1, _, by omega, rfl, by go_num, HL4, ho4, hs4, HA4, K4⟩
        case measure => simp [intOf]; omega
      · clear hb hs ho2 hs2
        have rPr := rP2.kept hkr (by simp; omega)
        have HK0 := Lib.hid kWr
        clear rP2 kW2 hkr kWr
        go_wp2_with fail
        clear hlt hj
        go_loopw [14, 63] (fun o i wq => ∃ (j c : Nat), j ≤ N ∧ o = .int .i64 c ∧ i = .int .i64 j ∧ Hid (c = cntG (xs.take j)) ∧ c ≤ j ∧ Kept [] wr wq) (fun _ i _ => N - (intOf i).toNat)
        case atStart => exact ⟨0, 0, Nat.zero_le _, rfl, rfl, rfl, Nat.le_refl _, Kept.refl _ _⟩
        case round =>
          obtain ⟨j, c, hj, rfl, rfl, HC, hcj, hkq⟩ := hrel
          have hoq := hor.kept hkq
          have hsq := hsr.kept hkq
          by_cases hlt : j < N
          · have hjx : j < xs.length := by rw [HL.out]; exact hlt
            obtain ⟨b, off, rfl, cG⟩ := hsq.cell hjx
            have hy0 := (hoq.getD j).1
            obtain ⟨y, hy⟩ : ∃ y, xs[j]?.getD 0 = y := ⟨_, rfl⟩
            have hxy : xs[j]'hjx = y := by rw [← hy, List.getElem?_eq_getElem hjx]; rfl
            have hpg := (pageB_at hjx).trans hy
            have hwl := (word_lo hjx).trans hy
            have hwh := (word_hi hjx).trans hy
            have HST := Lib.hid (cntG_step' hjx hy)
            rw [hxy] at cG
            rw [hy] at hy0
            have h16 : (16 : Int) * (j : Int) ≤ 16384 := by omega
            clear hjx hxy hy
            go_wp2_with fail
            go_quiet (first
              | (go_at_call 10; refine quiet_same (ownerPage_any p g xs _ _ (hoq.drewN _)))
              | (go_at_call 11; refine quiet_same (ownerWord_any p g xs _ _ (hoq.drewN _) (by omega))))
            clear hpg hwl hwh
            by_cases hyz : y = 0
            · subst hyz
              have HC2 : Hid (c = cntG (xs.take (j + 1))) := by have := HST.out; rw [if_pos rfl] at this; rw [this]; exact HC.out
              go_wp2
              go_roundw
              case rel => exact ⟨j + 1, c, by omega, rfl, by go_num, HC2, by omega, hkq.drewN _⟩
              case measure => simp [intOf]; omega
            · have hyp : decide (0 < y) = true := by simp; omega
              have HC2 : Hid (c + 1 = cntG (xs.take (j + 1))) := by have := HST.out; rw [if_neg hyz] at this; rw [this, HC.out]; rfl
              clear hyz
              go_wp2
              go_roundw
              case rel => exact ⟨j + 1, c + 1, by omega, by go_num, by go_num, HC2, by omega, hkq.drewN _⟩
              case measure => simp [intOf]; omega
          · obtain rfl : j = N := by omega
            have HC2 : Hid (cntG xs = c) := by have := HC.out; rw [List.take_of_length_le (by rw [HL.out]; omega)] at this; exact this.symm
            have rPq := rPr.kept hkq (by simp)
            have kWq := HK0.out.trans hkq
            have q0 : wr.cell? ⟨w.heap.size, 0, none⟩ = some (.int .i64 p0) := by simpa using rPq.cell 0
            have q1 : wr.cell? ⟨w.heap.size, 1, none⟩ = some (.int .i64 p1) := by simpa using rPq.cell 1
            clear hor rPr hsr hkq HC
            have HW : ∃ Wd, Hid (wordB xs p0 = Wd) ∧ ((p0 < 0 ∧ Wd = 0) ∨ ∃ q k : Nat, p0 = q ∧ (q : Int).tdiv 16 = (k : Int) ∧ k ≤ 9223372036854775807 ∧ Hid (pageB xs k = Wd)) := by
              by_cases h : p0 < 0
              · exact ⟨0, by show wordB xs p0 = 0; unfold wordB; rw [if_pos h], .inl ⟨h, rfl⟩⟩
              · obtain ⟨q, rfl⟩ := Int.eq_ofNat_of_zero_le (show 0 ≤ p0 by omega)
                have hq : (q : Int).tdiv 16 = ((q / 16 : Nat) : Int) := (Int.ofNat_tdiv q 16).symm
                exact ⟨_, rfl, .inr ⟨q, q / 16, rfl, hq, by omega, by show _ = _; unfold wordB; rw [if_neg h, hq]⟩⟩
            obtain ⟨Wd, HWd, hcase⟩ := HW
            have hol := ofB_len xs p1
            rw [HL.out] at hol
            have HOL : Hid ((ofB xs p1).length ≤ 1099511627776) := by show _ ≤ _; omega
            have kk0 : Kept [] wr wr.drew := (Kept.refl _ _).drew
            clear hol HK0 HA
            rcases hcase with ⟨hlo, rfl⟩ | ⟨q, k, rfl, hq, hk64, HPk⟩
            · go_wp2_with fail
              go_region_held3 (fun w' => Kept [] wr w' ∧ w'.cell? ⟨w.heap.size, 0, none⟩ = some (.int .i64 p0) ∧ w'.cell? ⟨w.heap.size, 1, none⟩ = some (.int .i64 p1)) (exact held_two rPq (by assumption))
                (first
                  | (go_at_call 5; refine (fixed06_any _).mono ?_; rintro e w' ⟨rfl, kk⟩; have kq : Kept [] wr w' := Kept.trans (by assumption) kk)
                  | (go_at_call 13; refine (ownerOwned_any p g xs _ ?_).mono ?_; (exact hoq.kept (by assumption)); rintro e w' ⟨rfl, kk⟩; have kq : Kept [] wr w' := Kept.trans (by assumption) kk; rw [HC2.out])
                  | (go_at_call 10; refine (ownerPage_any p g xs p0 _ ?_).mono ?_; (exact hoq.kept (by assumption)); rintro e w' ⟨rfl, hw'⟩; subst hw')
                  | (go_at_call 12; refine (refPage06_any A _ cp xs p0 _ ?_ HL.out (by omega)).mono ?_; (exact hsq.kept (by assumption)); rintro e w' ⟨rfl, hw'⟩; subst hw')
                  | (go_at_call 11; refine (ownerWord_any p g xs p0 _ ?_ (by omega)).mono ?_; (exact hoq.kept (by assumption)); rintro e w' ⟨rfl, hw'⟩; subst hw'; rw [HWd.out])
                  | (go_at_call 15; refine (ownerOf_any p g xs p1 _ ?_).mono ?_; (exact hoq.kept (by assumption)); rintro e w' ⟨a1, c1, rfl, hA1, kk⟩; have kq : Kept [] wr w' := Kept.trans (by assumption) kk)
                  | (go_at_call 16; refine (refOf06_any A _ cp xs p1 _ ?_ HL.out (by omega)).mono ?_; (exact hsq.kept (by assumption)); rintro e w' ⟨a2, c2, rfl, hA2, kk⟩; have hA3 := SlR.kept hA1 kk; have kq : Kept [] wr w' := Kept.trans (by assumption) kk)
                  | (go_at_call 14; refine (refSame06_yes a1 a2 _ _ c1 c2 (ofB xs p1) _ hA3 hA2 rfl rfl HOL.out).mono ?_; rintro e w' ⟨rfl, kk⟩; have kq : Kept [] wr w' := Kept.trans (by assumption) kk))
              go_wp2
              go_ret
              exact ⟨rfl, kWq.trans (by assumption)⟩
            · go_wp2_with fail
              refine (refPage06_any A _ cp xs k _ hsq HL.out (by omega)).mono ?_
              rintro e w5 ⟨rfl, rfl⟩
              rw [HPk.out]
              go_wp2_with fail
              go_region_held3 (fun w' => Kept [] wr w' ∧ w'.cell? ⟨w.heap.size, 0, none⟩ = some (.int .i64 (q : Int)) ∧ w'.cell? ⟨w.heap.size, 1, none⟩ = some (.int .i64 p1)) (exact held_two rPq (by assumption))
                (first
                  | (go_at_call 5; refine (fixed06_any _).mono ?_; rintro e w' ⟨rfl, kk⟩; have kq : Kept [] wr w' := Kept.trans (by assumption) kk)
                  | (go_at_call 13; refine (ownerOwned_any p g xs _ ?_).mono ?_; (exact hoq.kept (by assumption)); rintro e w' ⟨rfl, kk⟩; have kq : Kept [] wr w' := Kept.trans (by assumption) kk; rw [HC2.out])
                  | (go_at_call 10; refine (ownerPage_any p g xs (q : Int) _ ?_).mono ?_; (exact hoq.kept (by assumption)); rintro e w' ⟨rfl, hw'⟩; subst hw')
                  | (go_at_call 12; refine (refPage06_any A _ cp xs (q : Int) _ ?_ HL.out (by omega)).mono ?_; (exact hsq.kept (by assumption)); rintro e w' ⟨rfl, hw'⟩; subst hw')
                  | (go_at_call 11; refine (ownerWord_any p g xs (q : Int) _ ?_ (by omega)).mono ?_; (exact hoq.kept (by assumption)); rintro e w' ⟨rfl, hw'⟩; subst hw'; rw [HWd.out])
                  | (go_at_call 15; refine (ownerOf_any p g xs p1 _ ?_).mono ?_; (exact hoq.kept (by assumption)); rintro e w' ⟨a1, c1, rfl, hA1, kk⟩; have kq : Kept [] wr w' := Kept.trans (by assumption) kk)
                  | (go_at_call 16; refine (refOf06_any A _ cp xs p1 _ ?_ HL.out (by omega)).mono ?_; (exact hsq.kept (by assumption)); rintro e w' ⟨a2, c2, rfl, hA2, kk⟩; have hA3 := SlR.kept hA1 kk; have kq : Kept [] wr w' := Kept.trans (by assumption) kk)
                  | (go_at_call 14; refine (refSame06_yes a1 a2 _ _ c1 c2 (ofB xs p1) _ hA3 hA2 rfl rfl HOL.out).mono ?_; rintro e w' ⟨rfl, kk⟩; have kq : Kept [] wr w' := Kept.trans (by assumption) kk))
              go_wp2
              go_ret
              exact ⟨rfl, kWq.trans (by assumption)⟩
end Go.Proofs.Ythlkammoinokoaa
