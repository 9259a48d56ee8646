/- The law OwnerRuns: its walk. -/
import Derived.Test.YthlkammoinokoaaOwnerFixed
import Derived.Test.YthlkammoinokoaaOwnerOwned
import Derived.Test.YthlkammoinokoaaOwnerOf
import Derived.Test.YthlkammoinokoaaOwnerPlain3
namespace Go.Proofs.Ythlkammoinokoaa
open Go.RowKit Go.Maps

set_option maxRecDepth 100000 in
set_option maxHeartbeats 2000000 in
theorem ownerRuns_big (n : Int) (a0 : Option Addr) (len cap : Nat) (w : World) (hl : 60 < len) (hm : len ≤ maxLen) :
    Calls Try.prog 4 #[.int .u16 n, .slice a0 len cap] w (FixedPost w) := by
  unfold maxLen at hm
  go_enter Try.func4, Try.ntmps4
  go_wp2_with fail
  refine (fixed06_any _).mono ?_
  rintro e w5 ⟨rfl, kw5⟩
  go_wp2
  go_ret
  exact ⟨rfl, kw5⟩

/-- How many pages the runs of these owners have. -/
def totK (xs : List Int) (ss : List (Int × Bool)) : Nat := (ss.map fun r => totB (ofB xs r.1)).sum
theorem totK_snoc (xs : List Int) (ss : List (Int × Bool)) (r : Int × Bool) : totK xs (ss ++ [r]) = totK xs ss + totB (ofB xs r.1) := by simp [totK]
theorem totK_all {xs : List Int} {gs ss : List (Int × Bool)} (hp : ss.Perm gs) (hr : RiseL gs) (h0 : ∀ x ∈ xs, 0 ≤ x) (hc : ∀ x ∈ xs, x ≠ 0 → x ∈ keysL gs) : totK xs ss = cntG xs := by
  have h1 : totK xs ss = totK xs gs := (hp.map _).sum_nat
  rw [h1, ← sum_owners xs (keysL gs) (List.Pairwise.map _ (fun _ _ h => Int.ne_of_lt h) hr) h0 hc]
  unfold totK keysL
  rw [List.map_map]
  congr 1
  exact List.map_congr_left fun r _ => totB_of xs r.1

set_option maxRecDepth 100000 in
set_option maxHeartbeats 16000000 in
theorem ownerRuns_any (n : Int) (a0 : Option Addr) (cap : Nat) (l : List I3) (w : World) (hs : SlI3 w a0 l) (hl : l.length ≤ 60) (hn0 : 0 ≤ n) (hn : n < 65536) (hb : ∀ x ∈ l, x.fit) :
    Calls Try.prog 4 #[.int .u16 n, .slice a0 l.length cap] w (FixedPost w) := by
  have hmm := @run_makeMap Try.prog
  have h60 : decide ((60 : Int) < l.length) = false := by simp; omega
  go_enter Try.func4, Try.ntmps4
  go_wp2_with fail
  obtain ⟨m, hmn, hm300⟩ : ∃ m : Nat, n % 300 = (m : Int) ∧ m < 300 := ⟨(n % 300).toNat, by omega, by omega⟩
  rw [hmn]
  clear hmn
  refine (ownerNew_any m w).mono ?_
  rintro e w1 ⟨p, g, rfl, hnew, ho1, kw1⟩
  rw [show sizeB m = m from by unfold sizeB; omega] at ho1
  have hgl := ho1.lt
  have own0 := OwnL.made Value.bool w1
  have kM := kw1.alloc (.map #[] 0)
  have ho2 := ho1.kept ((Kept.refl [] w1).alloc (.map #[] 0))
  have hOz : w1.heap.size < (w1.alloc (.map #[] 0)).heap.size := by simp
  clear ho1
  go_wp2_with fail
  generalize w1.alloc (.map #[] 0) = w2 at own0 kM ho2 hOz ⊢
  obtain ⟨O, hO⟩ : ∃ O, w1.heap.size = O := ⟨_, rfl⟩
  have hwO : w.heap.size ≤ O := by rw [← hO]; exact kw1.size
  rw [hO] at own0 hgl hOz ⊢
  clear hO kw1
  go_loopw [30] (fun i wr => ∃ (j : Nat) (xs : List Int) (gs : List (Int × Bool)), j ≤ l.length ∧ i = .int .i64 j ∧ Hid (xs.length = m) ∧ IsOwner wr p g xs ∧ OwnL Value.bool wr O gs ∧ Hid (RiseL gs) ∧ Hid (∀ x ∈ xs, x ≠ 0 → x ∈ keysL gs) ∧ gs.length ≤ j ∧ Kept [] w wr) (fun i _ => l.length - (intOf i).toNat)
  case atStart => exact ⟨0, _, [], Nat.zero_le _, rfl, List.length_replicate, ho2, own0, List.Pairwise.nil, (fun x hx hne => absurd (List.mem_replicate.1 hx).2 hne), Nat.le_refl _, kM⟩
  case round =>
    obtain ⟨j, xs, gs, hj, rfl, HL, hor, hown, HR, HCV, hgj, kWr⟩ := hrel
    clear own0 kM ho2
    by_cases hlt : j < l.length
    · obtain ⟨b, off, x, rfl, hx, hbl, c0, c1, c2⟩ := (hs.kept kWr).cell hlt
      obtain ⟨hfa, hfb, hfc⟩ := hb x (List.mem_of_getElem? hx)
      have rB := Row.new wr 32 [.int .i64 x.a, .int .i64 x.b, .int .i64 x.c]
      have kA := (Kept.refl [] wr).alloc (.cells #[.int .i64 x.a, .int .i64 x.b, .int .i64 x.c] 32)
      have hoA := hor.kept kA
      have ownA := hown.kept kA (by simp)
      have kWA := kWr.trans kA
      have hOl := hown.lt
      clear kA hor hown
      go_wp2_with fail
      generalize wr.alloc (.cells #[.int .i64 x.a, .int .i64 x.b, .int .i64 x.c] 32) = wa at rB kWA hoA ownA ⊢
      refine (ownerSet_any p g xs x.a x.b x.c wa hoA hfa hfb hfc.2).mono ?_
      rintro e w3 ⟨rfl, ho3, kw3⟩
      have rB3 := rB.kept kw3 (by simp; omega)
      have d2 : w3.cell? ⟨wr.heap.size, 2, none⟩ = some (.int .i64 x.c) := by simpa using rB3.cell 2
      have own3 := ownA.kept kw3 (by simp; omega)
      have kW3 : Kept [] w w3 := kWA.chain kw3 (by simp) (by simp; omega)
      have HCV3 : Hid (∀ y ∈ (setB xs x.a x.b x.c).1, y ≠ 0 → y ∈ keysL (putL gs x.c true)) := fun y hy hne => by
        rcases setB_mem hy with h | h
        · exact keysL_put.2 (.inr (HCV.out y h hne))
        · exact keysL_put.2 (.inl h)
      have HL3 : Hid ((setB xs x.a x.b x.c).1.length = m) := (setB_length _ _ _ _).trans HL.out
      have hpl := putL_length gs x.c true
      have HR3 : Hid (RiseL (putL gs x.c true)) := riseL_put HR.out _ _
      generalize (setB xs x.a x.b x.c).1 = xs3 at ho3 HCV3 HL3
      clear rB rB3 kWA hoA ownA HCV HL
      go_wp2_with (at_mapUpdate; refine wpList_mapUpdate_L Try.underlying46 _ rfl _ _ _ rfl O gs rfl own3 (by unfold maxLen; omega) x.c hfc true rfl rfl ?_; intro w4 own4 kw4)
      go_roundw
      case rel => exact ⟨j + 1, xs3, _, by omega, by go_num, HL3, ho3.keptS kw4 (by simp; omega) (by simp; omega), own4, HR3, HCV3, by omega, kW3.chain kw4 (by simp) (by simp; omega)⟩
      case measure => simp [intOf]; omega
    · clear hb hs
      have hfit := Lib.hid hor.fit
      have hsz := Lib.hid (size_setL (f := Value.bool) gs)
      go_wp2_with (first
        | (at_range; refine wpList_range_own _ rfl _ 46 rfl 3 4 keyed_int Try.underlying46 rawL O gs.length (setL Value.bool gs) rfl hown ?_; intro w0 hrg0 hg0 hs0)
        | go_in)
      go_frame
      have ho0 := hor.kept (Kept.of_grown0 hg0)
      have k0 : Kept [] w w0 := kWr.trans (Kept.of_grown0 hg0)
      obtain ⟨B, hB⟩ : ∃ B, wr.heap.size = B := ⟨_, rfl⟩
      have hOB : O < B := by rw [← hB]; exact hown.lt
      rw [hB] at hrg0 hs0 ⊢
      clear hg0 hB hor hown kWr hlt hmm
      go_loopw [10] (fun t wq => ∃ (left : Lit → Bool) (cnt : Nat) (ss : List (Int × Bool)) (T : Nat), wq.ranges Try.prog 3 rawL O B gs.length (setL Value.bool gs) left cnt ∧ ss.length + cnt ≤ gs.length ∧
          t = .int .i64 T ∧ Hid (T = totK xs ss) ∧ T ≤ 300 * ss.length ∧ CollL gs left ss ∧ Kept [B] w0 wq ∧ B + 1 ≤ wq.heap.size)
        (fun _ wq => wq.rangeLeft O B)
      case atStart => exact ⟨_, _, [], 0, hrg0, by simp [hsz.out], rfl, rfl, by simp, CollL.start gs, Kept.refl _ _, by omega⟩
      case round =>
        obtain ⟨left, cnt, ss, T, hrg, hcs, rfl, HT, hT3, hC, hkq, hBq⟩ := hrel
        clear hrg0 hs0
        go_wp2_with (first
          | (at_next; refine wpList_next_ranges _ rfl _ rfl 3 keyed_int rawL (Value.int .i64) (fun v : Value => v) (fun key kl hk => by obtain ⟨x, hx, _⟩ := Maps.keyOf_int_inv Try.underlying3 hk; exact ⟨x, hx⟩) (fun v y hv => ⟨v, rfl⟩) O B gs.length _ _ _ rfl hrg ?_ ?_)
          | go_in)
        · intro hc0 hl0
          have hP := hC.perm HR.out hl0
          have HS : Hid (cntG xs = T) := by
            have := totK_all hP HR.out (fun x hx => (hfit.out x hx).1) HCV.out
            show _ = _
            rw [← this]; exact HT.out.symm
          have hoq := ho0.keptS hkq (by simp; omega) (by simp; omega)
          have kq : Kept [] w wr := k0.chain hkq (by simp) (by simp; omega)
          clear hc0 hl0 hP hkq ho0 k0 HT hC hrg hsz
          go_wp2_with fail
          refine (fixed06_any _).mono ?_
          rintro e w5 ⟨rfl, kw5⟩
          have ho5 := hoq.kept kw5
          have k5 := kq.trans kw5
          go_wp2_with fail
          refine (ownerOwned_any p g xs w5 ho5).mono ?_
          rintro e w6 ⟨rfl, kw6⟩
          rw [HS.out]
          have ho6 := ho5.kept kw6
          have k6 := k5.trans kw6
          go_wp2_with fail
          refine (ownerOf_any p g xs 0 w6 ho6).mono ?_
          rintro e w7 ⟨a7, c7, rfl, _, kw7⟩
          rw [show (ofB xs 0).length = 0 from by rw [ofB_low (by omega)]; rfl]
          go_wp2
          go_ret
          exact ⟨rfl, k6.trans kw7⟩
        · intro x v kl yd yp w2 cnt2 hkey hlk hv hatx hrg2 hlt hg2 hs2 hen
          obtain ⟨x', ex, rfl, _⟩ := Maps.keyOf_int_inv Try.underlying3 hkey
          cases ex
          have hyd := rawL_inv hv
          simp only [Prod.mk.injEq] at hyd
          obtain ⟨rfl, rfl⟩ := hyd
          obtain ⟨c, hmem, rfl⟩ := entryL HR.out hatx
          have HC2 := Lib.hid (hC.step HR.out hlk hmem)
          have hk2 : Kept [B] w0 w2 := hkq.trans (Kept.of_grown hg2)
          have HH := Lib.hid (show ss.length + cnt2 + 1 ≤ gs.length by omega)
          have HTL := Lib.hid hlt
          have HL2 := Lib.hid hrg.left_eq
          have hz2 : B + 1 ≤ w2.heap.size := by omega
          have hss : ss.length ≤ 60 := by omega
          have ho2 := ho0.keptS hk2 (by simp; omega) (by simp; omega)
          clear hkey hlk hv hatx hC hrg hmem hcs hlt hs2 hkq hg2
          go_wp2_with fail
          refine (ownerOf_any p g xs x w2 ho2).mono ?_
          rintro e w3 ⟨aR, cR, rfl, hsR, kw3⟩
          have hrun : Hid (∀ j (hj : j < (ofB xs x).length), 1 ≤ (ofB xs x)[j].2 ∧ (ofB xs x)[j].1 + (ofB xs x)[j].2 ≤ m ∧ (∀ d, d < (ofB xs x)[j].2 → pageB xs (((ofB xs x)[j].1 + d : Nat) : Int) = x) ∧ lastB (ofB xs x) j < (((ofB xs x)[j].1 : Nat) : Int)) := fun j hj => by
            obtain ⟨h1, h2, h3⟩ := ofB_run hj
            exact ⟨h1, by rw [← HL.out]; exact h2, fun d hd => (pageB_at (by omega)).trans (h3 d hd), (ofB_after hj).1⟩
          have htk : Hid (totK xs (ss ++ [(x, c)]) = totK xs ss + totB (ofB xs x)) := totK_snoc xs ss (x, c)
          have htm : totB (ofB xs x) ≤ m := by rw [← HL.out]; exact totB_le xs x
          have hrm : (ofB xs x).length ≤ m := by rw [← HL.out]; exact ofB_short xs x
          generalize ofB xs x = R at hsR hrun htk htm hrm ⊢
          have HTM := Lib.hid htm
          have ho3 := ho2.kept kw3
          have k3 : Kept [B] w0 w3 := hk2.trans kw3.any
          have hz3 : B + 1 ≤ w3.heap.size := Nat.le_trans hz2 kw3.size
          have hrg3 := hrg2.kept (Kept.grown0 kw3) (by simp) (by simp)
          clear hrg2 ho2 hk2 hz2 kw3 hen htm
          go_wp2_with fail
          go_loopw [10, 12, 54] (fun t la i wq => ∃ (j T2 : Nat) (L : Int), j ≤ R.length ∧ t = .int .i64 T2 ∧ la = .int .i64 L ∧ i = .int .i64 j ∧ Hid (T2 = T + totB (R.take j)) ∧ T2 ≤ T + 300 ∧ Hid (L = lastB R j) ∧ Kept [] w3 wq) (fun _ _ i _ => R.length - (intOf i).toNat)
          case atStart => exact ⟨0, T, -1, Nat.zero_le _, rfl, rfl, rfl, rfl, by omega, rfl, Kept.refl _ _⟩
          case round =>
            obtain ⟨j, T2, L, hj, rfl, rfl, rfl, HT2, hT2, HLA, hkq⟩ := hrel
            by_cases hlt : j < R.length
            · obtain ⟨b, off, rfl, _, c0, c1⟩ := (hsR.kept hkq).cell hlt
              obtain ⟨h1, h2, h3, h4⟩ := hrun.out j hlt
              have HS := Lib.hid (lastB_succ hlt)
              have HTT := Lib.hid (totB_take hlt)
              have htp := totB_part R (j + 1)
              rw [HTT.out] at htp
              have HTP := Lib.hid htp
              rw [← HLA.out] at h4
              generalize R[j].1 = f at c0 h2 h3 h4 HS
              generalize R[j].2 = mm at c1 h1 h2 h3 HS HTT HTP
              have H3 := Lib.hid h3
              have e1 : decide ((f : Int) ≤ L) = false := by simp; omega
              have e2 : decide ((mm : Int) < 1) = false := by simp; omega
              have e3 : decide ((m : Int) < (f : Int) + mm) = false := by simp; omega
              have rB := Row.new wr 30 [.int .i64 f, .int .i64 mm]
              have kA := (Kept.refl [] wr).alloc (.cells #[.int .i64 f, .int .i64 mm] 30)
              have kqA := hkq.trans kA
              have hoA := ho3.kept kqA
              have htpn : T + totB (R.take j) + mm ≤ T + 300 := by
                have := HTP.out; have := HTM.out; omega
              rw [← HT2.out] at htpn
              clear htp h3 kA hkq
              go_wp2_with fail
              generalize wr.alloc (.cells #[.int .i64 f, .int .i64 mm] 30) = wA at rB kqA hoA ⊢
              have b0 : wA.cell? ⟨wr.heap.size, 0, none⟩ = some (.int .i64 f) := by simpa using rB.cell 0
              have b1 : wA.cell? ⟨wr.heap.size, 1, none⟩ = some (.int .i64 mm) := by simpa using rB.cell 1
              clear rB c0 c1
              go_wp2_with fail
              go_loop [15] (fun i => ∃ d : Nat, d ≤ mm ∧ i = .int .i64 ((f + d : Nat) : Int)) (fun i => f + mm - (intOf i).toNat)
              case atStart => exact ⟨0, Nat.zero_le _, rfl⟩
              case round =>
                obtain ⟨d, hd, rfl⟩ := hrel
                by_cases hdm : d < mm
                · have ht : decide (((f + d : Nat) : Int) < (f : Int) + mm) = true := by simp; omega
                  have HPG := Lib.hid (H3.out d hdm)
                  go_wp2_with fail
                  refine (ownerPage_any p g xs ((f + d : Nat) : Int) wA hoA).mono ?_
                  rintro e w5 ⟨rfl, rfl⟩
                  rw [HPG.out]
                  go_wp2
                  go_round
                  case rel => exact ⟨d + 1, by omega, by go_num⟩
                  case measure => simp [intOf]; omega
                · obtain rfl : d = mm := by omega
                  have ht : decide (((f + d : Nat) : Int) < (f : Int) + d) = false := by simp
                  have HT3 : Hid (T2 + d = T + totB (R.take (j + 1))) := by
                    have := HTT.out; rw [this, HT2.out]; exact Nat.add_assoc _ _ _
                  go_wp2_with fail
                  go_quiet (fail)
                  go_wp2
                  go_roundw
                  case rel => exact ⟨j + 1, T2 + d, ((f + d : Nat) : Int), by omega, by go_num, by go_num, by go_num, HT3, by omega, HS.out.symm, kqA.drewN _⟩
                  case measure => simp [intOf]; omega
            · obtain rfl : j = R.length := by omega
              have hrg4 := hrg3.kept (Kept.grown0 hkq) (by simp) (by simp)
              have k4 : Kept [B] w0 wr := k3.trans hkq.any
              have hz4 : B + 1 ≤ wr.heap.size := Nat.le_trans hz3 hkq.size
              have HT3 : Hid (T2 = totK xs (ss ++ [(x, c)])) := by
                have := HT2.out
                rw [List.take_length, HT.out] at this
                show T2 = _
                rw [htk.out]; exact this
              clear hrg3 k3 hz3 hkq
              go_wp2
              go_roundw
              case rel => exact ⟨_, cnt2, ss ++ [(x, c)], T2, hrg4, by have := HH.out; simp; omega, rfl, HT3, by simp; omega, HC2.out, k4, hz4⟩
              case measure => rw [hrg4.left_eq, HL2.out]; exact HTL.out
end Go.Proofs.Ythlkammoinokoaa
