/- The laws OpsPut and OpsGet: their walks. -/
import Derived.Test.YtpeekhlccjoioaaOpsPut
import Derived.Test.YtpeekhlccjoioaaOpsGet
import Derived.Test.YtpeekhlccjoioaaOpsRefPut
namespace Go.Proofs.Ytpeekhlccjoioaa
open Go.RowKit

theorem own_capB {w : World} {B g n c : Nat} {t : TypeId} {size : Nat} {vs : List Value} (h : w.ownsRow B t size (.slice (some ⟨g, 0, none⟩) n c) n vs) : n ≤ c ∧ c ≤ maxLen := by
  rcases h.2 with ⟨h0, _⟩ | ⟨g', cap', cur, hv, _, _, hn, hc, _⟩
  · cases h0
  · cases hv; exact ⟨hn, hc⟩

set_option maxRecDepth 100000 in
set_option maxHeartbeats 1000000 in
theorem fixed21_any (w : World) : Calls Try.prog 5 #[] w (FixedPost w) := by
  have r0 := Row.new w 39 [.int .i64 15, .int .u64 0, .int .u64 0, .int .u64 0]
  have k0 := (Kept.refl [] w).alloc (.cells #[.int .i64 15, .int .u64 0, .int .u64 0, .int .u64 0] 39)
  have hs : SlS opC 4 (w.alloc (.cells #[.int .i64 15, .int .u64 0, .int .u64 0, .int .u64 0] 39)) (some ⟨w.heap.size, 0, none⟩) [⟨15, 0, 0, 0⟩] := by
    refine .inr ⟨w.heap.size, 0, rfl, r0.lt, fun j x hx i hi => ?_⟩
    cases j with
    | zero => simp at hx; subst hx; simp only [Nat.zero_mul, Nat.zero_add]; exact r0.cell i
    | succ j => simp at hx
  go_enter Try.func5, Try.ntmps5
  go_wp2_with fail
  refine (opsPut_any _ 1 1 [⟨15, 0, 0, 0⟩] _ hs rfl (by omega)).mono ?_
  rintro e w1 ⟨hk, ⟨hb, _⟩ | ⟨_, g, c, rfl, ho⟩⟩
  · exact absurd hb (by decide)
  · rw [show opsB [⟨15, 0, 0, 0⟩] = [15, 0, 0, 0, 0, 0, 0, 0, 0, 0, 0, 0, 0, 0, 0, 0, 0, 0, 0, 0, 0, 0, 0, 0, 0] from by decide] at ho
    have c0 : w1.cell? ⟨g, 0, none⟩ = some (.int .u8 15) := by rw [ho.cellAt 0 (by decide)]; rfl
    have c24 : w1.cell? ⟨g, 24, none⟩ = some (.int .u8 0) := by rw [ho.cellAt 24 (by decide)]; rfl
    have hk2 := k0.trans hk
    clear ho hk hs r0 k0
    go_wp2
    go_ret
    exact ⟨rfl, hk2⟩

theorem opsB_by (xs : List OpN) (h : xs.any OpN.bad = false) : ByB (opsB xs) := by
  intro y hy
  obtain ⟨x, hx, hy⟩ := List.mem_flatMap.1 hy
  have hb : x.bad = false := by
    cases hb : x.bad with
    | false => rfl
    | true => rw [List.any_eq_true.2 ⟨x, hx, hb⟩] at h; cases h
  have hk : 0 ≤ x.k ∧ x.k ≤ 255 := by unfold OpN.bad at hb; simp at hb; omega
  rcases List.mem_cons.1 hy with rfl | hy
  · omega
  · rcases List.mem_append.1 hy with hy | hy
    · exact numB_by _ _ y hy
    · rcases List.mem_append.1 hy with hy | hy <;> exact numB_by _ _ y hy

set_option maxRecDepth 100000 in
set_option maxHeartbeats 2000000 in
theorem opsPut_law (A : Option Addr) (n cap : Nat) (xs : List OpN) (w : World) (hs : SlS opC 4 w A xs) (hn : xs.length = n) (hx : n ≤ maxLen) (hf : ∀ x ∈ xs, x.Fit) :
    Calls Try.prog 3 #[.slice A n cap] w (FixedPost w) := by
  unfold maxLen at hx
  by_cases hbig : 100 < n
  · have h1 : decide ((100 : Int) < (n : Int)) = true := by simp; omega
    go_enter Try.func3, Try.ntmps3
    go_wp2_with fail
    refine (fixed21_any w).mono ?_
    rintro e w1 ⟨rfl, hk⟩
    go_wp2
    go_ret
    exact ⟨rfl, hk⟩
  · have h1 : decide ((100 : Int) < (n : Int)) = false := by simp; omega
    have hx2 : n ≤ 100 := by omega
    have HREF := Lib.hid (fun W hs => refPut21_any A n cap xs W hs hn hx2 hf)
    go_enter Try.func3, Try.ntmps3
    go_wp2_with fail
    refine (opsPut_any A n cap xs w hs hn hx2).mono ?_
    rintro e w1 ⟨hk, ⟨hb, rfl⟩ | ⟨hb, g, c, rfl, ho⟩⟩
    · have HB := Lib.hid hb
      clear hb
      go_wp2_with fail
      refine (HREF.out w1 (hs.kept hk)).mono ?_
      rintro e w2 ⟨hk2, ⟨_, rfl⟩ | ⟨hb, _⟩⟩
      · have hcv := run_str_of (w := w2) (a := none) (bs := []) (.inl rfl) 0 0 rfl
        have heq : ((strOfNums []).toList == (strOfNums []).toList) = true := by simp
        go_wp2_with fail
        refine (opsGet_any none [] 0 w2 (by intro x hx; cases hx) (.inl rfl) (by simp) (by simp) (by simp)).mono ?_
        rintro e w3 ⟨hk3, ⟨h, _⟩ | ⟨_, a, c, rfl, _⟩⟩
        · exact absurd rfl h
        · go_wp2_with fail
          refine (fixed21_any w3).mono ?_
          rintro e w4 ⟨rfl, hk4⟩
          go_wp2
          go_ret
          exact ⟨rfl, ((hk.trans hk2).trans hk3).trans hk4⟩
      · rw [HB.out] at hb; cases hb
    · have HB := Lib.hid hb
      have HBY := Lib.hid (opsB_by xs hb)
      have HRR := Lib.hid (opsR_opsB xs hf)
      have hlen : (opsB xs).length = 25 * n := by rw [opsB_len, hn]
      have HLEN := Lib.hid hlen
      clear hb hlen
      go_wp2_with fail
      refine (HREF.out w1 (hs.kept hk)).mono ?_
      rintro e w2 ⟨hk2, ⟨hb, _⟩ | ⟨_, rfl⟩⟩
      · rw [HB.out] at hb; cases hb
      · have hgg := own_lt ho
        have ho2 : OwnB w2 w.heap.size g (25 * n) c (opsB xs) := own_kept ho hk2 (by simp)
        have hsl := Sl.of_own ho2
        have hcap := own_capB ho2
        have hcv := run_str_of hsl (25 * n) c HLEN.out
        have heq : ((strOfNums (opsB xs)).toList == (strOfNums (opsB xs)).toList) = true := by simp
        have hget := opsGet_any (some ⟨g, 0, none⟩) (opsB xs) c w2 HBY.out hsl (by rw [HLEN.out]; omega) (by rw [HLEN.out]; exact hcap.1) hcap.2
        rw [HLEN.out] at hget
        have HG := Lib.hid hget
        clear hget hcap
        go_wp2_with fail
        refine HG.out.mono ?_
        rintro e w3 ⟨hk3, ⟨h, _⟩ | ⟨_, a, c3, rfl, hsa⟩⟩
        · exact absurd (by rw [HLEN.out]; omega) h
        · have hd : (opsB xs).length / 25 = n := by rw [HLEN.out]; omega
          rw [hd] at hsa ⊢
          have e0 := HRR.out
          rw [hn] at e0
          rw [e0] at hsa
          clear hd e0
          go_wp2_with fail
          refine (fixed21_any w3).mono ?_
          rintro e w4 ⟨rfl, hk4⟩
          have hk14 := ((hk.trans hk2).trans hk3).trans hk4
          go_wp2_with fail
          refine (refSame21_yes a A n n c3 cap xs w4 (hsa.kept hk4) (hs.kept hk14) hn hn (by omega)).mono ?_
          rintro e w5 ⟨rfl, hk5⟩
          go_wp2
          go_ret
          exact ⟨rfl, hk14.trans hk5⟩

set_option maxRecDepth 100000 in
set_option maxHeartbeats 2000000 in
theorem opsGet_law (A : Option Addr) (bs : List Int) (cap : Nat) (w : World) (hs : Sl w .u8 A bs) (hb : ByB bs) (hx : bs.length ≤ maxLen) (hc : bs.length ≤ cap) (hcm : cap ≤ maxLen) :
    Calls Try.prog 4 #[.slice A bs.length cap] w (FixedPost w) := by
  unfold maxLen at hx
  obtain ⟨N, hN⟩ : ∃ N, bs.length = N := ⟨_, rfl⟩
  by_cases hbig : 2500 < N
  · rw [hN] at hx ⊢
    have h1 : decide ((2500 : Int) < (N : Int)) = true := by simp; omega
    go_enter Try.func4, Try.ntmps4
    go_wp2_with fail
    refine (fixed21_any w).mono ?_
    rintro e w1 ⟨rfl, hk⟩
    go_wp2
    go_ret
    exact ⟨rfl, hk⟩
  · have h1 : decide ((2500 : Int) < (N : Int)) = false := by simp; omega
    have hget := opsGet_any A bs cap w hb hs (by omega) hc hcm
    have href := fun W => refGet21_any bs W hb (by omega)
    have hcv := fun W (hk : Kept [] w W) => run_str_of (hs.kept hk) N cap hN
    rw [hN] at hget hx ⊢
    have HG := Lib.hid hget
    have HREF := Lib.hid href
    have HCV := Lib.hid hcv
    have HN := Lib.hid hN
    clear hget href hcv hN
    go_enter Try.func4, Try.ntmps4
    go_wp2_with fail
    refine HG.out.mono ?_
    rintro e w1 ⟨hk1, ⟨h25, rfl⟩ | ⟨h25, a, c, rfl, hsa⟩⟩
    · have H25 := Lib.hid h25
      clear h25
      have hcv := HCV.out w1 hk1
      go_wp2_with fail
      refine (HREF.out w1).mono ?_
      rintro e w2 ⟨hk2, ⟨_, a, c, rfl⟩ | ⟨h, _⟩⟩
      · clear hcv
        go_wp2_with fail
        refine (refSame21_yes none a 0 0 0 c [] w2 (.inl rfl) (.inl rfl) rfl rfl (by omega)).mono ?_
        rintro e w3 ⟨rfl, hk3⟩
        go_wp2_with fail
        refine (opsPut_any none 0 0 [] w3 (.inl rfl) rfl (by omega)).mono ?_
        rintro e w4 ⟨hk4, ⟨hb, _⟩ | ⟨_, g, c4, rfl, _⟩⟩
        · cases hb
        · go_wp2_with fail
          refine (fixed21_any w4).mono ?_
          rintro e w5 ⟨rfl, hk5⟩
          go_wp2
          go_ret
          exact ⟨rfl, (((hk1.trans hk2).trans hk3).trans hk4).trans hk5⟩
      · exact absurd h H25.out
    · have H25 := Lib.hid h25
      clear h25
      have hcv := HCV.out w1 hk1
      go_wp2_with fail
      refine (HREF.out w1).mono ?_
      rintro e w2 ⟨hk2, ⟨h, _⟩ | ⟨_, a2, c2, rfl, hsa2⟩⟩
      · exact absurd H25.out h
      · clear hcv
        have hbad : (opsR bs (bs.length / 25)).any OpN.bad = false := by
          rw [List.any_eq_false]
          intro x hx
          obtain ⟨i, _, rfl⟩ := List.mem_map.1 hx
          rw [opR_good bs _ hb]; decide
        have HBAD := Lib.hid hbad
        have HBACK : Hid (opsB (opsR bs (bs.length / 25)) = bs) := by
          show _ = _
          have := H25.out
          rw [opsB_opsR bs hb _ (by omega), List.take_of_length_le (by omega)]
        have hlenR := opsR_len bs (bs.length / 25)
        have hsa1 := hsa.kept hk2
        have h25k : 25 * (bs.length / 25) = N := by have := H25.out; have := HN.out; omega
        have hkb : bs.length / 25 ≤ 100 := by have := HN.out; omega
        generalize opsR bs (bs.length / 25) = xs at hsa1 hsa2 HBAD HBACK hlenR
        generalize bs.length / 25 = k at hlenR h25k hkb ⊢
        have H25K := Lib.hid h25k
        clear hbad hsa h25k
        go_wp2_with fail
        refine (refSame21_yes a a2 k k c c2 xs w2 hsa1 hsa2 hlenR hlenR (by omega)).mono ?_
        rintro e w3 ⟨rfl, hk3⟩
        go_wp2_with fail
        refine (opsPut_any a k c xs w3 (hsa1.kept hk3) hlenR hkb).mono ?_
        rintro e w4 ⟨hk4, ⟨hb', _⟩ | ⟨_, g, c4, rfl, ho⟩⟩
        · rw [HBAD.out] at hb'; cases hb'
        · rw [HBACK.out, H25K.out] at ho
          rw [H25K.out]
          have hk14 := ((hk1.trans hk2).trans hk3).trans hk4
          go_wp2_with fail
          refine (fixed21_any w4).mono ?_
          rintro e w5 ⟨rfl, hk5⟩
          have ho5 : OwnB w5 w3.heap.size g N c4 bs := own_kept ho hk5 (by simp)
          have hcv1 := run_str_of (Sl.of_own ho5) N c4 HN.out
          have hcv2 := HCV.out w5 (hk14.trans hk5)
          have heq : ((strOfNums bs).toList == (strOfNums bs).toList) = true := by simp
          go_wp2
          go_ret
          exact ⟨rfl, hk14.trans hk5⟩
end Go.Proofs.Ytpeekhlccjoioaa
