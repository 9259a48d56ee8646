/- The law FramesBack: its walk. -/
import Derived.Test.YtljpmckbkpoikaaFramesFixed
import Derived.Test.YtljpmckbkpoikaaFramesActs
namespace Go.Proofs.Ytljpmckbkpoikaa
open Go.RowKit

set_option maxRecDepth 100000 in
set_option maxHeartbeats 2000000 in
theorem framesBack_big (a0 : Option Addr) (len cap n : Nat) (w : World) (hl : 100 < len) (hm : len ≤ maxLen) :
    Calls Try.prog 4 #[.slice a0 len cap, .int .u8 n] w (FixedPost w) := by
  unfold maxLen at hm
  go_enter Try.func4, Try.ntmps4
  go_wp2_with fail
  refine (fixed17_any _).mono ?_
  rintro e w5 ⟨rfl, kw5⟩
  go_wp2
  go_ret
  exact ⟨rfl, kw5⟩

set_option maxRecDepth 100000 in
set_option maxHeartbeats 8000000 in
theorem framesBack_any (a0 : Option Addr) (cap n : Nat) (l : List (Int × Nat × Nat)) (w : World) (hs : SlActF w a0 l) (hl : l.length ≤ 100) (hn : n < 256) :
    Calls Try.prog 4 #[.slice a0 l.length cap, .int .u8 n] w (FixedPost w) := by
  have h100 : decide ((100 : Int) < l.length) = false := by simp; omega
  go_enter Try.func4, Try.ntmps4
  go_wp2_with fail
  refine (stackNew_any w).mono ?_
  rintro e w1 ⟨b, rfl, hb, hm1, hk1⟩
  go_wp2_with fail
  go_loopw [29] (fun i wr => ∃ (j : Nat) (v : Value) (fs : List (List Int)), j ≤ l.length ∧ i = .int .i64 j ∧ IsStack wr b v fs ∧ GoesF b (.slice none 0 0) w1 v wr) (fun i _ => l.length - (intOf i).toNat)
  case atStart => exact ⟨0, _, [], Nat.zero_le _, rfl, hm1, GoesF.refl _ _ _⟩
  case round =>
    clear hm1
    obtain ⟨j, v, fs, hj, rfl, hmr, hgr⟩ := hrel
    have kWr := kept_of_goes hk1 hb hgr
    by_cases hlt : j < l.length
    · obtain ⟨ab, off, k, x, y, rfl, hbl, c0, c1, c2⟩ := (hs.kept kWr).cell hlt
      have rB := Row.new wr 29 [.int .i64 k, .int .u64 x, .int .u64 y]
      have kA := (Kept.refl [] wr).alloc (.cells #[.int .i64 k, .int .u64 x, .int .u64 y] 29)
      have hmA := hmr.kept kA
      have HGA := Lib.hid (hgr.trans (GoesF.of_kept kA))
      clear hmr hgr kA
      rcases (show k = 0 ∨ k = 1 ∨ k = 2 ∨ (¬k = 0 ∧ ¬k = 1 ∧ ¬k = 2) from by omega) with rfl | rfl | rfl | ⟨n0, n1, n2⟩
      · go_wp2_with fail
        refine (stackPush_any b x v fs _ hmA).mono ?_
        rintro e w3 ⟨v3, rfl, hm3, g3⟩
        go_wp2
        go_roundw
        case rel => exact ⟨j + 1, v3, _, by omega, by go_num, hm3, HGA.out.trans g3⟩
        case measure => simp [intOf]; omega
      · go_wp2_with fail
        refine (stackPop_any b v fs _ hmA).mono ?_
        rintro e w3 ⟨u3, v3, rfl, _, hm3, g3, _⟩
        go_wp2
        go_roundw
        case rel => exact ⟨j + 1, v3, _, by omega, by go_num, hm3, HGA.out.trans g3⟩
        case measure => simp [intOf]; omega
      · go_wp2_with fail
        refine (stackSet_any b v fs x y _ hmA).mono ?_
        rintro e w3 ⟨rfl, hm3, k3⟩
        go_wp2
        go_roundw
        case rel => exact ⟨j + 1, v, _, by omega, by go_num, hm3, HGA.out.trans (GoesF.of_set k3)⟩
        case measure => simp [intOf]; omega
      · have e0 : (k == 0) = false := by rw [beq_eq_false_iff_ne]; exact n0
        have e1 : (k == 1) = false := by rw [beq_eq_false_iff_ne]; exact n1
        have e2 : (k == 2) = false := by rw [beq_eq_false_iff_ne]; exact n2
        go_wp2
        go_roundw
        case rel => exact ⟨j + 1, v, fs, by omega, by go_num, hmA, HGA.out⟩
        case measure => simp [intOf]; omega
    · obtain rfl : j = l.length := by omega
      have hfl := hmr.small.flat
      have HTT := Lib.hid (show totF fs ≤ 1024 from hfl.2)
      clear hfl
      go_wp2_with fail
      refine (stackAll_any b v fs wr hmr).mono ?_
      rintro e w2 ⟨r, capW, rfl, hownW, k2⟩
      have hm2 := hmr.kept k2
      have HW := Lib.hid (Sl.of_own hownW)
      have HRN := Lib.hid (show r ∉ b :: v.ownBlock.toList from fun hm => by have := hmr.footLt r hm; have := own_ge hownW; omega)
      have HGW := Lib.hid (hgr.trans (GoesF.of_kept k2))
      clear hmr hownW hgr k2 kWr
      go_wp2_with fail
      refine (stackDepth_any b v fs w2 hm2).mono ?_
      rintro e w3 ⟨rfl, rfl⟩
      obtain ⟨N, hN⟩ : ∃ N, n % 5 = N := ⟨_, rfl⟩
      have hN5 : N < 5 := by omega
      have hwn : IntKind.i64.wrap (n : Int) = (n : Int) := IntWalk.i64_in _ (by omega)
      have hrem : (n : Int).tmod 5 = (N : Int) := by rw [← hN]; exact (Int.ofNat_tmod n 5).symm
      have hwN : IntKind.i64.wrap (N : Int) = (N : Int) := IntWalk.i64_in _ (by omega)
      have HN := Lib.hid hN
      clear hN
      go_wp2_with fail
      go_loopw [10, 61] (fun p i wq => ∃ (q : Nat) (v' : Value) (gs : List (List Int)), q ≤ N ∧ p = .int .i64 q ∧ i = .int .i64 q ∧ gs.length + 0 = q ∧ IsStack wq b v' (fs ++ gs) ∧ GoesF b v w2 v' wq) (fun _ i _ => N - (intOf i).toNat)
      case atStart => exact ⟨0, v, [], Nat.zero_le _, rfl, rfl, rfl, by rw [List.append_nil]; exact hm2, GoesF.refl _ _ _⟩
      case round =>
        clear hm2
        obtain ⟨q, v', gs, hq, rfl, rfl, hgl, hmq, hgq⟩ := hrel
        have HGL := Lib.hid hgl
        have HMQ := Lib.hid hmq
        have HGQ := Lib.hid hgq
        have hwq : IntKind.u64.wrap (q : Int) = (q : Int) := by rw [IntKind.wrap_u64]; omega
        clear hgl
        by_cases hqn : q < N
        · by_cases hfull : 63 < (fs ++ gs).length
          · have h64 : (fs ++ gs).length = 64 := by have := hmq.small.few; omega
            clear hfull
            go_wp2_with fail
            refine (stackPush_full b q v' (fs ++ gs) wr hmq (by omega) h64).mono ?_
            rintro e w3 ⟨rfl, rfl⟩
            clear h64 hmq hgq
            go_wp2_with fail
            go_loopw [110] (fun i wq => ∃ (p : Nat) (v5 : Value) (hs5 : List (List Int)), p ≤ q ∧ i = .int .i64 p ∧ hs5.length + p = q ∧ IsStack wq b v5 (fs ++ hs5) ∧ GoesF b v w2 v5 wq) (fun i _ => q - (intOf i).toNat)
            case atStart => exact ⟨0, v', gs, Nat.zero_le _, rfl, HGL.out, HMQ.out, HGQ.out⟩
            case round =>
              obtain ⟨p, v5, hs5, hp, rfl, hsl, hm5, hg5⟩ := hrel
              by_cases hpn : p < q
              · rcases snoc_cases hs5 with rfl | ⟨ts, f, rfl⟩
                · rw [List.length_nil] at hsl
                  exact absurd hsl (by omega)
                · rw [← List.append_assoc] at hm5
                  rw [List.length_append, List.length_singleton] at hsl
                  have HSL := Lib.hid hsl
                  clear hsl
                  go_wp2_with fail
                  refine (stackPop_any b v5 _ wr hm5).mono ?_
                  rintro e w6 ⟨u6, v6, rfl, _, hm6, g6, _⟩
                  rw [popE_snoc]
                  rw [show (fs ++ ts ++ [f]).dropLast = fs ++ ts from by simp] at hm6
                  go_wp2
                  go_roundw
                  case rel => exact ⟨p + 1, v6, ts, by omega, by go_num, by have := HSL.out; omega, hm6, hg5.trans g6⟩
                  case measure => simp [intOf]; omega
              · obtain rfl : p = q := by omega
                obtain rfl : hs5 = [] := List.eq_nil_of_length_eq_zero (by omega)
                rw [List.append_nil] at hm5
                have HG5 := Lib.hid hg5
                clear hsl hg5
                go_wp2_with fail
                refine (fixed17_any wr).mono ?_
                rintro e w6 ⟨rfl, k6⟩
                have hm6 := hm5.kept k6
                go_wp2_with fail
                refine (stackDepth_any b v5 fs w6 hm6).mono ?_
                rintro e w7 ⟨rfl, rfl⟩
                go_wp2_with fail
                refine (stackAll_any b v5 fs w6 hm6).mono ?_
                rintro e w8 ⟨r8, cap8, rfl, hown8, k8⟩
                have k28 : Kept (b :: v.ownBlock.toList) w2 w8 := (HG5.out.kept.trans k6.any).trans k8.any
                have hw8 := HW.out.keptS k28 (fun bb off e => by cases e; exact HRN.out)
                have KK := Lib.hid ((kept_of_goes hk1 hb (HGW.out.trans HG5.out)).trans (k6.trans k8))
                go_wp2_with fail
                refine (refSame01_yes _ _ (totF fs) (totF fs) cap8 capW (allF fs) w8 (Sl.of_own hown8) hw8 rfl rfl (by have := HTT.out; omega)).mono ?_
                rintro e w9 ⟨rfl, k9⟩
                go_wp2
                go_ret
                exact ⟨rfl, KK.out.trans k9⟩
          · have h63 : (fs ++ gs).length < 64 := by omega
            clear hfull
            go_wp2_with fail
            refine (stackPush_ok b q v' (fs ++ gs) wr hmq (by omega) h63).mono ?_
            rintro e w3 ⟨v3, rfl, hm3, g3⟩
            have hgq3 := hgq.trans g3
            clear hmq hgq g3 h63
            go_wp2_with fail
            refine (stackAll_any b v3 _ w3 hm3).mono ?_
            rintro e w4 ⟨r4, cap4, rfl, hown4, k4⟩
            have hm4 := hm3.kept k4
            have HG4 := Lib.hid (hgq3.trans (GoesF.of_kept k4))
            have hfl : totF (fs ++ gs ++ [List.replicate q 0]) ≤ 1024 := hm3.small.flat.2
            rw [totF_snoc, List.length_replicate] at hfl
            rw [totF_snoc, allF_snoc, List.length_replicate] at hown4
            rw [totF_snoc, List.length_replicate]
            obtain ⟨T, hT⟩ : ∃ T, totF (fs ++ gs) = T := ⟨_, rfl⟩
            rw [hT] at hfl hown4 ⊢
            obtain ⟨L, hL⟩ : ∃ L, T + q = L := ⟨_, rfl⟩
            rw [hL] at hfl hown4 ⊢
            have HT := Lib.hid hT
            have hcap4 := own_cap hown4
            have HLT := Lib.hid (own_lt hown4)
            have HZ := Lib.hid (fun (k : Nat) (hk : k < q) => (show w4.cell? ⟨r4, T + k, none⟩ = some (.int .u64 0) from by
              rw [hown4.cellAt (T + k) (by omega), List.getElem?_map, List.getElem?_append_right (by rw [allF_length, hT]; omega), allF_length, hT, Nat.add_sub_cancel_left, List.getElem?_replicate, if_pos hk]
              rfl))
            clear hm3 hgq3 hT hown4 k4
            rcases (show (T = 0 ∧ L = q) ∨ (0 < T ∧ L = T ∧ q = 0 ∧ cap4 = T) ∨ (0 < T ∧ q < L ∧ ¬ cap4 = T) from by omega) with ⟨rfl, rfl⟩ | ⟨hT0, rfl, rfl, rfl⟩ | ⟨hT0, hqL, hcT⟩
            · have hx : ∀ k, k < L → w4.cell? ⟨r4, k, none⟩ = some (.int .u64 0) := fun k hk => by
                have := HZ.out k hk
                rwa [Nat.zero_add] at this
              clear hL
              go_wp2_with fail
              go_loopw [83] (fun i wq => ∃ k : Nat, k ≤ L ∧ i = .int .i64 k ∧ Kept [] w4 wq) (fun i _ => L - (intOf i).toNat)
              case atStart => exact ⟨0, Nat.zero_le _, rfl, Kept.refl _ _⟩
              case round =>
                obtain ⟨k, hk, rfl, hkk⟩ := hrel
                by_cases hkq : k < L
                · have ck : wr.cell? ⟨r4, k, none⟩ = some (.int .u64 0) := (World.cell?_of_block (w := w4) (a := ⟨r4, k, none⟩) (hkk.block r4 HLT.out (by simp))).trans (hx k hkq)
                  go_wp2
                  go_roundw
                  case rel => exact ⟨k + 1, by omega, by go_num, hkk⟩
                  case measure => simp [intOf]; omega
                · have hm5 := hm4.kept hkk
                  have HG5 := Lib.hid (HG4.out.trans (GoesF.of_kept hkk))
                  have HRL := Lib.hid hm5
                  clear hm4 hkk hm5
                  go_wp2_with fail
                  go_loopw [91] (fun i wq => ∃ (k : Nat) (f : List Int), k ≤ L ∧ i = .int .i64 k ∧ f.length + 0 = L ∧ (∀ j, k ≤ j → f[j]?.getD 0 = 0) ∧ IsStack wq b v3 (fs ++ gs ++ [f]) ∧ GoesF b v w2 v3 wq) (fun i _ => L - (intOf i).toNat)
                  case atStart => exact ⟨0, List.replicate L 0, Nat.zero_le _, rfl, by simp, fun j _ => by rw [List.getElem?_replicate]; split <;> rfl, HRL.out, HG5.out⟩
                  case round =>
                    obtain ⟨m, f, hm, rfl, hfl, hz, hm6, hg6⟩ := hrel
                    have HFL := Lib.hid hfl
                    have HZF := Lib.hid hz
                    have HG6 := Lib.hid hg6
                    clear hfl hz hg6
                    by_cases hmq : m < L
                    · have hwm : IntKind.u64.wrap (m : Int) = (m : Int) := by rw [IntKind.wrap_u64]; omega
                      go_wp2_with fail
                      refine (stackSet_any b v3 _ m 5 wr hm6).mono ?_
                      rintro e w7 ⟨rfl, hm7, k7⟩
                      rw [topF_snoc, getE_snoc, HZF.out m (Nat.le_refl _), show slotB f.length m = true from by (have := HFL.out; simp [slotB]; omega), show errB true = 0 from rfl]
                      rw [setF_snoc] at hm7
                      go_wp2
                      go_roundw
                      case rel => exact ⟨m + 1, f.set m 5, by omega, by go_num, by rw [List.length_set]; exact HFL.out, fun j hj => by rw [List.getElem?_set_ne (by omega)]; exact HZF.out j (by omega), hm7, HG6.out.trans (GoesF.of_set k7)⟩
                      case measure => simp [intOf]; omega
                    · have HM6 := Lib.hid hm6
                      clear hm6
                      go_wp2
                      go_roundw
                      case rel => exact ⟨L + 1, v3, gs ++ [f], by omega, by go_num, by go_num, by rw [List.length_append, List.length_singleton]; have := HGL.out; omega, by rw [← List.append_assoc]; exact HM6.out, HG6.out⟩
                      case measure => simp [intOf]; omega
            · clear hL
              go_wp2_with fail
              go_loopw [83] (fun i wq => ∃ k : Nat, k ≤ 0 ∧ i = .int .i64 k ∧ Kept [] w4 wq) (fun i _ => 0 - (intOf i).toNat)
              case atStart => exact ⟨0, Nat.zero_le _, rfl, Kept.refl _ _⟩
              case round =>
                obtain ⟨k, hk, rfl, hkk⟩ := hrel
                by_cases hkq : k < 0
                · exact absurd hkq (Nat.not_lt_zero _)
                · have hm5 := hm4.kept hkk
                  have HG5 := Lib.hid (HG4.out.trans (GoesF.of_kept hkk))
                  have HRL := Lib.hid hm5
                  obtain rfl : k = 0 := by omega
                  clear hm4 hkk hm5
                  go_wp2_with fail
                  go_loopw [91] (fun i wq => ∃ (k : Nat) (f : List Int), k ≤ 0 ∧ i = .int .i64 k ∧ f.length + 0 = 0 ∧ (∀ j, k ≤ j → f[j]?.getD 0 = 0) ∧ IsStack wq b v3 (fs ++ gs ++ [f]) ∧ GoesF b v w2 v3 wq) (fun i _ => 0 - (intOf i).toNat)
                  case atStart => exact ⟨0, List.replicate 0 0, Nat.zero_le _, rfl, by simp, fun j _ => by rw [List.getElem?_replicate]; split <;> rfl, HRL.out, HG5.out⟩
                  case round =>
                    obtain ⟨m, f, hm, rfl, hfl, hz, hm6, hg6⟩ := hrel
                    have HFL := Lib.hid hfl
                    have HZF := Lib.hid hz
                    have HG6 := Lib.hid hg6
                    clear hfl hz hg6
                    by_cases hmq : m < 0
                    · exact absurd hmq (Nat.not_lt_zero _)
                    · obtain rfl : m = 0 := by omega
                      have HM6 := Lib.hid hm6
                      clear hm6
                      go_wp2
                      go_roundw
                      case rel => exact ⟨0 + 1, v3, gs ++ [f], by omega, by go_num, by go_num, by rw [List.length_append, List.length_singleton]; have := HGL.out; omega, by rw [← List.append_assoc]; exact HM6.out, HG6.out⟩
                      case measure => simp [intOf]; omega
            · have hwL : IntKind.i64.wrap ((L : Int) - (q : Int)) = (T : Int) := by rw [IntWalk.i64_in _ (by omega)]; omega
              have hLT : L - T = q := by omega
              have hTL : (T : Int) ≤ (L : Int) := by omega
              have HL := Lib.hid hL
              clear hL
              go_wp2_with fail
              go_loopw [83] (fun i wq => ∃ k : Nat, k ≤ q ∧ i = .int .i64 k ∧ Kept [] w4 wq) (fun i _ => q - (intOf i).toNat)
              case atStart => exact ⟨0, Nat.zero_le _, rfl, Kept.refl _ _⟩
              case round =>
                obtain ⟨k, hk, rfl, hkk⟩ := hrel
                by_cases hkq : k < q
                · have ck : wr.cell? ⟨r4, T + k, none⟩ = some (.int .u64 0) := (World.cell?_of_block (w := w4) (a := ⟨r4, T + k, none⟩) (hkk.block r4 HLT.out (by simp))).trans (HZ.out k hkq)
                  go_wp2
                  go_roundw
                  case rel => exact ⟨k + 1, by omega, by go_num, hkk⟩
                  case measure => simp [intOf]; omega
                · have hm5 := hm4.kept hkk
                  have HG5 := Lib.hid (HG4.out.trans (GoesF.of_kept hkk))
                  have HRL := Lib.hid hm5
                  clear hm4 hkk hm5
                  go_wp2_with fail
                  go_loopw [91] (fun i wq => ∃ (k : Nat) (f : List Int), k ≤ q ∧ i = .int .i64 k ∧ f.length + 0 = q ∧ (∀ j, k ≤ j → f[j]?.getD 0 = 0) ∧ IsStack wq b v3 (fs ++ gs ++ [f]) ∧ GoesF b v w2 v3 wq) (fun i _ => q - (intOf i).toNat)
                  case atStart => exact ⟨0, List.replicate q 0, Nat.zero_le _, rfl, by simp, fun j _ => by rw [List.getElem?_replicate]; split <;> rfl, HRL.out, HG5.out⟩
                  case round =>
                    obtain ⟨m, f, hm, rfl, hfl, hz, hm6, hg6⟩ := hrel
                    have HFL := Lib.hid hfl
                    have HZF := Lib.hid hz
                    have HG6 := Lib.hid hg6
                    clear hfl hz hg6
                    by_cases hmq : m < q
                    · have hwm : IntKind.u64.wrap (m : Int) = (m : Int) := by rw [IntKind.wrap_u64]; omega
                      go_wp2_with fail
                      refine (stackSet_any b v3 _ m 5 wr hm6).mono ?_
                      rintro e w7 ⟨rfl, hm7, k7⟩
                      rw [topF_snoc, getE_snoc, HZF.out m (Nat.le_refl _), show slotB f.length m = true from by (have := HFL.out; simp [slotB]; omega), show errB true = 0 from rfl]
                      rw [setF_snoc] at hm7
                      go_wp2
                      go_roundw
                      case rel => exact ⟨m + 1, f.set m 5, by omega, by go_num, by rw [List.length_set]; exact HFL.out, fun j hj => by rw [List.getElem?_set_ne (by omega)]; exact HZF.out j (by omega), hm7, HG6.out.trans (GoesF.of_set k7)⟩
                      case measure => simp [intOf]; omega
                    · have HM6 := Lib.hid hm6
                      clear hm6
                      go_wp2
                      go_roundw
                      case rel => exact ⟨q + 1, v3, gs ++ [f], by omega, by go_num, by go_num, by rw [List.length_append, List.length_singleton]; have := HGL.out; omega, by rw [← List.append_assoc]; exact HM6.out, HG6.out⟩
                      case measure => simp [intOf]; omega
        · obtain rfl : q = N := by omega
          clear hmq hgq
          go_wp2_with fail
          go_loopw [110] (fun i wq => ∃ (p : Nat) (v5 : Value) (hs5 : List (List Int)), p ≤ q ∧ i = .int .i64 p ∧ hs5.length + p = q ∧ IsStack wq b v5 (fs ++ hs5) ∧ GoesF b v w2 v5 wq) (fun i _ => q - (intOf i).toNat)
          case atStart => exact ⟨0, v', gs, Nat.zero_le _, rfl, HGL.out, HMQ.out, HGQ.out⟩
          case round =>
            obtain ⟨p, v5, hs5, hp, rfl, hsl, hm5, hg5⟩ := hrel
            by_cases hpn : p < q
            · rcases snoc_cases hs5 with rfl | ⟨ts, f, rfl⟩
              · rw [List.length_nil] at hsl
                exact absurd hsl (by omega)
              · rw [← List.append_assoc] at hm5
                rw [List.length_append, List.length_singleton] at hsl
                have HSL := Lib.hid hsl
                clear hsl
                go_wp2_with fail
                refine (stackPop_any b v5 _ wr hm5).mono ?_
                rintro e w6 ⟨u6, v6, rfl, _, hm6, g6, _⟩
                rw [popE_snoc]
                rw [show (fs ++ ts ++ [f]).dropLast = fs ++ ts from by simp] at hm6
                go_wp2
                go_roundw
                case rel => exact ⟨p + 1, v6, ts, by omega, by go_num, by have := HSL.out; omega, hm6, hg5.trans g6⟩
                case measure => simp [intOf]; omega
            · obtain rfl : p = q := by omega
              obtain rfl : hs5 = [] := List.eq_nil_of_length_eq_zero (by omega)
              rw [List.append_nil] at hm5
              have HG5 := Lib.hid hg5
              clear hsl hg5
              go_wp2_with fail
              refine (fixed17_any wr).mono ?_
              rintro e w6 ⟨rfl, k6⟩
              have hm6 := hm5.kept k6
              go_wp2_with fail
              refine (stackDepth_any b v5 fs w6 hm6).mono ?_
              rintro e w7 ⟨rfl, rfl⟩
              go_wp2_with fail
              refine (stackAll_any b v5 fs w6 hm6).mono ?_
              rintro e w8 ⟨r8, cap8, rfl, hown8, k8⟩
              have k28 : Kept (b :: v.ownBlock.toList) w2 w8 := (HG5.out.kept.trans k6.any).trans k8.any
              have hw8 := HW.out.keptS k28 (fun bb off e => by cases e; exact HRN.out)
              have KK := Lib.hid ((kept_of_goes hk1 hb (HGW.out.trans HG5.out)).trans (k6.trans k8))
              go_wp2_with fail
              refine (refSame01_yes _ _ (totF fs) (totF fs) cap8 capW (allF fs) w8 (Sl.of_own hown8) hw8 rfl rfl (by have := HTT.out; omega)).mono ?_
              rintro e w9 ⟨rfl, k9⟩
              go_wp2
              go_ret
              exact ⟨rfl, KK.out.trans k9⟩
end Go.Proofs.Ytljpmckbkpoikaa
