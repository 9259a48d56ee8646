/- The law FramesPlay: its walk. -/
import Derived.Test.YtljpmckbkpoikaaFramesApart
import Derived.Test.YtljpmckbkpoikaaFramesActs
namespace Go.Proofs.Ytljpmckbkpoikaa
open Go.RowKit

set_option maxRecDepth 100000 in
set_option maxHeartbeats 2000000 in
theorem framesPlay_big (a0 : Option Addr) (len cap i : Nat) (w : World) (hl : 100 < len) (hm : len ≤ maxLen) :
    Calls Try.prog 3 #[.slice a0 len cap, .int .u64 i] w (FixedPost w) := by
  unfold maxLen at hm
  go_enter Try.func3, Try.ntmps3
  go_wp2_with fail
  refine (fixed17_any _).mono ?_
  rintro e w5 ⟨rfl, kw5⟩
  go_wp2
  go_ret
  exact ⟨rfl, kw5⟩

set_option maxRecDepth 100000 in
set_option maxHeartbeats 16000000 in
theorem framesPlay_any (a0 : Option Addr) (cap i : Nat) (l : List (Int × Nat × Nat)) (w : World) (hs : SlActF w a0 l) (hl : l.length ≤ 100) :
    Calls Try.prog 3 #[.slice a0 l.length cap, .int .u64 i] w (FixedPost w) := by
  have h100 : decide ((100 : Int) < l.length) = false := by simp; omega
  go_enter Try.func3, Try.ntmps3
  go_wp2_with fail
  refine (stackNew_any w).mono ?_
  rintro e w1 ⟨b, rfl, hb, hm1, hk1⟩
  have kE := (Kept.refl [] w1).alloc (.cells #[] 31)
  have hmE := hm1.kept kE
  have KE := Lib.hid (hk1.trans kE)
  have hrE := RefFr.nil (w1.alloc (.cells #[] 31)) (fun k => k ∉ turfF b (.slice none 0 0) (.slice none 0 0)) (some ⟨w1.heap.size, 0, none⟩)
  have hfar : FarF w.heap.size b (.slice none 0 0) := fun j hj => by simp [Value.ownBlock] at hj; omega
  clear hm1 kE hk1
  go_wp2_with fail
  go_loopw [6, 32] (fun x i wr => ∃ (j : Nat) (v : Value) (fs : List (List Int)) (A : Option Addr) (cp : Nat) (vs : List Value), j ≤ l.length ∧ x = .slice A fs.length cp ∧ i = .int .i64 j ∧ fs.length ≤ cp ∧ IsStack wr b v fs ∧ RefFr wr (fun k => k ∉ turfF b v (.slice none 0 0)) A vs fs ∧ FarF w.heap.size b v ∧ Kept [] w wr) (fun _ i _ => l.length - (intOf i).toNat)
  case atStart => exact ⟨0, _, [], some ⟨w1.heap.size, 0, none⟩, 0, [], Nat.zero_le _, rfl, rfl, Nat.zero_le _, hmE, hrE, hfar, KE.out⟩
  case round =>
    clear hmE hrE hfar KE
    obtain ⟨j, v, fs, A, cp, vs, hj, rfl, rfl, hcp, hmr, hrr, hfar, kWr⟩ := hrel
    have hszr := kWr.size
    by_cases hlt : j < l.length
    · obtain ⟨ab, off, k, x, y, rfl, hbl, c0, c1, c2⟩ := (hs.kept kWr).cell hlt
      have rB := Row.new wr 29 [.int .i64 k, .int .u64 x, .int .u64 y]
      have kA := (Kept.refl [] wr).alloc (.cells #[.int .i64 k, .int .u64 x, .int .u64 y] 29)
      have hmA := hmr.kept kA
      have hrA := hrr.kept kA
      have HCB := Lib.hid (fun hm => absurd (hmr.footLt wr.heap.size hm) (Nat.lt_irrefl _) : wr.heap.size ∉ b :: v.ownBlock.toList)
      have KWA := Lib.hid (kWr.trans kA)
      have HFA := Lib.hid hfar
      have HCP0 := Lib.hid hcp
      have hszA : w.heap.size ≤ (wr.alloc (.cells #[.int .i64 k, .int .u64 x, .int .u64 y] 29)).heap.size := by simp; omega
      clear hmr hrr kA kWr hfar hcp
      rcases (show k = 0 ∨ k = 1 ∨ k = 2 ∨ (¬k = 0 ∧ ¬k = 1 ∧ ¬k = 2) from by omega) with rfl | rfl | rfl | ⟨n0, n1, n2⟩
      · go_wp2_with fail
        generalize wr.alloc (.cells #[.int .i64 0, .int .u64 x, .int .u64 y] 29) = wa at rB hmA hrA KWA hszA ⊢
        obtain ⟨C, hC⟩ : ∃ C, wr.heap.size = C := ⟨_, rfl⟩
        rw [hC] at rB HCB hszr ⊢
        clear hC c0 c1 c2
        refine (stackPush_any b x v fs wa hmA).mono ?_
        rintro e w3 ⟨v3, rfl, hm3, g3⟩
        have rB3 := rB.kept g3.kept HCB.out
        have d1 : w3.cell? ⟨C, 1, none⟩ = some (.int .u64 x) := by simpa using rB3.cell 1
        have hr3 : RefFr w3 (fun k => k ∉ turfF b v3 (.slice none 0 0)) A vs fs := hrA.goes g3 (u := .slice none 0 0) (fun j hj => by cases hj) (fun _ h => h)
        have HFAR := Lib.hid (HFA.out.goes g3 hszA)
        have KW3 := Lib.hid (HFA.out.kept KWA.out g3)
        clear hmA hrA g3 rB rB3
        go_wp2_with fail
        refine (refPush17_any _ A cp x vs fs w3 hr3 HCP0.out).mono ?_
        rintro e w4 ⟨A4, cp4, vs4, rfl, hr4', hcp4, k4⟩
        have hm4 := hm3.kept k4
        have hr4 := hr4'.back (hm3.turfLt (u := .slice none 0 0) (fun j hj => by cases hj))
        have HCP := Lib.hid hcp4
        have KW4 := Lib.hid (KW3.out.trans k4)
        have hu : w4.ownsRow w4.heap.size 23 1 (.slice none 0 0) 0 (([] : List Int).map (Value.int .u64)) := World.ownsRow_nil _ _ _ _
        have hl4 : Sl w4 .u64 none [] := .inl rfl
        clear hm3 hr3 hr4' hcp4 k4 d1
        generalize pushE fs x = er
        generalize pushF fs x = fs3 at hm4 hr4 HCP ⊢
        go_wp2_with fail
        refine (stackAll_any b v3 fs3 w4 hm4).mono ?_
        rintro e w5 ⟨r, capr, rfl, hown, k5⟩
        have hm5 := hm4.kept k5
        have hr4x : RefFr w4 (fun k => k ∉ turfF b v3 (.slice none 0 0) ∧ k < w4.heap.size) A4 vs4 fs3 := hr4.mono (fun k hk hn => ⟨hn, hk⟩)
        have hr5 := hr4x.kept k5
        have hu5 := own_keptV hu k5 (by simp)
        have hl5 := hl4.kept k5
        have hrge := own_ge hown
        have hrn : r ∉ turfF b v3 (.slice none 0 0) := fun hm => by have := hm4.turfLt (fun j hj => (own_blockF hu j hj).2) r hm; omega
        have HRN := Lib.hid hrn
        have KW5 := Lib.hid (KW4.out.trans k5)
        clear hm4 hr4 hr4x hu hl4 hrn k5
        go_wp2_with fail
        refine (refSame01_yes none none 0 0 0 0 [] w5 (Sl.of_ownV hu5) hl5 rfl rfl (by omega)).mono ?_
        rintro e w6 ⟨rfl, k6⟩
        have hm6 := hm5.kept k6
        have hr6 := hr5.kept k6
        have hu6 := own_keptV hu5 k6 (by simp)
        have hown6 := own_kept hown k6 (by simp)
        have KW6 := Lib.hid (KW5.out.trans k6)
        clear hm5 hr5 hu5 hl5 hown k6
        go_wp2_with fail
        refine (stackDepth_any b v3 fs3 w6 hm6).mono ?_
        rintro e w7 ⟨rfl, rfl⟩
        go_wp2_with fail
        refine (refAll17_any _ A4 cp4 vs4 fs3 w6 hr6 hm6.small).mono ?_
        rintro e w8 ⟨r8, cap8, rfl, hown8, k8⟩
        have hm8 := hm6.kept k8
        have hr8 := hr6.kept k8
        have hu8 := own_keptV hu6 k8 (by simp)
        have ho8 := own_kept hown6 k8 (by simp)
        have KW8 := Lib.hid (KW6.out.trans k8)
        have HTT := Lib.hid (show totF fs3 ≤ 1024 from hm6.small.flat.2)
        clear hm6 hr6 hu6 hown6 k8
        go_wp2_with fail
        refine (refSame01_yes _ _ (totF fs3) (totF fs3) capr cap8 (allF fs3) w8 (Sl.of_own ho8) (Sl.of_own hown8) rfl rfl (by have := HTT.out; omega)).mono ?_
        rintro e w9 ⟨rfl, k9⟩
        have hm9 := Lib.hid (hm8.kept k9)
        have hr9 := Lib.hid (hr8.kept k9)
        have hu9 := Lib.hid (own_keptV hu8 k9 (by simp))
        have ho9 := own_kept ho8 k9 (by simp)
        have KW9 := Lib.hid (KW8.out.trans k9)
        have HAL := Lib.hid (allF_length fs3)
        clear hm8 hr8 hu8 ho8 hown8 k9
        obtain ⟨T, hT⟩ : ∃ T, totF fs3 = T := ⟨_, rfl⟩
        rw [hT] at ho9 HAL HTT ⊢
        have hT1 : T ≤ 1024 := HTT.out
        clear hT
        obtain ⟨ws, hws⟩ : ∃ ws, allF fs3 = ws := ⟨_, rfl⟩
        rw [hws] at ho9 HAL
        clear hws
        go_wp2_with fail
        go_loopw [117] (fun i wq => ∃ (k : Nat) (zs : List Int), k ≤ T ∧ i = .int .i64 k ∧ zs.length + 0 = T ∧ wq.ownsRow w4.heap.size 23 1 (.slice (some ⟨r, 0, none⟩) T capr) T (zs.map (Value.int .u64)) ∧ Kept [r] w9 wq) (fun i _ => T - (intOf i).toNat)
        case atStart => exact ⟨0, ws, Nat.zero_le _, rfl, HAL.out, ho9, Kept.refl _ _⟩
        case round =>
          obtain ⟨k, zs, hk, rfl, hzs, rq, hkq⟩ := hrel
          have HZ := Lib.hid hzs
          clear hzs
          by_cases hkn : k < T
          · have cq : wr.cell? ⟨r, k, none⟩ = some (.int .u64 (zs[k]?.getD 0)) := by
              rw [rq.cellAt k (by omega), List.getElem?_map, List.getElem?_eq_getElem (by have := HZ.out; omega)]; rfl
            have fq := rq.frozenAt k
            generalize zs[k]?.getD 0 = z at cq
            go_wp2
            go_roundw
            case rel =>
              refine ⟨k + 1, zs.set k (IntKind.u64.wrap (z + 1)), by omega, by go_num, by rw [List.length_set]; exact HZ.out, ?_, hkq.set (.inl (by simp)) _⟩
              have := (rq.stored k (.int .u64 (IntKind.u64.wrap (z + 1)))).1
              rw [← List.map_set] at this
              exact this
            case measure => simp [intOf]; omega
          · have HM10 := Lib.hid (hm9.out.keptS hkq (fun j hj hm => HRN.out (by obtain rfl := List.mem_singleton.1 hj; exact List.mem_append_left _ hm)))
            have HR10 := Lib.hid (hr9.out.keptS hkq (fun j hj hn => (by obtain rfl := List.mem_singleton.1 hj; exact absurd hn.2 (by omega))))
            have hu10 := own_keptV hu9.out hkq (fun j hj hm => HRN.out (by obtain rfl := List.mem_singleton.1 hm; exact List.mem_append_right _ (Option.mem_toList.2 hj)))
            have KW10 := Lib.hid (KW9.out.chain hkq (U := []) (by simp) (fun i hi hl => by obtain rfl := List.mem_singleton.1 hi; have := KW4.out.size; omega))
            clear hkq rq ho9
            go_wp2_with fail
            go_loopw [129] (fun i wq => i = .int .i64 0 ∧ Kept [] wr wq) (fun i _ => 0 - (intOf i).toNat)
            case atStart => exact ⟨rfl, Kept.refl _ _⟩
            case round =>
              obtain ⟨rfl, hkq⟩ := hrel
              have HREL := Lib.hid (show IsStack wr b v3 fs3 ∧ RefFr wr (fun k => k ∉ turfF b v3 (.slice none 0 0)) A4 vs4 fs3 ∧ Kept [] w wr from
                ⟨HM10.out.kept hkq, (HR10.out.kept hkq).mono (fun _ _ h => h.1), KW10.out.trans hkq⟩)
              clear hkq
              go_wp2
              go_roundw
              case rel => exact ⟨j + 1, v3, fs3, A4, cp4, vs4, by omega, rfl, by go_num, HCP.out, HREL.out.1, HREL.out.2.1, HFAR.out, HREL.out.2.2⟩
              case measure => simp [intOf]; omega
      · go_wp2_with fail
        generalize wr.alloc (.cells #[.int .i64 1, .int .u64 x, .int .u64 y] 29) = wa at rB hmA hrA KWA hszA ⊢
        obtain ⟨C, hC⟩ : ∃ C, wr.heap.size = C := ⟨_, rfl⟩
        rw [hC] at rB HCB hszr ⊢
        clear hC c0 c1 c2
        refine (stackPop_any b v fs wa hmA).mono ?_
        rintro e w3 ⟨u, v3, rfl, hu3, hm3, g3, hd⟩
        obtain ⟨Ag, cg, rfl⟩ := own_form hu3
        have hub := own_blockF hu3
        have hr3 : RefFr w3 (fun k => k ∉ turfF b v3 (.slice Ag (topF fs).length cg)) A vs fs := hrA.goes g3 (fun j hj => (hub j hj).1) (fun _ h => h)
        have HFAR := Lib.hid (HFA.out.goes g3 hszA)
        have KW3 := Lib.hid (HFA.out.kept KWA.out g3)
        have HDIS := Lib.hid hd
        have hsm := hmA.small
        have HB3 := Lib.hid (fun j hj => Nat.le_trans hszA (hub j hj).1 : ∀ j, (Value.slice Ag (topF fs).length cg).ownBlock = some j → w.heap.size ≤ j)
        have hfl : (topF fs).length ≤ 16 := by
          rcases snoc_cases fs with rfl | ⟨gs, f, rfl⟩
          · simp [topF]
          · rw [topF_snoc]; exact hsm.small f (by simp)
        clear hmA hrA g3 rB hd
        go_wp2_with fail
        refine (refPop17_any _ A cp vs fs w3 hr3 hsm HCP0.out).mono ?_
        rintro e w4 ⟨A4, cp4, vs4, A2, c2, rfl, hr4', hx4, hcp4, k4⟩
        have hm4 := hm3.kept k4
        have hr4 := hr4'.back (hm3.turfLt (fun j hj => (hub j hj).2))
        have HCP := Lib.hid hcp4
        have KW4 := Lib.hid (KW3.out.trans k4)
        have hu := own_keptV hu3 k4 (by simp)
        have hl4 := hx4.sl
        clear hm3 hr3 hr4' hcp4 k4 hu3 hx4 hub hsm
        generalize popE fs = er
        generalize fs.dropLast = fs3 at hm4 hr4 HCP ⊢
        obtain ⟨ys, hys⟩ : ∃ ys, topF fs = ys := ⟨_, rfl⟩
        rw [hys] at hu hl4 hr4 HDIS HB3 hfl ⊢
        clear hys
        obtain ⟨n, hn⟩ : ∃ n, ys.length = n := ⟨_, rfl⟩
        rw [hn] at hu hr4 HDIS HB3 hfl ⊢
        have HYL := Lib.hid hn
        clear hn
        generalize wa.heap.size = B3 at hu
        go_wp2_with fail
        refine (stackAll_any b v3 fs3 w4 hm4).mono ?_
        rintro e w5 ⟨r, capr, rfl, hown, k5⟩
        have hm5 := hm4.kept k5
        have hr4x : RefFr w4 (fun k => k ∉ turfF b v3 (.slice Ag n cg) ∧ k < w4.heap.size) A4 vs4 fs3 := hr4.mono (fun k hk hn => ⟨hn, hk⟩)
        have hr5 := hr4x.kept k5
        have hu5 := own_keptV hu k5 (by simp)
        have hl5 := hl4.kept k5
        have hrge := own_ge hown
        have hrn : r ∉ turfF b v3 (.slice Ag n cg) := fun hm => by have := hm4.turfLt (fun j hj => (own_blockF hu j hj).2) r hm; omega
        have HRN := Lib.hid hrn
        have KW5 := Lib.hid (KW4.out.trans k5)
        clear hm4 hr4 hr4x hu hl4 hrn k5
        go_wp2_with fail
        refine (refSame01_yes Ag A2 n n cg c2 ys w5 (Sl.of_ownV hu5) hl5 HYL.out HYL.out (by omega)).mono ?_
        rintro e w6 ⟨rfl, k6⟩
        have hm6 := hm5.kept k6
        have hr6 := hr5.kept k6
        have hu6 := own_keptV hu5 k6 (by simp)
        have hown6 := own_kept hown k6 (by simp)
        have KW6 := Lib.hid (KW5.out.trans k6)
        clear hm5 hr5 hu5 hl5 hown k6
        go_wp2_with fail
        refine (stackDepth_any b v3 fs3 w6 hm6).mono ?_
        rintro e w7 ⟨rfl, rfl⟩
        go_wp2_with fail
        refine (refAll17_any _ A4 cp4 vs4 fs3 w6 hr6 hm6.small).mono ?_
        rintro e w8 ⟨r8, cap8, rfl, hown8, k8⟩
        have hm8 := hm6.kept k8
        have hr8 := hr6.kept k8
        have hu8 := own_keptV hu6 k8 (by simp)
        have ho8 := own_kept hown6 k8 (by simp)
        have KW8 := Lib.hid (KW6.out.trans k8)
        have HTT := Lib.hid (show totF fs3 ≤ 1024 from hm6.small.flat.2)
        clear hm6 hr6 hu6 hown6 k8
        go_wp2_with fail
        refine (refSame01_yes _ _ (totF fs3) (totF fs3) capr cap8 (allF fs3) w8 (Sl.of_own ho8) (Sl.of_own hown8) rfl rfl (by have := HTT.out; omega)).mono ?_
        rintro e w9 ⟨rfl, k9⟩
        have hm9 := Lib.hid (hm8.kept k9)
        have hr9 := Lib.hid (hr8.kept k9)
        have hu9 := Lib.hid (own_keptV hu8 k9 (by simp))
        have ho9 := own_kept ho8 k9 (by simp)
        have KW9 := Lib.hid (KW8.out.trans k9)
        have HAL := Lib.hid (allF_length fs3)
        clear hm8 hr8 hu8 ho8 hown8 k9
        obtain ⟨T, hT⟩ : ∃ T, totF fs3 = T := ⟨_, rfl⟩
        rw [hT] at ho9 HAL HTT ⊢
        have hT1 : T ≤ 1024 := HTT.out
        clear hT
        obtain ⟨ws, hws⟩ : ∃ ws, allF fs3 = ws := ⟨_, rfl⟩
        rw [hws] at ho9 HAL
        clear hws
        go_wp2_with fail
        go_loopw [117] (fun i wq => ∃ (k : Nat) (zs : List Int), k ≤ T ∧ i = .int .i64 k ∧ zs.length + 0 = T ∧ wq.ownsRow w4.heap.size 23 1 (.slice (some ⟨r, 0, none⟩) T capr) T (zs.map (Value.int .u64)) ∧ Kept [r] w9 wq) (fun i _ => T - (intOf i).toNat)
        case atStart => exact ⟨0, ws, Nat.zero_le _, rfl, HAL.out, ho9, Kept.refl _ _⟩
        case round =>
          obtain ⟨k, zs, hk, rfl, hzs, rq, hkq⟩ := hrel
          have HZ := Lib.hid hzs
          clear hzs
          by_cases hkn : k < T
          · have cq : wr.cell? ⟨r, k, none⟩ = some (.int .u64 (zs[k]?.getD 0)) := by
              rw [rq.cellAt k (by omega), List.getElem?_map, List.getElem?_eq_getElem (by have := HZ.out; omega)]; rfl
            have fq := rq.frozenAt k
            generalize zs[k]?.getD 0 = z at cq
            go_wp2
            go_roundw
            case rel =>
              refine ⟨k + 1, zs.set k (IntKind.u64.wrap (z + 1)), by omega, by go_num, by rw [List.length_set]; exact HZ.out, ?_, hkq.set (.inl (by simp)) _⟩
              have := (rq.stored k (.int .u64 (IntKind.u64.wrap (z + 1)))).1
              rw [← List.map_set] at this
              exact this
            case measure => simp [intOf]; omega
          · have HM10 := Lib.hid (hm9.out.keptS hkq (fun j hj hm => HRN.out (by obtain rfl := List.mem_singleton.1 hj; exact List.mem_append_left _ hm)))
            have HR10 := Lib.hid (hr9.out.keptS hkq (fun j hj hn => (by obtain rfl := List.mem_singleton.1 hj; exact absurd hn.2 (by omega))))
            have hu10 := own_keptV hu9.out hkq (fun j hj hm => HRN.out (by obtain rfl := List.mem_singleton.1 hm; exact List.mem_append_right _ (Option.mem_toList.2 hj)))
            have KW10 := Lib.hid (KW9.out.chain hkq (U := []) (by simp) (fun i hi hl => by obtain rfl := List.mem_singleton.1 hi; have := KW4.out.size; omega))
            clear hkq rq ho9
            go_wp2_with fail
            go_loopw [129] (fun i wq => ∃ (k : Nat) (zs : List Int), k ≤ n ∧ i = .int .i64 k ∧ zs.length + 0 = n ∧ wq.ownsRow B3 23 1 (.slice Ag n cg) n (zs.map (Value.int .u64)) ∧ Kept (Value.slice Ag n cg).ownBlock.toList wr wq) (fun i _ => n - (intOf i).toNat)
            case atStart => exact ⟨0, ys, Nat.zero_le _, rfl, HYL.out, hu10, Kept.refl _ _⟩
            case round =>
              obtain ⟨m, zs, hm, rfl, hzs, rq, hkq⟩ := hrel
              have HZ := Lib.hid hzs
              clear hzs hu10
              by_cases hmn : m < n
              · obtain ⟨g, cgg, hge⟩ : ∃ g c, Value.slice Ag n cg = .slice (some ⟨g, 0, none⟩) n c := by
                  rcases rq.2 with ⟨_, h0⟩ | ⟨g, c, cur, hv, _⟩
                  · omega
                  · exact ⟨g, c, hv⟩
                cases hge
                have cq : wr.cell? ⟨g, m, none⟩ = some (.int .u64 (zs[m]?.getD 0)) := by
                  rw [rq.cellAt m (by omega), List.getElem?_map, List.getElem?_eq_getElem (by have := HZ.out; omega)]; rfl
                have fq := rq.frozenAt m
                generalize zs[m]?.getD 0 = z at cq
                go_wp2
                go_roundw
                case rel =>
                  refine ⟨m + 1, zs.set m (IntKind.u64.wrap (z + 1)), by omega, by go_num, by rw [List.length_set]; exact HZ.out, ?_, hkq.set (.inl (by simp [Value.ownBlock])) _⟩
                  have := (rq.stored m (.int .u64 (IntKind.u64.wrap (z + 1)))).1
                  rw [← List.map_set] at this
                  exact this
                case measure => simp [intOf]; omega
              · have HREL := Lib.hid (show IsStack wr b v3 fs3 ∧ RefFr wr (fun k => k ∉ turfF b v3 (.slice none 0 0)) A4 vs4 fs3 ∧ Kept [] w wr from
                  ⟨HM10.out.keptS hkq (fun j hj hm => HDIS.out j (Option.mem_toList.1 hj) hm), (HR10.out.keptS hkq (fun j hj hn => hn.1 (List.mem_append_right _ hj))).mono (fun k _ hn hm => hn.1 (List.mem_append_left _ (by rw [turfF_none] at hm; exact hm))),
                    KW10.out.chain hkq (U := []) (by simp) (fun i hi hl => by have := HB3.out i (Option.mem_toList.1 hi); omega)⟩)
                clear hkq rq
                go_wp2
                go_roundw
                case rel => exact ⟨j + 1, v3, fs3, A4, cp4, vs4, by omega, rfl, by go_num, HCP.out, HREL.out.1, HREL.out.2.1, HFAR.out, HREL.out.2.2⟩
                case measure => simp [intOf]; omega
      · go_wp2_with fail
        generalize wr.alloc (.cells #[.int .i64 2, .int .u64 x, .int .u64 y] 29) = wa at rB hmA hrA KWA hszA ⊢
        obtain ⟨C, hC⟩ : ∃ C, wr.heap.size = C := ⟨_, rfl⟩
        rw [hC] at rB HCB hszr ⊢
        clear hC c0 c1 c2
        refine (stackSet_any b v fs x y wa hmA).mono ?_
        rintro e w3 ⟨rfl, hm3, k3⟩
        have g3 : GoesF b v wa v w3 := GoesF.of_set k3
        have rB3 := rB.kept g3.kept HCB.out
        have d1 : w3.cell? ⟨C, 1, none⟩ = some (.int .u64 x) := by simpa using rB3.cell 1
        have d2 : w3.cell? ⟨C, 2, none⟩ = some (.int .u64 y) := by simpa using rB3.cell 2
        have hr3 : RefFr w3 (fun k => k ∉ turfF b v (.slice none 0 0)) A vs fs := hrA.goes g3 (u := .slice none 0 0) (fun j hj => by cases hj) (fun _ h => h)
        have HFAR := Lib.hid (HFA.out.goes g3 hszA)
        have KW3 := Lib.hid (HFA.out.kept KWA.out g3)
        have hsm := hmA.small
        clear hmA hrA g3 rB rB3 k3
        go_wp2_with fail
        refine (refSet17_any _ A cp x y vs fs w3 hr3 hsm HCP0.out).mono ?_
        rintro e w4 ⟨A4, cp4, vs4, rfl, hr4', hcp4, k4⟩
        have hm4 := hm3.kept k4
        have hr4 := hr4'.back (hm3.turfLt (u := .slice none 0 0) (fun j hj => by cases hj))
        have HCP := Lib.hid hcp4
        have KW4 := Lib.hid (KW3.out.trans k4)
        have hu : w4.ownsRow w4.heap.size 23 1 (.slice none 0 0) 0 (([] : List Int).map (Value.int .u64)) := World.ownsRow_nil _ _ _ _
        have hl4 : Sl w4 .u64 none [] := .inl rfl
        clear hm3 hr3 hr4' hcp4 k4 d1 d2 hsm
        generalize (topF fs)[x]?.getD 0 = old
        generalize getE fs x = er
        generalize setF fs x y = fs3 at hm4 hr4 HCP ⊢
        go_wp2_with fail
        refine (stackAll_any b v fs3 w4 hm4).mono ?_
        rintro e w5 ⟨r, capr, rfl, hown, k5⟩
        have hm5 := hm4.kept k5
        have hr4x : RefFr w4 (fun k => k ∉ turfF b v (.slice none 0 0) ∧ k < w4.heap.size) A4 vs4 fs3 := hr4.mono (fun k hk hn => ⟨hn, hk⟩)
        have hr5 := hr4x.kept k5
        have hu5 := own_keptV hu k5 (by simp)
        have hl5 := hl4.kept k5
        have hrge := own_ge hown
        have hrn : r ∉ turfF b v (.slice none 0 0) := fun hm => by have := hm4.turfLt (fun j hj => (own_blockF hu j hj).2) r hm; omega
        have HRN := Lib.hid hrn
        have KW5 := Lib.hid (KW4.out.trans k5)
        clear hm4 hr4 hr4x hu hl4 hrn k5
        go_wp2_with fail
        refine (refSame01_yes none none 0 0 0 0 [] w5 (Sl.of_ownV hu5) hl5 rfl rfl (by omega)).mono ?_
        rintro e w6 ⟨rfl, k6⟩
        have hm6 := hm5.kept k6
        have hr6 := hr5.kept k6
        have hu6 := own_keptV hu5 k6 (by simp)
        have hown6 := own_kept hown k6 (by simp)
        have KW6 := Lib.hid (KW5.out.trans k6)
        clear hm5 hr5 hu5 hl5 hown k6
        go_wp2_with fail
        refine (stackDepth_any b v fs3 w6 hm6).mono ?_
        rintro e w7 ⟨rfl, rfl⟩
        go_wp2_with fail
        refine (refAll17_any _ A4 cp4 vs4 fs3 w6 hr6 hm6.small).mono ?_
        rintro e w8 ⟨r8, cap8, rfl, hown8, k8⟩
        have hm8 := hm6.kept k8
        have hr8 := hr6.kept k8
        have hu8 := own_keptV hu6 k8 (by simp)
        have ho8 := own_kept hown6 k8 (by simp)
        have KW8 := Lib.hid (KW6.out.trans k8)
        have HTT := Lib.hid (show totF fs3 ≤ 1024 from hm6.small.flat.2)
        clear hm6 hr6 hu6 hown6 k8
        go_wp2_with fail
        refine (refSame01_yes _ _ (totF fs3) (totF fs3) capr cap8 (allF fs3) w8 (Sl.of_own ho8) (Sl.of_own hown8) rfl rfl (by have := HTT.out; omega)).mono ?_
        rintro e w9 ⟨rfl, k9⟩
        have hm9 := Lib.hid (hm8.kept k9)
        have hr9 := Lib.hid (hr8.kept k9)
        have hu9 := Lib.hid (own_keptV hu8 k9 (by simp))
        have ho9 := own_kept ho8 k9 (by simp)
        have KW9 := Lib.hid (KW8.out.trans k9)
        have HAL := Lib.hid (allF_length fs3)
        clear hm8 hr8 hu8 ho8 hown8 k9
        obtain ⟨T, hT⟩ : ∃ T, totF fs3 = T := ⟨_, rfl⟩
        rw [hT] at ho9 HAL HTT ⊢
        have hT1 : T ≤ 1024 := HTT.out
        clear hT
        obtain ⟨ws, hws⟩ : ∃ ws, allF fs3 = ws := ⟨_, rfl⟩
        rw [hws] at ho9 HAL
        clear hws
        go_wp2_with fail
        go_loopw [117] (fun i wq => ∃ (k : Nat) (zs : List Int), k ≤ T ∧ i = .int .i64 k ∧ zs.length + 0 = T ∧ wq.ownsRow w4.heap.size 23 1 (.slice (some ⟨r, 0, none⟩) T capr) T (zs.map (Value.int .u64)) ∧ Kept [r] w9 wq) (fun i _ => T - (intOf i).toNat)
        case atStart => exact ⟨0, ws, Nat.zero_le _, rfl, HAL.out, ho9, Kept.refl _ _⟩
        case round =>
          obtain ⟨k, zs, hk, rfl, hzs, rq, hkq⟩ := hrel
          have HZ := Lib.hid hzs
          clear hzs
          by_cases hkn : k < T
          · have cq : wr.cell? ⟨r, k, none⟩ = some (.int .u64 (zs[k]?.getD 0)) := by
              rw [rq.cellAt k (by omega), List.getElem?_map, List.getElem?_eq_getElem (by have := HZ.out; omega)]; rfl
            have fq := rq.frozenAt k
            generalize zs[k]?.getD 0 = z at cq
            go_wp2
            go_roundw
            case rel =>
              refine ⟨k + 1, zs.set k (IntKind.u64.wrap (z + 1)), by omega, by go_num, by rw [List.length_set]; exact HZ.out, ?_, hkq.set (.inl (by simp)) _⟩
              have := (rq.stored k (.int .u64 (IntKind.u64.wrap (z + 1)))).1
              rw [← List.map_set] at this
              exact this
            case measure => simp [intOf]; omega
          · have HM10 := Lib.hid (hm9.out.keptS hkq (fun j hj hm => HRN.out (by obtain rfl := List.mem_singleton.1 hj; exact List.mem_append_left _ hm)))
            have HR10 := Lib.hid (hr9.out.keptS hkq (fun j hj hn => (by obtain rfl := List.mem_singleton.1 hj; exact absurd hn.2 (by omega))))
            have hu10 := own_keptV hu9.out hkq (fun j hj hm => HRN.out (by obtain rfl := List.mem_singleton.1 hm; exact List.mem_append_right _ (Option.mem_toList.2 hj)))
            have KW10 := Lib.hid (KW9.out.chain hkq (U := []) (by simp) (fun i hi hl => by obtain rfl := List.mem_singleton.1 hi; have := KW4.out.size; omega))
            clear hkq rq ho9
            go_wp2_with fail
            go_loopw [129] (fun i wq => i = .int .i64 0 ∧ Kept [] wr wq) (fun i _ => 0 - (intOf i).toNat)
            case atStart => exact ⟨rfl, Kept.refl _ _⟩
            case round =>
              obtain ⟨rfl, hkq⟩ := hrel
              have HREL := Lib.hid (show IsStack wr b v fs3 ∧ RefFr wr (fun k => k ∉ turfF b v (.slice none 0 0)) A4 vs4 fs3 ∧ Kept [] w wr from
                ⟨HM10.out.kept hkq, (HR10.out.kept hkq).mono (fun _ _ h => h.1), KW10.out.trans hkq⟩)
              clear hkq
              go_wp2
              go_roundw
              case rel => exact ⟨j + 1, v, fs3, A4, cp4, vs4, by omega, rfl, by go_num, HCP.out, HREL.out.1, HREL.out.2.1, HFAR.out, HREL.out.2.2⟩
              case measure => simp [intOf]; omega
      · have e0 : (k == 0) = false := by rw [beq_eq_false_iff_ne]; exact n0
        have e1 : (k == 1) = false := by rw [beq_eq_false_iff_ne]; exact n1
        have e2 : (k == 2) = false := by rw [beq_eq_false_iff_ne]; exact n2
        go_wp2_with fail
        generalize wr.alloc (.cells #[.int .i64 k, .int .u64 x, .int .u64 y] 29) = w4 at rB hmA hrA KWA hszA ⊢
        clear c0 c1 c2 e0 e1 e2 n0 n1 n2 rB
        have hm4 := hmA
        have hr4 := hrA
        have HFAR := HFA
        have HCP := HCP0
        have KW4 := KWA
        have hu : w4.ownsRow w4.heap.size 23 1 (.slice none 0 0) 0 (([] : List Int).map (Value.int .u64)) := World.ownsRow_nil _ _ _ _
        have hl4 : Sl w4 .u64 none [] := .inl rfl
        clear hmA hrA
        go_wp2_with fail
        refine (stackAll_any b v fs w4 hm4).mono ?_
        rintro e w5 ⟨r, capr, rfl, hown, k5⟩
        have hm5 := hm4.kept k5
        have hr4x : RefFr w4 (fun k => k ∉ turfF b v (.slice none 0 0) ∧ k < w4.heap.size) A vs fs := hr4.mono (fun k hk hn => ⟨hn, hk⟩)
        have hr5 := hr4x.kept k5
        have hu5 := own_keptV hu k5 (by simp)
        have hl5 := hl4.kept k5
        have hrge := own_ge hown
        have hrn : r ∉ turfF b v (.slice none 0 0) := fun hm => by have := hm4.turfLt (fun j hj => (own_blockF hu j hj).2) r hm; omega
        have HRN := Lib.hid hrn
        have KW5 := Lib.hid (KW4.out.trans k5)
        clear hm4 hr4 hr4x hu hl4 hrn k5
        go_wp2_with fail
        refine (refSame01_yes none none 0 0 0 0 [] w5 (Sl.of_ownV hu5) hl5 rfl rfl (by omega)).mono ?_
        rintro e w6 ⟨rfl, k6⟩
        have hm6 := hm5.kept k6
        have hr6 := hr5.kept k6
        have hu6 := own_keptV hu5 k6 (by simp)
        have hown6 := own_kept hown k6 (by simp)
        have KW6 := Lib.hid (KW5.out.trans k6)
        clear hm5 hr5 hu5 hl5 hown k6
        go_wp2_with fail
        refine (stackDepth_any b v fs w6 hm6).mono ?_
        rintro e w7 ⟨rfl, rfl⟩
        go_wp2_with fail
        refine (refAll17_any _ A cp vs fs w6 hr6 hm6.small).mono ?_
        rintro e w8 ⟨r8, cap8, rfl, hown8, k8⟩
        have hm8 := hm6.kept k8
        have hr8 := hr6.kept k8
        have hu8 := own_keptV hu6 k8 (by simp)
        have ho8 := own_kept hown6 k8 (by simp)
        have KW8 := Lib.hid (KW6.out.trans k8)
        have HTT := Lib.hid (show totF fs ≤ 1024 from hm6.small.flat.2)
        clear hm6 hr6 hu6 hown6 k8
        go_wp2_with fail
        refine (refSame01_yes _ _ (totF fs) (totF fs) capr cap8 (allF fs) w8 (Sl.of_own ho8) (Sl.of_own hown8) rfl rfl (by have := HTT.out; omega)).mono ?_
        rintro e w9 ⟨rfl, k9⟩
        have hm9 := Lib.hid (hm8.kept k9)
        have hr9 := Lib.hid (hr8.kept k9)
        have hu9 := Lib.hid (own_keptV hu8 k9 (by simp))
        have ho9 := own_kept ho8 k9 (by simp)
        have KW9 := Lib.hid (KW8.out.trans k9)
        have HAL := Lib.hid (allF_length fs)
        clear hm8 hr8 hu8 ho8 hown8 k9
        obtain ⟨T, hT⟩ : ∃ T, totF fs = T := ⟨_, rfl⟩
        rw [hT] at ho9 HAL HTT ⊢
        have hT1 : T ≤ 1024 := HTT.out
        clear hT
        obtain ⟨ws, hws⟩ : ∃ ws, allF fs = ws := ⟨_, rfl⟩
        rw [hws] at ho9 HAL
        clear hws
        go_wp2_with fail
        go_loopw [117] (fun i wq => ∃ (k : Nat) (zs : List Int), k ≤ T ∧ i = .int .i64 k ∧ zs.length + 0 = T ∧ wq.ownsRow w4.heap.size 23 1 (.slice (some ⟨r, 0, none⟩) T capr) T (zs.map (Value.int .u64)) ∧ Kept [r] w9 wq) (fun i _ => T - (intOf i).toNat)
        case atStart => exact ⟨0, ws, Nat.zero_le _, rfl, HAL.out, ho9, Kept.refl _ _⟩
        case round =>
          obtain ⟨k, zs, hk, rfl, hzs, rq, hkq⟩ := hrel
          have HZ := Lib.hid hzs
          clear hzs
          by_cases hkn : k < T
          · have cq : wr.cell? ⟨r, k, none⟩ = some (.int .u64 (zs[k]?.getD 0)) := by
              rw [rq.cellAt k (by omega), List.getElem?_map, List.getElem?_eq_getElem (by have := HZ.out; omega)]; rfl
            have fq := rq.frozenAt k
            generalize zs[k]?.getD 0 = z at cq
            go_wp2
            go_roundw
            case rel =>
              refine ⟨k + 1, zs.set k (IntKind.u64.wrap (z + 1)), by omega, by go_num, by rw [List.length_set]; exact HZ.out, ?_, hkq.set (.inl (by simp)) _⟩
              have := (rq.stored k (.int .u64 (IntKind.u64.wrap (z + 1)))).1
              rw [← List.map_set] at this
              exact this
            case measure => simp [intOf]; omega
          · have HM10 := Lib.hid (hm9.out.keptS hkq (fun j hj hm => HRN.out (by obtain rfl := List.mem_singleton.1 hj; exact List.mem_append_left _ hm)))
            have HR10 := Lib.hid (hr9.out.keptS hkq (fun j hj hn => (by obtain rfl := List.mem_singleton.1 hj; exact absurd hn.2 (by omega))))
            have hu10 := own_keptV hu9.out hkq (fun j hj hm => HRN.out (by obtain rfl := List.mem_singleton.1 hm; exact List.mem_append_right _ (Option.mem_toList.2 hj)))
            have KW10 := Lib.hid (KW9.out.chain hkq (U := []) (by simp) (fun i hi hl => by obtain rfl := List.mem_singleton.1 hi; have := KW4.out.size; omega))
            clear hkq rq ho9
            go_wp2_with fail
            go_loopw [129] (fun i wq => i = .int .i64 0 ∧ Kept [] wr wq) (fun i _ => 0 - (intOf i).toNat)
            case atStart => exact ⟨rfl, Kept.refl _ _⟩
            case round =>
              obtain ⟨rfl, hkq⟩ := hrel
              have HREL := Lib.hid (show IsStack wr b v fs ∧ RefFr wr (fun k => k ∉ turfF b v (.slice none 0 0)) A vs fs ∧ Kept [] w wr from
                ⟨HM10.out.kept hkq, (HR10.out.kept hkq).mono (fun _ _ h => h.1), KW10.out.trans hkq⟩)
              clear hkq
              go_wp2
              go_roundw
              case rel => exact ⟨j + 1, v, fs, A, cp, vs, by omega, rfl, by go_num, HCP.out, HREL.out.1, HREL.out.2.1, HFAR.out, HREL.out.2.2⟩
              case measure => simp [intOf]; omega
    · obtain rfl : j = l.length := by omega
      have HSM := Lib.hid hmr.small
      go_wp2_with fail
      refine (stackGet_any b v fs i wr hmr).mono ?_
      rintro e w5 ⟨rfl, k5⟩
      go_wp2_with fail
      refine (refGet17_any _ A cp i vs fs w5 (hrr.kept k5) HSM.out).mono ?_
      rintro e w6 ⟨rfl, rfl⟩
      generalize (topF fs)[i]?.getD 0 = old
      generalize getE fs i = er
      go_wp2_with fail
      refine (fixed17_any w5).mono ?_
      rintro e w6 ⟨rfl, kw6⟩
      go_wp2
      go_ret
      exact ⟨rfl, (kWr.trans k5).trans kw6⟩
end Go.Proofs.Ytljpmckbkpoikaa
