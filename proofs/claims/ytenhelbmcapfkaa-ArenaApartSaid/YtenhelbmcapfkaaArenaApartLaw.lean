/- The law ArenaApart: its walk. -/
import Derived.Test.YtenhelbmcapfkaaArenaAll
import Derived.Test.YtenhelbmcapfkaaArenaPlain3
import Derived.Test.YtenhelbmcapfkaaArenaFixed
import Derived.Test.YtenhelbmcapfkaaArenaRest
import Derived.Test.YtenhelbmcapfkaaRegionPick
namespace Go.Proofs.Ytenhelbmcapfkaa
open Go.RowKit

set_option maxRecDepth 100000 in
set_option maxHeartbeats 2000000 in
theorem arenaApart_big (n : Int) (a0 : Option Addr) (len cap : Nat) (w : World) (hl : 80 < len) (hm : len ≤ maxLen) :
    Calls Try.prog 4 #[.int .u8 n, .slice a0 len cap] w (FixedPost w) := by
  unfold maxLen at hm
  go_enter Try.func4, Try.ntmps4
  go_wp2_with fail
  refine (fixed11_any _).mono ?_
  rintro e w5 ⟨rfl, kw5⟩
  go_wp2
  go_ret
  exact ⟨rfl, kw5⟩

set_option maxRecDepth 100000 in
set_option maxHeartbeats 8000000 in
theorem arenaApart_law (n : Int) (a0 : Option Addr) (cap : Nat) (l : List ActN) (w : World) (hs : SlActN w a0 l) (hl : l.length ≤ 80) (hn0 : 0 ≤ n) (hn : n < 256) (hb : ∀ x ∈ l, 0 ≤ x.k ∧ x.k < 256) :
    Calls Try.prog 4 #[.int .u8 n, .slice a0 l.length cap] w (FixedPost w) := by
  have h80 : decide ((80 : Int) < l.length) = false := by simp; omega
  obtain ⟨m, hmn, hm1, hm60⟩ : ∃ m : Nat, 1 + n % 60 = (m : Int) ∧ 1 ≤ m ∧ m ≤ 60 := ⟨(1 + n % 60).toNat, by omega, by omega, by omega⟩
  go_enter Try.func4, Try.ntmps4
  go_wp2_with fail
  try rw [hmn]
  clear hmn
  refine (pagesNew_yes m w hm1 (by omega)).mono ?_
  rintro e w1 ⟨p, rb, rg, mb, mg, rfl, hnew, hp1, k1⟩
  have hY1 : Yard w.heap.size w1 p rb rg mb mg (List.replicate m false) (List.replicate (16 * m) (0 : Int)) [] := Yard.no hp1 k1.size (by omega)
  clear hp1
  go_wp2_with fail
  refine (pagesMem_any p rb rg mb mg _ _ w1 hY1.pages).mono ?_
  rintro e w2 ⟨rfl, rfl⟩
  have rL := Row.new w1 33 (ptrs4 [])
  have kL := (Kept.refl [] w1).alloc (.cells (ptrs4 []).toArray 33)
  have HE : (ptrs4 []).toArray = #[.pointer none, .pointer none, .pointer none, .pointer none] := rfl
  rw [HE] at rL kL
  clear HE
  have hLT : w1.heap.size ∉ turf rg mg [] := by
    intro hm
    have := hY1.pages.lt
    rcases mem_turf.1 hm with h | h | ⟨d, hd, _⟩
    · omega
    · omega
    · cases hd
  go_wp2_with fail
  generalize w1.alloc (.cells #[.pointer none, .pointer none, .pointer none, .pointer none] 33) = w2 at rL kL ⊢
  have hY2 := hY1.kept kL
  have kk2 := k1.trans kL
  obtain ⟨AL, hAL⟩ : ∃ AL, w1.heap.size = AL := ⟨_, rfl⟩
  rw [hAL] at rL hLT ⊢
  have hwL : w.heap.size ≤ AL := by have := k1.size; omega
  have HPA := Lib.hid (show p < AL ∧ rb < AL ∧ rg < AL ∧ mb < AL ∧ mg < AL by have := hY1.pages.lt; omega)
  clear hAL hY1 k1 kL
  go_loopw [49] (fun i wr => ∃ (j : Nat) (ds : List AD), i = .int .i64 j ∧ j ≤ 4 ∧ ds.length = j ∧ (∀ d ∈ ds, d.toArN = ⟨⟨0, 0⟩, [], []⟩) ∧ Yard w.heap.size wr p rb rg mb mg (List.replicate m false) (List.replicate (16 * m) (0 : Int)) ds ∧ Row wr AL 33 (ptrs4 ds) ∧ AL ∉ turf rg mg ds ∧ Kept [] w wr) (fun i _ => 4 - (intOf i).toNat)
  case atStart => exact ⟨0, [], rfl, by omega, rfl, by simp, hY2, rL, hLT, kk2⟩
  case round =>
    obtain ⟨j, ds, rfl, hj, hdl, hdz, hYr, rLr, hLr, kkr⟩ := hrel
    clear hY2 rL hLT kk2
    by_cases hlt : j < 4
    · go_wp2_with fail
      refine (arenaNew_any (some ⟨p, 0, none⟩) wr).mono ?_
      rintro e w3 ⟨d, rfl, hN, hA, hF, -, -, k3⟩
      have hY3 := hYr.more k3 hA hF
      have rL3 := rLr.kept k3 (by simp)
      have hLl := rLr.lt
      have hfree := rL3.free j
      have hcell : w3.cell? ⟨AL, j, none⟩ = some (.pointer none) := by
        rw [rL3.cell j, ptrs4, List.getElem?_append_right (by rw [ptrs_length, hdl]; omega), ptrs_length, hdl, Nat.sub_self, List.getElem?_replicate, if_pos (by omega)]
      have HD := Lib.hid hdl
      have HN := Lib.hid hN
      clear hdl hN
      go_wp2_with fail
      go_roundw
      case rel =>
        have kS := (Kept.refl [AL] w3).set (p := ⟨AL, j, none⟩) (.inl (by simp)) (ptrB d)
        have hpa := HPA.out
        have hLT3 := turf_more hLr hLl hF
        refine ⟨j + 1, ds ++ [d], by go_num, by omega, by rw [List.length_append, HD.out]; rfl, ?_, hY3.keptS kS (by intro k hk; simp at hk; subst hk; exact ⟨hLT3, by omega, by omega, by omega⟩), ?_, hLT3, (kkr.trans k3).chain kS (by simp) (by intro k hk hl; simp at hk; omega)⟩
        · intro e he
          rcases List.mem_append.1 he with he | he
          · exact hdz e he
          · simp at he; subst he; exact HN.out
        · have := rL3.set j (ptrB d)
          rw [← HD.out, ptrs4_set (by rw [HD.out]; exact hlt), HD.out] at this
          exact this
      case measure => simp [intOf]; omega
    · have hge : decide ((j : Int) < 4) = false := by simp; omega
      replace hdl : ds.length = 4 := by omega
      rw [ptrs4_full hdl] at rLr
      have hG : Good2 (List.replicate m false) (toA ds) := by rw [toA_start hdl hdz]; exact Good2.start (by omega)
      have hts : ∀ d ∈ ds, d.ts.length ≤ 0 := fun d hd => by have := congrArg ArN.ts (hdz d hd); simp only at this; rw [this]; simp
      clear hdz hlt hj
      go_wp2_with fail
      go_loopw [63] (fun i wq => ∃ (j : Nat) (ds : List AD) (xs : List Bool) (ys : List Int), i = .int .i64 j ∧ j ≤ l.length ∧ Hid (ds.length = 4) ∧ Hid (xs.length = m) ∧ Hid (Good2 xs (toA ds)) ∧ Hid (∀ d ∈ ds, d.ts.length ≤ j) ∧ Yard w.heap.size wq p rb rg mb mg xs ys ds ∧ Row wq AL 33 (ptrs ds) ∧ AL ∉ turf rg mg ds ∧ Kept [] w wq) (fun i _ => l.length - (intOf i).toNat)
      case atStart => exact ⟨0, ds, _, _, rfl, Nat.zero_le _, hdl, List.length_replicate, hG, hts, hYr, rLr, hLr, kkr⟩
      case round =>
        clear hG hts hYr rLr hLr kkr hdl ds
        obtain ⟨j, ds, xs, ys, rfl, hj, HD, HX, HG, HT, hYr, rLr, hLr, kkr⟩ := hrel
        by_cases hlt : j < l.length
        · obtain ⟨b, off, x, rfl, hx, c0, c1, c2⟩ := (hs.kept kkr).cell hlt
          obtain ⟨hk0, hk1⟩ := hb x (List.mem_of_getElem? hx)
          obtain ⟨k, s, rel⟩ := x
          simp only at c0 c1 c2 hk0 hk1
          obtain ⟨K, hK, hK4⟩ : ∃ K : Nat, k % 4 = (K : Int) ∧ K < 4 := ⟨(k % 4).toNat, by omega, by omega⟩
          have hKI : (K : Int) < 4 := by omega
          obtain ⟨d, hd⟩ : ∃ d, ds[K]? = some d := ⟨ds[K]'(by rw [HD.out]; exact hK4), List.getElem?_eq_getElem _⟩
          have HDK := Lib.hid hd
          have HXX := Lib.hid hx
          have rA := Row.new wr 42 [.int .u8 k, .int .i64 s, .bool rel]
          have kA := (Kept.refl [] wr).alloc (.cells #[.int .u8 k, .int .i64 s, .bool rel] 42)
          have hAT : wr.heap.size ∉ turf rg mg ds := fun hm => by have := hYr.turf_lt _ hm; omega
          have HAT := Lib.hid hAT
          have hYa := hYr.kept kA
          have rLa := rLr.kept kA (by simp)
          have kka := kkr.trans kA
          have cAL : (wr.alloc (.cells #[.int .u8 k, .int .i64 s, .bool rel] 42)).cell? ⟨AL, K, none⟩ = some (.pointer (some ⟨d.B, 0, none⟩)) := by rw [rLa.cell K]; exact ptrs_get hd
          clear hd hx hAT hYr rLr kkr kA
          cases rel with
          | true =>
            go_wp2_with fail
            generalize wr.alloc (.cells #[.int .u8 k, .int .i64 s, .bool true] 42) = wa at rA hYa rLa kka cAL ⊢
            obtain ⟨hok, -⟩ := HG.out.good.release (toA_get HDK.out)
            have hGd := HG.out.release (toA_get HDK.out)
            refine (arenaRelease_any p rb rg mb mg d xs ys wa (hYa.arena K d HDK.out) hYa.pages (hYa.away K d HDK.out) (HG.out.good.small (toA_get HDK.out)) (by have := HG.out.good.many (toA_get HDK.out); omega) hok).mono ?_
            rintro e w4 ⟨d7, rfl, hN7, hB7, hA7, hP7, hF7, k7⟩
            have hY7 := hYa.step HDK.out hA7 hP7 hF7 k7
            have hg7 := Yard.goes HDK.out hF7 k7
            have rL7 := rLa.kept hg7.kept hLr
            have hL7 := hg7.off hLr rLa.lt
            have kk7 := hYa.keeps HDK.out k7 kka (Nat.le_refl _)
            have HG7 : Hid (Good2 (relN xs d.rs) (toA (ds.set K d7))) := by rw [toA_set, hN7]; exact hGd
            have HX7 : Hid ((relN xs d.rs).length = m) := (relN_length d.rs xs).trans HX.out
            generalize relN xs d.rs = xs7 at hY7 HG7 HX7
            have hP7 : ptrs (ds.set K d7) = ptrs ds := ptrs_set HDK.out hB7
            have hr7 := congrArg ArN.rs hN7
            have ht7 := congrArg ArN.ts hN7
            simp only at hr7 ht7
            have HR7 := Lib.hid hr7
            have HT7 := Lib.hid ht7
            have HB7 := Lib.hid hB7
            rw [← hP7] at rL7
            have hd7 : (ds.set K d7)[K]? = some d7 := by rw [List.getElem?_set_self (by rw [HD.out]; exact hK4)]
            have HTT : Hid (∀ e ∈ ds.set K d7, e.ts.length ≤ j + 1) := fun e he => by
              rcases List.mem_or_eq_of_mem_set he with he | rfl
              · have := HT.out e he; omega
              · rw [HT7.out]; simp
            have HD7 : Hid ((ds.set K d7).length = 4) := (List.length_set ..).trans HD.out
            generalize ds.set K d7 = ds7 at hY7 rL7 hL7 hd7 HTT HD7 HG7
            clear hGd hok hA7 hF7 k7 hYa rLa kka cAL rA HDK HXX HAT hLr hg7 HG HX HT HD hN7 hP7 c0 c1 c2 hr7 ht7
            have cL7 : w4.cell? ⟨AL, K, none⟩ = some (.pointer (some ⟨d7.B, 0, none⟩)) := by rw [rL7.cell K]; exact ptrs_get hd7
            have HD77 := Lib.hid hd7
            clear hd7 hB7
            go_wp2_with fail
            refine (arenaPages_any _ d7 w4 (hY7.arena K d7 HD77.out) (by rw [HR7.out]; simp) (by rw [HR7.out]; simp)).mono ?_
            rintro e w5 ⟨rfl, k5⟩
            rw [HR7.out, show sumR [] = 0 from rfl]
            have rL5 := rL7.kept k5 (by simp)
            have cL5 : w5.cell? ⟨AL, K, none⟩ = some (.pointer (some ⟨d7.B, 0, none⟩)) := by rw [rL5.cell K]; exact ptrs_get HD77.out
            have hY5 := hY7.kept k5
            have kk5 := kk7.trans k5
            clear cL7 rL7 hY7 kk7 k5
            go_wp2_with fail
            refine (arenaThings_any _ d7 w5 (hY5.arena K d7 HD77.out) (by rw [HT7.out]; simp)).mono ?_
            rintro e w6 ⟨v6, rfl, hown6, k6⟩
            rw [HT7.out] at hown6
            obtain ⟨a6, c6, rfl, -, -⟩ := hown6.slice
            rw [List.length_nil]
            go_wp2
            go_roundw
            case rel => exact ⟨j + 1, ds7, xs7, _, by go_num, by omega, HD7, HX7, HG7, HTT, hY5.kept k6, rL5.kept k6 (by simp), hL7, kk5.trans k6⟩
            case measure => simp [intOf]; omega
          | false =>
            go_wp2_with fail
            generalize wr.alloc (.cells #[.int .u8 k, .int .i64 s, .bool false] 42) = wa at rA hYa rLa kka cAL ⊢
            obtain ⟨C, hC⟩ : ∃ C, wr.heap.size = C := ⟨_, rfl⟩
            rw [hC] at rA HAT ⊢
            clear hC c0 c1 c2 HXX
            have HMY := Lib.hid (HG.out.good.many (toA_get HDK.out))
            have HSM := Lib.hid (HG.out.good.small (toA_get HDK.out))
            refine (arenaPages_any _ d wa (hYa.arena K d HDK.out) HSM.out (by have := HMY.out; omega)).mono ?_
            rintro e w3 ⟨rfl, k3⟩
            have hYb := hYa.kept k3
            have rLb := rLa.kept k3 (by simp)
            have rAb := rA.kept k3 (by simp)
            have kkb := kka.trans k3
            clear hYa rLa rA kka cAL k3
            have cAL : w3.drew.cell? ⟨AL, K, none⟩ = some (.pointer (some ⟨d.B, 0, none⟩)) := by rw [rLb.drew.cell K]; exact ptrs_get HDK.out
            have cA1 : w3.drew.cell? ⟨C, 1, none⟩ = some (.int .i64 s) := by simpa using rAb.drew.cell 1
            have hYd := hYb.kept (Kept.refl _ _).drew
            have rLd := rLb.drew
            have rAd := rAb.drew
            have kkd := kkb.drew
            go_wp2_with fail
            refine wp_region_pick (fun w' => w'.cell? ⟨AL, K, none⟩ = some (.pointer (some ⟨d.B, 0, none⟩)) ∧ w'.cell? ⟨C, 1, none⟩ = some (.int .i64 s)) (by kernel_rfl) ⟨cAL, cA1⟩ ?_
            simp only [numbered, List.length_cons, List.length_nil, Nat.reduceAdd]
            repeat (first
              | (refine pick_take0 (v := ?_) rfl (by decide +kernel) (fun _ _ _ h => h) (by rfl) ?_ ?_; rotate_left; (intro w hSw; (try dsimp only at hSw); go_simp; (try rw [if_pos hKI]); try with_reducible rfl); go_frame)
              | (refine pick_take1 (v := ?_) rfl (by decide +kernel) (fun _ _ _ h => h) (by rfl) ?_ ?_; rotate_left; (intro w hSw; (try dsimp only at hSw); go_simp; (try rw [if_pos hKI]); try with_reducible rfl); go_frame)
              | (refine pick_take2 (v := ?_) rfl (by decide +kernel) (fun _ _ _ h => h) (by rfl) ?_ ?_; rotate_left; (intro w hSw; (try dsimp only at hSw); go_simp; (try rw [if_pos hKI]); try with_reducible rfl); go_frame)
              | (refine pick_call (by decide +kernel) (by rfl) (fun KK hKK => ?_); go_simp
                 first
                 | (go_at_call 15; refine (arenaAlloc_any p rb rg mb mg d xs ys s w3.drew (hYd.arena _ d HDK.out) hYd.pages (hYd.away _ d HDK.out) (by have := HMY.out; omega) (by have := HT.out d (List.mem_of_getElem? HDK.out); omega)).mono ?_; rintro e w4 ⟨d4, rfl, hN4, hB4, hA4, hP4, hF4, k4⟩; have hg4 := Yard.goes HDK.out hF4 k4; have rL4 := rLd.kept hg4.kept hLr; have rA4 := rAd.kept hg4.kept HAT.out; have hSc : w4.cell? ⟨AL, K, none⟩ = some (.pointer (some ⟨d.B, 0, none⟩)) ∧ w4.cell? ⟨C, 1, none⟩ = some (.int .i64 s) := ⟨(by rw [rL4.cell _]; exact ptrs_get HDK.out), (by simpa using rA4.cell 1)⟩)
                 (try dsimp only)
                 refine hKK _ _ hSc ?_
                 clear hKK KK))
            refine pick_done (by decide +kernel) ?_
            have hY4 := hYd.step HDK.out hA4 hP4 hF4 k4
            have hL4 := hg4.off hLr rLd.lt
            have kk4 := hYd.keeps HDK.out k4 kkd (Nat.le_refl _)
            have hG4 := HG.out.alloc (toA_get HDK.out) s
            have HG4 : Hid (Good2 (allocN d.toArN xs s).2.1 (toA (ds.set K d4))) := by rw [toA_set, hN4]; exact hG4
            have HX4 : Hid ((allocN d.toArN xs s).2.1.length = m) := (allocN_len _ _ _).trans HX.out
            have hrs := allocN_rs d.toArN (HG.out.good.ok _ _ (toA_get HDK.out)) HG.out.good.le ys hYd.pages.len s
            have hyl : (allocY d.toArN xs ys s).length = ys.length := by have h1 := hY4.pages.len; have h2 := hYd.pages.len; have h3 := HX.out; have h4 := HX4.out; omega
            have HYE := Lib.hid hyl
            clear hyl
            have hts := allocN_ts (HG.out.good.ok _ _ (toA_get HDK.out)) HG.out.good.le s
            have HR4 := Lib.hid (congrArg ArN.rs hN4)
            have HT4 : Hid (∀ e ∈ ds.set K d4, e.ts.length ≤ j + 1) := fun e he => by
              rcases List.mem_or_eq_of_mem_set he with he | rfl
              · have := HT.out e he; omega
              · have := HT.out d (List.mem_of_getElem? HDK.out)
                rw [congrArg ArN.ts hN4]; omega
            have HD4 : Hid ((ds.set K d4).length = 4) := (List.length_set ..).trans HD.out
            have hP4' : ptrs (ds.set K d4) = ptrs ds := ptrs_set HDK.out hB4
            rw [← hP4'] at rL4
            clear hP4'
            have HDK4 : Hid ((ds.set K d4)[K]? = some d4) := by show _ = _; rw [List.getElem?_set_self (by rw [HD.out]; exact hK4)]
            generalize ds.set K d4 = ds4 at hY4 rL4 hL4 HT4 HD4 HG4 HDK4 hg4
            rw [← hB4] at hSc
            have HSM4 := Lib.hid (HG4.out.good.small (toA_get HDK4.out))
            have HMY4 := Lib.hid (HG4.out.good.many (toA_get HDK4.out))
            have hCm : C ≠ mg := fun e => HAT.out (mem_turf.2 (.inr (.inl e)))
            have hAm : AL ≠ mg := by have := HPA.out; omega
            clear hG4 hA4 hF4 k4 hYd rLd kkd cAL cA1 rAd HDK HAT hLr hg4 HG HX HT HD hP4 hB4 hYb rLb rAb kkb HMY HSM hts
            generalize (allocN d.toArN xs s).2.1 = xs4 at hY4 HG4 HX4
            generalize allocY d.toArN xs ys s = ys4 at hrs hY4 HYE
            generalize (allocN d.toArN xs s).2.2.1 = at_ at hrs ⊢
            generalize (allocN d.toArN xs s).2.2.2 = er at hrs ⊢
            generalize (allocN d.toArN xs s).1 = a4 at hrs hN4 HR4
            obtain ⟨cL4, cA4⟩ := hSc
            rcases hrs with hE | ⟨F, S, hs1, hS1, rfl, rfl, hFS, hsum⟩ | ⟨F, S, hs1, hS1, rfl, rfl, hFS, hsum, hFY, hzero⟩
            · have hE' : (er == 0) = false := by simpa using hE
              clear hE hN4 HR4
              go_wp2_with fail
              go_roundw
              case rel => exact ⟨j + 1, ds4, xs4, _, by go_num, by omega, HD4, HX4, HG4, HT4, hY4, rL4, hL4, kk4⟩
              case measure => simp [intOf]; omega
            · rw [hs1] at rA4 cA4
              have hle : decide (sumR d.rs < sumR d4.rs) = false := by rw [HR4.out, hsum]; simp
              clear hsum hN4 HR4 hs1
              go_wp2_with fail
              refine (arenaPages_any _ d4 w4 (hY4.arena K d4 HDK4.out) HSM4.out (by have := HMY4.out; omega)).mono ?_
              rintro e w5 ⟨rfl, k5⟩
              have hY5 := hY4.kept k5
              have rL5 := rL4.kept k5 (by simp)
              have rA5 := rA4.kept k5 (by simp)
              have kk5 := kk4.trans k5
              clear hY4 rL4 rA4 kk4 k5 cL4
              go_wp2_with fail
              have hYd := hY5.kept (Kept.refl _ _).drew
              refine wp_region_pick (fun w' => w'.cell? ⟨C, 1, none⟩ = some (.int .i64 S)) (by kernel_rfl) (by simpa using rA5.drew.cell 1) ?_
              simp only [numbered, List.length_cons, List.length_nil, Nat.reduceAdd]
              repeat (first
                | (refine pick_take0 (v := ?_) rfl (by decide +kernel) (fun _ _ _ h => h) (by rfl) ?_ ?_; rotate_left; (intro w hSw; (try dsimp only at hSw); go_simp; try with_reducible rfl); go_frame)
                | (refine pick_take1 (v := ?_) rfl (by decide +kernel) (fun _ _ _ h => h) (by rfl) ?_ ?_; rotate_left; (intro w hSw; (try dsimp only at hSw); go_simp; try with_reducible rfl); go_frame)
                | (refine pick_take2 (v := ?_) rfl (by decide +kernel) (fun _ _ _ h => h) (by rfl) ?_ ?_; rotate_left; (intro w hSw; (try dsimp only at hSw); go_simp; try with_reducible rfl); go_frame)
                | (refine pick_call (by decide +kernel) (by rfl) (fun KK hKK => ?_); go_simp
                   first
                   | (go_at_call 25; refine (pagesMem_any p rb rg mb mg _ _ _ hYd.pages).mono ?_; rintro e w6 ⟨rfl, hw6⟩; subst hw6; have hSc : w5.drew.cell? ⟨C, 1, none⟩ = some (.int .i64 S) := (by simpa using rA5.drew.cell 1))
                   | (go_at_call 27; refine (fill_any mb mg _ F S 7 _ hYd.pages.mem (by omega)).mono ?_; rintro e w7 ⟨rfl, hm7, k7⟩; have hSc : w7.cell? ⟨C, 1, none⟩ = some (.int .i64 S) := (by simpa using (rA5.drew.kept k7 (by simp; exact hCm)).cell 1))
                   (try dsimp only)
                   refine hKK _ _ hSc ?_
                   clear hKK KK))
              refine pick_done (by decide +kernel) ?_
              have hY7 := hYd.written hm7 k7 (flB_length _ _ _ _)
              have rL7 := rL5.drew.kept k7 (by simp; exact hAm)
              have kk7 : Kept [] w w7 := kk5.drew.chain k7 (by simp) (by intro i hi hl; simp at hi; have := hYd.newP; omega)
              clear hYd hm7 k7 rA5 rL5 hY5 kk5 hSc
              go_wp2
              go_roundw
              case rel => exact ⟨j + 1, ds4, xs4, _, by go_num, by omega, HD4, HX4, HG4, HT4, hY7, rL7, hL4, kk7⟩
              case measure => simp [intOf]; omega
            · rw [hs1] at rA4 cA4
              have hle : decide (sumR d.rs < sumR d4.rs) = true := by rw [HR4.out]; simp; omega
              have HZ := Lib.hid hzero
              clear hsum hN4 HR4 hs1 hzero
              go_wp2_with fail
              refine (arenaPages_any _ d4 w4 (hY4.arena K d4 HDK4.out) HSM4.out (by have := HMY4.out; omega)).mono ?_
              rintro e w5 ⟨rfl, k5⟩
              have hY5 := hY4.kept k5
              have rL5 := rL4.kept k5 (by simp)
              have rA5 := rA4.kept k5 (by simp)
              have kk5 := kk4.trans k5
              clear hY4 rL4 rA4 kk4 k5 cL4
              go_wp2_with fail
              have HYL := Lib.hid (show F + S ≤ ys4.length by rw [HYE.out]; exact hFY)
              go_loopw [15] (fun i wq => ∃ q : Nat, i = .int .i64 ((F + q : Nat) : Int) ∧ q ≤ S ∧ w5 = wq) (fun i _ => F + S - (intOf i).toNat)
              case atStart => exact ⟨0, by simp, Nat.zero_le _, rfl⟩
              case round =>
                obtain ⟨q, rfl, hq, rfl⟩ := hrel
                have cA5 : w5.cell? ⟨C, 1, none⟩ = some (.int .i64 S) := by simpa using rA5.cell 1
                by_cases hqS : q < S
                · have hlt2 : ((F + q : Nat) : Int) < (F : Int) + (S : Int) := by omega
                  have hz := HZ.out (F + q) (by omega) (by omega)
                  have HZ0 := Lib.hid hz
                  have HHB := Lib.hid (show hasB ys4.length ((F + q : Nat) : Int) = true by have := HYL.out; simp [hasB]; omega)
                  have hrd := read_any mb mg ys4 ((F + q : Nat) : Int) w5 hY5.pages.mem
                  rw [HHB.out, if_pos rfl, Int.toNat_natCast, HZ0.out, show errB true = 0 from rfl] at hrd
                  clear hz
                  go_wp2_with fail
                  refine (pagesMem_any p rb rg mb mg _ _ _ hY5.pages).mono ?_
                  rintro e w6 ⟨rfl, rfl⟩
                  go_wp2_with fail
                  refine hrd.mono ?_
                  rintro e w6 ⟨rfl, rfl⟩
                  go_wp2
                  go_roundw
                  case rel => exact ⟨q + 1, by go_num, by omega, by first | rfl | trivial⟩
                  case measure => simp [intOf]; omega
                · have hge2 : ¬ ((F + q : Nat) : Int) < (F : Int) + (S : Int) := by omega
                  clear hqS hq
                  go_wp2_with fail
                  have hYd := hY5.kept (Kept.refl _ _).drew
                  refine wp_region_pick (fun w' => w'.cell? ⟨C, 1, none⟩ = some (.int .i64 S)) (by kernel_rfl) (by simpa using rA5.drew.cell 1) ?_
                  simp only [numbered, List.length_cons, List.length_nil, Nat.reduceAdd]
                  repeat (first
                    | (refine pick_take0 (v := ?_) rfl (by decide +kernel) (fun _ _ _ h => h) (by rfl) ?_ ?_; rotate_left; (intro w hSw; (try dsimp only at hSw); go_simp; try with_reducible rfl); go_frame)
                    | (refine pick_take1 (v := ?_) rfl (by decide +kernel) (fun _ _ _ h => h) (by rfl) ?_ ?_; rotate_left; (intro w hSw; (try dsimp only at hSw); go_simp; try with_reducible rfl); go_frame)
                    | (refine pick_take2 (v := ?_) rfl (by decide +kernel) (fun _ _ _ h => h) (by rfl) ?_ ?_; rotate_left; (intro w hSw; (try dsimp only at hSw); go_simp; try with_reducible rfl); go_frame)
                    | (refine pick_call (by decide +kernel) (by rfl) (fun KK hKK => ?_); go_simp
                       first
                       | (go_at_call 25; refine (pagesMem_any p rb rg mb mg _ _ _ hYd.pages).mono ?_; rintro e w6 ⟨rfl, hw6⟩; subst hw6; have hSc : w5.drew.cell? ⟨C, 1, none⟩ = some (.int .i64 S) := (by simpa using rA5.drew.cell 1))
                       | (go_at_call 27; refine (fill_any mb mg _ F S 7 _ hYd.pages.mem (by omega)).mono ?_; rintro e w7 ⟨rfl, hm7, k7⟩; have hSc : w7.cell? ⟨C, 1, none⟩ = some (.int .i64 S) := (by simpa using (rA5.drew.kept k7 (by simp; exact hCm)).cell 1))
                       (try dsimp only)
                       refine hKK _ _ hSc ?_
                       clear hKK KK))
                  refine pick_done (by decide +kernel) ?_
                  have hY7 := hYd.written hm7 k7 (flB_length _ _ _ _)
                  have rL7 := rL5.drew.kept k7 (by simp; exact hAm)
                  have kk7 : Kept [] w w7 := kk5.drew.chain k7 (by simp) (by intro i hi hl; simp at hi; have := hYd.newP; omega)
                  clear hYd hm7 k7 rA5 rL5 hY5 kk5 hSc
                  go_wp2
                  go_roundw
                  case rel => exact ⟨j + 1, ds4, xs4, _, by go_num, by omega, HD4, HX4, HG4, HT4, hY7, rL7, hL4, kk7⟩
                  case measure => simp [intOf]; omega
        · have hjl : j = l.length := by omega
          have hge3 : decide ((j : Int) < (l.length : Int)) = false := by simp; omega
          have hsz : (Try.prog.info? 33).map (·.size) = some (ptrs ds).toArray.size := by
            rw [show (ptrs ds).toArray.size = 4 by simp [ptrs_length, HD.out]]
            kernel_rfl
          have HSZ := Lib.hid hsz
          clear hsz hlt
          go_wp2_with (first | (refine wpList_load_row rfl 33 _ rfl AL rfl 33 (ptrs ds).toArray (0, 0) _ rLr Try.underlying33 rfl HSZ.out ?_) | fail)
          have HGET : Hid (∀ i : Nat, i < 4 → ∃ d : AD, ds[i]? = some d ∧ ∀ w, (Instr.index 33 (.agg (ptrs ds).toArray) (.int .i64 i)).run Try.prog w = .ok (.pointer (some ⟨d.B, 0, none⟩)) w) := fun i hi => by
            have hd : ds[i]? = some (ds[i]'(by rw [HD.out]; exact hi)) := List.getElem?_eq_getElem _
            exact ⟨_, hd, fun w => run_index_ptr w _ _ _ 4 Try.underlying33 Try.underlying32 (fun w => by rfl) _ _ i hi (ptrs_get hd)⟩
          have hJl := Lib.hid hjl
          have hsumA := HG.out.good.sum
          have hcnt := countB_le xs
          have hxle := HG.out.good.le
          have HSM : Hid (sumA (toA ds) = countB xs) := hsumA
          have HCX : Hid (countB xs ≤ xs.length ∧ xs.length ≤ 1024) := ⟨hcnt, hxle⟩
          clear hjl hsumA hcnt hxle HSZ hge3 hj
          generalize (ptrs ds).toArray = V at HGET ⊢
          obtain ⟨W0, rfl⟩ : ∃ W0, W0 = wr := ⟨_, rfl⟩
          go_loopw [18, 19, 142] (fun o0 v0 i0 wq => ∃ (i : Nat) (v : Value), i0 = .int .i64 i ∧ i ≤ 4 ∧ v = v0 ∧ o0 = .int .i64 (sumA ((toA ds).take i)) ∧ OwnR wq W0.heap.size v (tsA ((toA ds).take i)) ∧ Kept [] W0 wq) (fun _ _ i _ => 4 - (intOf i).toNat)
          case atStart => exact ⟨0, _, rfl, by omega, rfl, by simp [sumA], OwnR.nil _ _, Kept.refl _ _⟩
          case round =>
            obtain ⟨i, v, rfl, hi, rfl, rfl, hown, hkq⟩ := hrel
            by_cases hi4 : i < 4
            · obtain ⟨d, hd, hidx⟩ := HGET.out i hi4
              have HDI := Lib.hid hd
              have hA := toA_get hd
              have HTS := Lib.hid (tsA_take hA)
              have HSU := Lib.hid (sumA_take hA)
              have HAH := Lib.hid (fun q hq => HG.out.ahead hA (q := q) hq)
              have HWI := Lib.hid (fun t ht => HG.out.within hA (t := t) ht)
              have HFI := Lib.hid (fun t ht => (HG.out.stand _ _ hA).first (t := t) ht)
              have HLA := Lib.hid (fun t ht => (HG.out.stand _ _ hA).last (t := t) ht)
              have HRM := Lib.hid (HG.out.good.small hA)
              have HRL := Lib.hid (HG.out.good.many hA)
              have HTL := Lib.hid (HT.out d (List.mem_of_getElem? hd))
              have HWT : Hid (∀ y ∈ tsA ((toA ds).take i), y.1 + y.2 ≤ 16384) := fun y hy => by
                obtain ⟨j2, a2, h1, h2⟩ := tsA_mem hy
                exact (HG.out.within h1 h2).2
              have hsl := sumA_take_le (toA ds) (i + 1)
              rw [HSU.out, HSM.out] at hsl
              have hcx := HCX.out
              obtain ⟨Sg, hSg⟩ : ∃ Sg, sumA ((toA ds).take i) = Sg := ⟨_, rfl⟩
              rw [hSg] at hsl HSU ⊢
              have HPL0 : Hid ((tsA ((toA ds).take i)).length ≤ 100000) := by
                have h1 := tsA_len ((toA ds).take i) (M := 80) (fun a ha => by
                  obtain ⟨e, he, rfl⟩ := List.mem_map.1 (List.mem_of_mem_take ha)
                  have := HT.out e he; have := hJl.out; omega)
                have h2 : ((toA ds).take i).length ≤ 4 := by rw [List.length_take]; omega
                show _ ≤ _
                have h3 : ((toA ds).take i).length * 80 ≤ 4 * 80 := Nat.mul_le_mul_right _ h2
                omega
              generalize tsA ((toA ds).take i) = P at HTS HAH HWT hown HPL0
              have hwr1 : IntKind.i64.wrap ((Sg : Int) + (sumR d.rs : Int)) = (Sg : Int) + (sumR d.rs : Int) := by rw [IntKind.wrap_i64]; omega
              have hYq := hYr.kept hkq
              have HSL := Lib.hid hsl
              clear hSg hsl hcx hA hd
              go_wp2_with fail
              refine (arenaPages_any _ d wr (hYq.arena i d HDI.out) HRM.out (by have := HRL.out; omega)).mono ?_
              rintro e w5 ⟨rfl, k5⟩
              have hY5 := hYq.kept k5
              have hown5 := hown.keep k5
              have kr5 := hkq.trans k5
              clear hYq hown hkq k5
              go_wp2_with fail
              refine (arenaThings_any _ d w5 (hY5.arena i d HDI.out) (by have := HTL.out; have := hJl.out; omega)).mono ?_
              rintro e w6 ⟨v6, rfl, hown6, k6⟩
              obtain ⟨a6, c6, rfl, -, hge6⟩ := hown6.slice
              have hownV := hown5.keep k6
              have kr6 := kr5.trans k6
              have hY6 := hY5.kept k6
              have hvv : ∀ jb, v.ownBlock = some jb → (Value.slice a6 d.ts.length c6).ownBlock ≠ some jb := fun jb hjb e => by
                obtain ⟨_, o, ho, _⟩ := own_block hown5 jb hjb
                have h1 := lt_of_block ho
                have h2 := hown6.ge jb e
                omega
              have hz56 : W0.heap.size ≤ w5.heap.size := kr5.size
              clear hown5 kr5 k6 hY5 hge6
              have HPL : Hid (P.length ≤ 100000) := HPL0.out
              clear HPL0
              go_wp2_with fail
              go_loopw [19, 152] (fun v0 q0 wt => ∃ (q : Nat) (v : Value), q0 = .int .i64 q ∧ q ≤ d.ts.length ∧ v = v0 ∧ OwnR wt W0.heap.size v (P ++ d.ts.take q) ∧ OwnR wt w5.heap.size (.slice a6 d.ts.length c6) d.ts ∧ (∀ jb, v.ownBlock = some jb → (Value.slice a6 d.ts.length c6).ownBlock ≠ some jb) ∧ Kept [] W0 wt) (fun _ q _ => d.ts.length - (intOf q).toNat)
              case atStart => exact ⟨0, _, rfl, Nat.zero_le _, rfl, by simpa using hownV, hown6, hvv, kr6⟩
              case round =>
                clear hownV hown6 hvv kr6 hY6
                obtain ⟨q, v, rfl, hq, rfl, hown, hown6, hvv, hkr⟩ := hrel
                by_cases hqt : q < d.ts.length
                · have hah := HAH.out q hqt
                  have hmem := List.getElem_mem hqt
                  have HTK := Lib.hid (List.take_append_getElem hqt)
                  obtain ⟨b6, off6, rfl, _, c0, c1⟩ := (hown6.slR).cell hqt
                  obtain ⟨r, hr⟩ : ∃ r, d.ts[q] = r := ⟨_, rfl⟩
                  rw [hr] at hah hmem HTK c0 c1
                  clear hr
                  obtain ⟨F, S⟩ := r
                  simp only at c0 c1
                  obtain ⟨hS1, hFS⟩ := HWI.out _ hmem
                  simp only at hS1 hFS
                  have HF1 := Lib.hid (HFI.out _ hmem)
                  have HF2 := Lib.hid (HLA.out _ hmem)
                  simp only at HF1 HF2
                  have HBD : Hid (∀ y ∈ P ++ d.ts.take q, y.1 + y.2 ≤ 16384) := fun y hy => by
                    rcases List.mem_append.1 hy with hy | hy
                    · exact HWT.out y hy
                    · exact (HWI.out y (List.mem_of_mem_take hy)).2
                  have HLN : Hid ((P ++ d.ts.take q).length ≤ 1099511627776) := by
                    have := HPL.out; have := HTL.out; have := hJl.out
                    show _ ≤ _
                    rw [List.length_append, List.length_take]; omega
                  have HTK2 : Hid (P ++ d.ts.take (q + 1) = (P ++ d.ts.take q) ++ [(F, S)]) := by show _ = _; rw [← HTK.out, List.append_assoc]
                  generalize P ++ d.ts.take q = TT at hah hown HBD HLN HTK2
                  have HAP := Lib.hid hah
                  obtain ⟨av, cv, rfl, hslv, -⟩ := hown.slice
                  have g1 : decide ((S : Int) < 1) = false := by simp; omega
                  have u1 : IntKind.i64.wrap ((F : Int) + (S : Int)) = (F : Int) + (S : Int) := by rw [IntKind.wrap_i64]; omega
                  have u2 : IntKind.i64.wrap ((F : Int) + (S : Int) - 1) = (F : Int) + (S : Int) - 1 := by rw [IntKind.wrap_i64]; omega
                  have rR := Row.new wr 63 [.int .i64 F, .int .i64 S]
                  have kR := (Kept.refl [] wr).alloc (.cells #[.int .i64 F, .int .i64 S] 63)
                  have hqI : (q : Int) < (d.ts.length : Int) := by omega
                  clear hah hmem HTK
                  go_wp2_with fail
                  generalize wr.alloc (.cells #[.int .i64 F, .int .i64 S] 63) = wa at rR kR ⊢
                  obtain ⟨R, hR⟩ : ∃ R, wr.heap.size = R := ⟨_, rfl⟩
                  rw [hR] at rR ⊢
                  have kra := hkr.trans kR
                  refine (arenaHas_any _ d F wa ((hYr.kept kra).arena i d HDI.out) HRM.out (by have := HRL.out; omega)).mono ?_
                  rintro e w7 ⟨rfl, k7⟩
                  rw [HF1.out]
                  have rR7 := rR.kept k7 (by simp)
                  have cR0 : w7.cell? ⟨R, 0, none⟩ = some (.int .i64 F) := by simpa using rR7.cell 0
                  have cR1 : w7.cell? ⟨R, 1, none⟩ = some (.int .i64 S) := by simpa using rR7.cell 1
                  go_wp2_with fail
                  refine (arenaHas_any _ d ((F : Int) + S - 1) w7 ((hYr.kept (kra.trans k7)).arena i d HDI.out) HRM.out (by have := HRL.out; omega)).mono ?_
                  rintro e w8 ⟨rfl, k8⟩
                  rw [HF2.out]
                  have k78 := kR.trans (k7.trans k8)
                  have rR8 := rR7.kept k8 (by simp)
                  have hown8 := hown.keep k78
                  have hslv8 := hslv.kept k78
                  have hown68 := hown6.keep k78
                  have kr8 := hkr.trans k78
                  clear cR0 cR1 rR7 rR kra k7 k8 k78 kR hown hslv hown6 hkr c0 c1
                  go_wp2_with fail
                  go_loopw [179] (fun y0 wy => ∃ y : Nat, y0 = .int .i64 y ∧ y ≤ TT.length ∧ Kept [] w8 wy) (fun y0 _ => TT.length - (intOf y0).toNat)
                  case atStart => exact ⟨0, rfl, Nat.zero_le _, Kept.refl _ _⟩
                  case round =>
                    obtain ⟨y, rfl, hy, hky⟩ := hrel
                    have rRy := rR8.kept hky (by simp)
                    by_cases hyt : y < TT.length
                    · obtain ⟨b2, off2, rfl, _, d0, d1⟩ := (hslv8.kept hky).cell hyt
                      have hym := List.getElem_mem hyt
                      have hap := HAP.out _ hym
                      have hbd := HBD.out _ hym
                      generalize TT[y] = t2 at d0 d1 hap hbd
                      obtain ⟨G, H2⟩ := t2
                      simp only at d0 d1 hbd
                      unfold apartR at hap
                      simp only at hap
                      have rY := Row.new wr 63 [.int .i64 G, .int .i64 H2]
                      have kY := (Kept.refl [] wr).alloc (.cells #[.int .i64 G, .int .i64 H2] 63)
                      have rRz := rRy.kept kY (by simp)
                      have cR0 : (wr.alloc (.cells #[.int .i64 G, .int .i64 H2] 63)).cell? ⟨R, 0, none⟩ = some (.int .i64 F) := by simpa using rRz.cell 0
                      have cR1 : (wr.alloc (.cells #[.int .i64 G, .int .i64 H2] 63)).cell? ⟨R, 1, none⟩ = some (.int .i64 S) := by simpa using rRz.cell 1
                      have u3 : IntKind.i64.wrap ((G : Int) + (H2 : Int)) = (G : Int) + (H2 : Int) := by rw [IntKind.wrap_i64]; omega
                      have hyI : (y : Int) < (TT.length : Int) := by omega
                      have hTL : TT.length ≤ 1099511627776 := HLN.out
                      rcases (show decide ((F : Int) < (G : Int) + (H2 : Int)) = false ∨ (decide ((F : Int) < (G : Int) + (H2 : Int)) = true ∧ decide ((G : Int) < (F : Int) + (S : Int)) = false) by simp only [decide_eq_false_iff_not, decide_eq_true_eq]; omega) with g2 | ⟨g2, g3⟩
                      all_goals
                        clear hap rRz rRy rY
                        go_wp2_with fail
                        go_roundw
                        case rel => exact ⟨y + 1, by go_num, by omega, hky.trans kY⟩
                        case measure => simp [intOf]; omega
                    · have hyI : decide (y < TT.length) = false := by simp; omega
                      have hTL2 : d.ts.length ≤ 80 := by have := HTL.out; have := hJl.out; omega
                      have cR0 : wr.cell? ⟨R, 0, none⟩ = some (.int .i64 F) := by simpa using rRy.cell 0
                      have cR1 : wr.cell? ⟨R, 1, none⟩ = some (.int .i64 S) := by simpa using rRy.cell 1
                      have hown9 := hown8.keep hky
                      have hown69 := hown68.keep hky
                      have kr9 := kr8.trans hky
                      have hzb : W0.heap.size ≤ wr.heap.size := kr9.size
                      clear hyt hy hslv8 hown8 hown68 kr8 rRy rR8 hky
                      go_wp2_with (first | (at_builtin; refine wpList_append_runN _ rfl _ _ rfl W0.heap.size wr _ TT F S rfl rfl rfl hown9 hzb HLN.out ?_; intro g3 c3 w9 hown3 hk3 hat3) | fail)
                      go_roundw
                      case rel =>
                        refine ⟨q + 1, _, by go_num, by omega, rfl, by rw [HTK2.out]; exact hown3, hown69.keptS hk3 (fun jb hjb hm => hvv jb (Option.mem_toList.1 hm) hjb), ?_, kr9.chain hk3 (by simp) (fun k hk hl => by have := hown9.ge k (Option.mem_toList.1 hk); omega)⟩
                        intro jb hjb
                        simp [Value.ownBlock] at hjb
                        subst hjb
                        rcases hat3 with h' | h'
                        · exact hvv _ h'
                        · intro e
                          obtain ⟨_, o, ho, _⟩ := own_block hown69 g3 e
                          have := lt_of_block ho
                          omega
                      case measure => simp [intOf]; omega
                · have hqI : decide (q < d.ts.length) = false := by simp; omega
                  have hqe : q = d.ts.length := by omega
                  rw [hqe, List.take_length, ← HTS.out] at hown
                  clear hqe hqt hq
                  go_wp2
                  go_roundw
                  case rel => exact ⟨i + 1, v, by go_num, by omega, rfl, by rw [HSU.out, Int.natCast_add], hown, hkr⟩
                  case measure => simp [intOf]; omega
            · have hii : i = 4 := by omega
              have hi4I : decide ((i : Int) < 4) = false := by simp; omega
              have hal : (toA ds).take i = toA ds := List.take_of_length_le (by rw [toA, List.length_map, HD.out]; omega)
              rw [hal, HSM.out]
              clear hal hown hii
              go_wp2_with fail
              refine (fixed11_any wr).mono ?_
              rintro e w5 ⟨rfl, k5⟩
              have hY5 := hYr.kept (hkq.trans k5)
              have hcx := HCX.out
              have u1 : IntKind.i64.wrap ((countB xs : Int) + ((xs.length : Int) - (countB xs : Int))) = (xs.length : Int) := by rw [IntKind.wrap_i64]; omega
              go_wp2_with fail
              refine (pagesFree_any p rb rg mb mg xs ys w5 hY5.pages).mono ?_
              rintro e w6 ⟨rfl, k6⟩
              go_wp2_with fail
              refine (pagesLen_any p rb rg mb mg xs ys w6 (hY5.kept k6).pages).mono ?_
              rintro e w7 ⟨rfl, rfl⟩
              go_wp2
              go_ret
              exact ⟨rfl, ((kkr.trans hkq).trans k5).trans k6⟩
end Go.Proofs.Ytenhelbmcapfkaa
