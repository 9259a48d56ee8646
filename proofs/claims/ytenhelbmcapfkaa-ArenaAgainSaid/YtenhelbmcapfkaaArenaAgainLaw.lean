/- The law ArenaAgain: its walk. -/
import Derived.Test.YtenhelbmcapfkaaArenaPlace
import Derived.Test.YtenhelbmcapfkaaArenaFixed
import Derived.Test.YtenhelbmcapfkaaArenaRest
import Derived.Test.YtenhelbmcapfkaaRegionPick
namespace Go.Proofs.Ytenhelbmcapfkaa
open Go.RowKit

/-- One arena alone: released, no page is granted. -/
theorem Good.alone {xs : List Bool} {a : ArN} (h : Good xs [a]) : relN xs a.rs = List.replicate xs.length false := by
  have hr := (h.release (i := 0) rfl).2
  have hl := relN_length a.rs xs
  refine mk_ext (by simp [hl]) (fun k hk => ?_)
  have hc := hr.cov k hk
  rw [show covA ([a].set 0 ⟨⟨0, 0⟩, [], []⟩) k = 0 from rfl] at hc
  rw [hl] at hk
  have : mk (relN xs a.rs) k = false := by
    cases hm : mk (relN xs a.rs) k with
    | false => rfl
    | true => rw [hm] at hc; simp at hc
  rw [this]
  simp [mk, hk]
theorem count_none (m : Nat) : countB (List.replicate m false) = 0 := by
  unfold countB
  simp [List.count_replicate]

set_option maxRecDepth 100000 in
set_option maxHeartbeats 2000000 in
theorem arenaAgain_big (n : Int) (a0 : Option Addr) (len cap : Nat) (w : World) (hl : 60 < len) (hm : len ≤ maxLen) :
    Calls Try.prog 6 #[.int .u8 n, .slice a0 len cap] w (FixedPost w) := by
  unfold maxLen at hm
  have k0 := (Kept.refl [] w).alloc (.cells #[.slice a0 len cap] 65)
  have c0 : (w.alloc (.cells #[.slice a0 len cap] 65)).cell? ⟨w.heap.size, 0, none⟩ = some (.slice a0 len cap) := by simp
  go_enter Try.func6, Try.ntmps6
  go_wp2_with fail
  refine (fixed11_any _).mono ?_
  rintro e w5 ⟨rfl, kw5⟩
  go_wp2
  go_ret
  exact ⟨rfl, k0.trans kw5⟩

set_option maxRecDepth 100000 in
set_option maxHeartbeats 8000000 in
theorem arenaAgain_law (n : Int) (a0 : Option Addr) (cap : Nat) (l : List Int) (w : World) (hs : Sl w .i64 a0 l) (hl : l.length ≤ 60) (hn0 : 0 ≤ n) (hn : n < 256) :
    Calls Try.prog 6 #[.int .u8 n, .slice a0 l.length cap] w (FixedPost w) := by
  have h60 : decide ((60 : Int) < l.length) = false := by simp; omega
  have rX := Row.new w 65 [.slice a0 l.length cap]
  have kX := (Kept.refl [] w).alloc (.cells #[.slice a0 l.length cap] 65)
  have cX : (w.alloc (.cells #[.slice a0 l.length cap] 65)).cell? ⟨w.heap.size, 0, none⟩ = some (.slice a0 l.length cap) := by simp
  obtain ⟨m, hmn, hm1, hm60⟩ : ∃ m : Nat, 1 + n % 60 = (m : Int) ∧ 1 ≤ m ∧ m ≤ 60 := ⟨(1 + n % 60).toNat, by omega, by omega, by omega⟩
  go_enter Try.func6, Try.ntmps6
  go_wp2_with fail
  try rw [hmn]
  clear hmn
  obtain ⟨X, hX⟩ : ∃ X, w.heap.size = X := ⟨_, rfl⟩
  have hXs : (w.alloc (.cells #[.slice a0 l.length cap] 65)).heap.size = X + 1 := by simp [hX]
  generalize w.alloc (.cells #[.slice a0 l.length cap] 65) = w0 at rX kX hXs ⊢
  rw [hX] at rX ⊢
  clear cX
  refine (pagesNew_yes m w0 hm1 (by omega)).mono ?_
  rintro e w1 ⟨p, rb, rg, mb, mg, rfl, hnew, hp1, k1⟩
  have hY1 : Yard w0.heap.size w1 p rb rg mb mg (List.replicate m false) (List.replicate (16 * m) (0 : Int)) [] := Yard.no hp1 k1.size (by omega)
  have kk1 := kX.trans k1
  have rX1 := rX.kept k1 (by simp)
  clear hp1 k1 rX
  go_wp2_with fail
  refine (arenaNew_any (some ⟨p, 0, none⟩) w1).mono ?_
  rintro e w2 ⟨d, rfl, hN, hA2, hF2, -, -, k2⟩
  have hY2 := hY1.more k2 hA2 hF2
  have kk2 := kk1.trans k2
  have rX2 := rX1.kept k2 (by simp)
  clear hY1 kk1 k2 hA2 hF2 rX1
  simp only [List.nil_append] at hY2
  have HN := Lib.hid hN
  clear hN
  have rY := Row.new w2 32 [.pointer (some ⟨d.B, 0, none⟩)]
  have kY := (Kept.refl [] w2).alloc (.cells #[.pointer (some ⟨d.B, 0, none⟩)] 32)
  have cY : (w2.alloc (.cells #[.pointer (some ⟨d.B, 0, none⟩)] 32)).cell? ⟨w2.heap.size, 0, none⟩ = some (.pointer (some ⟨d.B, 0, none⟩)) := by simp
  have hlt2 := hY2.turf_lt
  have hge2 := hY2.turf_ge
  have HXT : Hid (X ∉ turf rg mg [d]) := fun hm => by have := hge2 X hm; omega
  have HYT : Hid (w2.heap.size ∉ turf rg mg [d]) := fun hm => by have := hlt2 _ hm; omega
  have HGE : Hid (∀ k ∈ turf rg mg [d], w.heap.size ≤ k) := fun k hk => by have := hge2 k hk; omega
  clear hlt2 hge2
  go_wp2_with fail
  generalize w2.alloc (.cells #[.pointer (some ⟨d.B, 0, none⟩)] 32) = w3 at rY kY ⊢
  clear cY
  have hY3 := hY2.kept kY
  have kk3 := kk2.trans kY
  have rX3 := rX2.kept kY (by simp)
  clear hY2 kk2 kY rX2
  obtain ⟨Y, hYe⟩ : ∃ Y, w2.heap.size = Y := ⟨_, rfl⟩
  rw [hYe] at rY HYT ⊢
  clear hYe
  have hG3 : Good (List.replicate m false) [d.toArN] := by rw [HN.out]; exact Good.start (m := 1) (by omega)
  have hY3d := hY3.kept (Kept.refl _ _).drew
  have kk3d := kk3.drew
  have rX3d := rX3.drew
  have rYd := rY.drew
  have hwB : w.heap.size ≤ w0.heap.size := by omega
  have htd : d.ts.length ≤ 60 := by have := congrArg ArN.ts HN.out; simp only at this; rw [this]; simp
  obtain ⟨outs, aQ, xQ, hQ⟩ : ∃ outs aQ xQ, placeN l ([], ⟨⟨0, 0⟩, [], []⟩, List.replicate m false) = (outs, aQ, xQ) := ⟨_, _, _, rfl⟩
  have HQ := Lib.hid hQ
  clear hQ hY3 kk3 rX3
  refine wp_region_pick (fun w' => w'.cell? ⟨Y, 0, none⟩ = some (.pointer (some ⟨d.B, 0, none⟩))) (by kernel_rfl) (by simpa using rYd.cell 0) ?_
  simp only [numbered, List.length_cons, List.length_nil, Nat.reduceAdd]
  repeat (first
    | (refine pick_take0 (v := ?_) rfl (by decide +kernel) (fun _ _ _ h => h) (by rfl) ?_ ?_; rotate_left; (intro w hSw; (try dsimp only at hSw); go_simp; try with_reducible rfl); go_frame)
    | (refine pick_take1 (v := ?_) rfl (by decide +kernel) (fun _ _ _ h => h) (by rfl) ?_ ?_; rotate_left; (intro w hSw; (try dsimp only at hSw); go_simp; try with_reducible rfl); go_frame)
    | (refine pick_take2 (v := ?_) rfl (by decide +kernel) (fun _ _ _ h => h) (by rfl) ?_ ?_; rotate_left; (intro w hSw; (try dsimp only at hSw); go_simp; try with_reducible rfl); go_frame)
    | (refine pick_call (by decide +kernel) (by rfl) (fun K hK => ?_); go_simp
       first
       | (go_at_call 29; refine (place_any w0.heap.size p rb rg mb mg X Y cap a0 d _ _ l w3.drew w hs kk3d hwB hY3d hG3 hl htd rX3d rYd HYT.out).mono ?_; rintro e w5 ⟨v, d5, ys5, rfl, hown5, hB5, hN5, hY5, hG5, ht5, hg5, hv5⟩; rw [HN.out, HQ.out] at hown5 hN5 hY5 hG5; have hSd := rYd.kept hg5.kept HYT.out; have hSx := rX3d.kept hg5.kept HXT.out; have hSc : w5.cell? ⟨Y, 0, none⟩ = some (.pointer (some ⟨d.B, 0, none⟩)) := (by simpa using hSd.cell 0))
       | (go_at_call 20; rw [← hB5]; refine (arenaThings_any _ d5 w5 (hY5.arena 0 d5 rfl) (by omega)).mono ?_; rintro e w6 ⟨v6, rfl, hown6, k6⟩; rw [hB5]; have hSd6 := hSd.kept k6 (by simp); have hSc : w6.cell? ⟨Y, 0, none⟩ = some (.pointer (some ⟨d.B, 0, none⟩)) := (by simpa using hSd6.cell 0))
       (try dsimp only)
       refine hK _ _ hSc ?_
       clear hK K))
  refine pick_done (by decide +kernel) ?_
  simp only at hown5 hN5 hY5 hG5
  have hxl : xQ.length = m := by
    have := placeN_len l ([], ⟨⟨0, 0⟩, [], []⟩, List.replicate m false)
    rw [HQ.out] at this
    simpa using this
  have hal := hG5.alone
  rw [hxl] at hal
  obtain ⟨hok, -⟩ := hG5.release (i := 0) rfl
  have hY6 := hY5.kept k6
  have hrel := arenaRelease_any p rb rg mb mg d5 xQ ys5 w6 (hY6.arena 0 d5 rfl) hY6.pages (hY6.away 0 d5 rfl) (hG5.small (i := 0) rfl) (by have := hG5.many (i := 0) rfl; omega) hok
  rw [hB5] at hrel
  have hltT := hY5.turf_lt
  have HG0 := Lib.hid (hg5.trans (Goes.of_kept k6))
  have HV5 := Lib.hid hv5
  have hV6 : ∀ j, v6.ownBlock = some j → j ∉ turf rg mg [d5] := fun j hj hm => by have := hown6.ge j hj; have := hltT j hm; omega
  have HV6 := Lib.hid hV6
  have hownF := hown5.keep k6
  have HN5 := Lib.hid hN5
  have HB5 := Lib.hid hB5
  have hYl := rYd.lt
  have hXl := rX3d.lt
  clear hok hltT hV6 hv5 hown5 hN5 hG5 hY5 hG3 hY3d rYd rX3d hg5 hB5 hxl rY
  have hSx6 := hSx.kept k6 (by simp)
  have hYT5 := HG0.out.off HYT.out hYl
  go_wp2_with fail
  refine hrel.mono ?_
  rintro e w7 ⟨d7, rfl, hN7, hB7, hA7, hP7, hF7, k7⟩
  rw [hal] at hP7
  have hY7 := hY6.step (i := 0) rfl hA7 hP7 hF7 k7
  have hg7 := Yard.goes (ds := [d5]) (i := 0) rfl hF7 k7
  simp only [List.set_cons_zero] at hY7 hg7
  have HB7 := Lib.hid (hB7.trans HB5.out)
  have HN7 := Lib.hid hN7
  have hr7 := congrArg ArN.rs hN7
  have ht7 := congrArg ArN.ts hN7
  simp only at hr7 ht7
  have hownF7 := hownF.keptS hg7.kept HV5.out
  have hownT7 := hown6.keptS hg7.kept HV6.out
  have hblF : ∀ j, v.ownBlock = some j → j ∉ turf rg mg [d7] := fun j hj => hg7.off (HV5.out j hj) (by obtain ⟨_, o, ho, _⟩ := own_block hownF j hj; exact lt_of_block ho)
  have hblT : ∀ j, v6.ownBlock = some j → j ∉ turf rg mg [d7] := fun j hj => hg7.off (HV6.out j hj) (by obtain ⟨_, o, ho, _⟩ := own_block hown6 j hj; exact lt_of_block ho)
  have HVF := Lib.hid hblF
  have HVT := Lib.hid hblT
  have rX7 := hSx6.kept hg7.kept (HG0.out.off HXT.out hXl)
  have rY7 := hSd6.kept hg7.kept hYT5
  have hXT7 := hg7.off (HG0.out.off HXT.out hXl) hSx6.lt
  have hYT7 := hg7.off hYT5 hSd6.lt
  have HG7 := Lib.hid (HG0.out.trans hg7)
  have HYT7 := Lib.hid hYT7
  have hPg : ∀ w', Kept [] w7 w' → Calls Try.prog 21 #[.pointer (some ⟨d.B, 0, none⟩)] w' (PagesNPost [] w') := fun w' hk => by
    have := arenaPages_any _ d7 w' ((hY7.kept hk).arena 0 d7 rfl) (by rw [hr7]; simp) (by rw [hr7]; simp)
    rwa [HB7.out, hr7] at this
  have hRn : ∀ w', Kept [] w7 w' → Calls Try.prog 19 #[.pointer (some ⟨d.B, 0, none⟩)] w' (RunsNew [] w') := fun w' hk => by
    have := arenaRuns_any _ d7 w' ((hY7.kept hk).arena 0 d7 rfl) (by rw [hr7]; simp) (by rw [hr7]; simp)
    rwa [HB7.out, hr7] at this
  have hTh : ∀ w', Kept [] w7 w' → Calls Try.prog 20 #[.pointer (some ⟨d.B, 0, none⟩)] w' (RunsNew [] w') := fun w' hk => by
    have := arenaThings_any _ d7 w' ((hY7.kept hk).arena 0 d7 rfl) (by rw [ht7]; simp)
    rwa [HB7.out, ht7] at this
  have hFr : ∀ w', Kept [] w7 w' → Calls Try.prog 16 #[.pointer (some ⟨p, 0, none⟩)] w' fun e w'' => e = .returned (.int .i64 m) ∧ Kept [] w' w'' := fun w' hk => by
    have := pagesFree_any p rb rg mb mg _ _ w' (hY7.kept hk).pages
    unfold FreePost at this
    rwa [count_none, List.length_replicate, show (m : Int) - ((0 : Nat) : Int) = m by omega] at this
  have hLn : ∀ w', Kept [] w7 w' → Calls Try.prog 28 #[.pointer (some ⟨p, 0, none⟩)] w' fun e w'' => e = .returned (.int .i64 m) ∧ w' = w'' := fun w' hk => by
    have := pagesLen_any p rb rg mb mg _ _ w' (hY7.kept hk).pages
    rwa [List.length_replicate] at this
  have hc7 : w7.cell? ⟨Y, 0, none⟩ = some (.pointer (some ⟨d.B, 0, none⟩)) := by simpa using rY7.cell 0
  have held7 : ∀ w', Kept [] w7 w' → Kept [] w7 w' ∧ w'.cell? ⟨Y, 0, none⟩ = some (.pointer (some ⟨d.B, 0, none⟩)) := fun w' hk => ⟨hk, by simpa using (rY7.kept hk (by simp)).cell 0⟩
  clear hrel hSd hSx hSc hSd6 hSx6 hown6 hownF hA7 hP7 hF7 k7 hg7 hN7 hB7 hblF hblT hYT7 hYT5 k6 hY6 hal
  go_wp2_with fail
  have kk0 : Kept [] w7 w7.drew := (Kept.refl _ _).drew
  refine wp_region_pick (fun w' => Kept [] w7 w' ∧ w'.cell? ⟨Y, 0, none⟩ = some (.pointer (some ⟨d.B, 0, none⟩))) (by kernel_rfl) (held7 _ kk0) ?_
  simp only [numbered, List.length_cons, List.length_nil, Nat.reduceAdd]
  repeat (first
    | (refine pick_take0 (v := ?_) rfl (by decide +kernel) (fun _ _ _ h => h) (by rfl) ?_ ?_; rotate_left; (intro w hSw; (try dsimp only at hSw); go_simp; try with_reducible rfl); go_frame)
    | (refine pick_take1 (v := ?_) rfl (by decide +kernel) (fun _ _ _ h => h) (by rfl) ?_ ?_; rotate_left; (intro w hSw; (try dsimp only at hSw); go_simp; try with_reducible rfl); go_frame)
    | (refine pick_take2 (v := ?_) rfl (by decide +kernel) (fun _ _ _ h => h) (by rfl) ?_ ?_; rotate_left; (intro w hSw; (try dsimp only at hSw); go_simp; try with_reducible rfl); go_frame)
    | (refine pick_call (by decide +kernel) (by rfl) (fun K hK => ?_); go_simp
       first
       | (go_at_call 21; refine (hPg _ (by assumption)).mono ?_; rintro e w8 ⟨rfl, k8⟩; rw [show sumR [] = 0 from rfl]; have kq : Kept [] w7 w8 := Kept.trans (by assumption) k8)
       | (go_at_call 19; refine (hRn _ (by assumption)).mono ?_; rintro e w8 ⟨v8, rfl, hown8, k8⟩; obtain ⟨a8, c8, rfl, -, -⟩ := hown8.slice; rw [List.length_nil]; have kq : Kept [] w7 w8 := Kept.trans (by assumption) k8)
       | (go_at_call 20; refine (hTh _ (by assumption)).mono ?_; rintro e w8 ⟨v8, rfl, hown8, k8⟩; obtain ⟨a8, c8, rfl, -, -⟩ := hown8.slice; rw [List.length_nil]; have kq : Kept [] w7 w8 := Kept.trans (by assumption) k8)
       | (go_at_call 16; refine (hFr _ (by assumption)).mono ?_; rintro e w8 ⟨rfl, k8⟩; have kq : Kept [] w7 w8 := Kept.trans (by assumption) k8)
       | (go_at_call 28; refine (hLn _ (by assumption)).mono ?_; rintro e w8 ⟨rfl, hw8⟩; subst hw8)
       (try dsimp only)
       refine hK _ _ (held7 _ (by assumption)) ?_
       clear hK K))
  refine pick_done (by decide +kernel) ?_
  rw [show (IntKind.i64.wrap 0 == 0) = true from rfl]
  have hY8 := hY7.kept kq
  have rX8 := rX7.kept kq (by simp)
  have rY8 := rY7.kept kq (by simp)
  have kk8 := (HG7.out.base kk3d HGE.out).trans kq
  have hownF8 := hownF7.keep kq
  have hownT8 := hownT7.keep kq
  have hG8 : Good (List.replicate m false) [d7.toArN] := by rw [HN7.out]; exact Good.start (m := 1) (by omega)
  have hGE8 : Hid (∀ k ∈ turf rg mg [d7], w.heap.size ≤ k) := fun k hk => by have := hY8.turf_ge k hk; omega
  clear hPg hRn hTh hFr hLn hc7 held7 kk0 hown8 hY7 rX7 rY7 hownF7 hownT7 kk3d kq k8
  go_wp2_with fail
  have hpl := place_any w0.heap.size p rb rg mb mg X Y cap a0 d7 _ _ l w8 w hs kk8 hwB hY8 hG8 hl (by rw [ht7]; simp) rX8 (by rw [HB7.out]; exact rY8) HYT7.out
  have HR7 := Lib.hid hr7
  have HT7 := Lib.hid ht7
  clear hr7 ht7
  refine hpl.mono ?_
  rintro e w9 ⟨v9, d9, ys9, rfl, hown9, hB9, hN9, hY9, hG9, ht9, hg9, hv9⟩
  rw [HN7.out, HQ.out] at hown9 hN9 hY9 hG9
  simp only at hown9 hN9 hY9 hG9
  have rY9 := rY8.kept hg9.kept HYT7.out
  have hownF9 := hownF8.keptS hg9.kept HVF.out
  have hownT9 := hownT8.keptS hg9.kept HVT.out
  have kk9 := hg9.base kk8 hGE8.out
  have HB9 := Lib.hid (hB9.trans HB7.out)
  have hol := placeN_out l ([], ⟨⟨0, 0⟩, [], []⟩, List.replicate m false)
  rw [HQ.out] at hol
  simp only [List.length_nil, Nat.zero_add] at hol
  have hol2 : outs.length ≤ 60 := by rw [hol]; exact hl
  have h70 : d7.ts.length = 0 := by rw [HT7.out]; rfl
  have htl : d9.ts.length ≤ 60 := by omega
  clear h70
  have hT59 : d5.ts = d9.ts := by rw [congrArg ArN.ts HN5.out, congrArg ArN.ts hN9]
  rw [hT59] at hownT9
  obtain ⟨aF, cF, hvF, hsF, -⟩ := hownF9.slice
  obtain ⟨aT, cT, hvT, hsT, -⟩ := hownT9.slice
  obtain ⟨aA, cA, hvA, hsA, -⟩ := hown9.slice
  rw [hvF, hvT, hvA]
  clear hpl hB9 hN9 hg9 hv9 hownF8 hownT8 hownF9 hownT9 hown9 hY8 rX8 rY8 kk8 hG8 hT59 ht9 hG9 ht5 hvF hvT hvA hol
  go_wp2_with fail
  refine (fixed11_any w9).mono ?_
  rintro e w10 ⟨rfl, k10⟩
  have rY10 := rY9.kept k10 (by simp)
  go_wp2_with fail
  refine (refSame06_yes aF aA _ _ cF cA outs w10 (hsF.kept k10) (hsA.kept k10) rfl rfl (by omega)).mono ?_
  rintro e w11 ⟨rfl, k11⟩
  have k911 := k10.trans k11
  have rY11 := rY9.kept k911 (by simp)
  have cY11 : w11.cell? ⟨Y, 0, none⟩ = some (.pointer (some ⟨d.B, 0, none⟩)) := by simpa using rY11.cell 0
  have hth := arenaThings_any _ d9 w11 ((hY9.kept k911).arena 0 d9 rfl) (by omega)
  rw [HB9.out] at hth
  go_wp2_with fail
  refine hth.mono ?_
  rintro e w12 ⟨v12, rfl, hown12, k12⟩
  obtain ⟨aB, cB, rfl, hsB, -⟩ := hown12.slice
  have k912 := k911.trans k12
  go_wp2_with fail
  refine (refSame06_yes aB aT _ _ cB cT d9.ts w12 hsB (hsT.kept k912) rfl rfl (by omega)).mono ?_
  rintro e w13 ⟨rfl, k13⟩
  go_wp2
  go_ret
  exact ⟨rfl, kk9.trans (k912.trans k13)⟩
end Go.Proofs.Ytenhelbmcapfkaa
