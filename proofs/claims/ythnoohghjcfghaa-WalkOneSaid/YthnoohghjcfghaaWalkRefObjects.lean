/- kraalref12: Objects. -/
import Derived.Test.YthnoohghjcfghaaWalkRefOne
import Derived.Test.YthnoohghjcfghaaWalkObjects
import Derived.Test.YthnoohghjcfghaaHeaderRef
import Derived.Test.YthnoohghjcfghaaRegionPick
import Derived.BigQuiet
namespace Go.Proofs.Ythnoohghjcfghaa
open Go.RowKit

theorem thingB_in {xs : List Int} {ls : List (List Int)} {K : Nat} {r2 : Int} (h : K < xs.length) :
    thingB xs ls ((K : Int), r2) = if (oneB xs ls ((K : Int) + 1)).2 = 0 ∧ sizeH (oneB xs ls ((K : Int) + 1)).1.h ≠ r2 then ((oneB xs ls ((K : Int) + 1)).1, 11) else oneB xs ls ((K : Int) + 1) := by
  have e : oneB xs ls ((K : Int) + 1) = oneN xs ls K := by
    unfold oneB
    rw [if_pos (by omega)]
    congr 1
    omega
  unfold thingB
  rw [e, if_pos (by simp; omega)]
  simp
theorem thingB_out {xs : List Int} {ls : List (List Int)} {r1 r2 : Int} (h : ¬ (0 ≤ r1 ∧ r1 < (xs.length : Int))) :
    thingB xs ls (r1, r2) = if (oneB xs ls (-1)).2 = 0 ∧ sizeH (oneB xs ls (-1)).1.h ≠ r2 then ((oneB xs ls (-1)).1, 11) else oneB xs ls (-1) := by
  have e : oneB xs ls (-1) = (Ob.zero, 8) := by
    unfold oneB
    rw [if_neg (by omega)]
  unfold thingB
  rw [e, if_neg h]
  simp

/-- What stands of the reference's loop. -/
def RefObjsI (B : Nat) (xs : List Int) (ls : List (List Int)) (rs : List RunZ) (V : Value) (j : Nat) (W : World) : Prop :=
  firstE xs ls (rs.take j) = 0 ∧ ∃ ol : List ObL, OwnS 35 ObL.cells 8 W B V ol ∧ (∀ l ∈ ol, Lies W (fun b => V.ownBlock ≠ some b) l) ∧ ol.map (·.o) = (rs.take j).map fun r => (thingB xs ls r).1

set_option maxRecDepth 100000 in
set_option maxHeartbeats 8000000 in
theorem refObjects12_any (M : Option Addr) (mc : Nat) (xs : List Int) (R : Option Addr) (rc : Nat) (rs : List RunZ) (A : Option Addr) (cap : Nat) (l : List Ty) (w : World) (hM : Sl w .u64 M xs) (hxl : xs.length ≤ 16384) (hmc : xs.length ≤ mc) (hmx : mc ≤ maxLen) (hu : ∀ z ∈ xs, 0 ≤ z ∧ z < 18446744073709551616)
    (hr : SlS cellsZ 2 w R rs) (hrl : rs.length ≤ 1099511627776) (hs : SlD w A l) (hx : ∀ t ∈ l, t.ks.length ≤ 100) :
    Calls Try.prog 13 #[.slice M xs.length mc, .slice R rs.length rc, .slice A l.length cap] w (ObjsAns (objsB xs (l.map Ty.ks) rs) w) := by
  obtain ⟨i0, hi, hz0, hz1, hz2⟩ := info_parts info_object
  have HM := Lib.hid (SlX.of_sl hM)
  have HX := Lib.hid (fun t ht => SlX.of_sl (hs.2 t ht))
  have HONE := Lib.hid (fun at_ W (hk : Kept [] w W) => refOne12_any (fun b => b < w.heap.size) M mc xs A cap l at_ W (HM.out.kept hk (by simp)) hxl hmc hmx hu (hs.kept hk) (fun t ht => (HX.out t ht).kept hk (by simp)) hx)
  obtain ⟨ls, hls⟩ : ∃ ls, l.map Ty.ks = ls := ⟨_, rfl⟩
  rw [hls] at HONE ⊢
  clear hls hM hs hx HM HX hu hmc hmx
  have own0 : OwnS 35 ObL.cells 8 (w.alloc (.cells #[] 35)) w.heap.size (.slice (some ⟨w.heap.size, 0, none⟩) 0 0) [] := OwnS.empty (Nat.le_refl _)
  have k0 := (Kept.refl [] w).alloc (.cells #[] 35)
  go_enter Try.func13, Try.ntmps13
  go_wp2_with fail
  generalize w.alloc (.cells #[] 35) = W at own0 k0 ⊢
  go_loopw [8, 9] (fun v i wr => ∃ (j : Nat), j ≤ rs.length ∧ i = .int .i64 j ∧ RefObjsI w.heap.size xs ls rs v j wr ∧ Kept [] w wr) (fun _ i _ => rs.length - (intOf i).toNat)
  case atStart => exact ⟨0, Nat.zero_le _, rfl, ⟨rfl, [], own0, by simp, by simp⟩, k0⟩
  case round =>
    obtain ⟨j, hj, rfl, ⟨hfe, ol, hown, hli, hmp⟩, hkr⟩ := hrel
    clear own0 k0
    have hRz := hkr.size
    by_cases hlt : j < rs.length
    · obtain ⟨rb, ro, rfl, hrb, hrc⟩ := (hr.kept hkr).cell hlt
      have cr0 := hrc 0 (by omega)
      have cr1 := hrc 1 (by omega)
      have HT := Lib.hid (List.take_append_getElem hlt)
      obtain ⟨⟨r1, r2⟩, hrj⟩ : ∃ r, rs[j] = r := ⟨_, rfl⟩
      have HS := Lib.hid (show rs = rs.take j ++ (r1, r2) :: rs.drop (j + 1) by rw [← hrj, ← List.drop_eq_getElem_cons hlt]; exact (List.take_append_drop j rs).symm)
      rw [hrj] at cr0 cr1 HT
      simp only [cellsZ, List.getElem?_cons_zero, List.getElem?_cons_succ, Nat.add_zero] at cr0 cr1
      have hjr : (j : Int) < (rs.length : Int) := by omega
      have HFE := Lib.hid hfe
      have HMP := Lib.hid hmp
      have hoL : ol.length ≤ 1099511627776 := by have := congrArg List.length hmp; simp at this; omega
      clear hrc hrj hfe hmp
      have hsplit : (∃ K : Nat, r1 = K ∧ K < xs.length) ∨ ((0 ≤ r1) ∧ (xs.length : Int) ≤ r1) ∨ r1 < 0 := by
        by_cases h0 : r1 < 0
        · exact .inr (.inr h0)
        · by_cases h1 : (xs.length : Int) ≤ r1
          · exact .inr (.inl ⟨by omega, h1⟩)
          · exact .inl ⟨r1.toNat, by omega, by omega⟩
      rcases hsplit with ⟨K, rfl, hK⟩ | ⟨h0, h1⟩ | h0
      all_goals first
        | (have HT1 := Lib.hid (thingB_in (ls := ls) (r2 := r2) hK)
           have g0 : decide ((0 : Int) ≤ (K : Int)) = true := by simp
           have g1 : decide ((K : Int) < (xs.length : Int)) = true := by simp; omega
           go_wp2_with fail
           generalize (K : Int) + 1 = at_ at HT1 ⊢)
        | (have HT1 := Lib.hid (thingB_out (xs := xs) (ls := ls) (r1 := r1) (r2 := r2) (by omega))
           have g0 : decide ((0 : Int) ≤ r1) = true := by simp; omega
           have g1 : decide (r1 < (xs.length : Int)) = false := by simp; omega
           go_wp2_with fail
           generalize (-1 : Int) = at_ at HT1 ⊢)
        | (have HT1 := Lib.hid (thingB_out (xs := xs) (ls := ls) (r1 := r1) (r2 := r2) (by omega))
           have g0 : decide ((0 : Int) ≤ r1) = false := by simp; omega
           go_wp2_with fail
           generalize (-1 : Int) = at_ at HT1 ⊢)
      all_goals
        refine (HONE.out at_ wr hkr).mono ?_
        obtain ⟨⟨o1, e1⟩, hx1⟩ : ∃ x, oneB xs ls at_ = x := ⟨_, rfl⟩
        rw [hx1] at HT1 ⊢
        clear hx1
        rintro e w2 ⟨⟨⟨oat, ⟨oar, okd, oty, onn⟩, oks, ovs⟩, ka, kc, va, vc⟩, hlo, rfl, hlies, k2⟩
        simp only at hlo HT1
        subst hlo
        simp only [ObL.cells] at HT1 ⊢
        have kA := (Kept.refl [] w2).alloc (.cells #[.int .i64 oat, .int .i64 0, .bool oar, .int .i64 okd, .int .i64 oty, .int .i64 onn, .slice ka oks.length kc, .slice va ovs.length vc] 35)
        have rO := Row.new w2 35 [.int .i64 oat, .int .i64 0, .bool oar, .int .i64 okd, .int .i64 oty, .int .i64 onn, .slice ka oks.length kc, .slice va ovs.length vc]
        have kk3 := k2.trans kA
        have hszO := k2.size
        have hnew := hlies.kept (S := []) kA (by simp)
        obtain ⟨sz, hsz⟩ : ∃ sz, sizeH ⟨oar, okd, oty, onn⟩ = sz := ⟨_, rfl⟩
        have HSZ := Lib.hid (fun W => refSize08_any oar okd oty onn W)
        simp only [hsz] at HT1 HSZ
        clear hsz cr0
        by_cases he : e1 = 0
        · subst he
          go_wp2_with fail
          obtain ⟨Oa, hOa⟩ : ∃ Oa, w2.heap.size = Oa := ⟨_, rfl⟩
          rw [hOa] at rO hszO ⊢
          generalize hW3 : w2.alloc (.cells #[.int .i64 oat, .int .i64 0, .bool oar, .int .i64 okd, .int .i64 oty, .int .i64 onn, .slice ka oks.length kc, .slice va ovs.length vc] 35) = W3 at rO kk3 hnew ⊢
          clear hW3 hOa kA hlies k2
          have hr3 := (((Kept.refl [] w).trans hkr).trans kk3)
          have hRC : ∀ W', Kept [] W3 W' → W'.cell? ⟨rb, ro + j * 2 + 1, none⟩ = some (.int .i64 r2) := fun W' hk => (World.cell?_of_block (w := wr) (a := ⟨rb, ro + j * 2 + 1, none⟩) ((kk3.trans hk).block rb hrb (by simp))).trans cr1
          have hold := Lib.hid (show ∀ W', Kept [] W3 W' → (fun w' => Kept [] W3 w' ∧ w'.cell? ⟨Oa, 2, none⟩ = some (.bool oar) ∧ w'.cell? ⟨Oa, 3, none⟩ = some (.int .i64 okd) ∧ w'.cell? ⟨Oa, 4, none⟩ = some (.int .i64 oty) ∧ w'.cell? ⟨Oa, 5, none⟩ = some (.int .i64 onn) ∧ w'.cell? ⟨rb, ro + j * 2 + 1, none⟩ = some (.int .i64 r2)) W' from fun W' kq => ⟨kq, by simpa using (rO.kept kq (by simp)).cell 2, by simpa using (rO.kept kq (by simp)).cell 3, by simpa using (rO.kept kq (by simp)).cell 4, by simpa using (rO.kept kq (by simp)).cell 5, hRC W' kq⟩)
          have kk0 : Kept [] W3 W3.drew := (Kept.refl _ _).drew
          clear hRC cr1
          have ht := HT1.out
          by_cases hs : r2 = sz
          · subst hs
            rw [if_neg (fun h => h.2 rfl)] at ht
            have HT1 := Lib.hid ht
            have hne : (r2 != r2) = false := by simp
            clear ht
            refine wp_region_pick (fun w' => Kept [] W3 w' ∧ w'.cell? ⟨Oa, 2, none⟩ = some (.bool oar) ∧ w'.cell? ⟨Oa, 3, none⟩ = some (.int .i64 okd) ∧ w'.cell? ⟨Oa, 4, none⟩ = some (.int .i64 oty) ∧ w'.cell? ⟨Oa, 5, none⟩ = some (.int .i64 onn) ∧ w'.cell? ⟨rb, ro + j * 2 + 1, none⟩ = some (.int .i64 r2)) (by kernel_rfl) (hold.out _ ((Kept.refl _ _).drew)) ?_
            simp only [numbered, List.length_cons, List.length_nil, Nat.reduceAdd]
            repeat (first
              | (refine pick_take0 (v := ?_) rfl (by decide +kernel) (fun _ _ _ h => h) (by rfl) ?_ ?_; rotate_left; (intro w hSw; (try dsimp only at hSw); go_simp; try with_reducible rfl); go_frame)
              | (refine pick_skip0 (by decide +kernel) (fun _ _ _ h => h) (by rfl) ?_; go_frame)
              | (refine pick_take1 (v := ?_) rfl (by decide +kernel) (fun _ _ _ h => h) (by rfl) ?_ ?_; rotate_left; (intro w hSw; (try dsimp only at hSw); go_simp; try with_reducible rfl); go_frame)
              | (refine pick_take2 (v := ?_) rfl (by decide +kernel) (fun _ _ _ h => h) (by rfl) ?_ ?_; rotate_left; (intro w hSw; (try dsimp only at hSw); go_simp; try with_reducible rfl); go_frame)
              | (refine pick_call (by decide +kernel) (by rfl) (fun K hK => ?_); go_simp
                 first
                 | (go_at_call 20; refine (HSZ.out _).mono ?_; rintro e w4 ⟨rfl, k4⟩; have kq : Kept [] W3 w4 := Kept.trans (by assumption) k4)
                 (try dsimp only)
                 refine hK _ _ (hold.out _ (by assumption)) ?_
                 clear hK K))
            refine pick_done (by decide +kernel) ?_
            have rO4 := rO.kept kq (by simp)
            have kk := kk3.trans kq
            have hown4 := hown.keptS kk (by simp)
            have hnew4 := hnew.kept (S := []) kq (by simp)
            have hold4 := fun x hx => (hli x hx).kept (S := []) kk (by simp)
            have hge := hown.ge
            have hltv := hown.lt
            have hszk := kk.size
            have hBz : w.heap.size ≤ w4.heap.size := by omega
            have d0 : w4.cell? ⟨Oa, 0, none⟩ = some (.int .i64 oat) := by simpa using rO4.cell 0
            have d1 : w4.cell? ⟨Oa, 1, none⟩ = some (.int .i64 0) := by simpa using rO4.cell 1
            have d2 : w4.cell? ⟨Oa, 2, none⟩ = some (.bool oar) := by simpa using rO4.cell 2
            have d3 : w4.cell? ⟨Oa, 3, none⟩ = some (.int .i64 okd) := by simpa using rO4.cell 3
            have d4 : w4.cell? ⟨Oa, 4, none⟩ = some (.int .i64 oty) := by simpa using rO4.cell 4
            have d5 : w4.cell? ⟨Oa, 5, none⟩ = some (.int .i64 onn) := by simpa using rO4.cell 5
            have d6 : w4.cell? ⟨Oa, 6, none⟩ = some (.slice ka oks.length kc) := by simpa using rO4.cell 6
            have d7 : w4.cell? ⟨Oa, 7, none⟩ = some (.slice va ovs.length vc) := by simpa using rO4.cell 7
            have HFX := Lib.hid (show firstE xs ls (rs.take (j + 1)) = 0 by rw [← HT.out]; exact firstE_snoc HFE.out (by rw [HT1.out]))
            have HMX := Lib.hid (show (ol ++ [ObL.mk ⟨oat, ⟨oar, okd, oty, onn⟩, oks, ovs⟩ ka kc va vc]).map (·.o) = (rs.take (j + 1)).map fun r => (thingB xs ls r).1 by rw [← HT.out, List.map_append, List.map_append, HMP.out]; simp [HT1.out])
            clear hold HSZ kk0 rO kk3 hr3 kq k4 hown hnew hli rO4 hne HS
            go_wp2_with (at_builtin; refine wpList_append_s _ rfl _ _ 42 rfl w.heap.size i0 _ 96 Try.underlying42 hi hz0 hz1 hz2 rfl (by decide) (by decide) w4 _ ol ⟨⟨oat, ⟨oar, okd, oty, onn⟩, oks, ovs⟩, ka, kc, va, vc⟩ (ObL.cells_length _) (ObL.cells_one _) rfl rfl rfl hown4 hBz hoL ?_; intro g5 c5 W5 hown5 hk5 hat5)
            go_roundw
            case rel =>
              refine ⟨j + 1, by omega, by go_num, ⟨HFX.out, _, hown5, ?_, HMX.out⟩, (hkr.trans kk).chain hk5 (by simp) (fun i hi hl => by rw [Option.mem_toList] at hi; have := hge _ hi; omega)⟩
              intro x hx
              rcases List.mem_append.1 hx with hx | hx
              · have h1 := (hold4 x hx).mono (Y := fun b => u8.ownBlock ≠ some b ∧ b ≠ g5) (by
                  intro b hb h
                  refine ⟨h, ?_⟩
                  rintro rfl
                  rcases hat5 with h' | h'
                  · exact h h'
                  · omega)
                exact (h1.kept hk5 (by
                  intro b hb h
                  rw [Option.mem_toList] at hb
                  exact h.1 hb)).mono (by
                  intro b _ h e
                  exact h.2 (by cases e; rfl))
              · obtain rfl := List.mem_singleton.1 hx
                have h1 := hnew4.mono (Y := fun b => u8.ownBlock ≠ some b ∧ b ≠ g5) (by
                  intro b hb h
                  have hn : u8.ownBlock ≠ some b := fun e => by have := hge _ e; have := hltv _ e; omega
                  refine ⟨hn, ?_⟩
                  rintro rfl
                  rcases hat5 with h' | h'
                  · exact hn h'
                  · omega)
                exact (h1.kept hk5 (by
                  intro b hb h
                  rw [Option.mem_toList] at hb
                  exact h.1 hb)).mono (by
                  intro b _ h e
                  exact h.2 (by cases e; rfl))
            case measure => simp [intOf]; omega
          · have hs' : (sz != r2) = true := by simpa using (fun h => hs h.symm)
            rw [if_pos ⟨trivial, fun h => hs h.symm⟩] at ht
            have HT1 := Lib.hid ht
            clear ht
            refine wp_region_pick (fun w' => Kept [] W3 w' ∧ w'.cell? ⟨Oa, 2, none⟩ = some (.bool oar) ∧ w'.cell? ⟨Oa, 3, none⟩ = some (.int .i64 okd) ∧ w'.cell? ⟨Oa, 4, none⟩ = some (.int .i64 oty) ∧ w'.cell? ⟨Oa, 5, none⟩ = some (.int .i64 onn) ∧ w'.cell? ⟨rb, ro + j * 2 + 1, none⟩ = some (.int .i64 r2)) (by kernel_rfl) (hold.out _ ((Kept.refl _ _).drew)) ?_
            simp only [numbered, List.length_cons, List.length_nil, Nat.reduceAdd]
            repeat (first
              | (refine pick_take0 (v := ?_) rfl (by decide +kernel) (fun _ _ _ h => h) (by rfl) ?_ ?_; rotate_left; (intro w hSw; (try dsimp only at hSw); go_simp; try with_reducible rfl); go_frame)
              | (refine pick_skip0 (by decide +kernel) (fun _ _ _ h => h) (by rfl) ?_; go_frame)
              | (refine pick_take1 (v := ?_) rfl (by decide +kernel) (fun _ _ _ h => h) (by rfl) ?_ ?_; rotate_left; (intro w hSw; (try dsimp only at hSw); go_simp; try with_reducible rfl); go_frame)
              | (refine pick_take2 (v := ?_) rfl (by decide +kernel) (fun _ _ _ h => h) (by rfl) ?_ ?_; rotate_left; (intro w hSw; (try dsimp only at hSw); go_simp; try with_reducible rfl); go_frame)
              | (refine pick_call (by decide +kernel) (by rfl) (fun K hK => ?_); go_simp
                 first
                 | (go_at_call 20; refine (HSZ.out _).mono ?_; rintro e w4 ⟨rfl, k4⟩; have kq : Kept [] W3 w4 := Kept.trans (by assumption) k4)
                 (try dsimp only)
                 refine hK _ _ (hold.out _ (by assumption)) ?_
                 clear hK K))
            refine pick_done (by decide +kernel) ?_
            have kq2 := (hkr.trans kk3).trans kq
            clear hold HSZ kk0 rO kk3 hr3 kq
            go_wp2
            go_ret2
            rw [firstE_met HFE.out (by rw [HT1.out]; exact (by decide : (11 : Int) ≠ 0)) HS.out, HT1.out]
            exact ⟨_, 0, [], rfl, rfl, .inl rfl, by simp, kq2.alloc _⟩
        · have he' : (e1 == 0) = false := by simpa using he
          have he2 : (e1 != 0) = true := by simpa using he
          have ht := HT1.out
          rw [if_neg (fun h => he h.1)] at ht
          have HT1 := Lib.hid ht
          have kq2 := hkr.trans kk3
          clear ht HSZ kk3 rO kA hnew hlies k2
          go_wp2_with fail
          go_quiet (fail)
          go_wp2
          go_ret2
          rw [firstE_met HFE.out (by rw [HT1.out]; exact he) HS.out, HT1.out]
          exact ⟨_, 0, [], rfl, rfl, .inl rfl, by simp, (kq2.drewN _).alloc _⟩
    · obtain rfl : j = rs.length := by omega
      rw [List.take_length] at hfe hmp
      have HR := Lib.hid (objsB_none hfe)
      obtain ⟨a, c, rfl, hsl, hA⟩ := hown.slice ObL.cells_length
      clear hfe
      go_wp2
      go_ret2
      rw [HR.out]
      exact ⟨a, c, ol, hmp, rfl, hsl, fun x hx => (hli x hx).mono (fun _ _ _ => trivial), hkr⟩
end Go.Proofs.Ythnoohghjcfghaa
