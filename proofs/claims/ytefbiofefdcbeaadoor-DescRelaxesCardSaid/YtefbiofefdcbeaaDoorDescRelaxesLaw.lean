/- The law DescRelaxes: its walk. -/
import Derived.Test.YtefbiofefdcbeaaDoorDescGreat
import Derived.Test.YtefbiofefdcbeaaDoorDescLists
import Derived.Test.YtefbiofefdcbeaaDoorDescRefRelax
namespace Go.Proofs.YtefbiofefdcbeaaDoor
open Go.RowKit

theorem quiet_draws {P : Program} {f : FuncId} {args : Array Value} {w : World} {n : Nat} {v : Value}
    (h : Calls P f args (w.drewN n) fun e w' => e = .returned v ∧ ∃ q, w' = (w.drewN n).drewN q) : Calls P f args (w.drewN n) fun e w'' => e = .returned v ∧ ∃ m, w'' = w.drewN m :=
  h.mono fun _ _ ⟨he, q, hq⟩ => ⟨he, n + q, by rw [hq, World.drewN_drewN]⟩
theorem ks_len {ts l : List Ty} (h : ts.map Ty.ks = (l.map Ty.ks).map (List.map relaxB)) : ts.length = l.length := by
  have := congrArg List.length h
  simpa using this
theorem ks_at {ts l : List Ty} (h : ts.map Ty.ks = (l.map Ty.ks).map (List.map relaxB)) {j : Nat} {t1 t : Ty} (h1 : ts[j]? = some t1) (h2 : l[j]? = some t) : t1.ks = t.ks.map relaxB := by
  have := congrArg (fun x => x[j]?) h
  simpa [h1, h2] using this
theorem ks_small {ts l : List Ty} (h : ts.map Ty.ks = (l.map Ty.ks).map (List.map relaxB)) (hx : ∀ t ∈ l, t.ks.length ≤ 100) : ∀ t ∈ ts, t.ks.length ≤ 100 := by
  intro t ht
  have hm : t.ks ∈ ts.map Ty.ks := List.mem_map.2 ⟨t, ht, rfl⟩
  rw [h] at hm
  obtain ⟨ks, hk, he⟩ := List.mem_map.1 hm
  obtain ⟨t', ht', rfl⟩ := List.mem_map.1 hk
  rw [← he, List.length_map]
  exact hx t' ht'

set_option maxRecDepth 100000 in
set_option maxHeartbeats 2000000 in
theorem descRelaxes_great (A : Option Addr) (cap : Nat) (l : List Ty) (w : World) (hs : SlD w A l) (hx : l.length ≤ 9223372036854775807) (hg : greatB (l.map Ty.ks) = true) :
    Calls Tryd.prog 4 #[.slice A l.length cap] w (FixedPost w) := by
  go_enter Tryd.func4, Tryd.ntmps4
  go_wp2_with fail
  refine (great07_any A cap l _ hs hx).mono ?_
  rintro e w2 ⟨rfl, kw2⟩
  rw [hg]
  go_wp2_with fail
  refine (fixed07_any _).mono ?_
  rintro e w3 ⟨rfl, kw3⟩
  go_wp2
  go_ret
  exact ⟨rfl, kw2.trans kw3⟩

set_option maxRecDepth 100000 in
set_option maxHeartbeats 2000000 in
theorem descRelaxes_law (A : Option Addr) (cap : Nat) (l : List Ty) (w : World) (hT : Tab w) (hs : SlD w A l) (hl : l.length ≤ 60) (hx : ∀ t ∈ l, t.ks.length ≤ 100) (hg : greatB (l.map Ty.ks) = false) :
    Calls Tryd.prog 4 #[.slice A l.length cap] w (FixedPost w) := by
  go_enter Tryd.func4, Tryd.ntmps4
  go_wp2_with fail
  refine (great07_any A cap l w hs (by omega)).mono ?_
  rintro e w1 ⟨rfl, k1⟩
  rw [hg]
  clear hg
  go_wp2_with fail
  refine (descRelax_any A cap l w1 (hT.kept k1) (hs.kept k1) hl hx).mono ?_
  rintro e w2 ⟨A1, c1, ts1, rfl, hk1, hs1, kw2⟩
  have k2 := k1.trans kw2
  rw [ks_len hk1]
  go_wp2_with fail
  refine (refRelax07_any A cap l w2 (hs.kept k2) hl hx).mono ?_
  rintro e w3 ⟨A2, c2, ts2, rfl, hk2, hs2, kw3⟩
  have k3 := k2.trans kw3
  have hs1 := hs1.kept kw3
  rw [ks_len hk2]
  go_wp2_with fail
  refine (descRelax_any A cap l w3 (hT.kept k3) (hs.kept k3) hl hx).mono ?_
  rintro e w4 ⟨A3, c3, ts3, rfl, hk3, hs3, kw4⟩
  have k4 := k3.trans kw4
  have hs1 := hs1.kept kw4
  have hs2 := hs2.kept kw4
  have hr4 := descRelax_any A3 c3 ts3 w4 (hT.kept k4) hs3 (by rw [ks_len hk3]; exact hl) (ks_small hk3 hx)
  rw [hk3, relax_twice, ks_len hk3] at hr4
  rw [ks_len hk3]
  have HR4 := Lib.hid hr4
  clear hr4 hk3 hs3
  go_wp2_with fail
  refine HR4.out.mono ?_
  rintro e w5 ⟨A4, c4, ts4, rfl, hk4, hs4, kw5⟩
  have k5 := k4.trans kw5
  have hs1 := hs1.kept kw5
  have hs2 := hs2.kept kw5
  rw [ks_len hk4]
  have hlr := descList_any A1 c1 ts1 w5 hs1 (by rw [ks_len hk1]; exact hl) (ks_small hk1 hx)
  rw [ks_len hk1, hk1, relax_list] at hlr
  have HLR := Lib.hid hlr
  have HK1 := Lib.hid hk1
  have HK2 := Lib.hid hk2
  have HK4 := Lib.hid hk4
  clear hlr hk1 hk2 hk4 HR4 kw2 kw3 kw4 kw5 k1 k2 k3 k4
  go_wp2_with fail
  refine HLR.out.mono ?_
  rintro e w6 ⟨rfl, kw6⟩
  have k6 := k5.trans kw6
  go_wp2_with fail
  refine (descList_any A cap l w6 (hs.kept k6) hl hx).mono ?_
  rintro e w7 ⟨rfl, kw7⟩
  have k7 := k6.trans kw7
  have hT7 := hT.kept k7
  have hs1 := (hs1.kept kw6).kept kw7
  have hs2 := (hs2.kept kw6).kept kw7
  have hs4 := (hs4.kept kw6).kept kw7
  have hs7 := hs.kept k7
  clear kw6 kw7 k6 k5 HLR
  generalize listB (l.map Ty.ks) = bl
  go_wp2_with fail
  go_loopw [40] (fun i wr => ∃ (j : Nat), j ≤ l.length ∧ i = .int .i64 j ∧ Kept [] w7 wr) (fun i _ => l.length - (intOf i).toNat)
  case atStart => exact ⟨0, Nat.zero_le _, rfl, Kept.refl _ _⟩
  case round =>
    obtain ⟨j, hj, rfl, hkr⟩ := hrel
    by_cases hlt : j < l.length
    · obtain ⟨b, off, t, rfl, ht, hc, hsl⟩ := (hs7.kept hkr).cell hlt
      obtain ⟨b1, off1, t1, rfl, ht1, hc1, hsl1⟩ := (hs1.kept hkr).cell (j := j) (by rw [ks_len HK1.out]; exact hlt)
      obtain ⟨b2, off2, t2, rfl, ht2, hc2, hsl2⟩ := (hs2.kept hkr).cell (j := j) (by rw [ks_len HK2.out]; exact hlt)
      obtain ⟨b4, off4, t4, rfl, ht4, hc4, hsl4⟩ := (hs4.kept hkr).cell (j := j) (by rw [ks_len HK4.out]; exact hlt)
      have e1 := ks_at HK1.out ht1 ht
      have e2 := ks_at HK2.out ht2 ht
      have e4 := ks_at HK4.out ht4 ht
      have htl := hx t (List.mem_of_getElem? ht)
      obtain ⟨a, c, xs⟩ := t
      obtain ⟨a1, d1, ys1⟩ := t1
      obtain ⟨a2, d2, ys2⟩ := t2
      obtain ⟨a4, d4, ys4⟩ := t4
      simp only at e1 e2 e4 htl hc hc1 hc2 hc4 hsl hsl1 hsl2 hsl4
      subst e1 e2 e4
      rw [List.length_map] at hc1 hc2 hc4
      have hji : (j : Int) < (l.length : Int) := by omega
      have ht7' := ht
      clear ht ht1 ht2 ht4
      go_wp2_with fail
      go_quiet (first
        | (go_at_call 15; refine quiet_draws (refSame04_reads _ _ _ _ _ _ (xs.map relaxB) _ ?_ ?_ ?_ ?_ ?_) <;> first | (with_reducible exact hsl1.kept ((Kept.refl _ _).drewN _)) | (with_reducible exact hsl2.kept ((Kept.refl _ _).drewN _)) | (with_reducible exact hsl4.kept ((Kept.refl _ _).drewN _)) | exact List.length_map _ | omega))
      have kq : Kept [] wr (wr.drewN nq) := (Kept.refl _ _).drewN _
      clear hc2 hsl2 hc4 hsl4 hs1 hs2 hs4
      go_wp2_with fail
      generalize wr.drewN nq = wv at kq ⊢
      go_loopw [75] (fun i wq => ∃ (k : Nat), k ≤ xs.length ∧ i = .int .i64 k ∧ Kept [] wr wq) (fun i _ => xs.length - (intOf i).toNat)
      case atStart => exact ⟨0, Nat.zero_le _, rfl, kq⟩
      case round =>
        obtain ⟨k, hk, rfl, hkq⟩ := hrel
        have k7q := hkr.trans hkq
        by_cases hlk : k < xs.length
        · obtain ⟨b5, off5, rfl, cx⟩ := (hsl.kept hkq).cell hlk
          obtain ⟨b6, off6, rfl, cy⟩ := (hsl1.kept hkq).cell (j := k) (by simpa using hlk)
          obtain ⟨b7, off7, t7, hA7, ht7, hc7, _⟩ := (hs7.kept k7q).cell hlt
          cases hA7
          rw [ht7'] at ht7
          cases ht7
          simp only at hc7
          obtain ⟨x, hxk⟩ : ∃ x, xs[k]?.getD 0 = x := ⟨_, rfl⟩
          have hyk : (xs.map relaxB)[k]?.getD 0 = relaxB x := by
            rw [List.getElem?_map, List.getElem?_eq_getElem hlk]
            rw [List.getElem?_eq_getElem hlk] at hxk
            simp only [Option.map_some, Option.getD_some] at hxk ⊢
            rw [hxk]
          rw [hxk] at cx
          rw [hyk] at cy
          obtain ⟨p, hp⟩ : ∃ p, pointerB x = p := ⟨_, rfl⟩
          have hpy := relaxB_pointer x
          rw [hp] at hpy
          generalize relaxB x = y at cy hpy
          have hq : ∀ z, (z = y ∨ z = x) → ∀ w', Tab w' → Calls Tryd.prog 12 #[.int .i64 z] w' fun e w'' => e = .returned (.bool p) ∧ w' = w'' := by
            intro z hz w' hT'
            have h := descPointer_any z w' hT'
            rcases hz with rfl | rfl
            · rwa [hpy] at h
            · rwa [hp] at h
          have HQ := Lib.hid hq
          have hTq := hT7.kept k7q
          have hki : (k : Int) < (xs.length : Int) := by omega
          clear hq hpy hp hxk hyk hc1 hsl1 hsl hc
          go_wp2_with fail
          go_quiet (first
            | (go_at_call 12; refine quiet_same (HQ.out _ (by first | exact .inl rfl | exact .inr rfl) _ (hTq.kept ((Kept.refl _ _).drewN _)))))
          go_wp2
          go_roundw
          case rel => exact ⟨k + 1, by omega, by go_num, hkq.drewN _⟩
          case measure => simp [intOf]; omega
        · obtain rfl : k = xs.length := by omega
          go_wp2
          go_roundw
          case rel => exact ⟨j + 1, by omega, by go_num, k7q⟩
          case measure => simp [intOf]; omega
    · go_wp2_with fail
      refine (fixed07_any wr).mono ?_
      rintro e w8 ⟨rfl, kw8⟩
      go_wp2
      go_ret
      exact ⟨rfl, (k7.trans hkr).trans kw8⟩
end Go.Proofs.YtefbiofefdcbeaaDoor
