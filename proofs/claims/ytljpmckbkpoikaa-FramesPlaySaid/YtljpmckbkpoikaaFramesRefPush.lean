/- Package kraalref17: Push, Pop, Get, All. -/
import Derived.Test.YtljpmckbkpoikaaFramesRef
namespace Go.Proofs.Ytljpmckbkpoikaa
open Go.RowKit

theorem info_rowR : (Try.prog.info? 31).map (fun i => (i.zero, i.size, i.bytes)) = some (some (.slice none 0 0), 1, 24) := by kernel_rfl
/-- What the reference's lower calls leave lies in new blocks, or where it lay. -/
theorem slX_of_ref {w w' : World} {X : Nat → Prop} {A A' : Option Addr} {n : Nat} {xs ys : List Int} (h : RefSlU n A ys w A' w') (hA : SlX w .u64 X A xs) (hl : xs.length = ys.length) : SlX w' .u64 (fun k => X k ∨ w.heap.size ≤ k) A' ys := by
  obtain ⟨_, hs, hat, hk⟩ := h
  rcases hs with rfl | ⟨b, off, h1, h2, h3⟩
  · exact .inl rfl
  · by_cases h0 : ys.length = 0
    · exact .inl (List.eq_nil_of_length_eq_zero h0)
    · refine .inr ⟨b, off, h1, h2, ?_, h3⟩
      rcases hat with h | ⟨g, h, hg⟩
      · rcases hA with h4 | ⟨b', off', h4, _, h5, _⟩
        · subst h4; exact absurd hl.symm h0
        · rw [h1, h4] at h; cases h; exact .inl h5
      · rw [h1] at h; cases h; exact .inr hg
theorem slX_none {w : World} {X : Nat → Prop} {n : Nat} {ys : List Int} {A' : Option Addr} {w' : World} (h : RefSlU n none ys w A' w') : SlX w' .u64 (fun k => X k ∨ w.heap.size ≤ k) A' ys := by
  obtain ⟨_, hs, hat, hk⟩ := h
  rcases hs with rfl | ⟨b, off, h1, h2, h3⟩
  · exact .inl rfl
  · refine .inr ⟨b, off, h1, h2, ?_, h3⟩
    rcases hat with h | ⟨g, h, hg⟩
    · rw [h1] at h; cases h
    · rw [h1] at h; cases h; exact .inr hg

/-- What Push and Set leave. -/
def RefPost17 (X : Nat → Prop) (fs : List (List Int)) (res : Value → Value) (w : World) (e : Ending) (w' : World) : Prop :=
  ∃ A' cap' vs', e = .returned (res (.slice A' fs.length cap')) ∧ RefFr w' (fun k => X k ∨ w.heap.size ≤ k) A' vs' fs ∧ fs.length ≤ cap' ∧ Kept [] w w'

set_option maxRecDepth 100000 in
set_option maxHeartbeats 1000000 in
theorem refPush17_any (X : Nat → Prop) (A : Option Addr) (cap n : Nat) (vs : List Value) (fs : List (List Int)) (w : World) (hs : RefFr w X A vs fs) (hcap : fs.length ≤ cap) :
    Calls Try.prog 8 #[.slice A fs.length cap, .int .u64 n] w (RefPost17 X (pushF fs n) (fun v => .tuple #[v, .int .i64 (pushE fs n)]) w) := by
  have hX0 : RefFr w (fun k => X k ∨ w.heap.size ≤ k) A vs fs := hs.mono (fun _ _ h => .inl h)
  unfold pushF pushE
  by_cases h1 : 16 < n
  · rw [if_pos h1, if_pos h1]
    have hd : decide ((16 : Int) < (n : Int)) = true := by simp; omega
    go_enter Try.func8, Try.ntmps8
    go_wp2
    go_ret2
    exact ⟨A, cap, vs, rfl, hX0, hcap, Kept.refl _ _⟩
  · rw [if_neg h1, if_neg h1]
    have hd : decide ((16 : Int) < (n : Int)) = false := by simp; omega
    by_cases h2 : 63 < fs.length
    · rw [if_pos h2, if_pos h2]
      have hd2 : decide ((63 : Int) < (fs.length : Int)) = true := by simp; omega
      go_enter Try.func8, Try.ntmps8
      go_wp2
      go_ret2
      exact ⟨A, cap, vs, rfl, hX0, hcap, Kept.refl _ _⟩
    · rw [if_neg h2, if_neg h2]
      have hd2 : decide ((63 : Int) < (fs.length : Int)) = false := by simp; omega
      have hwi : IntKind.i64.wrap (n : Int) = (n : Int) := IntWalk.i64_in _ (by omega)
      obtain ⟨i0, hi, hz0, hz1, hz2⟩ := info_parts info_rowR
      have H1 := Lib.hid h1
      have H2 := Lib.hid h2
      clear h1 h2
      go_enter Try.func8, Try.ntmps8
      go_wp2_with fail
      refine (refNew16_yes n w (by have := H1.out; omega)).mono ?_
      rintro e w1 ⟨A1, c1, rfl, hpo⟩
      have hx1 : SlX w1 .u64 (fun k => X k ∨ w.heap.size ≤ k) A1 (List.replicate n 0) := slX_none hpo
      have hk1 : Kept [] w w1 := hpo.2.2.2
      have hs1 := hX0.kept hk1
      clear hpo
      have own0 := own_empty w1 31 1 w1.heap.size (Nat.le_refl _)
      have k0 := (Kept.refl [] w1).alloc (.cells #[] 31)
      have sv := (hs1.kept k0).toV
      have H0 := H2.out
      go_wp2_with (first
        | (at_builtin; refine wpList_append_on _ rfl _ _ 27 rfl w1.heap.size 31 i0 (.slice none 0 0) 1 24 Try.underlying27 hi hz0 hz1 hz2 rfl (by omega) w1.heap.size 0 0 [] rfl own0 A fs.length cap _ rfl sv hs1.rows.oneCell (by unfold maxLen; omega) (by omega) (by simp) ?_
           intro g2 c2 w2 hown2 hk2 _; rw [Nat.zero_add, List.nil_append] at hown2; rw [Nat.zero_add])
        | (at_builtin; refine wpList_append_one _ rfl _ _ 27 rfl w1.heap.size 31 i0 (.slice none 0 0) 24 Try.underlying27 hi hz0 hz1 hz2 rfl w2 (.slice A1 n c1) (.slice (some ⟨g2, 0, none⟩) fs.length c2) fs.length vs rfl rfl rfl hown2 (by have := hk2.size; simp at this; omega) rfl (by omega) (by omega) ?_
           intro g3 c3 w3 hown3 hk3 hat3))
      go_ret2
      have hkk2 : Kept [] w1 w2 := k0.chain hk2 (by simp) (by simp)
      have hge2 := own_ge hown2
      have hkk3 : Kept [] w1 w3 := hkk2.chain hk3 (by simp) (by intro i hi hl; have e : g2 = i := Option.some.inj (Option.mem_toList.1 hi); omega)
      have hge3 := own_ge hown3
      refine ⟨some ⟨g3, 0, none⟩, c3, vs ++ [.slice A1 n c1], by simp, RefFr.of_own hown3 (.inr (by have := hk1.size; omega)) ((hs1.kept hkk3).rows.snoc ⟨A1, c1, by simp, hx1.kept hkk3 (by simp)⟩), by rw [List.length_append, List.length_singleton]; exact own_cap hown3, hk1.trans hkk3⟩

/-- What Pop leaves. -/
def RefPop17 (X : Nat → Prop) (fs : List (List Int)) (w : World) (e : Ending) (w' : World) : Prop :=
  ∃ A' cap' vs' A2 c2, e = .returned (.tuple #[.slice A' fs.dropLast.length cap', .slice A2 (topF fs).length c2, .int .i64 (popE fs)]) ∧ RefFr w' (fun k => X k ∨ w.heap.size ≤ k) A' vs' fs.dropLast ∧ SlX w' .u64 (fun k => X k ∨ w.heap.size ≤ k) A2 (topF fs) ∧ fs.dropLast.length ≤ cap' ∧ Kept [] w w'

set_option maxRecDepth 100000 in
set_option maxHeartbeats 1000000 in
theorem refPop17_any (X : Nat → Prop) (A : Option Addr) (cap : Nat) (vs : List Value) (fs : List (List Int)) (w : World) (hs : RefFr w X A vs fs) (hsm : SmallF fs) (hcap : fs.length ≤ cap) :
    Calls Try.prog 10 #[.slice A fs.length cap] w (RefPop17 X fs w) := by
  rcases snoc_cases fs with rfl | ⟨gs, f, rfl⟩
  · have hv : vs = [] := List.eq_nil_of_length_eq_zero hs.length
    subst hv
    go_enter Try.func10, Try.ntmps10
    go_wp2
    go_ret3
    exact ⟨A, cap, [], some ⟨w.heap.size, 0, none⟩, 0, rfl, RefFr.nil _ _ _, .inl rfl, Nat.zero_le _, (Kept.refl [] w).alloc _⟩
  · have hdl : (gs ++ [f]).dropLast = gs := by simp
    unfold RefPop17
    rw [hdl, topF_snoc, popE_snoc]
    have hfew := hsm.few
    rw [List.length_append, List.length_singleton] at hcap hfew ⊢
    obtain ⟨b, off, B, c, us, rfl, hcell, hxs, hr⟩ := hs.snoc
    have hwK : (gs.length : Int) ≤ (cap : Int) := by omega
    have hwK2 : IntKind.i64.wrap (gs.length : Int) = (gs.length : Int) := IntWalk.i64_in _ (by omega)
    have hc0 : ¬ cap = 0 := by omega
    have HR := Lib.hid hr
    have HX := Lib.hid hxs
    clear hs hr hxs hdl
    obtain ⟨K, hK⟩ : ∃ K, gs.length = K := ⟨_, rfl⟩
    rw [hK] at hcell hwK hwK2 hfew hcap ⊢
    clear hK
    go_enter Try.func10, Try.ntmps10
    go_wp2_with fail
    go_quiet (fail)
    go_wp2
    go_ret3
    exact ⟨some ⟨b, off, none⟩, cap, us, B, c, rfl, (HR.out.kept ((Kept.refl [] w).drewN _)).mono (fun _ _ h => .inl h), (HX.out.kept ((Kept.refl [] w).drewN _) (by simp)).mono (fun _ _ h => .inl h), by omega, (Kept.refl [] w).drewN _⟩

set_option maxRecDepth 100000 in
set_option maxHeartbeats 1000000 in
theorem refGet17_any (X : Nat → Prop) (A : Option Addr) (cap i : Nat) (vs : List Value) (fs : List (List Int)) (w : World) (hs : RefFr w X A vs fs) (hsm : SmallF fs) :
    Calls Try.prog 18 #[.slice A fs.length cap, .int .u64 i] w fun e w' => e = .returned (.tuple #[.int .u64 ((topF fs)[i]?.getD 0), .int .i64 (getE fs i)]) ∧ w = w' := by
  rcases snoc_cases fs with rfl | ⟨gs, f, rfl⟩
  · go_enter Try.func18, Try.ntmps18
    go_wp2
    go_ret2
    exact ⟨rfl, rfl⟩
  · rw [topF_snoc, getE_snoc]
    have hfew := hsm.few
    have hf := hsm.small f (by simp)
    rw [List.length_append, List.length_singleton] at hfew ⊢
    obtain ⟨b, off, B, c, us, rfl, hcell, hxs, hr⟩ := hs.snoc
    have hwK2 : IntKind.i64.wrap (gs.length : Int) = (gs.length : Int) := IntWalk.i64_in _ (by omega)
    have HX := Lib.hid hxs
    clear hs hr hxs
    obtain ⟨K, hK⟩ : ∃ K, gs.length = K := ⟨_, rfl⟩
    rw [hK] at hcell hwK2 hfew ⊢
    clear hK
    obtain ⟨y, hy⟩ : ∃ y, f[i]?.getD 0 = y := ⟨_, rfl⟩
    obtain ⟨er, her⟩ : ∃ er, errB (slotB f.length i) = er := ⟨_, rfl⟩
    rw [hy, her]
    have HY := Lib.hid hy
    have HER := Lib.hid her
    clear hy her
    go_enter Try.func18, Try.ntmps18
    go_wp2_with fail
    refine (refGet16_any B f.length c f i w HX.out.sl rfl (by omega)).mono ?_
    rintro e w' ⟨rfl, rfl⟩
    rw [HY.out, HER.out]
    go_wp2
    go_ret2
    exact ⟨rfl, rfl⟩

set_option maxRecDepth 100000 in
set_option maxHeartbeats 1000000 in
theorem refSet17_any (X : Nat → Prop) (A : Option Addr) (cap i : Nat) (x : Int) (vs : List Value) (fs : List (List Int)) (w : World) (hs : RefFr w X A vs fs) (hsm : SmallF fs) (hcap : fs.length ≤ cap) :
    Calls Try.prog 12 #[.slice A fs.length cap, .int .u64 i, .int .u64 x] w (RefPost17 X (setF fs i x) (fun v => .tuple #[v, .int .u64 ((topF fs)[i]?.getD 0), .int .i64 (getE fs i)]) w) := by
  rcases snoc_cases fs with rfl | ⟨gs, f, rfl⟩
  · go_enter Try.func12, Try.ntmps12
    go_wp2
    go_ret3
    exact ⟨A, cap, vs, rfl, hs.mono (fun _ _ h => .inl h), hcap, Kept.refl _ _⟩
  · rw [topF_snoc, getE_snoc, setF_snoc]
    have hfew := hsm.few
    have hf := hsm.small f (by simp)
    unfold RefPost17
    rw [List.length_append, List.length_singleton] at hcap hfew ⊢
    rw [List.length_append, List.length_singleton]
    obtain ⟨b, off, B, c, us, rfl, hcell, hxs, hr⟩ := hs.snoc
    obtain ⟨i0, hi, hz0, hz1, hz2⟩ := info_parts info_rowR
    have hwK : (gs.length : Int) ≤ (cap : Int) := by omega
    have hwK2 : IntKind.i64.wrap (gs.length : Int) = (gs.length : Int) := IntWalk.i64_in _ (by omega)
    have hc0 : ¬ cap = 0 := by omega
    have HR := Lib.hid hr
    have HX := Lib.hid hxs
    clear hs hr hxs
    obtain ⟨K, hK⟩ : ∃ K, gs.length = K := ⟨_, rfl⟩
    have HK := Lib.hid hK
    rw [hK] at hcell hwK hwK2 hfew hcap ⊢
    clear hK
    obtain ⟨n, hn⟩ : ∃ n, f.length = n := ⟨_, rfl⟩
    have HN := Lib.hid hn
    rw [hn] at hcell hf ⊢
    clear hn
    go_enter Try.func12, Try.ntmps12
    go_wp2_with fail
    refine (refSet16_any B n c f i x w HX.out.sl HN.out (by omega)).mono ?_
    rintro e w1 ⟨A1, c1, rfl, hpo⟩
    obtain ⟨y, hy⟩ : ∃ y, f[i]?.getD 0 = y := ⟨_, rfl⟩
    obtain ⟨er, her⟩ : ∃ er, errB (slotB n i) = er := ⟨_, rfl⟩
    rw [hy, her]
    have HY := Lib.hid hy
    have HER := Lib.hid her
    have hx1 : SlX w1 .u64 (fun k => X k ∨ w.heap.size ≤ k) A1 (f.set i x) := slX_of_ref hpo HX.out (by simp)
    have hk1 : Kept [] w w1 := hpo.2.2.2
    have hs1 : RefFr w1 (fun k => X k ∨ w.heap.size ≤ k) (some ⟨b, off, none⟩) us gs := (HR.out.kept hk1).mono (fun _ _ h => .inl h)
    clear hpo hy her
    have own0 := own_empty w1 31 1 w1.heap.size (Nat.le_refl _)
    have k0 := (Kept.refl [] w1).alloc (.cells #[] 31)
    have sv := (hs1.kept k0).toV
    rw [HK.out] at sv
    go_wp2_with (first
      | (at_builtin; refine wpList_append_on _ rfl _ _ 27 rfl w1.heap.size 31 i0 (.slice none 0 0) 1 24 Try.underlying27 hi hz0 hz1 hz2 rfl (by omega) w1.heap.size 0 0 [] rfl own0 (some ⟨b, off, none⟩) K cap _ rfl sv hs1.rows.oneCell (by unfold maxLen; omega) (by omega) (by simp) ?_
         intro g2 c2 w2 hown2 hk2 _; rw [Nat.zero_add, List.nil_append] at hown2; rw [Nat.zero_add])
      | (at_builtin; refine wpList_append_one _ rfl _ _ 27 rfl w1.heap.size 31 i0 (.slice none 0 0) 24 Try.underlying27 hi hz0 hz1 hz2 rfl w2 (.slice A1 n c1) (.slice (some ⟨g2, 0, none⟩) K c2) K us rfl rfl rfl hown2 (by have := hk2.size; simp at this; omega) rfl (by omega) (by omega) ?_
         intro g3 c3 w3 hown3 hk3 hat3))
    go_ret3
    have hkk2 : Kept [] w1 w2 := k0.chain hk2 (by simp) (by simp)
    have hge2 := own_ge hown2
    have hkk3 : Kept [] w1 w3 := hkk2.chain hk3 (by simp) (by intro i hi hl; have e : g2 = i := Option.some.inj (Option.mem_toList.1 hi); omega)
    have hge3 := own_ge hown3
    refine ⟨some ⟨g3, 0, none⟩, c3, us ++ [.slice A1 n c1], by rw [HY.out, HER.out]; rfl, RefFr.of_own hown3 (.inr (by have := hk1.size; omega)) ((hs1.kept hkk3).rows.snoc ⟨A1, c1, by rw [List.length_set, HN.out], hx1.kept hkk3 (by simp)⟩), own_cap hown3, hk1.trans hkk3⟩

set_option maxRecDepth 100000 in
set_option maxHeartbeats 1000000 in
theorem refAll17_any (X : Nat → Prop) (A : Option Addr) (cap : Nat) (vs : List Value) (fs : List (List Int)) (w : World) (hs : RefFr w X A vs fs) (hsm : SmallF fs) :
    Calls Try.prog 16 #[.slice A fs.length cap] w (OwnPost (totF fs) (allF fs) w) := by
  obtain ⟨i0, hi, hz0, hz1, hz2⟩ := info_parts Try.infoU23
  have own0 := own_empty w 23 1 w.heap.size (Nat.le_refl _)
  have k0 := (Kept.refl [] w).alloc (.cells #[] 23)
  have hfew := hsm.few
  have HS := Lib.hid hs
  have HM := Lib.hid hsm
  clear hs hsm
  obtain ⟨N, hN⟩ : ∃ N, fs.length = N := ⟨_, rfl⟩
  rw [hN] at hfew ⊢
  have HN := Lib.hid hN
  clear hN
  go_enter Try.func16, Try.ntmps16
  go_wp2_with fail
  generalize w.alloc (.cells #[] 23) = W0 at own0 k0 ⊢
  go_loopw [3, 4] (fun o i wr => ∃ j T g cap : Nat, j ≤ N ∧ o = .slice (some ⟨g, 0, none⟩) T cap ∧ i = .int .i64 j ∧ T = totF (fs.take j) ∧ wr.ownsRow w.heap.size 23 1 (.slice (some ⟨g, 0, none⟩) T cap) T ((allF (fs.take j)).map (Value.int .u64)) ∧ Kept [] w wr) (fun _ i _ => N - (intOf i).toNat)
  case atStart => exact ⟨0, 0, w.heap.size, 0, Nat.zero_le _, rfl, rfl, rfl, own0, k0⟩
  case round =>
    obtain ⟨j, T, g, cap, hj, rfl, rfl, hT, hor, hkr⟩ := hrel
    have HT := Lib.hid hT
    clear hT
    by_cases hlt : j < N
    · have hltF : j < fs.length := by rw [HN.out]; exact hlt
      obtain ⟨b, off, B, cb, rfl, hcell, hxs⟩ := (HS.out.kept hkr).cell hltF
      have hxsv := hxs.sl.toV
      have hgt : T + (fs[j]?.getD []).length ≤ 1024 ∧ T ≤ 1024 := by
        have h1 := HM.out.take (j + 1)
        rw [List.take_add_one, List.getElem?_eq_getElem hltF] at h1
        have h2 := HT.out
        simp only [List.flatten_append, List.length_append, Option.toList_some, List.flatten_cons, List.flatten_nil, List.append_nil] at h1
        rw [List.getElem?_eq_getElem hltF]
        unfold totF at h2
        simp only [Option.getD_some]
        omega
      have HFJ := Lib.hid (show allF (fs.take (j + 1)) = allF (fs.take j) ++ (fs[j]?.getD []) ∧ totF (fs.take (j + 1)) = totF (fs.take j) + (fs[j]?.getD []).length by
        rw [List.take_add_one, List.getElem?_eq_getElem hltF, Option.toList_some, Option.getD_some, allF_snoc, totF_snoc]
        exact ⟨rfl, rfl⟩)
      generalize fs[j]?.getD [] = f at hcell hxs hxsv hgt HFJ
      have hlen := f.length
      have HX := Lib.hid hxs
      have hcellI : ∀ z : Int, z = (j : Int) → z.toNat = j := fun z hz => by subst hz; simp
      clear hltF hxs
      have hrs := hkr.size
      have h1 : (j : Int) < (N : Int) := by omega
      go_wp2_with (at_builtin; refine wpList_append_on _ rfl _ _ 31 rfl w.heap.size 23 i0 (.int .u64 0) 1 8 Try.underlying31 hi hz0 hz1 hz2 rfl (by omega) g T cap _ rfl hor B f.length cb _ rfl hxsv int_oneCell (by unfold maxLen; omega) (by omega) (by omega) ?_; intro g' cap' w1 hown hk _)
      go_roundw
      case rel =>
        rw [← List.map_append, ← HFJ.out.1] at hown
        exact ⟨j + 1, T + f.length, g', cap', by omega, rfl, by go_num, by rw [HFJ.out.2, HT.out], hown, hkr.chain hk (by simp) (by have := own_ge hor; simp; omega)⟩
      case measure => simp [intOf]; omega
    · obtain rfl : j = N := by omega
      have e : fs.take j = fs := List.take_of_length_le (by rw [HN.out]; exact Nat.le_refl _)
      rw [e] at hor HT
      go_wp2
      go_ret
      exact ⟨g, cap, by rw [HT.out]; rfl, by rw [← HT.out]; exact hor, hkr⟩
end Go.Proofs.Ytljpmckbkpoikaa
