/- The law WalkOne: its walk. -/
import Derived.Test.YthnoohghjcfghaaWalkLaid
import Derived.Test.YthnoohghjcfghaaWalkSame
import Derived.Test.YthnoohghjcfghaaDescGreat
namespace Go.Proofs.Ythnoohghjcfghaa
open Go.RowKit

theorem objsB_le (xs : List Int) (ls : List (List Int)) (rs : List RunZ) : (objsB xs ls rs).1.length ≤ rs.length := by
  unfold objsB
  split
  · simp
  · simp

set_option maxRecDepth 100000 in
set_option maxHeartbeats 2000000 in
theorem walkOne_big (a0 : Option Addr) (len ca : Nat) (A : Option Addr) (ct : Nat) (l : List Ty) (R : Option Addr) (rl rc : Nat) (w : World) (hs : SlD w A l) (hx : l.length ≤ 9223372036854775807) (hm : len ≤ maxLen) (hr : rl ≤ maxLen)
    (h : 300 < len ∨ greatB (l.map Ty.ks) = true ∨ 30 < rl) :
    Calls Try.prog 3 #[.slice a0 len ca, .slice A l.length ct, .slice R rl rc] w (FixedPost w) := by
  unfold maxLen at hm hr
  by_cases h1 : 300 < len
  · clear h
    have h1' : decide ((300 : Int) < (len : Int)) = true := by simp; omega
    go_enter Try.func3, Try.ntmps3
    go_wp2_with fail
    refine (fixed12_any _).mono ?_
    rintro e w5 ⟨rfl, kw5⟩
    go_wp2
    go_ret
    exact ⟨rfl, kw5⟩
  · have h1' : decide ((300 : Int) < (len : Int)) = false := by simp; omega
    go_enter Try.func3, Try.ntmps3
    go_wp2_with fail
    refine (great07_any A ct l w hs hx).mono ?_
    rintro e w2 ⟨rfl, kw2⟩
    cases hg : greatB (l.map Ty.ks) with
    | true =>
      go_wp2_with fail
      refine (fixed12_any _).mono ?_
      rintro e w5 ⟨rfl, kw5⟩
      go_wp2
      go_ret
      exact ⟨rfl, kw2.trans kw5⟩
    | false =>
      have h2 : 30 < rl := by simpa [h1, hg] using h
      have h2' : decide ((30 : Int) < (rl : Int)) = true := by simp; omega
      clear h
      go_wp2_with fail
      refine (fixed12_any _).mono ?_
      rintro e w5 ⟨rfl, kw5⟩
      go_wp2
      go_ret
      exact ⟨rfl, kw2.trans kw5⟩

set_option maxRecDepth 100000 in
set_option maxHeartbeats 8000000 in
theorem walkOne_law (a0 : Option Addr) (ca : Nat) (zs : List Int) (A : Option Addr) (ct : Nat) (l : List Ty) (R : Option Addr) (rc : Nat) (rs : List RunZ) (w : World)
    (hs : Sl w .u64 a0 zs) (hl : zs.length ≤ 300) (hca : zs.length ≤ ca) (hcm : ca ≤ maxLen) (hu : ∀ z ∈ zs, 0 ≤ z ∧ z < 18446744073709551616) (ht : SlD w A l) (hx : ∀ t ∈ l, t.ks.length ≤ 100) (hg : greatB (l.map Ty.ks) = false) (hll : l.length ≤ 9223372036854775807)
    (hr : SlS cellsZ 2 w R rs) (hrs : ∀ r ∈ rs, (-9223372036854775808 ≤ r.1 ∧ r.1 ≤ 9223372036854775807)) (hrl : rs.length ≤ 30) :
    Calls Try.prog 3 #[.slice a0 zs.length ca, .slice A l.length ct, .slice R rs.length rc] w (FixedPost w) := by
  have h1' : decide ((300 : Int) < (zs.length : Int)) = false := by simp; omega
  have h2' : decide ((30 : Int) < (rs.length : Int)) = false := by simp; omega
  go_enter Try.func3, Try.ntmps3
  go_wp2_with fail
  refine (great07_any A ct l w ht hll).mono ?_
  rintro e w1 ⟨rfl, k1⟩
  rw [hg]
  go_wp2_with fail
  refine (laid12_any a0 ca zs w1 (hs.kept k1) hl).mono ?_
  rintro e w2 ⟨mb, mg, rfl, hmb, hmg, hm2, k2⟩
  have k12 := k1.trans k2
  have hM0 := SlX.of_sl hs
  have hX0 := fun t htm => SlX.of_sl (ht.2 t htm)
  have HONE := Lib.hid (fun at_ W (hk : Kept [] w2 W) h => walkOne_any mb mg zs A ct l at_ W (hm2.kept hk (by simp) (by simp)) hu (ht.kept (k12.trans hk)) hx h)
  have HREF := Lib.hid (fun at_ W (hk : Kept [] w2 W) => refOne12_any (fun b => b < w.heap.size) a0 ca zs A ct l at_ W (hM0.kept (k12.trans hk) (by simp)) (by omega) hca hcm hu (ht.kept (k12.trans hk)) (fun t htm => (hX0 t htm).kept (k12.trans hk) (by simp)) hx)
  have HOBJ := Lib.hid (fun W (hk : Kept [] w2 W) => walkObjects_any mb mg zs R rc rs A ct l W (hm2.kept hk (by simp) (by simp)) hu (hr.kept (k12.trans hk)) hrs (by omega) (ht.kept (k12.trans hk)) hx)
  have HREO := Lib.hid (fun W (hk : Kept [] w2 W) => refObjects12_any a0 ca zs R rc rs A ct l W (hs.kept (k12.trans hk)) (by omega) hca hcm hu (hr.kept (k12.trans hk)) (by omega) (ht.kept (k12.trans hk)) hx)
  obtain ⟨ls, hls⟩ : ∃ ls, l.map Ty.ks = ls := ⟨_, rfl⟩
  rw [hls] at HONE HREF HOBJ HREO
  have hsmall := fun a => oneB_small (xs := zs) (ls := ls) (a := a) (by omega)
  have HSM := Lib.hid hsmall
  clear hsmall hls hM0 hX0 hg hu hll hx
  go_wp2_with fail
  go_loopw [41] (fun i wr => ∃ (j : Nat), j ≤ rs.length ∧ i = .int .i64 j ∧ Kept [] w2 wr) (fun i _ => rs.length - (intOf i).toNat)
  case atStart => exact ⟨0, Nat.zero_le _, rfl, Kept.refl _ _⟩
  case round =>
    obtain ⟨j, hj, rfl, hkr⟩ := hrel
    by_cases hlt : j < rs.length
    · obtain ⟨rb, ro, rfl, hrb, hrc⟩ := (hr.kept (k12.trans hkr)).cell hlt
      have cr0 := hrc 0 (by omega)
      have cr1 := hrc 1 (by omega)
      have hrb1 := hrs _ (List.getElem_mem hlt)
      obtain ⟨⟨r1, r2⟩, hrj⟩ : ∃ r, rs[j] = r := ⟨_, rfl⟩
      rw [hrj] at cr0 cr1 hrb1
      simp only [cellsZ, List.getElem?_cons_zero, List.getElem?_cons_succ, Nat.add_zero] at cr0 cr1 hrb1
      have hjr : (j : Int) < (rs.length : Int) := by omega
      have rR := Row.new wr 30 [.int .i64 r1, .int .i64 r2]
      have kR := hkr.alloc (.cells #[.int .i64 r1, .int .i64 r2] 30)
      clear hrc hrj
      go_wp2_with fail
      obtain ⟨P, hP⟩ : ∃ P, wr.heap.size = P := ⟨_, rfl⟩
      rw [hP] at rR ⊢
      generalize wr.alloc (.cells #[.int .i64 r1, .int .i64 r2] 30) = W1 at rR kR ⊢
      clear hP
      have hone := HONE.out r1 W1 kR hrb1
      have href := fun W hk => HREF.out r1 W hk
      have hsm := HSM.out r1
      obtain ⟨⟨o1, e1⟩, hx1⟩ : ∃ x, oneB zs ls r1 = x := ⟨_, rfl⟩
      rw [hx1] at hone hsm
      simp only [hx1] at href
      have HREF1 := Lib.hid href
      clear hx1 href
      refine hone.mono ?_
      rintro e w3 ⟨⟨⟨oat, ⟨oar, okd, oty, onn⟩, oks, ovs⟩, ka, kc, va, vc⟩, hlo, rfl, hlies, k3⟩
      simp only at hlo hsm
      subst hlo
      simp only [ObL.cells]
      have kA := (Kept.refl [] w3).alloc (.cells #[.int .i64 oat, .int .i64 0, .bool oar, .int .i64 okd, .int .i64 oty, .int .i64 onn, .slice ka oks.length kc, .slice va ovs.length vc] 35)
      have rO := Row.new w3 35 [.int .i64 oat, .int .i64 0, .bool oar, .int .i64 okd, .int .i64 oty, .int .i64 onn, .slice ka oks.length kc, .slice va ovs.length vc]
      have rR3 := (rR.kept k3 (by simp)).kept kA (by simp)
      have kk3 := (kR.trans k3).trans kA
      have hli3 := hlies.kept (S := []) kA (by simp)
      clear hone hlies rR kR k3
      have q0 : (w3.alloc (.cells #[.int .i64 oat, .int .i64 0, .bool oar, .int .i64 okd, .int .i64 oty, .int .i64 onn, .slice ka oks.length kc, .slice va ovs.length vc] 35)).cell? ⟨P, 0, none⟩ = some (.int .i64 r1) := by simpa using rR3.cell 0
      go_wp2_with fail
      obtain ⟨O1, hO1⟩ : ∃ O1, w3.heap.size = O1 := ⟨_, rfl⟩
      rw [hO1] at rO ⊢
      generalize w3.alloc (.cells #[.int .i64 oat, .int .i64 0, .bool oar, .int .i64 okd, .int .i64 oty, .int .i64 onn, .slice ka oks.length kc, .slice va ovs.length vc] 35) = W3 at kA rO rR3 kk3 hli3 q0 ⊢
      clear hO1 kA q0
      refine (HREF1.out W3 kk3).mono ?_
      rintro e w4 ⟨⟨o2, kb, kd, vb, vd⟩, hlo, rfl, hlies, k4⟩
      simp only at hlo
      subst hlo
      simp only [ObL.cells]
      have kB := (Kept.refl [] w4).alloc (.cells #[.int .i64 oat, .int .i64 0, .bool oar, .int .i64 okd, .int .i64 oty, .int .i64 onn, .slice kb oks.length kd, .slice vb ovs.length vd] 35)
      have rP := Row.new w4 35 [.int .i64 oat, .int .i64 0, .bool oar, .int .i64 okd, .int .i64 oty, .int .i64 onn, .slice kb oks.length kd, .slice vb ovs.length vd]
      have rO4 := (rO.kept k4 (by simp)).kept kB (by simp)
      have kk4 := (kk3.trans k4).trans kB
      have hli4 := (hli3.kept (S := []) k4 (by simp)).kept (S := []) kB (by simp)
      have hlj4 := hlies.kept (S := []) kB (by simp)
      have hne : (e1 != e1) = false := by simp
      clear rO rR3 kk3 hli3 hlies k4 HREF1
      obtain ⟨O2, hO2⟩ : ∃ O2, w4.heap.size = O2 := ⟨_, rfl⟩
      rw [hO2] at rP
      have HS := Lib.hid (refSame12_any ⟨⟨oat, ⟨oar, okd, oty, onn⟩, oks, ovs⟩, ka, kc, va, vc⟩ ⟨⟨oat, ⟨oar, okd, oty, onn⟩, oks, ovs⟩, kb, kd, vb, vd⟩ _ _ _ rfl hsm hli4 hlj4)
      simp only [ObL.cells] at HS
      have e0 : (w4.alloc (.cells #[.int .i64 oat, .int .i64 0, .bool oar, .int .i64 okd, .int .i64 oty, .int .i64 onn, .slice kb oks.length kd, .slice vb ovs.length vd] 35)).cell? ⟨O1, 0, none⟩ = some (.int .i64 oat) := by simpa using rO4.cell 0
      have e1' : (w4.alloc (.cells #[.int .i64 oat, .int .i64 0, .bool oar, .int .i64 okd, .int .i64 oty, .int .i64 onn, .slice kb oks.length kd, .slice vb ovs.length vd] 35)).cell? ⟨O1, 1, none⟩ = some (.int .i64 0) := by simpa using rO4.cell 1
      have e2 : (w4.alloc (.cells #[.int .i64 oat, .int .i64 0, .bool oar, .int .i64 okd, .int .i64 oty, .int .i64 onn, .slice kb oks.length kd, .slice vb ovs.length vd] 35)).cell? ⟨O1, 2, none⟩ = some (.bool oar) := by simpa using rO4.cell 2
      have e3 : (w4.alloc (.cells #[.int .i64 oat, .int .i64 0, .bool oar, .int .i64 okd, .int .i64 oty, .int .i64 onn, .slice kb oks.length kd, .slice vb ovs.length vd] 35)).cell? ⟨O1, 3, none⟩ = some (.int .i64 okd) := by simpa using rO4.cell 3
      have e4 : (w4.alloc (.cells #[.int .i64 oat, .int .i64 0, .bool oar, .int .i64 okd, .int .i64 oty, .int .i64 onn, .slice kb oks.length kd, .slice vb ovs.length vd] 35)).cell? ⟨O1, 4, none⟩ = some (.int .i64 oty) := by simpa using rO4.cell 4
      have e5 : (w4.alloc (.cells #[.int .i64 oat, .int .i64 0, .bool oar, .int .i64 okd, .int .i64 oty, .int .i64 onn, .slice kb oks.length kd, .slice vb ovs.length vd] 35)).cell? ⟨O1, 5, none⟩ = some (.int .i64 onn) := by simpa using rO4.cell 5
      have e6 : (w4.alloc (.cells #[.int .i64 oat, .int .i64 0, .bool oar, .int .i64 okd, .int .i64 oty, .int .i64 onn, .slice kb oks.length kd, .slice vb ovs.length vd] 35)).cell? ⟨O1, 6, none⟩ = some (.slice ka oks.length kc) := by simpa using rO4.cell 6
      have e7 : (w4.alloc (.cells #[.int .i64 oat, .int .i64 0, .bool oar, .int .i64 okd, .int .i64 oty, .int .i64 onn, .slice kb oks.length kd, .slice vb ovs.length vd] 35)).cell? ⟨O1, 7, none⟩ = some (.slice va ovs.length vc) := by simpa using rO4.cell 7
      clear rO4 hli4 hlj4 kB hsm hO2 rP
      go_wp2_with fail
      refine HS.out.mono ?_
      rintro e w6 ⟨rfl, k6⟩
      go_wp2
      go_roundw
      case rel => exact ⟨j + 1, by omega, by go_num, kk4.trans k6⟩
      case measure => simp [intOf]; omega
    · obtain rfl : j = rs.length := by omega
      have k0 := k12.trans hkr
      have hlen := objsB_le zs ls rs
      have hosm := objsB_small (xs := zs) (ls := ls) (rs := rs) (by omega)
      have hob := HOBJ.out wr hkr
      have hre := fun W hk => HREO.out W hk
      obtain ⟨⟨os, er⟩, hx1⟩ : ∃ x, objsB zs ls rs = x := ⟨_, rfl⟩
      rw [hx1] at hlen hosm hob
      simp only [hx1] at hre
      have HREO1 := Lib.hid hre
      have HLEN := Lib.hid hlen
      simp only at hosm
      clear HONE HREF HOBJ HREO HSM hre hx1 hlen
      go_wp2_with fail
      refine hob.mono ?_
      clear hob
      rintro e w3 ⟨aa, cc, ol, hol, rfl, hsl, hli, k3⟩
      simp only at hol
      have HOL := Lib.hid hol
      clear hol
      go_wp2_with fail
      refine (HREO1.out w3 (hkr.trans k3)).mono ?_
      rintro e w4 ⟨ab, cb, om, hom, rfl, hsm, hlm, k4⟩
      simp only at hom
      have HOM := Lib.hid hom
      clear hom
      go_wp2_with fail
      refine (walkObjects_nil _ A l.length ct w4).mono ?_
      rintro e w5 ⟨rfl, k5⟩
      go_wp2_with fail
      refine (walkOne_nil 1 _ w5 (fun _ => True)).mono ?_
      rintro e w6 ⟨⟨o6, ka, kc, va, vc⟩, hlo, rfl, _, k6⟩
      simp only at hlo
      subst hlo
      simp only [ObL.cells, Ob.zero, Hd.zero, List.length_nil]
      have kA := (Kept.refl [] w6).alloc (.cells #[.int .i64 0, .int .i64 0, .bool false, .int .i64 0, .int .i64 0, .int .i64 0, .slice ka 0 kc, .slice va 0 vc] 35)
      have k37 := ((k4.trans k5).trans k6).trans kA
      have kw7 := (k0.trans k3).trans k37
      have k27 := (hkr.trans k3).trans k37
      have hsl7 := hsl.kept k37
      have hsm7 := hsm.kept (((k5).trans k6).trans kA)
      have hli7 := fun x hx => (hli x hx).kept (S := []) k37 (by simp)
      have hlm7 := fun x hx => (hlm x hx).kept (S := []) ((k5.trans k6).trans kA) (by simp)
      clear k3 k4 k5 k6 hsl hsm hli hlm hkr k0 k37 kA HREO1
      go_wp2_with fail
      generalize w6.alloc (.cells #[.int .i64 0, .int .i64 0, .bool false, .int .i64 0, .int .i64 0, .int .i64 0, .slice ka 0 kc, .slice va 0 vc] 35) = W7 at kw7 k27 hsl7 hsm7 hli7 hlm7 ⊢
      refine (fixed12_any W7).mono ?_
      rintro e w8 ⟨rfl, k8⟩
      go_wp2_with fail
      refine (refAll12_any aa ab cc cb ol om w8 _ _ (HOL.out.trans HOM.out.symm) (fun x hx => hosm _ (by rw [← HOL.out]; exact List.mem_map_of_mem hx)) (hsl7.kept k8) (hsm7.kept k8) (fun x hx => (hli7 x hx).kept (S := []) k8 (by simp)) (fun x hx => (hlm7 x hx).kept (S := []) k8 (by simp)) (by have h := congrArg List.length HOL.out; have := HLEN.out; simp only [List.length_map] at h this; omega)).mono ?_
      rintro e w9 ⟨rfl, k9⟩
      have hm9 := hm2.kept ((k27.trans k8).trans k9) (by simp) (by simp)
      have hs9 := hs.kept ((kw7.trans k8).trans k9)
      have kw9 := (kw7.trans k8).trans k9
      have heq : (er == er) = true := by simp
      clear hsl7 hsm7 hli7 hlm7 k8 k9 kw7 k27
      go_wp2_with fail
      refine (all_any mb mg _ w9 hm9).mono ?_
      rintro e w10 ⟨rr, rfl, hrr, rA, k10⟩
      go_wp2_with fail
      refine (refSame_any (some ⟨rr, 0, none⟩) a0 zs.length ca zs zs w10 (Sl.of_row rA) (hs9.kept k10) (by omega)).mono ?_
      rintro e w11 ⟨rfl, k11⟩
      rw [show decide (zs = zs) = true by simp]
      go_wp2
      go_ret
      exact ⟨rfl, (kw9.trans k10).trans k11⟩
end Go.Proofs.Ythnoohghjcfghaa
