/- WalkPuts: for every input the law answers true, and its arguments read behind the call as they read before. Conditions: none. -/
import Derived.Test.YthnoohghjcfghaaLaw
import Derived.Test.YthnoohghjcfghaaHeaderArg
import Derived.Test.YthnoohghjcfghaaWalkLaid
import Derived.Test.YthnoohghjcfghaaWalkRefPut
import Derived.Test.YthnoohghjcfghaaRef2
namespace Go.Proofs.Ythnoohghjcfghaa
open Go.ChangeShapes Go.WideShapes Go.ChangeAt Go.RowKit

set_option maxRecDepth 100000 in
set_option maxHeartbeats 2000000 in
theorem walkPuts_big (a0 : Option Addr) (len cap : Nat) (a c : Int) (ar : Bool) (k t n : Int) (w : World) (hl : 300 < len) (hm : len ≤ maxLen) :
    Calls Try.prog 4 #[.slice a0 len cap, .agg #[.int .i64 a, .int .i64 c], .agg #[.bool ar, .int .i64 k, .int .i64 t, .int .i64 n]] w (FixedPost w) := by
  unfold maxLen at hm
  go_enter Try.func4, Try.ntmps4
  go_wp2_with fail
  refine (fixed12_any _).mono ?_
  rintro e w5 ⟨rfl, kw5⟩
  go_wp2
  go_ret
  exact ⟨rfl, (((Kept.refl [] w).alloc _).alloc _).trans kw5⟩

set_option maxRecDepth 100000 in
set_option maxHeartbeats 4000000 in
theorem walkPuts_law (a0 : Option Addr) (cap : Nat) (zs : List Int) (a c : Int) (ar : Bool) (k t n : Int) (w : World) (hs : Sl w .u64 a0 zs) (hl : zs.length ≤ 300) (ha : a ≤ 9223372036854775807) :
    Calls Try.prog 4 #[.slice a0 zs.length cap, .agg #[.int .i64 a, .int .i64 c], .agg #[.bool ar, .int .i64 k, .int .i64 t, .int .i64 n]] w (FixedPost w) := by
  have k0 := ((Kept.refl [] w).alloc (.cells #[.int .i64 a, .int .i64 c] 30)).alloc (.cells #[.bool ar, .int .i64 k, .int .i64 t, .int .i64 n] 32)
  have rR := (Row.new w 30 [.int .i64 a, .int .i64 c]).alloc (.cells #[.bool ar, .int .i64 k, .int .i64 t, .int .i64 n] 32)
  have rH := Row.new (w.alloc (.cells #[.int .i64 a, .int .i64 c] 30)) 32 [.bool ar, .int .i64 k, .int .i64 t, .int .i64 n]
  simp only [World.size_alloc] at rH
  go_enter Try.func4, Try.ntmps4
  go_wp2_with fail
  obtain ⟨R, hR⟩ : ∃ R, w.heap.size = R := ⟨_, rfl⟩
  have HR := Lib.hid hR
  rw [hR] at rR rH ⊢
  generalize (w.alloc (.cells #[.int .i64 a, .int .i64 c] 30)).alloc (.cells #[.bool ar, .int .i64 k, .int .i64 t, .int .i64 n] 32) = W0 at k0 rR rH ⊢
  clear hR
  refine (laid12_any a0 cap zs W0 (hs.kept k0) hl).mono ?_
  rintro e w1 ⟨mb, mg, rfl, hmb, hmg, hm1, k1⟩
  have kk1 := k0.trans k1
  have rR1 := rR.kept k1 (by simp)
  have rH1 := rH.kept k1 (by simp)
  have hRz := rR.lt
  have hHz := rH.lt
  have hz0 := k0.size
  have cells : ∀ (W : World), Row W R 30 [.int .i64 a, .int .i64 c] → Row W (R + 1) 32 [.bool ar, .int .i64 k, .int .i64 t, .int .i64 n] →
      W.cell? ⟨R, 0, none⟩ = some (.int .i64 a) ∧ W.cell? ⟨R, 1, none⟩ = some (.int .i64 c) ∧ W.cell? ⟨R + 1, 0, none⟩ = some (.bool ar) ∧ W.cell? ⟨R + 1, 1, none⟩ = some (.int .i64 k) ∧ W.cell? ⟨R + 1, 2, none⟩ = some (.int .i64 t) ∧ W.cell? ⟨R + 1, 3, none⟩ = some (.int .i64 n) :=
    fun W h1 h2 => ⟨by simpa using h1.cell 0, by simpa using h1.cell 1, by simpa using h2.cell 0, by simpa using h2.cell 1, by simpa using h2.cell 2, by simpa using h2.cell 3⟩
  have CELLS := Lib.hid cells
  clear cells k0 k1 rR rH
  obtain ⟨c0, c1, d0, d1, d2, d3⟩ := CELLS.out w1 rR1 rH1
  go_wp2_with fail
  refine (walkPut_any mb mg zs a c ar k t n w1 hm1 ha).mono ?_
  rintro e w2 ⟨rfl, hm2, k2⟩
  have kk2 : Kept [] w w2 := kk1.chain k2 (by simp) (by intro i hi hlt; obtain rfl := List.mem_singleton.1 hi; omega)
  have rR2 := rR1.kept k2 (by simp; omega)
  have rH2 := rH1.kept k2 (by simp; omega)
  have hlen := putO_length zs a c ⟨ar, k, t, n⟩
  have href := fun W h => refPut12_any a0 cap zs a c ar k t n W h (by omega)
  obtain ⟨⟨ys, er⟩, hx⟩ : ∃ x, putO zs a c ⟨ar, k, t, n⟩ = x := ⟨_, rfl⟩
  rw [hx] at hlen hm2 ⊢
  simp only [hx] at href hlen hm2 ⊢
  have HREF := Lib.hid href
  have HLEN := Lib.hid hlen
  clear href hx c0 c1 d0 d1 d2 d3 rR1 rH1 kk1 k2 hm1
  obtain ⟨c0, c1, d0, d1, d2, d3⟩ := CELLS.out w2 rR2 rH2
  clear hlen
  go_wp2_with fail
  refine (HREF.out w2 (hs.kept kk2)).mono ?_
  rintro e w3 ⟨A3, cap3, rfl, hs3, k3⟩
  have kk3 := kk2.trans k3
  have rR3 := rR2.kept k3 (by simp)
  have rH3 := rH2.kept k3 (by simp)
  have hm3 := hm2.kept k3 (by simp) (by simp)
  clear c0 c1 d0 d1 d2 d3 rR2 rH2 kk2 k3 hm2
  obtain ⟨c0, c1, d0, d1, d2, d3⟩ := CELLS.out w3 rR3 rH3
  rw [← HLEN.out]
  go_wp2_with fail
  refine (fixed12_any w3).mono ?_
  rintro e w4 ⟨rfl, k4⟩
  have kk4 := kk3.trans k4
  have rR4 := rR3.kept k4 (by simp)
  have rH4 := rH3.kept k4 (by simp)
  have hm4 := hm3.kept k4 (by simp) (by simp)
  have hs4 := hs3.kept k4
  clear c0 c1 d0 d1 d2 d3 rR3 rH3 kk3 k4 hm3 hs3
  obtain ⟨c0, c1, d0, d1, d2, d3⟩ := CELLS.out w4 rR4 rH4
  go_wp2_with fail
  refine (all_any mb mg _ w4 hm4).mono ?_
  rintro e w5 ⟨r, rfl, hr, rA, k5⟩
  have kk5 := kk4.trans k5
  have rR5 := rR4.kept k5 (by simp)
  have rH5 := rH4.kept k5 (by simp)
  have hs5 := hs4.kept k5
  have hyl : ys.length ≤ 300 := by have := HLEN.out; omega
  clear c0 c1 d0 d1 d2 d3 rR4 rH4 kk4 k5 hm4 hs4
  obtain ⟨c0, c1, d0, d1, d2, d3⟩ := CELLS.out w5 rR5 rH5
  go_wp2_with fail
  refine (refSame_any (some ⟨r, 0, none⟩) A3 ys.length cap3 ys ys w5 (Sl.of_row rA) hs5 (by omega)).mono ?_
  rintro e w6 ⟨rfl, k6⟩
  have kk6 := kk5.trans k6
  have rR6 := rR5.kept k6 (by simp)
  have rH6 := rH5.kept k6 (by simp)
  rw [show decide (ys = ys) = true by simp]
  clear c0 c1 d0 d1 d2 d3 rR5 rH5 kk5 k6 hs5 rA
  obtain ⟨c0, c1, d0, d1, d2, d3⟩ := CELLS.out w6 rR6 rH6
  go_wp2_with fail
  refine (walkPut_nil a c ar k t n w6).mono ?_
  rintro e w7 ⟨rfl, k7⟩
  go_wp2
  go_ret
  exact ⟨rfl, kk6.trans k7⟩

set_option maxRecDepth 100000 in
set_option maxHeartbeats 1000000 in
theorem walkPuts_lifted (os : Os) (started : os.Started) (H : Type) (enc : TypeId × Value → H) :
    ReturnsInHanded {} Try.checked os 4 .any (Rows.walkPutsSpec.pre6 enc Try.prog Try.f4 Rows.walkPutsRow.domain false) (Rows.walkPutsSpec.post enc Try.prog Try.f4 false true false false) := by
  refine returnsInHanded_of_change (C := Try.checked) law_own started (by kernel_rfl) Try.func4
    (ChangeSpec.witness6 (enc := enc) (C := Try.checked) false ⟨#[], #[.slice none 0 0, .agg #[.int .i64 0, .int .i64 0], .agg #[.bool false, .int .i64 0, .int .i64 0, .int .i64 0]], []⟩ 8 (by kernel_rfl) (by kernel_rfl) (by kernel_rfl) (by kernel_rfl)) ?_
  intro W base args ds gs before hval0 hW hcnd _
  have hval : ∀ (j : Nat) t v, Try.f4.params[j]? = some t → args[j]? = some v → Value.okWide Try.prog W .any base t v := hval0
  have hW' := hW
  obtain ⟨p, q, hA0, hV, rfl, hfz, hnd⟩ := hW
  have hA : DataW.TrodAll enc Try.prog W 0 (fun _ => true) true Try.f4.params.toList args.toList ds p := hA0
  rw [Try.params4] at hA hval
  have hK := hA
  obtain ⟨v0, v1, v2, d0, d1, d2, p0, p1, p2, rfl, rfl, rfl, h0, h1, h2⟩ := trodAll_three hA
  obtain ⟨rfl, rfl⟩ := trodVars_none hV
  obtain ⟨a0, cap, zs, rfl, hs, hmx, _⟩ := open_sl Try.underlying22 Try.underlying61 (by kernel_rfl) (hval 0 22 v0 rfl rfl) h0
  obtain ⟨a, c, rfl, wa, _⟩ := open_run (hval 1 30 v1 rfl rfl) h1
  obtain ⟨ar, kind, ty, n, rfl⟩ := open_head08 (hval 2 32 v2 rfl rfl) h2
  have hx := (i64_le wa).2
  clear hA0 hval0
  have hwalk : Calls Try.prog 4 #[.slice a0 zs.length cap, .agg #[.int .i64 a, .int .i64 c], .agg #[.bool ar, .int .i64 kind, .int .i64 ty, .int .i64 n]] W (FixedPost W) := by
    by_cases hl : zs.length ≤ 300
    · exact walkPuts_law a0 cap zs a c ar kind ty n W hs hl hx
    · exact walkPuts_big a0 zs.length cap a c ar kind ty n W (by omega) hmx
  refine hwalk.mono fun e W' ⟨he, hk⟩ => ?_
  subst he
  have bel : Below W.heap.size W W' := hk.below (by simp) (Nat.le_refl _)
  exact ⟨_, rfl, _, _, _, [], _, [], hW', trodAll_mk1 (shut_bool Try.underlying4 _), trodAll_below bel _ _ _ _ (by decide +kernel) hK, rfl, bel.frame _, fun h => by cases h⟩

theorem walkPuts_holds : Rows.WalkPutsSaid :=
  OpenClaim.holds_of_wide 4 Try.f4 rfl rfl rfl rfl rfl rfl rfl ⟨rfl, rfl, rfl, rfl, rfl⟩ rfl rfl rfl rfl rfl (by kernel_rfl) Try.func4 (by kernel_rfl)
    (of_decide_eq_true (by kernel_rfl)) (by unfold Func.isWrapper; first | (rw [if_pos (by decide +kernel)]; kernel_rfl) | (rw [if_neg (by decide +kernel)]; exact ⟨rfl, rfl⟩))
    (fun os started H enc _ => walkPuts_lifted os started H enc)
end Go.Proofs.Ythnoohghjcfghaa
