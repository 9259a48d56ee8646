/- kraalref13: At, Load, Store. -/
import Derived.Test.YthkmnjkaadmilaaDoorSlotStore
import Derived.Test.YthkmnjkaadmilaaDoorRef
import Derived.Deep.RegionHeld3
namespace Go.Proofs.YthkmnjkaadmilaaDoor
open Go.RowKit

set_option maxRecDepth 100000 in
set_option maxHeartbeats 2000000 in
theorem refAt13_any (a r : Int) (ar : Bool) (kd ty nn : Int) (ka : Option Addr) (kc : Nat) (ks : List Int) (va : Option Addr) (vc : Nat) (vs : List Int) (n : Nat) (w : World) (hs : Sl w .i64 ka ks) (hk : ks.length ≤ 9223372036854775807) :
    Calls Tryd.prog 7 #[.agg #[.int .i64 a, .int .i64 r, .bool ar, .int .i64 kd, .int .i64 ty, .int .i64 nn, .slice ka ks.length kc, .slice va vs.length vc], .int .u64 n] w fun e w' => e = .returned (.tuple #[.int .i64 (placeK a ks n), .int .i64 (kindK ks n), .int .i64 (errB (inK ks n))]) ∧ Kept [] w w' := by
  have k0 := (Kept.refl [] w).alloc (.cells #[.int .i64 a, .int .i64 r, .bool ar, .int .i64 kd, .int .i64 ty, .int .i64 nn, .slice ka ks.length kc, .slice va vs.length vc] 27)
  have hwl : IntKind.u64.wrap (ks.length : Int) = (ks.length : Int) := by rw [IntKind.wrap_u64]; omega
  by_cases h : n < ks.length
  · have hd : decide (ks.length ≤ n) = false := by simp; omega
    have hwn : IntKind.i64.wrap (n : Int) = n := by rw [IntKind.wrap_i64]; omega
    obtain ⟨b, off, rfl, hc⟩ := (hs.kept k0).cell h
    rw [show placeK a ks n = wrap64 (a + n) from if_pos h, show inK ks n = true by simp [inK, h], show errB true = 0 from rfl]
    have hn : (n : Int) < (ks.length : Int) := by omega
    unfold kindK
    generalize ks[n]?.getD 0 = z at hc ⊢
    clear hs h
    go_enter Tryd.func7, Tryd.ntmps7
    go_wp2_with fail
    go_quiet (fail)
    go_wp2
    go_ret3
    exact ⟨rfl, k0.drewN _⟩
  · have hd : decide (ks.length ≤ n) = true := by simp; omega
    rw [show placeK a ks n = 0 from if_neg h, show inK ks n = false by simp [inK]; omega, show errB false = 8 from rfl, show kindK ks n = 0 by unfold kindK; rw [List.getElem?_eq_none (by omega)]; rfl]
    clear h hs
    go_enter Tryd.func7, Tryd.ntmps7
    go_wp2_with fail
    go_ret3
    exact ⟨rfl, k0⟩

set_option maxRecDepth 100000 in
set_option maxHeartbeats 2000000 in
theorem refLoad13_any (A : Option Addr) (cap : Nat) (xs : List Int) (a r : Int) (ar : Bool) (kd ty nn : Int) (ka : Option Addr) (kc : Nat) (ks : List Int) (va : Option Addr) (vc : Nat) (vs : List Int) (n : Nat) (w : World) (hx : Sl w .u64 A xs) (hs : Sl w .i64 ka ks) (hk : ks.length ≤ 9223372036854775807) :
    Calls Tryd.prog 9 #[.slice A xs.length cap, .agg #[.int .i64 a, .int .i64 r, .bool ar, .int .i64 kd, .int .i64 ty, .int .i64 nn, .slice ka ks.length kc, .slice va vs.length vc], .int .u64 n] w fun e w' => e = .returned (.tuple #[.int .u64 (loadK xs a ks n), .int .i64 (errB (okK xs a ks n))]) ∧ Kept [] w w' := by
  have k0 := (Kept.refl [] w).alloc (.cells #[.int .i64 a, .int .i64 r, .bool ar, .int .i64 kd, .int .i64 ty, .int .i64 nn, .slice ka ks.length kc, .slice va vs.length vc] 27)
  have hat := fun W (hW : Kept [] w W) => refAt13_any a r ar kd ty nn ka kc ks va vc vs n W (hs.kept hW) hk
  generalize kindK ks n = z at hat
  cases hi : inK ks n with
  | false =>
    rw [hi, show errB false = 8 from rfl] at hat
    rw [show loadK xs a ks n = 0 by simp [loadK, okK_of_out hi], okK_of_out hi, show errB false = 8 from rfl]
    generalize placeK a ks n = p at hat
    have HAT := Lib.hid hat
    clear hi hat
    go_enter Tryd.func9, Tryd.ntmps9
    go_wp2_with fail
    refine (HAT.out _ k0).mono ?_
    rintro e w2 ⟨rfl, k2⟩
    go_wp2
    go_ret2
    exact ⟨rfl, k0.trans k2⟩
  | true =>
    rw [hi, show errB true = 0 from rfl] at hat
    rw [loadK_of_in hi, okK_of_in hi]
    generalize placeK a ks n = p at hat ⊢
    have HAT := Lib.hid hat
    clear hi hat
    cases hh : hasB xs.length p with
    | true =>
      have hd : 0 ≤ p ∧ p < (xs.length : Int) := by simpa [hasB] using hh
      obtain ⟨m, rfl⟩ := Int.eq_ofNat_of_zero_le hd.1
      have hm : m < xs.length := by omega
      rw [if_pos rfl, show errB true = 0 from rfl, Int.toNat_natCast]
      obtain ⟨b, off, rfl, _⟩ := hx.cell hm
      have hc := fun W (hW : Kept [] w W) => (hx.kept hW).cell hm
      generalize xs[m]?.getD 0 = y at hc ⊢
      have HC := Lib.hid hc
      have h1 : decide ((m : Int) < 0) = false := by simp
      have h2 : decide (xs.length ≤ m) = false := by simp; omega
      have h3 : (m : Int) < (xs.length : Int) := by omega
      clear hh hd hc hx
      go_enter Tryd.func9, Tryd.ntmps9
      go_wp2_with fail
      refine (HAT.out _ k0).mono ?_
      rintro e w2 ⟨rfl, k2⟩
      obtain ⟨b', off', he, hcell⟩ := HC.out w2 (k0.trans k2)
      cases he
      go_wp2
      go_ret2
      exact ⟨rfl, k0.trans k2⟩
    | false =>
      have hd : p < 0 ∨ (xs.length : Int) ≤ p := by simp [hasB] at hh; omega
      rw [if_neg (by simp), show errB false = 8 from rfl]
      clear hh hx
      rcases hd with hd | hd
      · have h1 : decide (p < 0) = true := by simp; omega
        clear hd
        go_enter Tryd.func9, Tryd.ntmps9
        go_wp2_with fail
        refine (HAT.out _ k0).mono ?_
        rintro e w2 ⟨rfl, k2⟩
        go_wp2
        go_ret2
        exact ⟨rfl, k0.trans k2⟩
      · have h1 : decide (p < 0) = false := by simp; omega
        have h2 : decide ((xs.length : Int) ≤ p) = true := by simp; omega
        clear hd
        go_enter Tryd.func9, Tryd.ntmps9
        go_wp2_with fail
        refine (HAT.out _ k0).mono ?_
        rintro e w2 ⟨rfl, k2⟩
        go_wp2
        go_ret2
        exact ⟨rfl, k0.trans k2⟩

/-- An object that reads as p. -/
def ReadP (p : Pj) (v : Value) (w' : World) : Prop :=
  ∃ ka kc va vc, v = .agg #[.int .i64 p.a, .int .i64 p.r, .bool p.h.1, .int .i64 p.h.2.1, .int .i64 p.h.2.2.1, .int .i64 p.h.2.2.2, .slice ka p.ks.length kc, .slice va p.vs.length vc] ∧ Sl w' .i64 ka p.ks ∧ Sl w' .u64 va p.vs
theorem ReadP.zero (w' : World) : ReadP Pj.zero (.agg #[.int .i64 0, .int .i64 0, .bool false, .int .i64 0, .int .i64 0, .int .i64 0, .slice none 0 0, .slice none 0 0]) w' := ⟨none, 0, none, 0, rfl, .inl rfl, .inl rfl⟩
theorem NewP.read {p : Pj} {w w' : World} {v : Value} (h : NewP p w v w') : ReadP p v w' := by
  obtain ⟨ka, kc, va, vc, e, h1, h2⟩ := h
  exact ⟨ka, kc, va, vc, e, h1.sl, h2.sl⟩
/-- What the document's Store leaves. -/
def RefSt (ys : List Int) (n : Nat) (p : Pj) (er : Int) (w : World) (e : Ending) (w' : World) : Prop :=
  ∃ A' cap' x, e = .returned (.tuple #[.slice A' n cap', x, .int .i64 er]) ∧ Sl w' .u64 A' ys ∧ ReadP p x w' ∧ Kept [] w w'

theorem slx_ref {w w' : World} {k : IntKind} {A A' : Option Addr} {xs ys : List Int} {B : Nat} (hx : Sl w k A xs) (hy : Sl w' k A' ys) (hl : ys.length = xs.length) (h : A' = A ∨ ∃ g, A' = some ⟨g, 0, none⟩ ∧ B ≤ g) : SlX w' k (fun b => b < w.heap.size ∨ B ≤ b) A' ys := by
  rcases hy with rfl | ⟨b, off, rfl, hb, hc⟩
  · exact .inl rfl
  · rcases h with h | ⟨g, hg, hB⟩
    · rcases hx with rfl | ⟨b', off', e, hb', _⟩
      · exact .inl (List.eq_nil_of_length_eq_zero (by simpa using hl))
      · rw [← h] at e
        cases e
        exact .inr ⟨b, off, rfl, hb, .inl hb', hc⟩
    · cases hg
      exact .inr ⟨b, _, rfl, hb, .inr hB, hc⟩

set_option maxRecDepth 100000 in
set_option maxHeartbeats 8000000 in
theorem refStore13_any (A : Option Addr) (cap : Nat) (xs : List Int) (a r : Int) (ar : Bool) (kd ty nn : Int) (ka : Option Addr) (kc : Nat) (ks : List Int) (va : Option Addr) (vc : Nat) (vs : List Int) (n : Nat) (v : Int) (w : World) (hx : Sl w .u64 A xs) (hs : Sl w .i64 ka ks) (ht : Sl w .u64 va vs) (hxl : xs.length ≤ 16384) (hk : ks.length ≤ 1099511627776) (hv : vs.length ≤ 1099511627776) :
    Calls Tryd.prog 11 #[.slice A xs.length cap, .agg #[.int .i64 a, .int .i64 r, .bool ar, .int .i64 kd, .int .i64 ty, .int .i64 nn, .slice ka ks.length kc, .slice va vs.length vc], .int .u64 n, .int .u64 v] w (RefSt (storeK xs a ks n v) xs.length (resK xs a r ar kd ty nn ks vs n v) (errB (okK xs a ks n)) w) := by
  have k1 := (Kept.refl [] w).alloc (.cells #[.int .i64 a, .int .i64 r, .bool ar, .int .i64 kd, .int .i64 ty, .int .i64 nn, .slice ka ks.length kc, .slice va vs.length vc] 27)
  have k2 := k1.alloc (.cells #[.int .i64 0, .int .i64 0, .bool false, .int .i64 0, .int .i64 0, .int .i64 0, .slice none 0 0, .slice none 0 0] 27)
  have rB := (Row.new w 27 [.int .i64 a, .int .i64 r, .bool ar, .int .i64 kd, .int .i64 ty, .int .i64 nn, .slice ka ks.length kc, .slice va vs.length vc]).alloc (.cells #[.int .i64 0, .int .i64 0, .bool false, .int .i64 0, .int .i64 0, .int .i64 0, .slice none 0 0, .slice none 0 0] 27)
  have rR := Row.new (w.alloc (.cells #[.int .i64 a, .int .i64 r, .bool ar, .int .i64 kd, .int .i64 ty, .int .i64 nn, .slice ka ks.length kc, .slice va vs.length vc] 27)) 27 [.int .i64 0, .int .i64 0, .bool false, .int .i64 0, .int .i64 0, .int .i64 0, .slice none 0 0, .slice none 0 0]
  rw [World.size_alloc] at rR
  have hat := fun W (hW : Kept [] w W) => refAt13_any a r ar kd ty nn ka kc ks va vc vs n W (hs.kept hW) (by omega)
  generalize kindK ks n = z at hat
  cases hi : inK ks n with
  | false =>
    rw [hi, show errB false = 8 from rfl] at hat
    generalize placeK a ks n = p at hat
    rw [okK_of_out hi, show errB false = 8 from rfl, show resK xs a r ar kd ty nn ks vs n v = Pj.zero by simp [resK, okK_of_out hi], show storeK xs a ks n v = xs by simp [storeK, okK_of_out hi]]
    have HAT := Lib.hid hat
    clear hi hat hs ht
    go_enter Tryd.func11, Tryd.ntmps11
    go_wp2_with fail
    obtain ⟨R, hR⟩ : ∃ R, w.heap.size = R := ⟨_, rfl⟩
    have HR := Lib.hid hR
    rw [hR] at rB rR ⊢
    generalize (w.alloc (.cells #[.int .i64 a, .int .i64 r, .bool ar, .int .i64 kd, .int .i64 ty, .int .i64 nn, .slice ka ks.length kc, .slice va vs.length vc] 27)).alloc (.cells #[.int .i64 0, .int .i64 0, .bool false, .int .i64 0, .int .i64 0, .int .i64 0, .slice none 0 0, .slice none 0 0] 27) = W at k2 rB rR ⊢
    clear hR k1
    refine (HAT.out W k2).mono ?_
    rintro e w2 ⟨rfl, q2⟩
    have kk2 := k2.trans q2
    have rB2 := rB.kept q2 (by simp)
    have rR2 := rR.kept q2 (by simp)
    clear k2 rB rR q2 HAT
    have d0 : w2.cell? ⟨R + 1, 0, none⟩ = some (.int .i64 0) := by simpa using rR2.cell 0
    have d1 : w2.cell? ⟨R + 1, 1, none⟩ = some (.int .i64 0) := by simpa using rR2.cell 1
    have d2 : w2.cell? ⟨R + 1, 2, none⟩ = some (.bool false) := by simpa using rR2.cell 2
    have d3 : w2.cell? ⟨R + 1, 3, none⟩ = some (.int .i64 0) := by simpa using rR2.cell 3
    have d4 : w2.cell? ⟨R + 1, 4, none⟩ = some (.int .i64 0) := by simpa using rR2.cell 4
    have d5 : w2.cell? ⟨R + 1, 5, none⟩ = some (.int .i64 0) := by simpa using rR2.cell 5
    have d6 : w2.cell? ⟨R + 1, 6, none⟩ = some (.slice none 0 0) := by simpa using rR2.cell 6
    have d7 : w2.cell? ⟨R + 1, 7, none⟩ = some (.slice none 0 0) := by simpa using rR2.cell 7
    have f0 := rR2.free 0
    have f1 := rR2.free 1
    have f2 := rR2.free 2
    have f3 := rR2.free 3
    have f4 := rR2.free 4
    have f5 := rR2.free 5
    have f6 := rR2.free 6
    have f7 := rR2.free 7
    have K8 := Lib.hid (fun u0 u1 u2 u3 u4 u5 u6 u7 : Value => Kept.set8 (S := _) kk2 (g := R + 1) (.inr (by have := HR.out; omega)) u0 u1 u2 u3 u4 u5 u6 u7)
    have R8 := Lib.hid (fun u0 u1 u2 u3 u4 u5 u6 u7 : Value => Row.set8 rR2 u0 u1 u2 u3 u4 u5 u6 u7)
    clear rR2 rB2 kk2
    go_wp2
    (try simp only [Exit.inBlock, Exit.then])
    refine bodyPost_ret (results_tct rfl rfl (Row.load (R8.out _ _ _ _ _ _ _ _) Tryd.underlying27 rfl rfl)) rfl ?_
    exact ⟨A, cap, _, rfl, hx.kept (K8.out _ _ _ _ _ _ _ _), ReadP.zero _, K8.out _ _ _ _ _ _ _ _⟩
  | true =>
    rw [hi, show errB true = 0 from rfl] at hat
    have hok := okK_of_in (xs := xs) (a := a) hi
    rw [storeK_of_in v hi]
    unfold resK
    rw [hok]
    generalize placeK a ks n = p at hat ⊢
    have hwr := fun W h => refWrite_any A cap xs p v W h hxl
    have hyl := wrB_length xs p v
    have HAT := Lib.hid hat
    have HI := Lib.hid (inK_true hi)
    clear hi hat hok
    cases hh : hasB xs.length p with
    | false =>
      rw [hh] at hwr
      rw [if_neg (by simp)]
      simp only [show errB false = 8 from rfl] at hwr ⊢
      generalize wrB xs p v = ys at hwr hyl ⊢
      have HYL := Lib.hid hyl
      have HWR := Lib.hid hwr
      clear hwr hh hs ht hyl
      go_enter Tryd.func11, Tryd.ntmps11
      go_wp2_with fail
      obtain ⟨R, hR⟩ : ∃ R, w.heap.size = R := ⟨_, rfl⟩
      have HR := Lib.hid hR
      rw [hR] at rB rR ⊢
      generalize (w.alloc (.cells #[.int .i64 a, .int .i64 r, .bool ar, .int .i64 kd, .int .i64 ty, .int .i64 nn, .slice ka ks.length kc, .slice va vs.length vc] 27)).alloc (.cells #[.int .i64 0, .int .i64 0, .bool false, .int .i64 0, .int .i64 0, .int .i64 0, .slice none 0 0, .slice none 0 0] 27) = W at k2 rB rR ⊢
      clear hR k1
      refine (HAT.out W k2).mono ?_
      rintro e w2 ⟨rfl, q2⟩
      have kk2 := k2.trans q2
      have rB2 := rB.kept q2 (by simp)
      have rR2 := rR.kept q2 (by simp)
      clear k2 rB rR q2 HAT
      have hx2 := hx.kept kk2
      go_wp2_with fail
      refine (HWR.out w2 hx2).mono ?_
      rintro e w3 ⟨A3, cap3, rfl, hy3, hor2, q3⟩
      rw [HYL.out]
      have kk3 : Kept [] w w3 := kk2.trans q3
      have rR3 := rR2.kept q3 (by simp)
      have d0 : w3.cell? ⟨R + 1, 0, none⟩ = some (.int .i64 0) := by simpa using rR3.cell 0
      have d1 : w3.cell? ⟨R + 1, 1, none⟩ = some (.int .i64 0) := by simpa using rR3.cell 1
      have d2 : w3.cell? ⟨R + 1, 2, none⟩ = some (.bool false) := by simpa using rR3.cell 2
      have d3 : w3.cell? ⟨R + 1, 3, none⟩ = some (.int .i64 0) := by simpa using rR3.cell 3
      have d4 : w3.cell? ⟨R + 1, 4, none⟩ = some (.int .i64 0) := by simpa using rR3.cell 4
      have d5 : w3.cell? ⟨R + 1, 5, none⟩ = some (.int .i64 0) := by simpa using rR3.cell 5
      have d6 : w3.cell? ⟨R + 1, 6, none⟩ = some (.slice none 0 0) := by simpa using rR3.cell 6
      have d7 : w3.cell? ⟨R + 1, 7, none⟩ = some (.slice none 0 0) := by simpa using rR3.cell 7
      have f0 := rR3.free 0
      have f1 := rR3.free 1
      have f2 := rR3.free 2
      have f3 := rR3.free 3
      have f4 := rR3.free 4
      have f5 := rR3.free 5
      have f6 := rR3.free 6
      have f7 := rR3.free 7
      have K8 := Lib.hid (fun u0 u1 u2 u3 u4 u5 u6 u7 : Value => Kept.set8 (S := _) kk3 (g := R + 1) (.inr (by have := HR.out; omega)) u0 u1 u2 u3 u4 u5 u6 u7)
      have R8 := Lib.hid (fun u0 u1 u2 u3 u4 u5 u6 u7 : Value => Row.set8 rR3 u0 u1 u2 u3 u4 u5 u6 u7)
      have X8 := Lib.hid (fun u0 u1 u2 u3 u4 u5 u6 u7 : Value => Kept.set8 (S := [R + 1]) (Kept.refl [R + 1] w3) (g := R + 1) (.inl (by simp)) u0 u1 u2 u3 u4 u5 u6 u7)
      have hz2 := rR2.lt
      have HY := Lib.hid ((slx_ref hx hy3 HYL.out hor2).mono (Y := fun b => b ≠ R ∧ b ≠ R + 1) (fun b _ h => by have := HR.out; omega))
      clear rR2 rB2 kk2 rR3 kk3 q3 hy3 hx hx2 hor2 HWR hz2
      go_wp2
      (try simp only [Exit.inBlock, Exit.then])
      refine bodyPost_ret (results_tct rfl rfl (Row.load (R8.out _ _ _ _ _ _ _ _) Tryd.underlying27 rfl rfl)) rfl ?_
      exact ⟨A3, cap3, _, rfl, (HY.out.kept (X8.out _ _ _ _ _ _ _ _) (by intro q hq h; obtain rfl := List.mem_singleton.1 hq; exact h.2 rfl)).sl, ReadP.zero _, K8.out _ _ _ _ _ _ _ _⟩
    | true =>
      rw [hh] at hwr
      rw [if_pos rfl]
      simp only [show errB true = 0 from rfl] at hwr ⊢
      generalize wrB xs p v = ys at hwr hyl ⊢
      have HYL := Lib.hid hyl
      have HWR := Lib.hid hwr
      obtain ⟨i0, hi, hz0, hz1, hz2⟩ := info_parts Tryd.info28
      have hwl : IntKind.u64.wrap (vs.length : Int) = (vs.length : Int) := by rw [IntKind.wrap_u64]; omega
      have hwn : n < vs.length → IntKind.i64.wrap (n : Int) = n := fun h => by rw [IntKind.wrap_i64]; omega
      clear hwr hh hyl
      go_enter Tryd.func11, Tryd.ntmps11
      go_wp2_with fail
      obtain ⟨R, hR⟩ : ∃ R, w.heap.size = R := ⟨_, rfl⟩
      have HR := Lib.hid hR
      rw [hR] at rB rR ⊢
      generalize (w.alloc (.cells #[.int .i64 a, .int .i64 r, .bool ar, .int .i64 kd, .int .i64 ty, .int .i64 nn, .slice ka ks.length kc, .slice va vs.length vc] 27)).alloc (.cells #[.int .i64 0, .int .i64 0, .bool false, .int .i64 0, .int .i64 0, .int .i64 0, .slice none 0 0, .slice none 0 0] 27) = W at k2 rB rR ⊢
      clear hR k1
      refine (HAT.out W k2).mono ?_
      rintro e w2 ⟨rfl, q2⟩
      have kk2 := k2.trans q2
      have rB2 := rB.kept q2 (by simp)
      have rR2 := rR.kept q2 (by simp)
      clear k2 rB rR q2 HAT
      have hx2 := hx.kept kk2
      have hz2l := rR2.lt
      go_wp2_with fail
      refine (HWR.out w2 hx2).mono ?_
      rintro e w3 ⟨A3, cap3, rfl, hy3, hor2, q3⟩
      rw [HYL.out]
      have kk3 : Kept [] w w3 := kk2.trans q3
      have rR3 := rR2.kept q3 (by simp)
      have rB3 := rB2.kept q3 (by simp)
      have HY := Lib.hid ((slx_ref hx hy3 HYL.out hor2).mono (Y := fun b => b ≠ R ∧ b ≠ R + 1) (fun b _ h => by have := HR.out; omega))
      have HKS := Lib.hid hs
      have hR3 := rR3.lt
      have own0 := own_empty w3 28 1 w3.heap.size (Nat.le_refl _)
      have k0 := (Kept.refl [] w3).alloc (.cells #[] 28)
      have s0 := ((ht.kept kk3).kept k0).toV
      have c7 : w3.cell? ⟨R, 7, none⟩ = some (.slice va vs.length vc) := by simpa using rB3.cell 7
      have c7' : (w3.alloc (.cells #[] 28)).cell? ⟨R, 7, none⟩ = some (.slice va vs.length vc) := by simpa using (rB3.kept k0 (by simp)).cell 7
      clear rR2 rB2 kk2 hx hx2 hor2 HWR hz2l hy3 hs q3
      by_cases hn : n < vs.length
      · have hn1 : (n : Int) < (vs.length : Int) := by omega
        have hwn' := hwn hn
        go_wp2_with (at_builtin; refine wpList_append_on _ rfl _ _ 22 rfl w3.heap.size 28 i0 (.int .u64 0) 1 8 Tryd.underlying22 hi hz0 hz1 hz2 rfl (by omega) w3.heap.size 0 0 [] rfl own0 va vs.length vc _ rfl s0 int_oneCell (by unfold maxLen; omega) (by omega) k0.size ?_; intro g4 c4 w4 hown hk4 _; rw [Nat.zero_add, List.nil_append] at hown; rw [Nat.zero_add]
                     have K4 : Kept [] w3 w4 := k0.chain hk4 (by simp) (by simp)
                     have rB4 := rB3.kept K4 (by simp)
                     have e7 : w4.cell? ⟨R, 7, none⟩ = some (.slice va vs.length vc) := (by simpa using rB4.cell 7)
                     have g7 := rB4.free 7
                     have rBZ := rB4.set 7 (.slice (some ⟨g4, 0, none⟩) vs.length c4)
                     have z7 : (w4.setCell ⟨R, 7, none⟩ (.slice (some ⟨g4, 0, none⟩) vs.length c4)).cell? ⟨R, 7, none⟩ = some (.slice (some ⟨g4, 0, none⟩) vs.length c4) := (by simpa using rBZ.cell 7)
                     have hge := own_ge hown
                     have kS := (Kept.refl [R] w4).set (p := ⟨R, 7, none⟩) (.inl (by simp)) (.slice (some ⟨g4, 0, none⟩) vs.length c4)
                     have hownZ := own_keptV hown kS (fun j hj => (by cases hj; simp; omega))
                     have cg := hownZ.cellAt n (by omega)
                     rw [List.getElem?_map, List.getElem?_eq_getElem hn, Option.map_some] at cg
                     have fg := hownZ.frozenAt n)
        have hst := (hownZ.stored n (.int .u64 v)).1
        rw [← List.map_set] at hst
        have hgR : R + 1 < g4 := by omega
        have rR4 := ((rR3.kept K4 (by simp)).kept kS (by simp)).other ⟨g4, n, none⟩ (.int .u64 v) (by simp; omega)
        have rB5 := rBZ.other ⟨g4, n, none⟩ (.int .u64 v) (by simp; omega)
        have kk5 : Kept [] w _ := ((kk3.trans K4).set (p := ⟨R, 7, none⟩) (.inr (by have := HR.out; simp; omega)) (.slice (some ⟨g4, 0, none⟩) vs.length c4)).set (p := ⟨g4, n, none⟩) (.inr (by have := HR.out; simp; omega)) (.int .u64 v)
        have KQ : Kept [R, R + 1] w3 _ := ((K4.any (S := [R, R + 1])).set (p := ⟨R, 7, none⟩) (.inl (by simp)) (.slice (some ⟨g4, 0, none⟩) vs.length c4)).set (p := ⟨g4, n, none⟩) (.inr hge) (.int .u64 v)
        have HVS := Lib.hid ((SlX.of_own1 (xs := vs.set n v) hst).mono (Y := fun b => R + 1 < b) (fun b _ h => by have : w3.heap.size ≤ b := h; omega))
        clear hst hownZ cg fg kS z7 rBZ g7 e7 rB4 K4 hown hk4 c7 c7' s0 k0 own0 rB3 rR3 kk3 hge ht
        generalize (w4.setCell ⟨R, 7, none⟩ (.slice (some ⟨g4, 0, none⟩) vs.length c4)).setCell ⟨g4, n, none⟩ (.int .u64 v) = Y at rR4 rB5 kk5 KQ HVS ⊢
        have b0 : Y.cell? ⟨R, 0, none⟩ = some (.int .i64 a) := by simpa using rB5.cell 0
        have b1 : Y.cell? ⟨R, 1, none⟩ = some (.int .i64 r) := by simpa using rB5.cell 1
        have b2 : Y.cell? ⟨R, 2, none⟩ = some (.bool ar) := by simpa using rB5.cell 2
        have b3 : Y.cell? ⟨R, 3, none⟩ = some (.int .i64 kd) := by simpa using rB5.cell 3
        have b4 : Y.cell? ⟨R, 4, none⟩ = some (.int .i64 ty) := by simpa using rB5.cell 4
        have b5 : Y.cell? ⟨R, 5, none⟩ = some (.int .i64 nn) := by simpa using rB5.cell 5
        have b6 : Y.cell? ⟨R, 6, none⟩ = some (.slice ka ks.length kc) := by simpa using rB5.cell 6
        have b7 : Y.cell? ⟨R, 7, none⟩ = some (.slice (some ⟨g4, 0, none⟩) vs.length c4) := by simpa using rB5.cell 7
        have d0 : Y.cell? ⟨R + 1, 0, none⟩ = some (.int .i64 0) := by simpa using rR4.cell 0
        have d1 : Y.cell? ⟨R + 1, 1, none⟩ = some (.int .i64 0) := by simpa using rR4.cell 1
        have d2 : Y.cell? ⟨R + 1, 2, none⟩ = some (.bool false) := by simpa using rR4.cell 2
        have d3 : Y.cell? ⟨R + 1, 3, none⟩ = some (.int .i64 0) := by simpa using rR4.cell 3
        have d4 : Y.cell? ⟨R + 1, 4, none⟩ = some (.int .i64 0) := by simpa using rR4.cell 4
        have d5 : Y.cell? ⟨R + 1, 5, none⟩ = some (.int .i64 0) := by simpa using rR4.cell 5
        have d6 : Y.cell? ⟨R + 1, 6, none⟩ = some (.slice none 0 0) := by simpa using rR4.cell 6
        have d7 : Y.cell? ⟨R + 1, 7, none⟩ = some (.slice none 0 0) := by simpa using rR4.cell 7
        have f0 := rR4.free 0
        have f1 := rR4.free 1
        have f2 := rR4.free 2
        have f3 := rR4.free 3
        have f4 := rR4.free 4
        have f5 := rR4.free 5
        have f6 := rR4.free 6
        have f7 := rR4.free 7
        have K8 := Lib.hid (fun u0 u1 u2 u3 u4 u5 u6 u7 : Value => Kept.set8 (S := _) kk5 (g := R + 1) (.inr (by have := HR.out; omega)) u0 u1 u2 u3 u4 u5 u6 u7)
        have R8 := Lib.hid (fun u0 u1 u2 u3 u4 u5 u6 u7 : Value => Row.set8 rR4 u0 u1 u2 u3 u4 u5 u6 u7)
        have X8 := Lib.hid (fun u0 u1 u2 u3 u4 u5 u6 u7 : Value => Kept.set8 (S := [R, R + 1]) KQ (g := R + 1) (.inl (by simp)) u0 u1 u2 u3 u4 u5 u6 u7)
        have V8 := Lib.hid (fun u0 u1 u2 u3 u4 u5 u6 u7 : Value => Kept.set8 (S := [R + 1]) (Kept.refl [R + 1] Y) (g := R + 1) (.inl (by simp)) u0 u1 u2 u3 u4 u5 u6 u7)
        clear rR4 rB5 kk5 KQ hn hwn
        go_region_held3 (fun w' => w'.cell? ⟨R, 0, none⟩ = some (.int .i64 a) ∧ w'.cell? ⟨R, 1, none⟩ = some (.int .i64 r) ∧ w'.cell? ⟨R, 2, none⟩ = some (.bool ar) ∧ w'.cell? ⟨R, 3, none⟩ = some (.int .i64 kd) ∧ w'.cell? ⟨R, 4, none⟩ = some (.int .i64 ty) ∧ w'.cell? ⟨R, 5, none⟩ = some (.int .i64 nn) ∧ w'.cell? ⟨R, 6, none⟩ = some (.slice ka ks.length kc) ∧ w'.cell? ⟨R, 7, none⟩ = some (.slice (some ⟨g4, 0, none⟩) vs.length c4)) (go_keep) (fail)
        go_wp2
        (try simp only [Exit.inBlock, Exit.then])
        refine bodyPost_ret (results_tct rfl rfl (Row.load ((R8.out _ _ _ _ _ _ _ _).drew) Tryd.underlying27 rfl rfl)) rfl ?_
        refine ⟨A3, cap3, _, rfl, (HY.out.kept (X8.out _ _ _ _ _ _ _ _).drew (by intro q hq h; simp at hq; omega)).sl, ⟨ka, kc, some ⟨g4, 0, none⟩, c4, by simp only [List.length_set], HKS.out.kept (K8.out _ _ _ _ _ _ _ _).drew, (HVS.out.kept (V8.out _ _ _ _ _ _ _ _).drew (by intro q hq h; obtain rfl := List.mem_singleton.1 hq; omega)).sl⟩, (K8.out _ _ _ _ _ _ _ _).drew⟩
      · have hn1 : decide ((n : Int) < (vs.length : Int)) = false := by simp; omega
        go_wp2_with (at_builtin; refine wpList_append_on _ rfl _ _ 22 rfl w3.heap.size 28 i0 (.int .u64 0) 1 8 Tryd.underlying22 hi hz0 hz1 hz2 rfl (by omega) w3.heap.size 0 0 [] rfl own0 va vs.length vc _ rfl s0 int_oneCell (by unfold maxLen; omega) (by omega) k0.size ?_; intro g4 c4 w4 hown hk4 _; rw [Nat.zero_add, List.nil_append] at hown; rw [Nat.zero_add]
                     have K4 : Kept [] w3 w4 := k0.chain hk4 (by simp) (by simp)
                     have rB4 := rB3.kept K4 (by simp)
                     have e7 : w4.cell? ⟨R, 7, none⟩ = some (.slice va vs.length vc) := (by simpa using rB4.cell 7)
                     have g7 := rB4.free 7
                     have rBZ := rB4.set 7 (.slice (some ⟨g4, 0, none⟩) vs.length c4)
                     have z7 : (w4.setCell ⟨R, 7, none⟩ (.slice (some ⟨g4, 0, none⟩) vs.length c4)).cell? ⟨R, 7, none⟩ = some (.slice (some ⟨g4, 0, none⟩) vs.length c4) := (by simpa using rBZ.cell 7))
        have hge := own_ge hown
        have kS := (Kept.refl [R] w4).set (p := ⟨R, 7, none⟩) (.inl (by simp)) (.slice (some ⟨g4, 0, none⟩) vs.length c4)
        have hownZ := own_keptV hown kS (fun j hj => (by cases hj; simp; omega))
        have rR4 := (rR3.kept K4 (by simp)).kept kS (by simp)
        have kk5 : Kept [] w _ := (kk3.trans K4).set (p := ⟨R, 7, none⟩) (.inr (by have := HR.out; simp; omega)) (.slice (some ⟨g4, 0, none⟩) vs.length c4)
        have KQ : Kept [R, R + 1] w3 _ := (K4.any (S := [R, R + 1])).set (p := ⟨R, 7, none⟩) (.inl (by simp)) (.slice (some ⟨g4, 0, none⟩) vs.length c4)
        have HVS := Lib.hid (show SlX (w4.setCell ⟨R, 7, none⟩ (.slice (some ⟨g4, 0, none⟩) vs.length c4)) .u64 (fun b => R + 1 < b) (some ⟨g4, 0, none⟩) (vs.set n v) by rw [List.set_eq_of_length_le (by omega)]; exact (SlX.of_own1 hownZ).mono (fun b _ h => by have : w3.heap.size ≤ b := h; omega))
        have rB5 := rBZ
        clear hownZ kS z7 rBZ g7 e7 rB4 K4 hown hk4 c7 c7' s0 k0 own0 rB3 rR3 kk3 hge ht
        generalize w4.setCell ⟨R, 7, none⟩ (.slice (some ⟨g4, 0, none⟩) vs.length c4) = Y at rR4 rB5 kk5 KQ HVS ⊢
        have b0 : Y.cell? ⟨R, 0, none⟩ = some (.int .i64 a) := by simpa using rB5.cell 0
        have b1 : Y.cell? ⟨R, 1, none⟩ = some (.int .i64 r) := by simpa using rB5.cell 1
        have b2 : Y.cell? ⟨R, 2, none⟩ = some (.bool ar) := by simpa using rB5.cell 2
        have b3 : Y.cell? ⟨R, 3, none⟩ = some (.int .i64 kd) := by simpa using rB5.cell 3
        have b4 : Y.cell? ⟨R, 4, none⟩ = some (.int .i64 ty) := by simpa using rB5.cell 4
        have b5 : Y.cell? ⟨R, 5, none⟩ = some (.int .i64 nn) := by simpa using rB5.cell 5
        have b6 : Y.cell? ⟨R, 6, none⟩ = some (.slice ka ks.length kc) := by simpa using rB5.cell 6
        have b7 : Y.cell? ⟨R, 7, none⟩ = some (.slice (some ⟨g4, 0, none⟩) vs.length c4) := by simpa using rB5.cell 7
        have d0 : Y.cell? ⟨R + 1, 0, none⟩ = some (.int .i64 0) := by simpa using rR4.cell 0
        have d1 : Y.cell? ⟨R + 1, 1, none⟩ = some (.int .i64 0) := by simpa using rR4.cell 1
        have d2 : Y.cell? ⟨R + 1, 2, none⟩ = some (.bool false) := by simpa using rR4.cell 2
        have d3 : Y.cell? ⟨R + 1, 3, none⟩ = some (.int .i64 0) := by simpa using rR4.cell 3
        have d4 : Y.cell? ⟨R + 1, 4, none⟩ = some (.int .i64 0) := by simpa using rR4.cell 4
        have d5 : Y.cell? ⟨R + 1, 5, none⟩ = some (.int .i64 0) := by simpa using rR4.cell 5
        have d6 : Y.cell? ⟨R + 1, 6, none⟩ = some (.slice none 0 0) := by simpa using rR4.cell 6
        have d7 : Y.cell? ⟨R + 1, 7, none⟩ = some (.slice none 0 0) := by simpa using rR4.cell 7
        have f0 := rR4.free 0
        have f1 := rR4.free 1
        have f2 := rR4.free 2
        have f3 := rR4.free 3
        have f4 := rR4.free 4
        have f5 := rR4.free 5
        have f6 := rR4.free 6
        have f7 := rR4.free 7
        have K8 := Lib.hid (fun u0 u1 u2 u3 u4 u5 u6 u7 : Value => Kept.set8 (S := _) kk5 (g := R + 1) (.inr (by have := HR.out; omega)) u0 u1 u2 u3 u4 u5 u6 u7)
        have R8 := Lib.hid (fun u0 u1 u2 u3 u4 u5 u6 u7 : Value => Row.set8 rR4 u0 u1 u2 u3 u4 u5 u6 u7)
        have X8 := Lib.hid (fun u0 u1 u2 u3 u4 u5 u6 u7 : Value => Kept.set8 (S := [R, R + 1]) KQ (g := R + 1) (.inl (by simp)) u0 u1 u2 u3 u4 u5 u6 u7)
        have V8 := Lib.hid (fun u0 u1 u2 u3 u4 u5 u6 u7 : Value => Kept.set8 (S := [R + 1]) (Kept.refl [R + 1] Y) (g := R + 1) (.inl (by simp)) u0 u1 u2 u3 u4 u5 u6 u7)
        clear rR4 rB5 kk5 KQ hn hwn
        go_region_held3 (fun w' => w'.cell? ⟨R, 0, none⟩ = some (.int .i64 a) ∧ w'.cell? ⟨R, 1, none⟩ = some (.int .i64 r) ∧ w'.cell? ⟨R, 2, none⟩ = some (.bool ar) ∧ w'.cell? ⟨R, 3, none⟩ = some (.int .i64 kd) ∧ w'.cell? ⟨R, 4, none⟩ = some (.int .i64 ty) ∧ w'.cell? ⟨R, 5, none⟩ = some (.int .i64 nn) ∧ w'.cell? ⟨R, 6, none⟩ = some (.slice ka ks.length kc) ∧ w'.cell? ⟨R, 7, none⟩ = some (.slice (some ⟨g4, 0, none⟩) vs.length c4)) (go_keep) (fail)
        go_wp2
        (try simp only [Exit.inBlock, Exit.then])
        refine bodyPost_ret (results_tct rfl rfl (Row.load ((R8.out _ _ _ _ _ _ _ _).drew) Tryd.underlying27 rfl rfl)) rfl ?_
        refine ⟨A3, cap3, _, rfl, (HY.out.kept (X8.out _ _ _ _ _ _ _ _).drew (by intro q hq h; simp at hq; omega)).sl, ⟨ka, kc, some ⟨g4, 0, none⟩, c4, by simp only [List.length_set], HKS.out.kept (K8.out _ _ _ _ _ _ _ _).drew, (HVS.out.kept (V8.out _ _ _ _ _ _ _ _).drew (by intro q hq h; obtain rfl := List.mem_singleton.1 hq; omega)).sl⟩, (K8.out _ _ _ _ _ _ _ _).drew⟩
end Go.Proofs.YthkmnjkaadmilaaDoor
