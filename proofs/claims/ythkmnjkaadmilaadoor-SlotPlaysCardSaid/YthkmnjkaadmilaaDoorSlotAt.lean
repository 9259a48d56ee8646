/- Package slot: At, place, Load. -/
import Derived.Test.YthkmnjkaadmilaaDoorSlotPlain
import Derived.Test.YthkmnjkaadmilaaDoorNum
import Derived.Test.YthkmnjkaadmilaaDoorSl
namespace Go.Proofs.YthkmnjkaadmilaaDoor
open Go.RowKit

set_option maxRecDepth 100000 in
set_option maxHeartbeats 2000000 in
theorem slotAt_any (a r : Int) (ar : Bool) (kd ty nn : Int) (ka : Option Addr) (kc : Nat) (ks : List Int) (va : Option Addr) (vc : Nat) (vs : List Int) (n : Nat) (w : World) (hs : Sl w .i64 ka ks) (hk : ks.length ≤ 9223372036854775807) :
    Calls Tryd.prog 6 #[.agg #[.int .i64 a, .int .i64 r, .bool ar, .int .i64 kd, .int .i64 ty, .int .i64 nn, .slice ka ks.length kc, .slice va vs.length vc], .int .u64 n] w fun e w' => e = .returned (.tuple #[.int .i64 (placeK a ks n), .int .i64 (kindK ks n), .int .i64 (errB (inK ks n))]) ∧ Kept [] w w' := by
  have k0 := (Kept.refl [] w).alloc (.cells #[.int .i64 a, .int .i64 r, .bool ar, .int .i64 kd, .int .i64 ty, .int .i64 nn, .slice ka ks.length kc, .slice va vs.length vc] 27)
  have hwl : IntKind.u64.wrap (ks.length : Int) = (ks.length : Int) := by rw [IntKind.wrap_u64]; omega
  by_cases h : n < ks.length
  · have hd : decide (ks.length ≤ n) = false := by simp; omega
    have hwn : IntKind.i64.wrap (n : Int) = n := by rw [IntKind.wrap_i64]; omega
    obtain ⟨b, off, rfl, hc⟩ := (hs.kept k0).cell h
    rw [show placeK a ks n = wrap64 (a + n) from if_pos h, show inK ks n = true by simp [inK, h], show errB true = 0 from rfl]
    have hn : (n : Int) < (ks.length : Int) := by omega
    unfold kindK
    generalize ks[n]?.getD 0 = z at hc ⊢
    clear hs h
    go_enter Tryd.func6, Tryd.ntmps6
    go_wp2_with fail
    go_quiet (fail)
    go_wp2
    go_ret3
    exact ⟨rfl, k0.drewN _⟩
  · have hd : decide (ks.length ≤ n) = true := by simp; omega
    rw [show placeK a ks n = 0 from if_neg h, show inK ks n = false by simp [inK]; omega, show errB false = 8 from rfl, show kindK ks n = 0 by unfold kindK; rw [List.getElem?_eq_none (by omega)]; rfl]
    clear h hs
    go_enter Tryd.func6, Tryd.ntmps6
    go_wp2_with fail
    go_ret3
    exact ⟨rfl, k0⟩

set_option maxRecDepth 100000 in
set_option maxHeartbeats 2000000 in
theorem slotPlace_any (m : Addr) (a r : Int) (ar : Bool) (kd ty nn : Int) (ka : Option Addr) (kc : Nat) (ks : List Int) (va : Option Addr) (vc : Nat) (vs : List Int) (n : Nat) (w : World) (hs : Sl w .i64 ka ks) (hk : ks.length ≤ 9223372036854775807) :
    Calls Tryd.prog 20 #[.pointer (some m), .agg #[.int .i64 a, .int .i64 r, .bool ar, .int .i64 kd, .int .i64 ty, .int .i64 nn, .slice ka ks.length kc, .slice va vs.length vc], .int .u64 n] w fun e w' => e = .returned (.tuple #[.int .i64 (placeK a ks n), .int .i64 (errB (inK ks n))]) ∧ Kept [] w w' := by
  have k0 := (Kept.refl [] w).alloc (.cells #[.int .i64 a, .int .i64 r, .bool ar, .int .i64 kd, .int .i64 ty, .int .i64 nn, .slice ka ks.length kc, .slice va vs.length vc] 27)
  have hat := fun W (hW : Kept [] w W) => slotAt_any a r ar kd ty nn ka kc ks va vc vs n W (hs.kept hW) hk
  have hp0 : inK ks n = false → placeK a ks n = 0 := fun h => if_neg (by have := inK_false h; omega)
  generalize kindK ks n = z at hat
  cases hi : inK ks n with
  | false =>
    rw [hi, hp0 hi, show errB false = 8 from rfl] at hat
    rw [hp0 hi, show errB false = 8 from rfl]
    have HAT := Lib.hid hat
    clear hp0 hi hat
    go_enter Tryd.func20, Tryd.ntmps20
    go_wp2_with fail
    refine (HAT.out _ k0).mono ?_
    rintro e w2 ⟨rfl, k2⟩
    go_wp2
    go_ret2
    exact ⟨rfl, k0.trans k2⟩
  | true =>
    rw [hi, show errB true = 0 from rfl] at hat
    rw [show errB true = 0 from rfl]
    generalize placeK a ks n = p at hat ⊢
    have HAT := Lib.hid hat
    clear hp0 hi hat
    go_enter Tryd.func20, Tryd.ntmps20
    go_wp2_with fail
    refine (HAT.out _ k0).mono ?_
    rintro e w2 ⟨rfl, k2⟩
    go_wp2
    go_ret2
    exact ⟨rfl, k0.trans k2⟩

set_option maxRecDepth 100000 in
set_option maxHeartbeats 2000000 in
theorem slotPlace_nil (a r : Int) (ar : Bool) (kd ty nn : Int) (ka : Option Addr) (kc : Nat) (ks : List Int) (va : Option Addr) (vc : Nat) (vs : List Int) (n : Nat) (w : World) (hs : Sl w .i64 ka ks) (hk : ks.length ≤ 9223372036854775807) :
    Calls Tryd.prog 20 #[.pointer none, .agg #[.int .i64 a, .int .i64 r, .bool ar, .int .i64 kd, .int .i64 ty, .int .i64 nn, .slice ka ks.length kc, .slice va vs.length vc], .int .u64 n] w fun e w' => e = .returned (.tuple #[.int .i64 0, .int .i64 (nilK ks n)]) ∧ Kept [] w w' := by
  have k0 := (Kept.refl [] w).alloc (.cells #[.int .i64 a, .int .i64 r, .bool ar, .int .i64 kd, .int .i64 ty, .int .i64 nn, .slice ka ks.length kc, .slice va vs.length vc] 27)
  have hat := fun W (hW : Kept [] w W) => slotAt_any a r ar kd ty nn ka kc ks va vc vs n W (hs.kept hW) hk
  generalize kindK ks n = z at hat
  generalize placeK a ks n = p at hat
  cases hi : inK ks n with
  | false =>
    rw [hi, show errB false = 8 from rfl] at hat
    rw [show nilK ks n = 8 by simp [nilK, hi]]
    have HAT := Lib.hid hat
    clear hi hat
    go_enter Tryd.func20, Tryd.ntmps20
    go_wp2_with fail
    refine (HAT.out _ k0).mono ?_
    rintro e w2 ⟨rfl, k2⟩
    go_wp2
    go_ret2
    exact ⟨rfl, k0.trans k2⟩
  | true =>
    rw [hi, show errB true = 0 from rfl] at hat
    rw [show nilK ks n = 1 by simp [nilK, hi]]
    have HAT := Lib.hid hat
    clear hi hat
    go_enter Tryd.func20, Tryd.ntmps20
    go_wp2_with fail
    refine (HAT.out _ k0).mono ?_
    rintro e w2 ⟨rfl, k2⟩
    go_wp2
    go_ret2
    exact ⟨rfl, k0.trans k2⟩

set_option maxRecDepth 100000 in
set_option maxHeartbeats 2000000 in
theorem slotLoad_any (b g : Nat) (xs : List Int) (a r : Int) (ar : Bool) (kd ty nn : Int) (ka : Option Addr) (kc : Nat) (ks : List Int) (va : Option Addr) (vc : Nat) (vs : List Int) (n : Nat) (w : World) (hm : IsMem w b g xs) (hs : Sl w .i64 ka ks) (hk : ks.length ≤ 9223372036854775807) :
    Calls Tryd.prog 8 #[.pointer (some ⟨b, 0, none⟩), .agg #[.int .i64 a, .int .i64 r, .bool ar, .int .i64 kd, .int .i64 ty, .int .i64 nn, .slice ka ks.length kc, .slice va vs.length vc], .int .u64 n] w fun e w' => e = .returned (.tuple #[.int .u64 (loadK xs a ks n), .int .i64 (errB (okK xs a ks n))]) ∧ Kept [] w w' := by
  have k0 := (Kept.refl [] w).alloc (.cells #[.int .i64 a, .int .i64 r, .bool ar, .int .i64 kd, .int .i64 ty, .int .i64 nn, .slice ka ks.length kc, .slice va vs.length vc] 27)
  have hat := fun W (hW : Kept [] w W) => slotPlace_any ⟨b, 0, none⟩ a r ar kd ty nn ka kc ks va vc vs n W (hs.kept hW) hk
  cases hi : inK ks n with
  | false =>
    rw [hi, show errB false = 8 from rfl] at hat
    rw [show loadK xs a ks n = 0 by simp [loadK, okK_of_out hi], okK_of_out hi, show errB false = 8 from rfl]
    generalize placeK a ks n = p at hat
    have HAT := Lib.hid hat
    clear hi hat
    go_enter Tryd.func8, Tryd.ntmps8
    go_wp2_with fail
    refine (HAT.out _ k0).mono ?_
    rintro e w2 ⟨rfl, k2⟩
    go_wp2
    go_ret2
    exact ⟨rfl, k0.trans k2⟩
  | true =>
    rw [hi, show errB true = 0 from rfl] at hat
    rw [loadK_of_in hi, okK_of_in hi]
    generalize placeK a ks n = p at hat ⊢
    have hrd := fun W (hW : Kept [] w W) => read_any b g xs p W (hm.kept hW (by simp) (by simp))
    generalize (if hasB xs.length p = true then xs[p.toNat]?.getD 0 else 0) = y at hrd ⊢
    generalize errB (hasB xs.length p) = er at hrd ⊢
    have HAT := Lib.hid hat
    have HRD := Lib.hid hrd
    clear hi hat hrd
    go_enter Tryd.func8, Tryd.ntmps8
    go_wp2_with fail
    refine (HAT.out _ k0).mono ?_
    rintro e w2 ⟨rfl, k2⟩
    go_wp2_with fail
    refine (HRD.out w2 (k0.trans k2)).mono ?_
    rintro e w3 ⟨rfl, rfl⟩
    go_wp2
    go_ret2
    exact ⟨rfl, k0.trans k2⟩

set_option maxRecDepth 100000 in
set_option maxHeartbeats 2000000 in
theorem slotLoad_nil (a r : Int) (ar : Bool) (kd ty nn : Int) (ka : Option Addr) (kc : Nat) (ks : List Int) (va : Option Addr) (vc : Nat) (vs : List Int) (n : Nat) (w : World) (hs : Sl w .i64 ka ks) (hk : ks.length ≤ 9223372036854775807) :
    Calls Tryd.prog 8 #[.pointer none, .agg #[.int .i64 a, .int .i64 r, .bool ar, .int .i64 kd, .int .i64 ty, .int .i64 nn, .slice ka ks.length kc, .slice va vs.length vc], .int .u64 n] w fun e w' => e = .returned (.tuple #[.int .u64 0, .int .i64 (nilK ks n)]) ∧ Kept [] w w' := by
  have k0 := (Kept.refl [] w).alloc (.cells #[.int .i64 a, .int .i64 r, .bool ar, .int .i64 kd, .int .i64 ty, .int .i64 nn, .slice ka ks.length kc, .slice va vs.length vc] 27)
  have hat := fun W (hW : Kept [] w W) => slotPlace_nil a r ar kd ty nn ka kc ks va vc vs n W (hs.kept hW) hk
  obtain ⟨q, hq, hq0⟩ : ∃ q, nilK ks n = q ∧ (q != 0) = true := ⟨_, rfl, by unfold nilK; split <;> rfl⟩
  rw [hq] at hat ⊢
  have HAT := Lib.hid hat
  clear hq hat
  go_enter Tryd.func8, Tryd.ntmps8
  go_wp2_with fail
  refine (HAT.out _ k0).mono ?_
  rintro e w2 ⟨rfl, k2⟩
  go_wp2
  go_ret2
  exact ⟨rfl, k0.trans k2⟩
end Go.Proofs.YthkmnjkaadmilaaDoor
