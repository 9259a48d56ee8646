/- kraalref07: Kinds. -/
import Derived.Test.YthnoohghjcfghaaDesc
import Derived.Test.YthnoohghjcfghaaDescRepeat
import Derived.Test.YthnoohghjcfghaaStructs
namespace Go.Proofs.Ythnoohghjcfghaa
open Go.RowKit

/-- What a call leaves that answers kinds: a slice that reads so, in a block of X or a new one; the error's number. -/
def RefKindsAnsX (X : Nat → Prop) (x : List Int × Int) (w : World) (e : Ending) (w' : World) : Prop :=
  ∃ a cap, e = .returned (.tuple #[.slice a x.1.length cap, .int .i64 x.2]) ∧ SlX w' .i64 (fun b => X b ∨ w.heap.size ≤ b) a x.1 ∧ Kept [] w w'
/-- The same, no matter where it lies. -/
def RefKindsAns (x : List Int × Int) (w : World) (e : Ending) (w' : World) : Prop :=
  ∃ a cap, e = .returned (.tuple #[.slice a x.1.length cap, .int .i64 x.2]) ∧ Sl w' .i64 a x.1 ∧ Kept [] w w'
theorem RefKindsAnsX.none {X : Nat → Prop} {x : List Int × Int} {er : Int} {a : Option Addr} {cap : Nat} {w w' : World} (hx : x = ([], er)) (hk : Kept [] w w') : RefKindsAnsX X x w (.returned (.tuple #[.slice a 0 cap, .int .i64 er])) w' := by
  subst hx
  exact ⟨_, _, rfl, .inl rfl, hk⟩

set_option maxRecDepth 100000 in
set_option maxHeartbeats 4000000 in
theorem refKinds07_array (X : Nat → Prop) (A : Option Addr) (cap : Nat) (len : Nat) (l : List (List Int)) (kind ty n : Int) (w : World) :
    Calls Try.prog 29 #[.slice A len cap, .agg #[.bool true, .int .i64 kind, .int .i64 ty, .int .i64 n]] w (RefKindsAnsX X (kindsB l ⟨true, kind, ty, n⟩) w) := by
  obtain ⟨i0, hi, hz0, hz1, hz2⟩ := info_parts info_int07
  have rB := (Row.new w 32 [.bool true, .int .i64 kind, .int .i64 ty, .int .i64 n]).alloc (.cells #[] 3)
  have kW := ((Kept.refl [] w).alloc (.cells #[.bool true, .int .i64 kind, .int .i64 ty, .int .i64 n] 32)).alloc (.cells #[] 3)
  by_cases h0 : kind < 0
  · have HS := Lib.hid (show kindsB l ⟨true, kind, ty, n⟩ = ([], 4) by
      unfold kindsB; rw [if_pos rfl, if_pos (by simp only [kindB, decide_eq_false_iff_not]; omega)])
    have h0' : decide (kind < 0) = true := by simpa using h0
    go_enter Try.func29, Try.ntmps29
    go_wp2
    go_ret2
    exact RefKindsAnsX.none HS.out kW
  · have h0' : decide (kind < 0) = false := by simpa using h0
    by_cases h1 : 3 < kind
    · have HS := Lib.hid (show kindsB l ⟨true, kind, ty, n⟩ = ([], 4) by
        unfold kindsB; rw [if_pos rfl, if_pos (by simp only [kindB, decide_eq_false_iff_not]; omega)])
      have h1' : decide (3 < kind) = true := by simpa using h1
      go_enter Try.func29, Try.ntmps29
      go_wp2
      go_ret2
      exact RefKindsAnsX.none HS.out kW
    · have h1' : decide (3 < kind) = false := by simpa using h1
      have hk : ¬ kindB kind = false := by simp only [kindB, decide_eq_false_iff_not]; omega
      by_cases h2 : n < 0
      · have HS := Lib.hid (show kindsB l ⟨true, kind, ty, n⟩ = ([], 1) by
          unfold kindsB; rw [if_pos rfl, if_neg hk, if_pos (.inl h2)])
        have h2' : decide (n < 0) = true := by simpa using h2
        clear hk
        go_enter Try.func29, Try.ntmps29
        go_wp2
        go_ret2
        exact RefKindsAnsX.none HS.out kW
      · have h2' : decide (n < 0) = false := by simpa using h2
        by_cases h3 : 4000 < n
        · have HS := Lib.hid (show kindsB l ⟨true, kind, ty, n⟩ = ([], 1) by
            unfold kindsB; rw [if_pos rfl, if_neg hk, if_pos (.inr h3)])
          have h3' : decide (4000 < n) = true := by simpa using h3
          clear hk
          go_enter Try.func29, Try.ntmps29
          go_wp2
          go_ret2
          exact RefKindsAnsX.none HS.out kW
        · have h3' : decide (4000 < n) = false := by simpa using h3
          obtain ⟨N, rfl⟩ := Int.eq_ofNat_of_zero_le (show 0 ≤ n by omega)
          have HS := Lib.hid (show kindsB l ⟨true, kind, ty, (N : Int)⟩ = (List.replicate N kind, 0) by
            unfold kindsB
            rw [if_pos rfl, if_neg hk, if_neg (by simp only; omega), Int.toNat_natCast])
          have own0 := own_empty (w.alloc (.cells #[.bool true, .int .i64 kind, .int .i64 ty, .int .i64 (N : Int)] 32)) 3 1 (w.heap.size + 1) (by simp)
          have hN : N ≤ 4000 := by omega
          clear hk h0 h1 h2 h3
          rw [show (w.alloc (.cells #[.bool true, .int .i64 kind, .int .i64 ty, .int .i64 (N : Int)] 32)).heap.size = w.heap.size + 1 from by simp] at own0
          go_enter Try.func29, Try.ntmps29
          go_wp2_with fail
          generalize (w.alloc (.cells #[.bool true, .int .i64 kind, .int .i64 ty, .int .i64 (N : Int)] 32)).alloc (.cells #[] 3) = W at own0 rB kW ⊢
          go_loopw [6, 7] (fun o i wr => ∃ (j g cp : Nat), j ≤ N ∧ o = .slice (some ⟨g, 0, none⟩) j cp ∧ i = .int .i64 j ∧ wr.ownsRow (w.heap.size + 1) 3 1 (.slice (some ⟨g, 0, none⟩) j cp) j ((List.replicate j kind).map (Value.int .i64)) ∧ Kept [] w wr ∧ Row wr w.heap.size 32 [.bool true, .int .i64 kind, .int .i64 ty, .int .i64 (N : Int)]) (fun _ i _ => N - (intOf i).toNat)
          case atStart => exact ⟨0, w.heap.size + 1, 0, Nat.zero_le _, rfl, rfl, own0, kW, rB⟩
          case round =>
            obtain ⟨j, g, cp, hj, rfl, rfl, hor, hkr, rr⟩ := hrel
            clear own0 rB
            have hgl := own_ge hor
            have c1 : wr.cell? ⟨w.heap.size, 1, none⟩ = some (.int .i64 kind) := by simpa using rr.cell 1
            have c3 : wr.cell? ⟨w.heap.size, 3, none⟩ = some (.int .i64 (N : Int)) := by simpa using rr.cell 3
            by_cases hlt : j < N
            · have rE := Row.new wr 3 [.int .i64 kind]
              have kE := (Kept.refl [] wr).alloc (.cells #[.int .i64 kind] 3)
              have rowE := own_kept hor kE (by simp)
              have sE := (Sl.of_row (k := .i64) (xs := [kind]) rE).toV
              have hsz := hkr.size
              have hlB := rr.lt
              have hEz : w.heap.size + 1 ≤ (wr.alloc (.cells #[.int .i64 kind] 3)).heap.size := by simp; omega
              go_wp2_with (at_builtin; refine wpList_append_on _ rfl _ _ 33 rfl (w.heap.size + 1) 3 i0 (.int .i64 0) 1 8 Try.underlying33 hi hz0 hz1 hz2 rfl (by omega) g j cp _ rfl rowE _ 1 1 _ rfl sE int_oneCell (by unfold maxLen; omega) (by omega) hEz ?_; intro g2 cp2 w3 hown3 hk3 hg3)
              go_roundw
              case rel => exact ⟨j + 1, g2, cp2, by omega, rfl, by go_num, by rw [List.replicate_succ', List.map_append]; exact hown3, (hkr.alloc _).chain hk3 (by simp) (by simp; omega), (rr.alloc _).kept hk3 (by simp; omega)⟩
              case measure => simp [intOf]; omega
            · obtain rfl : j = N := by omega
              go_wp2
              go_ret2
              rw [HS.out]
              obtain ⟨a1, c1, he1, hx1⟩ := SlX.of_own hor
              cases he1
              exact ⟨some ⟨g, 0, none⟩, cp, by simp, hx1.mono (fun b _ h => .inr (by omega)), hkr⟩

set_option maxRecDepth 100000 in
set_option maxHeartbeats 4000000 in
theorem refKinds07_type (X : Nat → Prop) (A : Option Addr) (cap : Nat) (l : List Ty) (kind ty n : Int) (w : World) (hs : SlD w A l) (hX : ∀ t ∈ l, SlX w .i64 X t.a t.ks) (hx : ∀ t ∈ l, t.ks.length ≤ 100) :
    Calls Try.prog 29 #[.slice A l.length cap, .agg #[.bool false, .int .i64 kind, .int .i64 ty, .int .i64 n]] w (RefKindsAnsX X (kindsB (l.map Ty.ks) ⟨false, kind, ty, n⟩) w) := by
  have rB := (Row.new w 32 [.bool false, .int .i64 kind, .int .i64 ty, .int .i64 n]).alloc (.cells #[] 3)
  have kW := ((Kept.refl [] w).alloc (.cells #[.bool false, .int .i64 kind, .int .i64 ty, .int .i64 n] 32)).alloc (.cells #[] 3)
  by_cases h0 : ty < 0
  · have HS := Lib.hid (show kindsB (l.map Ty.ks) ⟨false, kind, ty, n⟩ = ([], 2) by simp [kindsB, h0])
    have h0' : decide (ty < 0) = true := by simpa using h0
    go_enter Try.func29, Try.ntmps29
    go_wp2
    go_ret2
    exact RefKindsAnsX.none HS.out kW
  · have h0' : decide (ty < 0) = false := by simpa using h0
    by_cases h1 : (l.length : Int) ≤ ty
    · have HS := Lib.hid (show kindsB (l.map Ty.ks) ⟨false, kind, ty, n⟩ = ([], 2) by simp [kindsB, h1])
      have h1' : decide ((l.length : Int) ≤ ty) = true := by simpa using h1
      go_enter Try.func29, Try.ntmps29
      go_wp2
      go_ret2
      exact RefKindsAnsX.none HS.out kW
    · have h1' : decide ((l.length : Int) ≤ ty) = false := by simpa using h1
      obtain ⟨T, rfl⟩ := Int.eq_ofNat_of_zero_le (show 0 ≤ ty by omega)
      obtain ⟨b, off, t, rfl, ht, hc, hsl⟩ := (hs.kept kW).cell (j := T) (by omega)
      have htl := hx t (List.mem_of_getElem? ht)
      have hTl : (T : Int) < (l.length : Int) := by omega
      have hget : (l.map Ty.ks)[T]?.getD [] = t.ks := by rw [List.getElem?_map, ht]; rfl
      by_cases h2 : n = (t.ks.length : Int)
      · subst h2
        have HS := Lib.hid (show kindsB (l.map Ty.ks) ⟨false, kind, (T : Int), (t.ks.length : Int)⟩ = (t.ks, 0) by
          unfold kindsB
          rw [if_neg (by simp), if_neg (by simp only [List.length_map]; omega), Int.toNat_natCast, hget, if_neg (by simp)])
        clear hget
        go_enter Try.func29, Try.ntmps29
        go_wp2_with fail
        go_quiet (fail)
        go_wp2
        go_ret2
        rw [HS.out]
        exact ⟨_, _, rfl, ((hX t (List.mem_of_getElem? ht)).kept (kW.drewN _) (by simp)).mono (fun b _ h => .inl h), kW.drewN _⟩
      · have h2' : (n == (t.ks.length : Int)) = false := by simpa using h2
        have HS := Lib.hid (show kindsB (l.map Ty.ks) ⟨false, kind, (T : Int), n⟩ = ([], 1) by
          unfold kindsB
          rw [if_neg (by simp), if_neg (by simp only [List.length_map]; omega), Int.toNat_natCast, hget, if_pos h2])
        clear hget h2
        go_enter Try.func29, Try.ntmps29
        go_wp2_with fail
        go_quiet (fail)
        go_wp2
        go_ret2
        exact RefKindsAnsX.none HS.out (kW.drewN _)

theorem refKinds07_anyX (X : Nat → Prop) (A : Option Addr) (cap : Nat) (l : List Ty) (ar : Bool) (kind ty n : Int) (w : World) (hs : SlD w A l) (hX : ∀ t ∈ l, SlX w .i64 X t.a t.ks) (hx : ∀ t ∈ l, t.ks.length ≤ 100) :
    Calls Try.prog 29 #[.slice A l.length cap, .agg #[.bool ar, .int .i64 kind, .int .i64 ty, .int .i64 n]] w (RefKindsAnsX X (kindsB (l.map Ty.ks) ⟨ar, kind, ty, n⟩) w) := by
  cases ar with
  | true => exact refKinds07_array X A cap l.length (l.map Ty.ks) kind ty n w
  | false => exact refKinds07_type X A cap l kind ty n w hs hX hx
theorem refKinds07_any (A : Option Addr) (cap : Nat) (l : List Ty) (ar : Bool) (kind ty n : Int) (w : World) (hs : SlD w A l) (hx : ∀ t ∈ l, t.ks.length ≤ 100) :
    Calls Try.prog 29 #[.slice A l.length cap, .agg #[.bool ar, .int .i64 kind, .int .i64 ty, .int .i64 n]] w (RefKindsAns (kindsB (l.map Ty.ks) ⟨ar, kind, ty, n⟩) w) :=
  (refKinds07_anyX (fun b => b < w.heap.size) A cap l ar kind ty n w hs (fun t ht => SlX.of_sl (hs.2 t ht)) hx).mono (fun _ _ ⟨a, cap, h1, h2, h3⟩ => ⟨a, cap, h1, h2.sl, h3⟩)
end Go.Proofs.Ythnoohghjcfghaa
