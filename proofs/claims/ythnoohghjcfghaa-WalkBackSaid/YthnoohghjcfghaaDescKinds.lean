/- Package desc: Kinds. -/
import Derived.Test.YthnoohghjcfghaaDesc
import Derived.Test.YthnoohghjcfghaaDescRepeat
namespace Go.Proofs.Ythnoohghjcfghaa
open Go.RowKit

/-- What a call leaves that answers kinds: a slice of the call's own, or nil; the error's number. -/
def KindsAns (x : List Int × Int) (w : World) (e : Ending) (w' : World) : Prop :=
  ∃ v, e = .returned (.tuple #[v, .int .i64 x.2]) ∧ w'.ownsRow w.heap.size 3 1 v x.1.length (x.1.map (Value.int .i64)) ∧ Kept [] w w'
theorem Row.owns {w : World} {g B : Nat} {t : TypeId} {vs : List Value} {n : Nat} (h : Row w g t vs) (hB : B ≤ g) (hn : vs.length = n) (hx : n ≤ maxLen) : w.ownsRow B t 1 (.slice (some ⟨g, 0, none⟩) n n) n vs := by
  subst hn
  exact ⟨by simp, .inr ⟨g, vs.length, vs.toArray, rfl, hB, h, Nat.le_refl _, hx, by simp, by simp⟩⟩
theorem own_lower {w : World} {B B' : Nat} {e : TypeId} {size : Nat} {v : Value} {n : Nat} {xs : List Value} (h : w.ownsRow B e size v n xs) (hB : B' ≤ B) : w.ownsRow B' e size v n xs := by
  refine ⟨h.1, ?_⟩
  rcases h.2 with h' | ⟨g, cap, cur, rfl, h1, r⟩
  · exact .inl h'
  · exact .inr ⟨g, cap, cur, rfl, by omega, r⟩
theorem KindsAns.none {x : List Int × Int} {er : Int} {w w' : World} (hx : x = ([], er)) (hk : Kept [] w w') : KindsAns x w (.returned (.tuple #[.slice none 0 0, .int .i64 er])) w' := by
  subst hx
  exact ⟨_, rfl, World.ownsRow_nil _ _ _ _, hk⟩

set_option maxRecDepth 100000 in
set_option maxHeartbeats 2000000 in
theorem arrayKinds_any (l : List (List Int)) (kind ty n : Int) (w : World) :
    Calls Try.prog 40 #[.agg #[.bool true, .int .i64 kind, .int .i64 ty, .int .i64 n]] w (KindsAns (kindsB l ⟨true, kind, ty, n⟩) w) := by
  have rB := Row.new w 32 [.bool true, .int .i64 kind, .int .i64 ty, .int .i64 n]
  have kW := (Kept.refl [] w).alloc (.cells #[.bool true, .int .i64 kind, .int .i64 ty, .int .i64 n] 32)
  cases hk : kindB kind with
  | false =>
    have HS := Lib.hid (show kindsB l ⟨true, kind, ty, n⟩ = ([], 4) by simp [kindsB, hk])
    go_enter Try.func40, Try.ntmps40
    go_wp2_with fail
    refine (descKind_any kind _).mono ?_
    rintro e w2 ⟨rfl, rfl⟩
    rw [hk]
    go_wp2
    go_ret2
    exact .none HS.out kW
  | true =>
    by_cases h0 : n < 0
    · have HS := Lib.hid (show kindsB l ⟨true, kind, ty, n⟩ = ([], 1) by simp [kindsB, hk, h0])
      have h0' : decide (n < 0) = true := by simpa using h0
      go_enter Try.func40, Try.ntmps40
      go_wp2_with fail
      refine (descKind_any kind _).mono ?_
      rintro e w2 ⟨rfl, rfl⟩
      rw [hk]
      go_wp2
      go_ret2
      exact .none HS.out kW
    · have h0' : decide (n < 0) = false := by simpa using h0
      by_cases h1 : 4000 < n
      · have HS := Lib.hid (show kindsB l ⟨true, kind, ty, n⟩ = ([], 1) by simp [kindsB, hk, h1])
        have h1' : decide (4000 < n) = true := by simpa using h1
        go_enter Try.func40, Try.ntmps40
        go_wp2_with fail
        refine (descKind_any kind _).mono ?_
        rintro e w2 ⟨rfl, rfl⟩
        rw [hk]
        go_wp2
        go_ret2
        exact .none HS.out kW
      · have h1' : decide (4000 < n) = false := by simpa using h1
        obtain ⟨N, rfl⟩ := Int.eq_ofNat_of_zero_le (show 0 ≤ n by omega)
        have HS := Lib.hid (show kindsB l ⟨true, kind, ty, (N : Int)⟩ = (List.replicate N kind, 0) by
          unfold kindsB
          rw [if_pos rfl, if_neg (by simp [hk]), if_neg (by simp only; omega), Int.toNat_natCast])
        go_enter Try.func40, Try.ntmps40
        go_wp2_with fail
        generalize w.alloc (.cells #[.bool true, .int .i64 kind, .int .i64 ty, .int .i64 (N : Int)] 32) = W at rB kW ⊢
        refine (descKind_any kind W).mono ?_
        rintro e w2 ⟨rfl, rfl⟩
        rw [hk]
        have c1 : W.cell? ⟨w.heap.size, 1, none⟩ = some (.int .i64 kind) := by simpa using rB.cell 1
        have c3 : W.cell? ⟨w.heap.size, 3, none⟩ = some (.int .i64 (N : Int)) := by simpa using rB.cell 3
        have sK := Sl.of_row (k := .i64) (xs := [kind]) (Row.new W 3 [.int .i64 kind])
        have kK := (Kept.refl [] W).alloc (.cells #[.int .i64 kind] 3)
        have d3 : (W.alloc (.cells #[.int .i64 kind] 3)).cell? ⟨w.heap.size, 3, none⟩ = some (.int .i64 (N : Int)) := by simpa using (rB.kept kK (by simp)).cell 3
        go_wp2_with fail
        refine (repeat_any _ 1 kind N _ sK (by omega)).mono ?_
        rintro e w3 ⟨g, rfl, hr, hg, kw3⟩
        go_wp2
        go_ret2
        have kk : Kept [] w w3 := (kW.trans kK).trans kw3
        have hWz := kW.size
        have hKz := kK.size
        rw [HS.out]
        exact ⟨_, rfl, by simpa using hr.owns (B := w.heap.size) (n := N) (by omega) (by simp) (by unfold maxLen; omega), kk⟩

set_option maxRecDepth 100000 in
set_option maxHeartbeats 2000000 in
theorem typeKinds_any (A : Option Addr) (cap : Nat) (l : List Ty) (ar : Bool) (har : ar = false) (kind ty n : Int) (w : World) (hs : SlD w A l) (hx : ∀ t ∈ l, t.ks.length ≤ 100) :
    Calls Try.prog 41 #[.slice A l.length cap, .agg #[.bool ar, .int .i64 kind, .int .i64 ty, .int .i64 n]] w (KindsAns (kindsB (l.map Ty.ks) ⟨false, kind, ty, n⟩) w) := by
  subst har
  have rB := Row.new w 32 [.bool false, .int .i64 kind, .int .i64 ty, .int .i64 n]
  have kW := (Kept.refl [] w).alloc (.cells #[.bool false, .int .i64 kind, .int .i64 ty, .int .i64 n] 32)
  by_cases h0 : ty < 0
  · have HS := Lib.hid (show kindsB (l.map Ty.ks) ⟨false, kind, ty, n⟩ = ([], 2) by simp [kindsB, h0])
    have h0' : decide (ty < 0) = true := by simpa using h0
    go_enter Try.func41, Try.ntmps41
    go_wp2
    go_ret2
    exact .none HS.out kW
  · have h0' : decide (ty < 0) = false := by simpa using h0
    by_cases h1 : (l.length : Int) ≤ ty
    · have HS := Lib.hid (show kindsB (l.map Ty.ks) ⟨false, kind, ty, n⟩ = ([], 2) by simp [kindsB, h1])
      have h1' : decide ((l.length : Int) ≤ ty) = true := by simpa using h1
      go_enter Try.func41, Try.ntmps41
      go_wp2
      go_ret2
      exact .none HS.out kW
    · have h1' : decide ((l.length : Int) ≤ ty) = false := by simpa using h1
      obtain ⟨T, rfl⟩ := Int.eq_ofNat_of_zero_le (show 0 ≤ ty by omega)
      obtain ⟨b, off, t, rfl, ht, hc, hsl⟩ := (hs.kept kW).cell (j := T) (by omega)
      have htl := hx t (List.mem_of_getElem? ht)
      have hget : (l.map Ty.ks)[T]?.getD [] = t.ks := by rw [List.getElem?_map, ht]; rfl
      by_cases h2 : n = (t.ks.length : Int)
      · subst h2
        have HS := Lib.hid (show kindsB (l.map Ty.ks) ⟨false, kind, (T : Int), (t.ks.length : Int)⟩ = (t.ks, 0) by
          unfold kindsB
          rw [if_neg (by simp), if_neg (by simp only [List.length_map]; omega), Int.toNat_natCast, hget, if_neg (by simp)])
        clear hget
        go_enter Try.func41, Try.ntmps41
        go_wp2_with fail
        generalize w.alloc (.cells #[.bool false, .int .i64 kind, .int .i64 (T : Int), .int .i64 (t.ks.length : Int)] 32) = W at rB kW hc hsl ⊢
        refine (clone_any t.a t.cap t.ks W hsl (by omega)).mono ?_
        rintro e w3 ⟨v, rfl, hown, kw3⟩
        go_wp2
        go_ret2
        rw [HS.out]
        exact ⟨v, rfl, own_lower hown kW.size, kW.trans kw3⟩
      · have h2' : (n == (t.ks.length : Int)) = false := by simpa using h2
        have HS := Lib.hid (show kindsB (l.map Ty.ks) ⟨false, kind, (T : Int), n⟩ = ([], 1) by
          unfold kindsB
          rw [if_neg (by simp), if_neg (by simp only [List.length_map]; omega), Int.toNat_natCast, hget, if_pos h2])
        clear hget h2
        go_enter Try.func41, Try.ntmps41
        go_wp2
        go_ret2
        exact .none HS.out kW

set_option maxRecDepth 100000 in
set_option maxHeartbeats 2000000 in
theorem descKinds_any (A : Option Addr) (cap : Nat) (l : List Ty) (ar : Bool) (kind ty n : Int) (w : World) (hs : SlD w A l) (hx : ∀ t ∈ l, t.ks.length ≤ 100) :
    Calls Try.prog 26 #[.slice A l.length cap, .agg #[.bool ar, .int .i64 kind, .int .i64 ty, .int .i64 n]] w (KindsAns (kindsB (l.map Ty.ks) ⟨ar, kind, ty, n⟩) w) := by
  have rB := Row.new w 32 [.bool ar, .int .i64 kind, .int .i64 ty, .int .i64 n]
  have kW := (Kept.refl [] w).alloc (.cells #[.bool ar, .int .i64 kind, .int .i64 ty, .int .i64 n] 32)
  have hsW := hs.kept kW
  cases har : ar with
  | true =>
    subst har
    go_enter Try.func26, Try.ntmps26
    go_wp2_with fail
    generalize w.alloc (.cells #[.bool true, .int .i64 kind, .int .i64 ty, .int .i64 n] 32) = W at rB kW hsW ⊢
    refine (arrayKinds_any (l.map Ty.ks) kind ty n W).mono ?_
    rintro e w3 ⟨v, rfl, hown, kw3⟩
    go_wp2
    go_ret2
    exact ⟨v, rfl, own_lower hown kW.size, kW.trans kw3⟩
  | false =>
    subst har
    go_enter Try.func26, Try.ntmps26
    go_wp2_with fail
    generalize w.alloc (.cells #[.bool false, .int .i64 kind, .int .i64 ty, .int .i64 n] 32) = W at rB kW hsW ⊢
    refine (typeKinds_any A cap l false rfl kind ty n W hsW hx).mono ?_
    rintro e w3 ⟨v, rfl, hown, kw3⟩
    go_wp2
    go_ret2
    exact ⟨v, rfl, own_lower hown kW.size, kW.trans kw3⟩
end Go.Proofs.Ythnoohghjcfghaa
