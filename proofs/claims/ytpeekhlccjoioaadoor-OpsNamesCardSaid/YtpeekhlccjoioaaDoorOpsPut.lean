/- Package ops: Put. -/
import Derived.Test.YtpeekhlccjoioaaDoorOpsNum
import Derived.Test.YtpeekhlccjoioaaDoorNum
import Derived.Laws.StructEq
namespace Go.Proofs.YtpeekhlccjoioaaDoor
open Go.RowKit

/-- The operation's bytes ahead of its j-th number. -/
def partB (x : OpN) : Nat → List Int
  | 0 => [x.k]
  | 1 => x.k :: numB 8 x.a
  | 2 => x.k :: (numB 8 x.a ++ numB 8 x.b)
  | _ => opB x

set_option maxRecDepth 100000 in
set_option maxHeartbeats 1000000 in
theorem opsIndex_any (A : Option Addr) (n cap : Nat) (xs : List OpN) (w : World) (hs : SlS opC 4 w A xs) (hn : xs.length = n) (hx : n ≤ 1000000) :
    Calls Tryd.prog 12 #[.slice A n cap, .func (.func 10) #[] #[]] w fun e w' => ∃ z : Int, e = .returned (.int .i64 z) ∧ decide (0 ≤ z) = xs.any OpN.bad ∧ Kept [] w w' := by
  subst hn
  go_enter Tryd.func12, Tryd.ntmps12
  go_wp2_with fail
  go_loopw [8] (fun i wr => ∃ j : Nat, j ≤ xs.length ∧ i = .int .i64 j ∧ Hid ((xs.take j).any OpN.bad = false) ∧ Kept [] w wr) (fun i _ => xs.length - (intOf i).toNat)
  case atStart => exact ⟨0, Nat.zero_le _, rfl, by simp [Hid], Kept.refl _ _⟩
  case round =>
    obtain ⟨j, hj, rfl, HA, hkr⟩ := hrel
    by_cases hlt : j < xs.length
    · obtain ⟨b, off, rfl, _, hc⟩ := (hs.kept hkr).cell hlt
      have HT : Hid (xs.take (j + 1) = xs.take j ++ [xs[j]]) := (List.take_append_getElem hlt).symm
      have HM : Hid (xs[j] ∈ xs) := List.getElem_mem hlt
      generalize xs[j] = y at hc HT HM
      have c0 : wr.cell? ⟨b, off + j * 4, none⟩ = some (.int .i64 y.k) := hc 0 (by omega)
      have c1 : wr.cell? ⟨b, off + j * 4 + 1, none⟩ = some (.int .u64 y.a) := hc 1 (by omega)
      have c2 : wr.cell? ⟨b, off + j * 4 + 2, none⟩ = some (.int .u64 y.b) := hc 2 (by omega)
      have c3 : wr.cell? ⟨b, off + j * 4 + 3, none⟩ = some (.int .u64 y.c) := hc 3 (by omega)
      clear hc
      go_wp2_with fail
      refine (mayNot_any y wr).mono ?_
      rintro e w1 ⟨rfl, hk1⟩
      cases hb : y.bad with
      | true =>
        have HB := Lib.hid hb
        clear hb
        go_wp2_with fail
        go_ret
        refine ⟨j, rfl, ?_, hkr.trans hk1⟩
        rw [List.any_eq_true.2 ⟨y, HM.out, HB.out⟩]
        simp
      | false =>
        have HB := Lib.hid hb
        clear hb
        go_wp2_with fail
        go_roundw
        case rel => exact ⟨j + 1, by omega, by go_num, by show _ = _; rw [HT.out, List.any_append, HA.out]; simp [HB.out], hkr.trans hk1⟩
        case measure => simp [intOf]; omega
    · obtain rfl : j = xs.length := by omega
      go_wp2
      go_ret
      refine ⟨-1, rfl, ?_, hkr⟩
      have := HA.out
      rw [List.take_length] at this
      rw [this]; rfl

set_option maxRecDepth 100000 in
theorem opsContains_any (A : Option Addr) (n cap : Nat) (xs : List OpN) (w : World) (hs : SlS opC 4 w A xs) (hn : xs.length = n) (hx : n ≤ 1000000) :
    Calls Tryd.prog 9 #[.slice A n cap, .func (.func 10) #[] #[]] w fun e w' => e = .returned (.bool (xs.any OpN.bad)) ∧ Kept [] w w' := by
  go_enter Tryd.func9, Tryd.ntmps9
  go_wp2_with fail
  refine (opsIndex_any A n cap xs w hs hn hx).mono ?_
  rintro e w1 ⟨z, rfl, hz, hk⟩
  go_wp2
  go_ret
  exact ⟨rfl, hk⟩

theorem run_index_word {P : Program} (w : World) (t e : TypeId) (n : Nat) (ht : P.underlying t = some (.array n e)) (he : P.underlying e = some (.int .u64)) (hsz : ∀ w, (sizeOf e).run P w = .ok 1 w)
    (vs : List Value) (v : Value) (j : Nat) (hj : j < n) (hv : vs[j]? = some v) : (Instr.index t (.agg vs.toArray) (.int .i64 j)).run P w = .ok v w := by
  simp [Instr.index, asIntOf, run_underlying ht, hj, hsz, part, isAgg, run_underlying he, hv]
set_option maxRecDepth 100000 in
theorem index3 (w : World) (a b c : Value) : (Instr.index 42 (.agg #[a, b, c]) (.int .i64 0)).run Tryd.prog w = .ok a w ∧ (Instr.index 42 (.agg #[a, b, c]) (.int .i64 1)).run Tryd.prog w = .ok b w ∧ (Instr.index 42 (.agg #[a, b, c]) (.int .i64 2)).run Tryd.prog w = .ok c w :=
  ⟨run_index_word w _ _ 3 Tryd.underlying42 Tryd.underlying33 (fun w => by rfl) [a, b, c] _ 0 (by decide) rfl, run_index_word w _ _ 3 Tryd.underlying42 Tryd.underlying33 (fun w => by rfl) [a, b, c] _ 1 (by decide) rfl,
    run_index_word w _ _ 3 Tryd.underlying42 Tryd.underlying33 (fun w => by rfl) [a, b, c] _ 2 (by decide) rfl⟩

set_option maxRecDepth 100000 in
set_option maxHeartbeats 2000000 in
theorem bytesOf_any (A : Option Addr) (n cap : Nat) (xs : List OpN) (w : World) (hs : SlS opC 4 w A xs) (hn : xs.length = n) (hx : n ≤ 100) (hb : xs.any OpN.bad = false) :
    Calls Tryd.prog 11 #[.slice A n cap] w fun e w' => ∃ g c, e = .returned (.slice (some ⟨g, 0, none⟩) (25 * n) c) ∧ OwnB w' w.heap.size g (25 * n) c (opsB xs) ∧ Kept [] w w' := by
  subst hn
  obtain ⟨i0, hi, hz0, hz1, hz2⟩ := info_parts Tryd.infoU5
  go_enter Tryd.func11, Tryd.ntmps11
  go_wp2_with (refine wpList_make_own _ rfl _ _ 29 rfl w.heap.size 5 i0 (.int .u8 0) 1 Tryd.underlying29 hi hz0 hz1 .i64 .i64 _ (25 * xs.length) rfl rfl (by push_cast; omega) (by rw [hz2]; omega) (by unfold maxLen; omega) (Nat.le_refl _) ?_; intro w1 hown1 hg1)
  have k1 := Kept.of_grown0 hg1
  have o1 : OwnB w1 w.heap.size w.heap.size 0 (25 * xs.length) [] := hown1
  clear hown1 hg1
  go_loopw [3, 14] (fun s i wr => ∃ j g c : Nat, j ≤ xs.length ∧ i = .int .i64 j ∧ s = .slice (some ⟨g, 0, none⟩) (25 * j) c ∧ OwnB wr w.heap.size g (25 * j) c (opsB (xs.take j)) ∧ Kept [] w wr) (fun s i _ => xs.length - (intOf i).toNat)
  case atStart => exact ⟨0, _, _, Nat.zero_le _, rfl, rfl, o1, k1⟩
  case round =>
    obtain ⟨j, g, c, hj, rfl, rfl, ho, hkr⟩ := hrel
    have hsz := hkr.size
    by_cases hlt : j < xs.length
    · obtain ⟨b, off, rfl, _, hc⟩ := (hs.kept hkr).cell hlt
      have HT : Hid (xs.take (j + 1) = xs.take j ++ [xs[j]]) := (List.take_append_getElem hlt).symm
      have hbad : xs[j].bad = false := by
        cases h : xs[j].bad with
        | false => rfl
        | true => rw [List.any_eq_true.2 ⟨_, List.getElem_mem hlt, h⟩] at hb; cases hb
      generalize xs[j] = y at hc HT hbad
      obtain ⟨yk, ya, yb, yc⟩ := y
      have hyk : 0 ≤ yk ∧ yk ≤ 255 := by
        unfold OpN.bad at hbad
        simp at hbad; omega
      have hwk : IntKind.u8.wrap yk = yk := by rw [IntKind.wrap_u8]; omega
      clear hbad
      have c0 : wr.cell? ⟨b, off + j * 4, none⟩ = some (.int .i64 yk) := hc 0 (by omega)
      have c1 : wr.cell? ⟨b, off + j * 4 + 1, none⟩ = some (.int .u64 ya) := hc 1 (by omega)
      have c2 : wr.cell? ⟨b, off + j * 4 + 2, none⟩ = some (.int .u64 yb) := hc 2 (by omega)
      have c3 : wr.cell? ⟨b, off + j * 4 + 3, none⟩ = some (.int .u64 yc) := hc 3 (by omega)
      clear hc
      have rO := Row.new wr 35 [.int .i64 yk, .int .u64 ya, .int .u64 yb, .int .u64 yc]
      have kO := (Kept.refl [] wr).alloc (.cells #[.int .i64 yk, .int .u64 ya, .int .u64 yb, .int .u64 yc] 35)
      obtain ⟨O, hO⟩ : ∃ O, wr.heap.size = O := ⟨_, rfl⟩
      rw [hO] at rO
      have HOA : Hid ((wr.alloc (.cells #[.int .i64 yk, .int .u64 ya, .int .u64 yb, .int .u64 yc] 35)).heap.size = O + 1) := by show _ = _; simp [hO]
      have hoO := own_kept ho kO (by simp)
      go_wp2_with (at_builtin; refine wpList_append_one _ rfl _ _ 29 rfl w.heap.size 5 i0 (.int .u8 0) 1 Tryd.underlying29 hi hz0 hz1 hz2 rfl (wr.alloc (.cells #[.int .i64 yk, .int .u64 ya, .int .u64 yb, .int .u64 yc] 35)) (.int .u8 yk) (.slice (some ⟨g, 0, none⟩) (25 * j) c) (25 * j) _ rfl rfl (by rw [HOA.out]; rfl) hoO (by have := kO.size; omega) rfl (by omega) (by omega) ?_; intro g2 c2 w3 hown3 hk3 hg3; have rO3 := rO.kept hk3 (by have := own_lt hoO; simp [Value.ownBlock]; have := own_lt ho; omega); have d1 : w3.cell? ⟨O, 1, none⟩ = some (.int .u64 ya) := (by simpa using rO3.cell 1); have d2 : w3.cell? ⟨O, 2, none⟩ = some (.int .u64 yb) := (by simpa using rO3.cell 2); have d3 : w3.cell? ⟨O, 3, none⟩ = some (.int .u64 yc) := (by simpa using rO3.cell 3))
      have hgg := own_ge ho
      have o3 : OwnB w3 w.heap.size g2 (25 * j + 1 + 8 * 0) c2 (opsB (xs.take j) ++ partB ⟨yk, ya, yb, yc⟩ 0) := by
        unfold OwnB
        simpa only [List.map_append, List.map_cons, List.map_nil, partB] using hown3
      have k3 : Kept [] w w3 := hkr.chain (kO.chain (U := [g]) hk3 (by simp) (by simp [Value.ownBlock])) (by simp) (by simp; omega)
      clear hown3 hk3 hg3 rO3 hoO rO kO HOA hO d1 d2 d3 c0 c1 c3 ho hkr hgg
      clear hsz
      go_loopw [3, 31] (fun s i wi => ∃ m g' c' : Nat, m ≤ 3 ∧ i = .int .i64 m ∧ s = .slice (some ⟨g', 0, none⟩) (25 * j + 1 + 8 * m) c' ∧ OwnB wi w.heap.size g' (25 * j + 1 + 8 * m) c' (opsB (xs.take j) ++ partB ⟨yk, ya, yb, yc⟩ m) ∧ Kept [] w wi) (fun s i _ => 3 - (intOf i).toNat)
      case atStart => exact ⟨0, _, _, by omega, rfl, rfl, o3, k3⟩
      case round =>
        obtain ⟨m, g', c', hm, rfl, rfl, ho, hki⟩ := hrel
        have hsz := hki.size
        by_cases hm3 : m < 3
        · have hgg := own_ge ho
          rcases (by omega : m = 0 ∨ m = 1 ∨ m = 2) with rfl | rfl | rfl
          · have hix := (index3 wr (.int .u64 ya) (.int .u64 yb) (.int .u64 yc)).1
            go_wp2_with fail
            refine (putNumber_any w.heap.size g' _ c' ya _ wr (by omega) (by omega) ho).mono ?_
            rintro e w5 ⟨g5, c5, rfl, ho5, hk5, _⟩
            go_wp2
            go_roundw
            case rel => exact ⟨1, g5, c5, by omega, by go_num, rfl, by simpa only [List.append_assoc, partB, List.cons_append, List.nil_append] using ho5, hki.chain hk5 (by simp) (by simp; omega)⟩
            case measure => simp [intOf]
          · have hix := (index3 wr (.int .u64 ya) (.int .u64 yb) (.int .u64 yc)).2.1
            go_wp2_with fail
            refine (putNumber_any w.heap.size g' _ c' yb _ wr (by omega) (by omega) ho).mono ?_
            rintro e w5 ⟨g5, c5, rfl, ho5, hk5, _⟩
            go_wp2
            go_roundw
            case rel => exact ⟨2, g5, c5, by omega, by go_num, rfl, by simpa only [List.append_assoc, partB, List.cons_append] using ho5, hki.chain hk5 (by simp) (by simp; omega)⟩
            case measure => simp [intOf]
          · have hix := (index3 wr (.int .u64 ya) (.int .u64 yb) (.int .u64 yc)).2.2
            go_wp2_with fail
            refine (putNumber_any w.heap.size g' _ c' yc _ wr (by omega) (by omega) ho).mono ?_
            rintro e w5 ⟨g5, c5, rfl, ho5, hk5, _⟩
            go_wp2
            go_roundw
            case rel => exact ⟨3, g5, c5, by omega, by go_num, rfl, by simpa only [List.append_assoc, partB, List.cons_append, opB] using ho5, hki.chain hk5 (by simp) (by simp; omega)⟩
            case measure => simp [intOf]
        · obtain rfl : m = 3 := by omega
          go_wp2
          go_roundw
          case rel => exact ⟨j + 1, g', c', by omega, by go_num, rfl, by rw [HT.out, opsB_snoc]; exact ho, hki⟩
          case measure => simp [intOf]; omega
    · obtain rfl : j = xs.length := by omega
      go_wp2
      go_ret
      rw [List.take_length] at ho
      exact ⟨_, _, rfl, ho, hkr⟩

/-- What Put answers. -/
def PutPost (n : Nat) (xs : List OpN) (w : World) (e : Ending) (w' : World) : Prop :=
  Kept [] w w' ∧ ((xs.any OpN.bad = true ∧ e = .returned (.tuple #[.slice none 0 0, .int .i64 1])) ∨
    (xs.any OpN.bad = false ∧ ∃ g c, e = .returned (.tuple #[.slice (some ⟨g, 0, none⟩) (25 * n) c, .int .i64 0]) ∧ OwnB w' w.heap.size g (25 * n) c (opsB xs)))

set_option maxRecDepth 100000 in
theorem opsPut_any (A : Option Addr) (n cap : Nat) (xs : List OpN) (w : World) (hs : SlS opC 4 w A xs) (hn : xs.length = n) (hx : n ≤ 100) :
    Calls Tryd.prog 8 #[.slice A n cap] w (PutPost n xs w) := by
  have hbo := fun h w hs => bytesOf_any A n cap xs w hs hn hx h
  go_enter Tryd.func8, Tryd.ntmps8
  go_wp2_with fail
  refine (opsContains_any A n cap xs w hs hn (by omega)).mono ?_
  rintro e w1 ⟨rfl, hk⟩
  cases hb : xs.any OpN.bad with
  | true =>
    have HB := Lib.hid hb
    clear hb
    go_wp2
    go_ret2
    exact ⟨hk, .inl ⟨HB.out, rfl⟩⟩
  | false =>
    have HB := Lib.hid hb
    clear hb
    go_wp2_with fail
    refine (hbo HB.out w1 (hs.kept hk)).mono ?_
    rintro e w2 ⟨g, c, rfl, ho, hk2⟩
    have hB : w.heap.size ≤ w1.heap.size := hk.size
    have ho' : OwnB w2 w.heap.size g (25 * n) c (opsB xs) := ⟨ho.1, by
      rcases ho.2 with h | ⟨g', cap', cur, h1, h2, h3⟩
      · exact .inl h
      · exact .inr ⟨g', cap', cur, h1, by omega, h3⟩⟩
    go_wp2
    go_ret2
    exact ⟨hk.trans hk2, .inr ⟨HB.out, g, c, rfl, ho'⟩⟩
end Go.Proofs.YtpeekhlccjoioaaDoor
