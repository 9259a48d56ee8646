/- The law WordsPlay: its walk. -/
import Derived.Test.YtkdojplbkhdgdaaRef2
namespace Go.Proofs.Ytkdojplbkhdgdaa
open Go.RowKit

/-- What is done: kind, at, n, to, v. -/
structure ActV where
  kind : Int
  at_ : Int
  n : Int
  to : Int
  v : Int
  deriving Inhabited

/-- The slice of acts that begins at a reads as l. -/
def SlA (w : World) (a : Option Addr) (l : List ActV) : Prop :=
  l = [] ∨ ∃ b off, a = some ⟨b, off, none⟩ ∧ b < w.heap.size ∧ ∀ j x, l[j]? = some x →
    w.cell? ⟨b, off + j * 5, none⟩ = some (.int .i64 x.kind) ∧ w.cell? ⟨b, off + j * 5 + 1, none⟩ = some (.int .i64 x.at_) ∧ w.cell? ⟨b, off + j * 5 + 2, none⟩ = some (.int .i64 x.n) ∧
    w.cell? ⟨b, off + j * 5 + 3, none⟩ = some (.int .i64 x.to) ∧ w.cell? ⟨b, off + j * 5 + 4, none⟩ = some (.int .u64 x.v)
theorem SlA.kept {w w' : World} {a : Option Addr} {l : List ActV} (h : SlA w a l) (hk : Kept [] w w') : SlA w' a l := by
  rcases h with h | ⟨b, off, rfl, hb, hc⟩
  · exact .inl h
  · have e : ∀ o, w'.cell? ⟨b, o, none⟩ = w.cell? ⟨b, o, none⟩ := fun o => World.cell?_of_block (w := w) (a := ⟨b, o, none⟩) (hk.block b hb (by simp))
    exact .inr ⟨b, off, rfl, Nat.lt_of_lt_of_le hb hk.size, fun j x hx => by simp only [e]; exact hc j x hx⟩
theorem SlA.cell {w : World} {a : Option Addr} {l : List ActV} (h : SlA w a l) {j : Nat} (hj : j < l.length) : ∃ b off x, a = some ⟨b, off, none⟩ ∧ l[j]? = some x ∧ b < w.heap.size ∧
    w.cell? ⟨b, off + j * 5, none⟩ = some (.int .i64 x.kind) ∧ w.cell? ⟨b, off + j * 5 + 1, none⟩ = some (.int .i64 x.at_) ∧ w.cell? ⟨b, off + j * 5 + 2, none⟩ = some (.int .i64 x.n) ∧
    w.cell? ⟨b, off + j * 5 + 3, none⟩ = some (.int .i64 x.to) ∧ w.cell? ⟨b, off + j * 5 + 4, none⟩ = some (.int .u64 x.v) := by
  rcases h with h | ⟨b, off, rfl, hb, hc⟩
  · subst h; simp at hj
  · exact ⟨b, off, l[j], rfl, List.getElem?_eq_getElem hj, hb, hc j _ (List.getElem?_eq_getElem hj)⟩
theorem Sl.keptS {w w' : World} {S : List Nat} {k : IntKind} {a : Option Addr} {zs : List Int} (h : Sl w k a zs) (hk : Kept S w w') (hn : ∀ b off, a = some ⟨b, off, none⟩ → b ∉ S) : Sl w' k a zs := by
  rcases h with h | ⟨b, off, rfl, hb, hc⟩
  · exact .inl h
  · exact .inr ⟨b, off, rfl, Nat.lt_of_lt_of_le hb hk.size, fun j hj => (World.cell?_of_block (w := w) (a := ⟨b, off + j, none⟩) (hk.block b hb (hn b off rfl))).trans (hc j hj)⟩

/-- RefPost with the length written out. -/
def RefPostN (n : Nat) (A : Option Addr) (xs' : List Int) (er : Int) (w : World) (e : Ending) (w' : World) : Prop :=
  ∃ A' cap', e = .returned (.tuple #[.slice A' n cap', .int .i64 er]) ∧ Sl w' .u64 A' xs' ∧ (A' = A ∨ ∃ g, A' = some ⟨g, 0, none⟩ ∧ w.heap.size ≤ g) ∧ Kept [] w w'
theorem RefPost.n {n : Nat} {A : Option Addr} {xs' : List Int} {er : Int} {w : World} {e : Ending} {w' : World} (hn : xs'.length = n) (h : RefPost A xs' er w e w') : RefPostN n A xs' er w e w' := by
  subst hn; exact h
theorem refWrite_n {n : Nat} (A : Option Addr) (cap : Nat) (xs : List Int) (at_ v : Int) (w : World) (hs : Sl w .u64 A xs) (hn : xs.length = n) (hx : n ≤ 16384) :
    Calls Try.prog 11 #[.slice A n cap, .int .i64 at_, .int .u64 v] w (RefPostN n A (wrB xs at_ v) (errB (hasB n at_)) w) := by
  subst hn
  exact (refWrite_any A cap xs at_ v w hs hx).mono fun e w' h => h.n (wrB_length _ _ _)
theorem refFill_n {n : Nat} (A : Option Addr) (cap : Nat) (xs : List Int) (a c v : Int) (w : World) (hs : Sl w .u64 A xs) (hn : xs.length = n) (hx : n ≤ 16384) :
    Calls Try.prog 13 #[.slice A n cap, .agg #[.int .i64 a, .int .i64 c], .int .u64 v] w (RefPostN n A (flB xs a c v) (errB (holdsB n a c)) w) := by
  subst hn
  exact (refFill_any A cap xs a c v w hs hx).mono fun e w' h => h.n (flB_length _ _ _ _)
theorem refMove_n {n : Nat} (A : Option Addr) (cap : Nat) (xs : List Int) (a c to : Int) (w : World) (hs : Sl w .u64 A xs) (hn : xs.length = n) (hx : n ≤ 16384) :
    Calls Try.prog 15 #[.slice A n cap, .agg #[.int .i64 a, .int .i64 c], .int .i64 to] w (RefPostN n A (mvB xs a c to) (errB (mayMove n a c to)) w) := by
  subst hn
  exact (refMove_any A cap xs a c to w hs hx).mono fun e w' h => h.n (mvB_length _ _ _ _)
theorem refSame_n {n : Nat} (A B : Option Addr) (cap cap2 : Nat) (xs : List Int) (w : World) (hs : Sl w .u64 A xs) (ht : Sl w .u64 B xs) (hn : xs.length = n) (hx : n ≤ 16384) :
    Calls Try.prog 18 #[.slice A n cap, .slice B n cap2] w (SamePost true w) := by
  subst hn
  exact (refSame_any A B cap cap2 xs xs w hs ht hx).mono fun e w' h => by simpa using h
theorem all_n {n : Nat} (b g : Nat) (xs : List Int) (w : World) (hm : IsMem w b g xs) (hn : xs.length = n) :
    Calls Try.prog 16 #[.pointer (some ⟨b, 0, none⟩)] w fun e w' => ∃ r, e = .returned (.slice (some ⟨r, 0, none⟩) n n) ∧ w.heap.size ≤ r ∧ Row w' r 31 (xs.map (Value.int .u64)) ∧ Kept [] w w' := by
  subst hn
  exact all_any b g xs w hm
/-- A slice that lies apart from block g still does, behind a call of these. -/
theorem apart_of {A A' : Option Addr} {w : World} {g : Nat} (h : A' = A ∨ ∃ r, A' = some ⟨r, 0, none⟩ ∧ w.heap.size ≤ r) (hA : ∀ b off, A = some ⟨b, off, none⟩ → b ≠ g) (hg : g < w.heap.size) : ∀ b off, A' = some ⟨b, off, none⟩ → b ≠ g := by
  intro b off e
  rcases h with h | ⟨r, h, hr⟩
  · exact hA b off (h ▸ e)
  · rw [h] at e; cases e; omega

set_option maxRecDepth 100000 in
set_option maxHeartbeats 2000000 in
theorem play_fixed (n : Int) (a0 : Option Addr) (len cap : Nat) (at_ : Int) (w : World) (hm : len ≤ maxLen) (h : (300 < n ∧ n ≤ 16384) ∨ (¬ (300 < n ∧ n ≤ 16384) ∧ 60 < len)) :
    Calls Try.prog 3 #[.int .i64 n, .slice a0 len cap, .int .i64 at_] w (FixedPost w) := by
  unfold maxLen at hm
  rcases h with ⟨h1, h2⟩ | ⟨h1, h2⟩
  · go_enter Try.func3, Try.ntmps3
    go_wp2_with fail
    refine (fixed_any _).mono ?_
    rintro e w5 ⟨rfl, kw5⟩
    go_wp2
    go_ret
    exact ⟨rfl, kw5⟩
  · by_cases h3 : 300 < n
    · have h4 : decide (n ≤ 16384) = false := by simp; omega
      go_enter Try.func3, Try.ntmps3
      go_wp2_with fail
      refine (fixed_any _).mono ?_
      rintro e w5 ⟨rfl, kw5⟩
      go_wp2
      go_ret
      exact ⟨rfl, kw5⟩
    · have h4 : decide (300 < n) = false := by simpa using h3
      go_enter Try.func3, Try.ntmps3
      go_wp2_with fail
      refine (fixed_any _).mono ?_
      rintro e w5 ⟨rfl, kw5⟩
      go_wp2
      go_ret
      exact ⟨rfl, kw5⟩

set_option maxRecDepth 100000 in
set_option maxHeartbeats 2000000 in
theorem play_none (n : Int) (a0 : Option Addr) (len cap : Nat) (at_ : Int) (w : World) (hm : len ≤ 60) (h : n < 0 ∨ 16384 < n) :
    Calls Try.prog 3 #[.int .i64 n, .slice a0 len cap, .int .i64 at_] w (FixedPost w) := by
  have h5 : decide (60 < len) = false := by simp; omega
  have h6 : decide ((60 : Int) < len) = false := by simp; omega
  have h3 : ∃ b1 b2, decide (300 < n) = b1 ∧ decide (n ≤ 16384) = b2 ∧ (b1 && b2) = false := by
    refine ⟨_, _, rfl, rfl, ?_⟩
    simp; omega
  obtain ⟨b1, b2, hb1, hb2, hb⟩ := h3
  cases b1 <;> cases b2 <;> simp at hb
  all_goals
    go_enter Try.func3, Try.ntmps3
    go_wp2_with fail
    refine (new_no n w h).mono ?_
    rintro e w1 ⟨rfl, rfl⟩
    go_wp2_with fail
    refine (refNew_no n w h).mono ?_
    rintro e w2 ⟨A, cp, rfl, _, _, kw2⟩
    go_wp2_with fail
    refine (fixed_any _).mono ?_
    rintro e w5 ⟨rfl, kw5⟩
    go_wp2
    go_ret
    exact ⟨rfl, kw2.trans kw5⟩

set_option maxRecDepth 100000 in
set_option maxHeartbeats 8000000 in
theorem play_any (n : Nat) (a0 : Option Addr) (cap : Nat) (l : List ActV) (at_ : Int) (w : World) (hs : SlA w a0 l) (hl : l.length ≤ 60) (hn : n ≤ 300) (hb : ∀ x ∈ l, x.at_ ≤ 9223372036854775807 ∧ x.to ≤ 9223372036854775807) :
    Calls Try.prog 3 #[.int .i64 n, .slice a0 l.length cap, .int .i64 at_] w (FixedPost w) := by
  have h4 : decide ((300 : Int) < n) = false := by simp; omega
  go_enter Try.func3, Try.ntmps3
  go_wp2_with fail
  refine (new_yes n w (by omega)).mono ?_
  rintro e w1 ⟨mb, mg, rfl, hmb, hmg, hm1, kw1⟩
  go_wp2_with fail
  refine (refNew_yes n w1 (by omega)).mono ?_
  rintro e w2 ⟨A, cp, rfl, hs2, hA, kw2⟩
  rw [List.length_replicate]
  have hm2 := hm1.kept kw2 (by simp) (by simp)
  have kW2 := kw1.trans kw2
  have hmgl := hm1.2.1.lt
  have hA2 : ∀ b off, A = some ⟨b, off, none⟩ → b ≠ mg := by
    intro b off e
    rcases hA with h | ⟨g, h, hg⟩
    · rw [h] at e; cases e
    · rw [h] at e; cases e; omega
  go_wp2_with fail
  go_loopw [9, 56] (fun x i wr => ∃ (j : Nat) (A : Option Addr) (cp : Nat) (xs : List Int), j ≤ l.length ∧ x = .slice A n cp ∧ i = .int .i64 j ∧ xs.length = n ∧ IsMem wr mb mg xs ∧ Sl wr .u64 A xs ∧ (∀ b off, A = some ⟨b, off, none⟩ → b ≠ mg) ∧ Kept [mg] w2 wr) (fun _ i _ => l.length - (intOf i).toNat)
  case atStart => exact ⟨0, A, cp, _, Nat.zero_le _, rfl, rfl, List.length_replicate, hm2, hs2, hA2, Kept.refl _ _⟩
  case round =>
    obtain ⟨j, A, cp, xs, hj, rfl, rfl, hlen, hmr, hsr, hAr, hkr⟩ := hrel
    have kWr : Kept [] w wr := kW2.chain hkr (by simp) (by simp; omega)
    by_cases hlt : j < l.length
    · obtain ⟨b, off, x, rfl, hx, hbl, c0, c1, c2, c3, c4⟩ := (hs.kept kWr).cell hlt
      have hbx := hb x (List.mem_of_getElem? hx)
      have rB := Row.new wr 33 [.int .i64 x.kind, .int .i64 x.at_, .int .i64 x.n, .int .i64 x.to, .int .u64 x.v]
      have kA := (Kept.refl [] wr).alloc (.cells #[.int .i64 x.kind, .int .i64 x.at_, .int .i64 x.n, .int .i64 x.to, .int .u64 x.v] 33)
      have hmA := hmr.kept kA (by simp) (by simp)
      have hsA := hsr.kept kA
      have hgr := hmr.2.1.lt
      obtain ⟨hb1, hb2⟩ := hbx
      have HL := Lib.hid hlen
      clear hlen
      by_cases k0 : x.kind = 0
      · have k0' : (x.kind == 0) = true := by simpa using k0
        have K0 := Lib.hid k0
        clear k0
        go_wp2_with fail
        generalize wr.alloc (.cells #[.int .i64 x.kind, .int .i64 x.at_, .int .i64 x.n, .int .i64 x.to, .int .u64 x.v] 33) = wa at rB kA hmA hsA ⊢
        refine (write_any mb mg xs x.at_ x.v wa hmA).mono ?_
        rintro e w3 ⟨rfl, hm3, kw3⟩
        rw [HL.out]
        have rB3 := rB.kept kw3 (by simp; omega)
        have d1 : w3.cell? ⟨wr.heap.size, 1, none⟩ = some (.int .i64 x.at_) := by simpa using rB3.cell 1
        have d4 : w3.cell? ⟨wr.heap.size, 4, none⟩ = some (.int .u64 x.v) := by simpa using rB3.cell 4
        have hs3 := hsA.keptS kw3 (fun b off e => by simpa using hAr b off e)
        have hgl := hm3.2.1.lt
        go_wp2_with fail
        refine (refWrite_n A cp xs x.at_ x.v w3 hs3 HL.out (by omega)).mono ?_
        rintro e w4 ⟨A1, cp1, rfl, hs4, hA1, kw4⟩
        have hm4 := hm3.kept kw4 (by simp) (by simp)
        have hA4 := apart_of hA1 hAr hgl
        have HL4 : Hid ((wrB xs x.at_ x.v).length = n) := by rw [Hid, wrB_length]; exact HL.out
        have K4 : Kept [mg] w2 w4 := ((hkr.trans kA.any).trans kw3).trans kw4.any
        go_wp2_with fail
        refine (len_any mb mg _ w4 hm4).mono ?_
        rintro e w5 ⟨rfl, rfl⟩
        rw [HL4.out]
        go_wp2_with fail
        refine (all_n mb mg _ w4 hm4 HL4.out).mono ?_
        rintro e w6 ⟨r6, rfl, hr6, rA6, kw6⟩
        go_wp2_with fail
        refine (refSame_n _ A1 _ _ _ w6 (Sl.of_row rA6) (hs4.kept kw6) HL4.out (by omega)).mono ?_
        rintro e w7 ⟨rfl, kw7⟩
        go_wp2
        go_roundw
        case rel => exact ⟨j + 1, A1, cp1, _, by omega, rfl, by go_num, HL4.out, (hm4.kept kw6 (by simp) (by simp)).kept kw7 (by simp) (by simp), (hs4.kept kw6).kept kw7, hA4, (K4.trans kw6.any).trans kw7.any⟩
        case measure => simp [intOf]; omega
      · have k0' : (x.kind == 0) = false := by simpa using k0
        clear k0
        by_cases k1 : x.kind = 1
        · have k1' : (x.kind == 1) = true := by simpa using k1
          have K1 := Lib.hid k1
          clear k1
          go_wp2_with fail
          generalize wr.alloc (.cells #[.int .i64 x.kind, .int .i64 x.at_, .int .i64 x.n, .int .i64 x.to, .int .u64 x.v] 33) = wa at rB kA hmA hsA ⊢
          refine (fill_any mb mg xs x.at_ x.n x.v wa hmA hb1).mono ?_
          rintro e w3 ⟨rfl, hm3, kw3⟩
          rw [HL.out]
          have rB3 := rB.kept kw3 (by simp; omega)
          have d1 : w3.cell? ⟨wr.heap.size, 1, none⟩ = some (.int .i64 x.at_) := by simpa using rB3.cell 1
          have d2 : w3.cell? ⟨wr.heap.size, 2, none⟩ = some (.int .i64 x.n) := by simpa using rB3.cell 2
          have d4 : w3.cell? ⟨wr.heap.size, 4, none⟩ = some (.int .u64 x.v) := by simpa using rB3.cell 4
          have hs3 := hsA.keptS kw3 (fun b off e => by simpa using hAr b off e)
          have hgl := hm3.2.1.lt
          go_wp2_with fail
          refine (refFill_n A cp xs x.at_ x.n x.v w3 hs3 HL.out (by omega)).mono ?_
          rintro e w4 ⟨A1, cp1, rfl, hs4, hA1, kw4⟩
          have hm4 := hm3.kept kw4 (by simp) (by simp)
          have hA4 := apart_of hA1 hAr hgl
          have HL4 : Hid ((flB xs x.at_ x.n x.v).length = n) := by rw [Hid, flB_length]; exact HL.out
          have K4 : Kept [mg] w2 w4 := ((hkr.trans kA.any).trans kw3).trans kw4.any
          go_wp2_with fail
          refine (len_any mb mg _ w4 hm4).mono ?_
          rintro e w5 ⟨rfl, rfl⟩
          rw [HL4.out]
          go_wp2_with fail
          refine (all_n mb mg _ w4 hm4 HL4.out).mono ?_
          rintro e w6 ⟨r6, rfl, hr6, rA6, kw6⟩
          go_wp2_with fail
          refine (refSame_n _ A1 _ _ _ w6 (Sl.of_row rA6) (hs4.kept kw6) HL4.out (by omega)).mono ?_
          rintro e w7 ⟨rfl, kw7⟩
          go_wp2
          go_roundw
          case rel => exact ⟨j + 1, A1, cp1, _, by omega, rfl, by go_num, HL4.out, (hm4.kept kw6 (by simp) (by simp)).kept kw7 (by simp) (by simp), (hs4.kept kw6).kept kw7, hA4, (K4.trans kw6.any).trans kw7.any⟩
          case measure => simp [intOf]; omega
        · have k1' : (x.kind == 1) = false := by simpa using k1
          clear k1
          by_cases k2 : x.kind = 2
          · have k2' : (x.kind == 2) = true := by simpa using k2
            have K2 := Lib.hid k2
            clear k2
            go_wp2_with fail
            generalize wr.alloc (.cells #[.int .i64 x.kind, .int .i64 x.at_, .int .i64 x.n, .int .i64 x.to, .int .u64 x.v] 33) = wa at rB kA hmA hsA ⊢
            refine (move_any mb mg xs x.at_ x.n x.to wa hmA hb1 hb2).mono ?_
            rintro e w3 ⟨rfl, hm3, kw3⟩
            rw [HL.out]
            have rB3 := rB.kept kw3 (by simp; omega)
            have d1 : w3.cell? ⟨wr.heap.size, 1, none⟩ = some (.int .i64 x.at_) := by simpa using rB3.cell 1
            have d2 : w3.cell? ⟨wr.heap.size, 2, none⟩ = some (.int .i64 x.n) := by simpa using rB3.cell 2
            have d3 : w3.cell? ⟨wr.heap.size, 3, none⟩ = some (.int .i64 x.to) := by simpa using rB3.cell 3
            have hs3 := hsA.keptS kw3 (fun b off e => by simpa using hAr b off e)
            have hgl := hm3.2.1.lt
            go_wp2_with fail
            refine (refMove_n A cp xs x.at_ x.n x.to w3 hs3 HL.out (by omega)).mono ?_
            rintro e w4 ⟨A1, cp1, rfl, hs4, hA1, kw4⟩
            have hm4 := hm3.kept kw4 (by simp) (by simp)
            have hA4 := apart_of hA1 hAr hgl
            have HL4 : Hid ((mvB xs x.at_ x.n x.to).length = n) := by rw [Hid, mvB_length]; exact HL.out
            have K4 : Kept [mg] w2 w4 := ((hkr.trans kA.any).trans kw3).trans kw4.any
            go_wp2_with fail
            refine (len_any mb mg _ w4 hm4).mono ?_
            rintro e w5 ⟨rfl, rfl⟩
            rw [HL4.out]
            go_wp2_with fail
            refine (all_n mb mg _ w4 hm4 HL4.out).mono ?_
            rintro e w6 ⟨r6, rfl, hr6, rA6, kw6⟩
            go_wp2_with fail
            refine (refSame_n _ A1 _ _ _ w6 (Sl.of_row rA6) (hs4.kept kw6) HL4.out (by omega)).mono ?_
            rintro e w7 ⟨rfl, kw7⟩
            go_wp2
            go_roundw
            case rel => exact ⟨j + 1, A1, cp1, _, by omega, rfl, by go_num, HL4.out, (hm4.kept kw6 (by simp) (by simp)).kept kw7 (by simp) (by simp), (hs4.kept kw6).kept kw7, hA4, (K4.trans kw6.any).trans kw7.any⟩
            case measure => simp [intOf]; omega
          · have k2' : (x.kind == 2) = false := by simpa using k2
            clear k2
            by_cases k3 : x.kind = 3
            · have k3' : (x.kind == 3) = true := by simpa using k3
              have K3 := Lib.hid k3
              clear k3
              go_wp2_with fail
              generalize wr.alloc (.cells #[.int .i64 x.kind, .int .i64 x.at_, .int .i64 x.n, .int .i64 x.to, .int .u64 x.v] 33) = wa at rB kA hmA hsA ⊢
              refine (all_n mb mg xs wa hmA HL.out).mono ?_
              rintro e w3 ⟨r3, rfl, hr3, rA3, kw3⟩
              have hgl := hmA.2.1.lt
              have hbl2 := hmA.1.lt
              go_wp2_with fail
              go_loopw [131] (fun i wq => ∃ (k : Nat) (ys : List Int), k ≤ n ∧ i = .int .i64 k ∧ ys.length = n ∧ Row wq r3 31 (ys.map (Value.int .u64)) ∧ Kept [r3] w3 wq) (fun i _ => n - (intOf i).toNat)
              case atStart => exact ⟨0, xs, Nat.zero_le _, rfl, HL.out, rA3, Kept.refl _ _⟩
              case round =>
                obtain ⟨k, ys, hk, rfl, hys, rq, hkq⟩ := hrel
                by_cases hkn : k < n
                · have cq := rq.cellInt k (by omega)
                  have fq := rq.free k
                  have HY := Lib.hid hys
                  clear hys
                  generalize ys[k]?.getD 0 = y at cq
                  go_wp2
                  go_roundw
                  case rel =>
                    refine ⟨k + 1, ys.set k (IntKind.u64.wrap (y + 1)), by omega, by go_num, by rw [List.length_set]; exact HY.out, ?_, hkq.set (.inl (by simp)) _⟩
                    have := rq.set k (.int .u64 (IntKind.u64.wrap (y + 1)))
                    rw [← List.map_set] at this
                    exact this
                  case measure => simp [intOf]; omega
                · have kq : Kept [] wa wr := kw3.chain hkq (by simp) (by simp; omega)
                  have hm4 := hmA.kept kq (by simp) (by simp)
                  have hs4 := hsA.kept kq
                  have hA4 := hAr
                  have HL4 := HL
                  have K4 : Kept [mg] w2 wr := (hkr.trans kA.any).trans kq.any
                  go_wp2_with fail
                  refine (len_any mb mg _ wr hm4).mono ?_
                  rintro e w5 ⟨rfl, rfl⟩
                  rw [HL4.out]
                  go_wp2_with fail
                  refine (all_n mb mg _ wr hm4 HL4.out).mono ?_
                  rintro e w6 ⟨r6, rfl, hr6, rA6, kw6⟩
                  go_wp2_with fail
                  refine (refSame_n _ A _ _ _ w6 (Sl.of_row rA6) (hs4.kept kw6) HL4.out (by omega)).mono ?_
                  rintro e w7 ⟨rfl, kw7⟩
                  go_wp2
                  go_roundw
                  case rel => exact ⟨j + 1, A, cp, _, by omega, rfl, by go_num, HL4.out, (hm4.kept kw6 (by simp) (by simp)).kept kw7 (by simp) (by simp), (hs4.kept kw6).kept kw7, hA4, (K4.trans kw6.any).trans kw7.any⟩
                  case measure => simp [intOf]; omega
            · have k3' : (x.kind == 3) = false := by simpa using k3
              clear k3
              go_wp2_with fail
              generalize wr.alloc (.cells #[.int .i64 x.kind, .int .i64 x.at_, .int .i64 x.n, .int .i64 x.to, .int .u64 x.v] 33) = wa at rB kA hmA hsA ⊢
              have hm4 := hmA
              have hs4 := hsA
              have hA4 := hAr
              have HL4 := HL
              have K4 : Kept [mg] w2 wa := hkr.trans kA.any
              refine (len_any mb mg _ wa hm4).mono ?_
              rintro e w5 ⟨rfl, rfl⟩
              rw [HL4.out]
              go_wp2_with fail
              refine (all_n mb mg _ wa hm4 HL4.out).mono ?_
              rintro e w6 ⟨r6, rfl, hr6, rA6, kw6⟩
              go_wp2_with fail
              refine (refSame_n _ A _ _ _ w6 (Sl.of_row rA6) (hs4.kept kw6) HL4.out (by omega)).mono ?_
              rintro e w7 ⟨rfl, kw7⟩
              go_wp2
              go_roundw
              case rel => exact ⟨j + 1, A, cp, _, by omega, rfl, by go_num, HL4.out, (hm4.kept kw6 (by simp) (by simp)).kept kw7 (by simp) (by simp), (hs4.kept kw6).kept kw7, hA4, (K4.trans kw6.any).trans kw7.any⟩
              case measure => simp [intOf]; omega
    · obtain rfl : j = l.length := by omega
      have HL := Lib.hid hlen
      have hd := hlen
      clear hlen
      have hgr := hmr.2.1.lt
      cases hh : hasB n at_ with
      | true =>
        have hd2 : 0 ≤ at_ ∧ at_ < (n : Int) := by simpa [hasB] using hh
        obtain ⟨k, rfl⟩ := Int.eq_ofNat_of_zero_le hd2.1
        have hkn : k < n := by omega
        have HH := Lib.hid hh
        have HD := Lib.hid hd
        clear hh hd hd2
        have t1 : decide ((k : Int) < 0) = false := by simp
        have t2 : decide (n ≤ k) = false := by simp; omega
        go_wp2_with fail
        refine (read_any mb mg xs k wr hmr).mono ?_
        rintro e w5 ⟨rfl, rfl⟩
        rw [HD.out, HH.out, if_pos rfl, Int.toNat_natCast, show errB true = 0 from rfl]
        go_wp2_with fail
        refine (fixed_any wr).mono ?_
        rintro e w6 ⟨rfl, kw6⟩
        obtain ⟨b, off, rfl, hc⟩ := (hsr.kept kw6).cell (j := k) (by have := HD.out; omega)
        generalize xs[k]?.getD 0 = y at hc ⊢
        go_wp2
        go_ret
        exact ⟨rfl, kWr.trans kw6⟩
      | false =>
        have hd2 : at_ < 0 ∨ (n : Int) ≤ at_ := by simp [hasB] at hh; omega
        have HH := Lib.hid hh
        have HD := Lib.hid hd
        clear hh hd
        rcases hd2 with hd2 | hd2
        · go_wp2_with fail
          refine (read_any mb mg xs at_ wr hmr).mono ?_
          rintro e w5 ⟨rfl, rfl⟩
          rw [HD.out, HH.out, if_neg (by simp), show errB false = 8 from rfl]
          go_wp2_with fail
          refine (fixed_any wr).mono ?_
          rintro e w6 ⟨rfl, kw6⟩
          go_wp2
          go_ret
          exact ⟨rfl, kWr.trans kw6⟩
        · have t1 : decide (at_ < 0) = false := by simp; omega
          go_wp2_with fail
          refine (read_any mb mg xs at_ wr hmr).mono ?_
          rintro e w5 ⟨rfl, rfl⟩
          rw [HD.out, HH.out, if_neg (by simp), show errB false = 8 from rfl]
          go_wp2_with fail
          refine (fixed_any wr).mono ?_
          rintro e w6 ⟨rfl, kw6⟩
          go_wp2
          go_ret
          exact ⟨rfl, kWr.trans kw6⟩
end Go.Proofs.Ytkdojplbkhdgdaa
