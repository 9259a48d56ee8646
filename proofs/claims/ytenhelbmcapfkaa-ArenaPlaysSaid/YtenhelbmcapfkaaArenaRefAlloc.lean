/- Package kraalref11: Alloc. -/
import Derived.Test.YtenhelbmcapfkaaArenaPlain2
import Derived.Test.YtenhelbmcapfkaaArenaHas
import Derived.Test.YtenhelbmcapfkaaPagesRef
import Derived.Test.YtenhelbmcapfkaaPlanRefPut
import Derived.Test.YtenhelbmcapfkaaRunsIn
import Derived.Test.YtenhelbmcapfkaaArenaYard
namespace Go.Proofs.Ytenhelbmcapfkaa
open Go.RowKit

/-- An arena of the document's, its two slices. -/
structure RD extends ArN where
  ar : Option Addr
  cr : Nat
  at' : Option Addr
  ct : Nat
def RD.cells (r : RD) : List Value := [.int .i64 r.x.p, .int .i64 r.x.left, .slice r.ar r.rs.length r.cr, .slice r.at' r.ts.length r.ct]
/-- The same as a value. -/
def RD.val (r : RD) : Value := .agg #[.int .i64 r.x.p, .int .i64 r.x.left, .slice r.ar r.rs.length r.cr, .slice r.at' r.ts.length r.ct]
/-- Its slices lie in memory. -/
structure IsRD (w : World) (r : RD) : Prop where
  runs : SlR w r.ar r.rs
  things : SlR w r.at' r.ts
theorem IsRD.kept {w w' : World} {r : RD} (h : IsRD w r) (hk : Kept [] w w') : IsRD w' r := ⟨h.runs.kept hk, h.things.kept hk⟩
/-- A slice's block is apart from S, if it holds something. -/
def awayL (rs : List RunN) (a : Option Addr) (S : List Nat) : Prop := rs = [] ∨ ∀ b off, a = some ⟨b, off, none⟩ → b ∉ S
theorem SlR.keptL {S : List Nat} {w w' : World} {a : Option Addr} {rs : List RunN} (h : SlR w a rs) (hk : Kept S w w') (ha : awayL rs a S) : SlR w' a rs := by
  rcases ha with rfl | ha
  · exact .inl rfl
  · exact h.keptS hk ha
theorem awayL.mono {rs : List RunN} {a : Option Addr} {S S' : List Nat} (h : awayL rs a S) (hs : ∀ k ∈ S', k ∈ S) : awayL rs a S' := h.imp id (fun h b off e hm => h b off e (hs b hm))
def RD.away (r : RD) (S : List Nat) : Prop := awayL r.rs r.ar S ∧ awayL r.ts r.at' S
theorem IsRD.keptS {w w' : World} {r : RD} {S : List Nat} (h : IsRD w r) (hk : Kept S w w') (ha : r.away S) : IsRD w' r := ⟨h.runs.keptL hk ha.1, h.things.keptL hk ha.2⟩
theorem SlR.lt {w : World} {a : Option Addr} {rs : List RunN} (h : SlR w a rs) (hne : rs ≠ []) : ∀ b off, a = some ⟨b, off, none⟩ → b < w.heap.size := by
  intro b off e
  rcases h with h | ⟨b', off', e', hb, _⟩
  · exact absurd h hne
  · rw [e] at e'; cases e'; exact hb

theorem new_from' {A A1 A2 : Option Addr} {w w1 : World} (h1 : A1 = A ∨ ∃ g, A1 = some ⟨g, 0, none⟩ ∧ w.heap.size ≤ g) (h2 : A2 = A1 ∨ ∃ g, A2 = some ⟨g, 0, none⟩ ∧ w1.heap.size ≤ g) (hz : w.heap.size ≤ w1.heap.size) : A2 = A ∨ ∃ g, A2 = some ⟨g, 0, none⟩ ∧ w.heap.size ≤ g := by
  rcases h2 with rfl | ⟨g, h, hg⟩
  · exact h1
  · exact .inr ⟨g, h, by omega⟩

set_option maxRecDepth 100000 in
set_option maxHeartbeats 2000000 in
theorem refPages11_any (r : RD) (w : World) (h : IsRD w r) (hrs : ∀ x ∈ r.rs, x.1 ≤ 1024 ∧ x.2 ≤ 1024) (hl : r.rs.length ≤ 1024) :
    Calls Try.prog 22 #[r.val] w fun e w' => e = .returned (.int .i64 (sumR r.rs)) ∧ Kept [] w w' := by
  have hr := h.runs
  unfold RD.val
  generalize r.rs = rs at hr hrs hl ⊢
  generalize r.ar = ar at hr ⊢
  generalize r.cr = cr
  generalize (Value.slice r.at' r.ts.length r.ct) = vt
  generalize r.x.left = L
  generalize r.x.p = P
  have rB := Row.new w 38 [.int .i64 P, .int .i64 L, .slice ar rs.length cr, vt]
  have kB := (Kept.refl [] w).alloc (.cells #[.int .i64 P, .int .i64 L, .slice ar rs.length cr, vt] 38)
  have hsum : ∀ j, sumR (rs.take j) ≤ 1024 * 1024 := fun j => by
    have : ∀ l : List RunN, (∀ x ∈ l, x.2 ≤ 1024) → sumR l ≤ 1024 * l.length := by
      intro l
      induction l with
      | nil => intro _; simp [sumR]
      | cons x l ih =>
        intro hx
        have h1 := hx x (by simp)
        have h2 := ih (fun y hy => hx y (by simp [hy]))
        simp only [sumR, List.map_cons, List.sum_cons, List.length_cons] at h2 ⊢
        omega
    have h1 := this (rs.take j) (fun x hx => (hrs x (List.mem_of_mem_take hx)).2)
    have h2 : (rs.take j).length ≤ 1024 := by rw [List.length_take]; omega
    omega
  have HSUM := Lib.hid hsum
  clear hsum
  go_enter Try.func22, Try.ntmps22
  go_wp2_with fail
  generalize w.alloc (.cells #[.int .i64 P, .int .i64 L, .slice ar rs.length cr, vt] 38) = w0 at rB kB ⊢
  obtain ⟨B, hB⟩ : ∃ B, w.heap.size = B := ⟨_, rfl⟩
  rw [hB] at rB ⊢
  have h0 := hr.kept kB
  go_loopw [3, 4] (fun n0 i0 wr => ∃ j : Nat, j ≤ rs.length ∧ n0 = .int .i64 (sumR (rs.take j)) ∧ i0 = .int .i64 j ∧ Kept [] w0 wr) (fun _ i _ => rs.length - (intOf i).toNat)
  case atStart => exact ⟨0, Nat.zero_le _, rfl, rfl, Kept.refl _ _⟩
  case round =>
    obtain ⟨j, hj, rfl, rfl, hkr⟩ := hrel
    have rBr := rB.kept hkr (by simp)
    have cB2 : wr.cell? ⟨B, 2, none⟩ = some (.slice ar rs.length cr) := by simpa using rBr.cell 2
    by_cases hlt : j < rs.length
    · obtain ⟨b, off, rfl, _, c0, c1⟩ := (h0.kept hkr).cell hlt
      have HS := Lib.hid (show sumR (rs.take (j + 1)) = sumR (rs.take j) + rs[j].2 by rw [List.take_add_one, List.getElem?_eq_getElem hlt, Option.toList_some, sumR_snoc])
      have h1 := HSUM.out (j + 1)
      rw [HS.out] at h1
      obtain ⟨y, hy⟩ : ∃ y, rs[j] = y := ⟨_, rfl⟩
      rw [hy] at HS h1 c0 c1
      obtain ⟨Sg, hSg⟩ : ∃ Sg, sumR (rs.take j) = Sg := ⟨_, rfl⟩
      rw [hSg] at HS h1 ⊢
      have hu : IntKind.i64.wrap ((Sg : Int) + (y.2 : Int)) = (Sg : Int) + (y.2 : Int) := by rw [IntKind.wrap_i64]; omega
      clear hSg hy rBr
      go_wp2
      go_roundw
      case rel => exact ⟨j + 1, by omega, by rw [HS.out, Int.natCast_add], by go_num, hkr⟩
      case measure => simp [intOf]; omega
    · obtain rfl : j = rs.length := by omega
      rw [List.take_length]
      go_wp2
      go_ret
      exact ⟨rfl, kB.trans hkr⟩

set_option maxRecDepth 100000 in
set_option maxHeartbeats 4000000 in
theorem refHas11_any (r : RD) (at_ : Int) (w : World) (h : IsRD w r) (hrs : ∀ x ∈ r.rs, x.1 ≤ 1024 ∧ x.2 ≤ 1024) (hl : r.rs.length ≤ 1024) :
    Calls Try.prog 24 #[r.val, .int .i64 at_] w fun e w' => e = .returned (.bool (inR r.rs at_)) ∧ Kept [] w w' := by
  have hr := h.runs
  unfold RD.val
  generalize r.rs = rs at hr hrs hl ⊢
  generalize r.ar = ar at hr ⊢
  generalize r.cr = cr
  generalize (Value.slice r.at' r.ts.length r.ct) = vt
  generalize r.x.left = L
  generalize r.x.p = P
  have rB := Row.new w 38 [.int .i64 P, .int .i64 L, .slice ar rs.length cr, vt]
  have kB := (Kept.refl [] w).alloc (.cells #[.int .i64 P, .int .i64 L, .slice ar rs.length cr, vt] 38)
  go_enter Try.func24, Try.ntmps24
  go_wp2_with fail
  generalize w.alloc (.cells #[.int .i64 P, .int .i64 L, .slice ar rs.length cr, vt] 38) = w0 at rB kB ⊢
  obtain ⟨B, hB⟩ : ∃ B, w.heap.size = B := ⟨_, rfl⟩
  rw [hB] at rB ⊢
  have h0 := hr.kept kB
  go_loopw [5] (fun i0 wr => ∃ j : Nat, j ≤ rs.length ∧ i0 = .int .i64 j ∧ Hid (inR (rs.take j) at_ = false) ∧ Kept [] w0 wr) (fun i _ => rs.length - (intOf i).toNat)
  case atStart => exact ⟨0, Nat.zero_le _, rfl, rfl, Kept.refl _ _⟩
  case round =>
    obtain ⟨j, hj, rfl, HI, hkr⟩ := hrel
    have rBr := rB.kept hkr (by simp)
    have cB2 : wr.cell? ⟨B, 2, none⟩ = some (.slice ar rs.length cr) := by simpa using rBr.cell 2
    by_cases hlt : j < rs.length
    · obtain ⟨b, off, rfl, _, c0, c1⟩ := (h0.kept hkr).cell hlt
      have HS := Lib.hid (show inR (rs.take (j + 1)) at_ = (inR (rs.take j) at_ || inOne at_ rs[j]) by rw [List.take_add_one, List.getElem?_eq_getElem hlt, Option.toList_some, inR_snoc])
      have HH : Hid (inOne at_ rs[j] = true → inR rs at_ = true) := fun h => inR_hit (q := rs.take j) (t := rs.drop (j + 1)) (by rw [List.getElem_cons_drop, List.take_append_drop]) h
      have hb := hrs _ (List.getElem_mem hlt)
      obtain ⟨⟨y1, y2⟩, hy⟩ : ∃ y, rs[j] = y := ⟨_, rfl⟩
      rw [hy] at HS HH hb c0 c1
      simp only at hb c0 c1
      have u1 : IntKind.i64.wrap (16 * (y1 : Int)) = 16 * (y1 : Int) := by rw [IntKind.wrap_i64]; omega
      have u2 : IntKind.i64.wrap ((y1 : Int) + (y2 : Int)) = (y1 : Int) + (y2 : Int) := by rw [IntKind.wrap_i64]; omega
      have u3 : IntKind.i64.wrap (16 * ((y1 : Int) + (y2 : Int))) = 16 * ((y1 : Int) + (y2 : Int)) := by rw [IntKind.wrap_i64]; omega
      have hjI : (j : Int) < (rs.length : Int) := by omega
      have cq0 : ∀ n, (wr.drewN n).cell? ⟨B, 2, none⟩ = some (.slice (some ⟨b, off, none⟩) rs.length cr) := fun n => by simpa using (rBr.drewN n).cell 2
      clear hy rBr
      rcases (show (decide (16 * (y1 : Int) ≤ at_) = false ∧ Hid (inOne at_ (y1, y2) = false)) ∨ ((decide (16 * (y1 : Int) ≤ at_) = true ∧ decide (at_ < 16 * ((y1 : Int) + (y2 : Int))) = false) ∧ Hid (inOne at_ (y1, y2) = false)) ∨ ((decide (16 * (y1 : Int) ≤ at_) = true ∧ decide (at_ < 16 * ((y1 : Int) + (y2 : Int))) = true) ∧ Hid (inOne at_ (y1, y2) = true)) by
        by_cases g1 : 16 * (y1 : Int) ≤ at_
        · by_cases g2 : at_ < 16 * ((y1 : Int) + (y2 : Int))
          · exact .inr (.inr ⟨⟨by simpa using g1, by simpa using g2⟩, Lib.hid (by unfold inOne; simp only [decide_eq_true_eq]; exact ⟨g1, g2⟩)⟩)
          · exact .inr (.inl ⟨⟨by simpa using g1, by simpa using g2⟩, Lib.hid (by unfold inOne; simp only [decide_eq_false_iff_not]; omega)⟩)
        · exact .inl ⟨by simpa using g1, Lib.hid (by unfold inOne; simp only [decide_eq_false_iff_not]; omega)⟩) with ⟨g1, HO⟩ | ⟨⟨g1, g2⟩, HO⟩ | ⟨⟨g1, g2⟩, HO⟩
      · go_wp2_with fail
        go_quiet (fail)
        go_wp2
        go_roundw
        case rel => exact ⟨j + 1, by omega, by go_num, by show _ = _; rw [HS.out, HI.out, HO.out]; rfl, hkr.drewN _⟩
        case measure => simp [intOf]; omega
      · go_wp2_with fail
        go_quiet (fail)
        go_wp2
        go_roundw
        case rel => exact ⟨j + 1, by omega, by go_num, by show _ = _; rw [HS.out, HI.out, HO.out]; rfl, hkr.drewN _⟩
        case measure => simp [intOf]; omega
      · go_wp2_with fail
        go_quiet (fail)
        go_wp2
        go_ret
        exact ⟨by rw [HH.out HO.out]; rfl, kB.trans (hkr.drewN _)⟩
    · obtain rfl : j = rs.length := by omega
      rw [List.take_length] at HI
      go_wp2
      go_ret
      exact ⟨by rw [HI.out]; rfl, kB.trans hkr⟩

/-- What Release of the document leaves. -/
def RefRelPost (A : Option Addr) (n : Nat) (xs' : List Bool) (w : World) (e : Ending) (w' : World) : Prop :=
  ∃ A' cap', e = .returned (.slice A' n cap') ∧ xs'.length = n ∧ SlG Value.bool w' A' xs' ∧ (A' = A ∨ ∃ g, A' = some ⟨g, 0, none⟩ ∧ w.heap.size ≤ g) ∧ Kept [] w w'

set_option maxRecDepth 100000 in
set_option maxHeartbeats 4000000 in
theorem refRelease11_any (r : RD) (A : Option Addr) (n cap : Nat) (xs : List Bool) (w : World) (h : IsRD w r) (hs : SlG Value.bool w A xs) (hn : xs.length = n) (hx : n ≤ 1024) (hl : r.rs.length ≤ 1024) :
    Calls Try.prog 12 #[r.val, .slice A n cap] w (RefRelPost A n (relN xs r.rs) w) := by
  have hr := h.runs
  unfold RD.val
  generalize r.rs = rs at hr hl ⊢
  generalize r.ar = ar at hr ⊢
  generalize r.cr = cr
  generalize (Value.slice r.at' r.ts.length r.ct) = vt
  generalize r.x.left = L
  generalize r.x.p = P
  have rB := Row.new w 38 [.int .i64 P, .int .i64 L, .slice ar rs.length cr, vt]
  have kB := (Kept.refl [] w).alloc (.cells #[.int .i64 P, .int .i64 L, .slice ar rs.length cr, vt] 38)
  go_enter Try.func12, Try.ntmps12
  go_wp2_with fail
  generalize w.alloc (.cells #[.int .i64 P, .int .i64 L, .slice ar rs.length cr, vt] 38) = w0 at rB kB ⊢
  obtain ⟨B, hB⟩ : ∃ B, w.heap.size = B := ⟨_, rfl⟩
  have hs0 := hs.kept kB
  have hz0 := kB.size
  rw [hB] at rB ⊢
  have h0 := hr.kept kB
  go_loopw [1, 5] (fun v0 i0 wr => ∃ (j : Nat) (A1 : Option Addr) (c1 : Nat), j ≤ rs.length ∧ v0 = .slice A1 n c1 ∧ i0 = .int .i64 j ∧ Hid ((relN xs (rs.take j)).length = n) ∧ SlG Value.bool wr A1 (relN xs (rs.take j)) ∧ (A1 = A ∨ ∃ g, A1 = some ⟨g, 0, none⟩ ∧ w.heap.size ≤ g) ∧ Kept [] w0 wr) (fun _ i _ => rs.length - (intOf i).toNat)
  case atStart => exact ⟨0, A, cap, Nat.zero_le _, rfl, rfl, hn, hs0, .inl rfl, Kept.refl _ _⟩
  case round =>
    obtain ⟨j, A1, c1, hj, rfl, rfl, HL, hsr, hA1, hkr⟩ := hrel
    have rBr := rB.kept hkr (by simp)
    have cB2 : wr.cell? ⟨B, 2, none⟩ = some (.slice ar rs.length cr) := by simpa using rBr.cell 2
    by_cases hlt : j < rs.length
    · obtain ⟨b, off, rfl, _, d0, d1⟩ := (h0.kept hkr).cell hlt
      have HS := Lib.hid (show relN xs (rs.take (j + 1)) = (backB (relN xs (rs.take j)) rs[j].1 rs[j].2).1 by rw [List.take_add_one, List.getElem?_eq_getElem hlt, Option.toList_some, relN_snoc])
      obtain ⟨⟨y1, y2⟩, hy⟩ : ∃ y, rs[j] = y := ⟨_, rfl⟩
      rw [hy] at HS d0 d1
      simp only at d0 d1
      have hjI : (j : Int) < (rs.length : Int) := by omega
      have hz := hkr.size
      generalize relN xs (rs.take j) = xs1 at HL hsr HS
      clear hy rBr hB hs0
      go_wp2_with fail
      refine (refBack03 A1 n c1 xs1 y1 y2 wr hsr HL.out hx).mono ?_
      rintro e w4 ⟨A2, c2, rfl, hl2, hs2, hA2, k2⟩
      have HA := Lib.hid (new_from' hA1 hA2 (show w.heap.size ≤ wr.heap.size by omega))
      have HL2 := Lib.hid hl2
      clear hA1 hA2 hl2
      go_wp2
      go_roundw
      case rel => exact ⟨j + 1, A2, c2, by omega, rfl, by go_num, by show _ = _; rw [HS.out]; exact HL2.out, by rw [HS.out]; exact hs2, HA.out, hkr.trans k2⟩
      case measure => simp [intOf]; omega
    · obtain rfl : j = rs.length := by omega
      rw [List.take_length] at HL hsr
      have HLL := Lib.hid (And.intro HL.out hA1)
      clear hA1
      go_wp2
      go_ret
      exact ⟨A1, c1, rfl, HLL.out.1, hsr, HLL.out.2, kB.trans hkr⟩
end Go.Proofs.Ytenhelbmcapfkaa

namespace Go.Proofs.Ytenhelbmcapfkaa
open Go.RowKit

/-- What Alloc of the document leaves. -/
def RefAllocPost (r : RD) (A : Option Addr) (n : Nat) (xs : List Bool) (s : Int) (w : World) (e : Ending) (w' : World) : Prop :=
  ∃ (r' : RD) (A' : Option Addr) (cap' : Nat), e = .returned (.tuple #[r'.val, .slice A' n cap', .int .i64 (allocN r.toArN xs s).2.2.1, .int .i64 (allocN r.toArN xs s).2.2.2]) ∧ r'.toArN = (allocN r.toArN xs s).1 ∧ IsRD w' r' ∧
    (allocN r.toArN xs s).2.1.length = n ∧ SlG Value.bool w' A' (allocN r.toArN xs s).2.1 ∧ (A' = A ∨ ∃ g, A' = some ⟨g, 0, none⟩ ∧ w.heap.size ≤ g) ∧
    ((r'.ar = r.ar ∧ r'.rs = r.rs) ∨ ∃ g, r'.ar = some ⟨g, 0, none⟩ ∧ w.heap.size ≤ g) ∧ ((r'.at' = r.at' ∧ r'.ts = r.ts) ∨ ∃ g, r'.at' = some ⟨g, 0, none⟩ ∧ w.heap.size ≤ g) ∧ Kept [] w w'
theorem refA_load {w : World} {g : Nat} {a b c d : Value} (h : Row w g 38 [a, b, c, d]) : (loadVar 38 ⟨g, 0, none⟩).run Try.prog w = .ok (.agg #[a, b, c, d]) w :=
  Row.load h Try.underlying38 rfl (by kernel_rfl)
/-- The marks' slice, which came in or is new, behind stores into blocks between. -/
theorem SlG.later {α : Type} {f : α → Value} {w w2 w7 : World} {A A2 : Option Addr} {xs xs' : List α} {S : List Nat} {B2 : Nat} (hs : SlG f w A xs) (hl : xs'.length = xs.length) (hs2 : SlG f w2 A2 xs') (hA2 : A2 = A ∨ ∃ g, A2 = some ⟨g, 0, none⟩ ∧ B2 ≤ g) (hk : Kept S w2 w7) (hS : ∀ k ∈ S, w.heap.size ≤ k ∧ k < B2) : SlG f w7 A2 xs' := by
  cases xs' with
  | nil => exact .inl rfl
  | cons x xs' =>
    refine hs2.keptS hk (fun b off e hm => ?_)
    have := hS b hm
    rcases hA2 with rfl | ⟨g, rfl, hg⟩
    · rcases hs with rfl | ⟨b', off', e', hb, _⟩
      · simp at hl
      · rw [e] at e'; cases e'; omega
    · cases e; omega

/-- Two new structs of four cells: the one handed in, the result. -/
theorem two_news (w : World) (t : TypeId) (vs us : List Value) : ∃ W B, w.heap.size = B ∧ ((w.alloc (.cells vs.toArray t)).alloc (.cells us.toArray t)) = W ∧ Row W B t vs ∧ Row W (B + 1) t us ∧ Kept [] w W ∧ W.heap.size = B + 2 := by
  have h1 := (Row.new w t vs).alloc (.cells us.toArray t)
  have h2 := Row.new (w.alloc (.cells vs.toArray t)) t us
  rw [show (w.alloc (.cells vs.toArray t)).heap.size = w.heap.size + 1 by simp] at h2
  exact ⟨_, _, rfl, rfl, h1, h2, ((Kept.refl [] w).alloc _).alloc _, by simp⟩

set_option maxRecDepth 100000 in
set_option maxHeartbeats 8000000 in
theorem refAlloc11_any (r : RD) (A : Option Addr) (n cap : Nat) (xs : List Bool) (s : Int) (w : World) (h : IsRD w r) (hx : r.x.ok) (hs : SlG Value.bool w A xs) (hn : xs.length = n) (hnl : n ≤ 1024) (hl : r.rs.length ≤ 1024) (ht : r.ts.length ≤ 1000000) :
    Calls Try.prog 13 #[r.val, .slice A n cap, .int .i64 s] w (RefAllocPost r A n xs s w) := by
  have hN1 := refNeed10_any r.x.p r.x.left s
  obtain ⟨W, B, hB, hW, rB, rR, kW, hz⟩ := two_news w 38 r.cells [.int .i64 0, .int .i64 0, .slice none 0 0, .slice none 0 0]
  unfold RD.cells at rB hW
  have hr := h.kept kW
  have hsW := hs.kept kW
  have HBW := Lib.hid (show w.heap.size ≤ B by omega)
  rcases allocN_cases r.toArN hx xs [] s (by omega) with ⟨-, hn1, hres, -⟩ | ⟨F, S, rfl, -, -, -, -, hn1, hput, hres, -⟩ | ⟨N, -, -, hNN1, hNN2, -, hn1, hf, hres, -⟩ | ⟨N, P, S, rfl, -, -, hNN1, hNN2, -, hP, hn1, hf, hput, hres, -⟩
  · rw [hn1.out] at hN1
    have b0 : W.cell? ⟨B, 0, none⟩ = some (.int .i64 r.x.p) := by simpa using rB.cell 0
    have b1 : W.cell? ⟨B, 1, none⟩ = some (.int .i64 r.x.left) := by simpa using rB.cell 1
    unfold RD.val
    go_enter Try.func13, Try.ntmps13
    go_wp2_with fail
    refine (hN1 W).mono ?_
    rintro e w1 ⟨rfl, k1⟩
    have rB1 := rB.kept k1 (by simp)
    have rR1 := rR.kept k1 (by simp)
    have kk1 := kW.trans k1
    have hs1 := hsW.kept k1
    have hr1 := hr.kept k1
    have hz1 := k1.size
    clear b0 b1 rB rR kW k1 hsW hr hW hN1 hn1
    have b0 : w1.cell? ⟨B, 0, none⟩ = some (.int .i64 r.x.p) := by simpa using rB1.cell 0
    have b1 : w1.cell? ⟨B, 1, none⟩ = some (.int .i64 r.x.left) := by simpa using rB1.cell 1
    have b2 : w1.cell? ⟨B, 2, none⟩ = some (.slice r.ar r.rs.length r.cr) := by simpa using rB1.cell 2
    have b3 : w1.cell? ⟨B, 3, none⟩ = some (.slice r.at' r.ts.length r.ct) := by simpa using rB1.cell 3
    have c0 : w1.cell? ⟨B + 1, 0, none⟩ = some (.int .i64 0) := by simpa using rR1.cell 0
    have c1 : w1.cell? ⟨B + 1, 1, none⟩ = some (.int .i64 0) := by simpa using rR1.cell 1
    have c2 : w1.cell? ⟨B + 1, 2, none⟩ = some (.slice none 0 0) := by simpa using rR1.cell 2
    have c3 : w1.cell? ⟨B + 1, 3, none⟩ = some (.slice none 0 0) := by simpa using rR1.cell 3
    have f0 := rR1.free 0
    have f1 := rR1.free 1
    have f2 := rR1.free 2
    have f3 := rR1.free 3
    have HSE := Lib.hid (rR1.set4 (.int .i64 r.x.p) (.int .i64 r.x.left) (.slice r.ar r.rs.length r.cr) (.slice r.at' r.ts.length r.ct))
    have HKE := Lib.hid (Kept.set4 (Kept.refl [B + 1] w1) (g := B + 1) (.inl (by simp)) (.int .i64 r.x.p) (.int .i64 r.x.left) (.slice r.ar r.rs.length r.cr) (.slice r.at' r.ts.length r.ct))
    clear rR1 rB1
    go_wp2
    (try simp only [Exit.inBlock, Exit.then])
    refine bodyPost_ret (results_cell4 rfl rfl (refA_load HSE.out)) rfl ?_
    have HKW : Kept [] w _ := kk1.chain HKE.out (by simp) (by intro i hi hl; simp at hi; have := HBW.out; omega)
    unfold RefAllocPost
    rw [hres.out]
    exact ⟨r, A, cap, rfl, rfl, h.kept HKW, hn, hs.kept HKW, .inl rfl, .inl ⟨rfl, rfl⟩, .inl ⟨rfl, rfl⟩, HKW⟩
  · rw [hn1.out] at hN1
    have b0 : W.cell? ⟨B, 0, none⟩ = some (.int .i64 r.x.p) := by simpa using rB.cell 0
    have b1 : W.cell? ⟨B, 1, none⟩ = some (.int .i64 r.x.left) := by simpa using rB.cell 1
    unfold RD.val
    go_enter Try.func13, Try.ntmps13
    go_wp2_with fail
    refine (hN1 W).mono ?_
    rintro e w1 ⟨rfl, k1⟩
    have rB1 := rB.kept k1 (by simp)
    have rR1 := rR.kept k1 (by simp)
    have kk1 := kW.trans k1
    have hs1 := hsW.kept k1
    have hr1 := hr.kept k1
    have hz1 := k1.size
    clear b0 b1 rB rR kW k1 hsW hr hW hN1 hn1
    have b0 : w1.cell? ⟨B, 0, none⟩ = some (.int .i64 r.x.p) := by simpa using rB1.cell 0
    have b1 : w1.cell? ⟨B, 1, none⟩ = some (.int .i64 r.x.left) := by simpa using rB1.cell 1
    go_wp2_with fail
    clear b0 b1
    refine (refPlace10_any r.x S 0 w1 hx).mono ?_
    rintro e w3 ⟨rfl, k3⟩
    rw [hput.out]
    unfold refP
    have rB3 := rB1.kept k3 (by simp)
    have rR3 := rR1.kept k3 (by simp)
    have kk3 := kk1.trans k3
    have hzB : B + 2 ≤ w3.heap.size := by have := k3.size; omega
    clear rB1 rR1 hr1 kk1 hs1 k3 hput
    generalize (⟨r.x.p, r.x.u + S⟩ : Pl) = x' at hres ⊢
    have hz3 := kk3.size
    have rBq := ((rB3.alloc (.cells #[.int .i64 x'.p, .int .i64 x'.left] 35)).set 0 (.int .i64 x'.p)).set 1 (.int .i64 x'.left)
    have rRq := ((rR3.alloc (.cells #[.int .i64 x'.p, .int .i64 x'.left] 35)).other ⟨B, 0, none⟩ (.int .i64 x'.p) (by simp)).other ⟨B, 1, none⟩ (.int .i64 x'.left) (by simp)
    have kq3 : Kept [B] w3 (((w3.alloc (.cells #[.int .i64 x'.p, .int .i64 x'.left] 35)).setCell ⟨B, 0, none⟩ (.int .i64 x'.p)).setCell ⟨B, 1, none⟩ (.int .i64 x'.left)) := (((Kept.refl [B] w3).alloc (.cells #[.int .i64 x'.p, .int .i64 x'.left] 35)).set (p := ⟨B, 0, none⟩) (.inl (by simp)) (.int .i64 x'.p)).set (p := ⟨B, 1, none⟩) (.inl (by simp)) (.int .i64 x'.left)
    have b0 : (w3.alloc (.cells #[.int .i64 x'.p, .int .i64 x'.left] 35)).cell? ⟨B, 0, none⟩ = some (.int .i64 r.x.p) := by simpa using (rB3.alloc (.cells #[.int .i64 x'.p, .int .i64 x'.left] 35)).cell 0
    have b1 : (w3.alloc (.cells #[.int .i64 x'.p, .int .i64 x'.left] 35)).cell? ⟨B, 1, none⟩ = some (.int .i64 r.x.left) := by simpa using (rB3.alloc (.cells #[.int .i64 x'.p, .int .i64 x'.left] 35)).cell 1
    have f0 := (rB3.alloc (.cells #[.int .i64 x'.p, .int .i64 x'.left] 35)).free 0
    have f1 := (rB3.alloc (.cells #[.int .i64 x'.p, .int .i64 x'.left] 35)).free 1
    simp only [List.set_cons_succ, List.set_cons_zero] at rBq
    have hz5 : (((w3.alloc (.cells #[.int .i64 x'.p, .int .i64 x'.left] 35)).setCell ⟨B, 0, none⟩ (.int .i64 x'.p)).setCell ⟨B, 1, none⟩ (.int .i64 x'.left)).heap.size = w3.heap.size + 1 := by simp
    have rBE := rBq.alloc (.cells #[] 63)
    have rRE := rRq.alloc (.cells #[] 63)
    have kE3 : Kept [B] w3 ((((w3.alloc (.cells #[.int .i64 x'.p, .int .i64 x'.left] 35)).setCell ⟨B, 0, none⟩ (.int .i64 x'.p)).setCell ⟨B, 1, none⟩ (.int .i64 x'.left)).alloc (.cells #[] 63)) := kq3.alloc _
    have kE : Kept [] w ((((w3.alloc (.cells #[.int .i64 x'.p, .int .i64 x'.left] 35)).setCell ⟨B, 0, none⟩ (.int .i64 x'.p)).setCell ⟨B, 1, none⟩ (.int .i64 x'.left)).alloc (.cells #[] 63)) := kk3.chain kE3 (by simp) (by intro i hi hl; simp at hi; have := HBW.out; omega)
    have own5 := OwnR.empty (((w3.alloc (.cells #[.int .i64 x'.p, .int .i64 x'.left] 35)).setCell ⟨B, 0, none⟩ (.int .i64 x'.p)).setCell ⟨B, 1, none⟩ (.int .i64 x'.left)) w.heap.size (by rw [hz5]; omega)
    rw [hz5] at own5
    have sE := h.things.kept kE
    have hBz := kE.size
    have hzE : ((((w3.alloc (.cells #[.int .i64 x'.p, .int .i64 x'.left] 35)).setCell ⟨B, 0, none⟩ (.int .i64 x'.p)).setCell ⟨B, 1, none⟩ (.int .i64 x'.left)).alloc (.cells #[] 63)).heap.size = w3.heap.size + 2 := by simp
    have b3 : ((((w3.alloc (.cells #[.int .i64 x'.p, .int .i64 x'.left] 35)).setCell ⟨B, 0, none⟩ (.int .i64 x'.p)).setCell ⟨B, 1, none⟩ (.int .i64 x'.left)).alloc (.cells #[] 63)).cell? ⟨B, 3, none⟩ = some (.slice r.at' r.ts.length r.ct) := by simpa using rBE.cell 3
    clear kq3 rBq rRq
    go_wp2_with (first
      | (at_builtin; refine wpList_append_runs _ rfl _ _ rfl w.heap.size (w3.heap.size + 1) 0 0 [] r.ts r.at' r.ts.length r.ct rfl own5 rfl rfl sE rfl (by omega) hBz ?_; intro g4 cap4 w4 hown4 hk4 hg4; rw [Nat.zero_add, List.nil_append] at hown4; rw [Nat.zero_add]; have kk4 : Kept [] w w4 := kE.chain hk4 (by simp) (by intro i hi hl; simp at hi; omega); have hg4' : B + 2 ≤ g4 := (by rcases hg4 with h | h <;> omega); have hz4 := kk4.size; have rB4 := rBE.kept hk4 (by simp; omega); have rR4 := rRE.kept hk4 (by simp; omega); have hz4b := rR4.lt)
      | (at_builtin; refine wpList_append_runN _ rfl _ _ rfl w.heap.size w4 _ r.ts F S rfl rfl rfl hown4 (by omega) (by omega) ?_; intro g6 c6 w6 hown6 hk6 hat6; have kk6 : Kept [] w w6 := kk4.chain hk6 (by simp) (by intro i hi hl; have e : g4 = i := Option.some.inj (Option.mem_toList.1 hi); omega); have hg6 : B + 2 ≤ g6 := (by rcases hat6 with h | h; (have e : g4 = g6 := Option.some.inj h; omega); omega); have rB6 := rB4.kept hk6 (by intro hi; have e : g4 = B := Option.some.inj (Option.mem_toList.1 hi); omega); have rR6 := rR4.kept hk6 (by intro hi; have e : g4 = B + 1 := Option.some.inj (Option.mem_toList.1 hi); omega); have b36 : w6.cell? ⟨B, 3, none⟩ = some (.slice r.at' r.ts.length r.ct) := (by simpa using rB6.cell 3); have f36 := rB6.free 3; have rB7 := rB6.set 3 (.slice (some ⟨g6, 0, none⟩) (r.ts.length + 1) c6); simp only [List.set_cons_succ, List.set_cons_zero] at rB7; have rR7 := rR6.other ⟨B, 3, none⟩ (.slice (some ⟨g6, 0, none⟩) (r.ts.length + 1) c6) (by simp); have kS7 := (Kept.refl [B] w6).set (p := ⟨B, 3, none⟩) (.inl (by simp)) (.slice (some ⟨g6, 0, none⟩) (r.ts.length + 1) c6); have kk7 : Kept [] w (w6.setCell ⟨B, 3, none⟩ (.slice (some ⟨g6, 0, none⟩) (r.ts.length + 1) c6)) := kk6.chain kS7 (by simp) (by intro i hi hl; simp at hi; have := HBW.out; omega); have hk37 : Kept [B] w3 (w6.setCell ⟨B, 3, none⟩ (.slice (some ⟨g6, 0, none⟩) (r.ts.length + 1) c6)) := (kE3.chain hk4 (U := [B]) (by intro i hi _; exact hi) (by intro i hi hl; simp at hi; omega)).chain (hk6.chain kS7 (U := B :: [g4]) (by intro i hi _; have e : g4 = i := Option.some.inj (Option.mem_toList.1 hi); simp [e]) (by intro i hi _; simp at hi; simp [hi])) (by intro i hi _; exact hi) (by intro i hi hl; simp at hi; rcases hi with rfl | rfl; (simp); omega); have hown7 := hown6.keptS kS7 (by intro jb hjb hm; have e : g6 = jb := Option.some.inj hjb; simp at hm; omega); have b0 : (w6.setCell ⟨B, 3, none⟩ (.slice (some ⟨g6, 0, none⟩) (r.ts.length + 1) c6)).cell? ⟨B, 0, none⟩ = some (.int .i64 x'.p) := (by simpa using rB7.cell 0); have b1 : (w6.setCell ⟨B, 3, none⟩ (.slice (some ⟨g6, 0, none⟩) (r.ts.length + 1) c6)).cell? ⟨B, 1, none⟩ = some (.int .i64 x'.left) := (by simpa using rB7.cell 1); have b2 : (w6.setCell ⟨B, 3, none⟩ (.slice (some ⟨g6, 0, none⟩) (r.ts.length + 1) c6)).cell? ⟨B, 2, none⟩ = some (.slice r.ar r.rs.length r.cr) := (by simpa using rB7.cell 2); have b3 : (w6.setCell ⟨B, 3, none⟩ (.slice (some ⟨g6, 0, none⟩) (r.ts.length + 1) c6)).cell? ⟨B, 3, none⟩ = some (.slice (some ⟨g6, 0, none⟩) (r.ts.length + 1) c6) := (by simpa using rB7.cell 3); have c0 : (w6.setCell ⟨B, 3, none⟩ (.slice (some ⟨g6, 0, none⟩) (r.ts.length + 1) c6)).cell? ⟨B + 1, 0, none⟩ = some (.int .i64 0) := (by simpa using rR7.cell 0); have c1 : (w6.setCell ⟨B, 3, none⟩ (.slice (some ⟨g6, 0, none⟩) (r.ts.length + 1) c6)).cell? ⟨B + 1, 1, none⟩ = some (.int .i64 0) := (by simpa using rR7.cell 1); have c2 : (w6.setCell ⟨B, 3, none⟩ (.slice (some ⟨g6, 0, none⟩) (r.ts.length + 1) c6)).cell? ⟨B + 1, 2, none⟩ = some (.slice none 0 0) := (by simpa using rR7.cell 2); have c3 : (w6.setCell ⟨B, 3, none⟩ (.slice (some ⟨g6, 0, none⟩) (r.ts.length + 1) c6)).cell? ⟨B + 1, 3, none⟩ = some (.slice none 0 0) := (by simpa using rR7.cell 3); have f0 := rR7.free 0; have f1 := rR7.free 1; have f2 := rR7.free 2; have f3 := rR7.free 3; have HSE := Lib.hid (rR7.set4 (.int .i64 x'.p) (.int .i64 x'.left) (.slice r.ar r.rs.length r.cr) (.slice (some ⟨g6, 0, none⟩) (r.ts.length + 1) c6)); have HKE := Lib.hid (Kept.set4 (Kept.refl [B + 1] (w6.setCell ⟨B, 3, none⟩ (.slice (some ⟨g6, 0, none⟩) (r.ts.length + 1) c6))) (g := B + 1) (.inl (by simp)) (.int .i64 x'.p) (.int .i64 x'.left) (.slice r.ar r.rs.length r.cr) (.slice (some ⟨g6, 0, none⟩) (r.ts.length + 1) c6)); clear rR7 rB7)
      | fail)
    (try simp only [Exit.inBlock, Exit.then])
    refine bodyPost_ret (results_cell4 rfl rfl (refA_load HSE.out)) rfl ?_
    have HKW : Kept [] w _ := kk7.chain HKE.out (by simp) (by intro i hi hl; simp at hi; have := HBW.out; omega)
    unfold RefAllocPost
    rw [hres.out]
    refine ⟨⟨⟨x', r.rs, r.ts ++ [(F, S)]⟩, r.ar, r.cr, some ⟨g6, 0, none⟩, c6⟩, A, cap, ?_, rfl, ⟨h.runs.kept HKW, ?_⟩, hn, hs.kept HKW, .inl rfl, .inl ⟨rfl, rfl⟩, .inr ⟨g6, rfl, by have := HBW.out; omega⟩, HKW⟩
    · simp [RD.val]
    · exact (OwnR.slR hown7).keptS HKE.out (by intro b off e hm; cases e; simp at hm; omega)
  · rw [hn1.out] at hN1
    have b0 : W.cell? ⟨B, 0, none⟩ = some (.int .i64 r.x.p) := by simpa using rB.cell 0
    have b1 : W.cell? ⟨B, 1, none⟩ = some (.int .i64 r.x.left) := by simpa using rB.cell 1
    unfold RD.val
    go_enter Try.func13, Try.ntmps13
    go_wp2_with fail
    refine (hN1 W).mono ?_
    rintro e w1 ⟨rfl, k1⟩
    have rB1 := rB.kept k1 (by simp)
    have rR1 := rR.kept k1 (by simp)
    have kk1 := kW.trans k1
    have hs1 := hsW.kept k1
    have hr1 := hr.kept k1
    have hz1 := k1.size
    clear b0 b1 rB rR kW k1 hsW hr hW hN1 hn1
    go_wp2_with fail
    refine (refGrant03 A n cap xs N w1 hs1 hn hnl).mono ?_
    rintro e w2 ⟨A2, cap2, rfl, hl2, hs2, hA2, k2⟩
    rw [grantB_none (by omega) hf.out] at hs2 hl2 ⊢
    have rB2 := rB1.kept k2 (by simp)
    have rR2 := rR1.kept k2 (by simp)
    have kk2 := kk1.trans k2
    have hA2' := new_from hA2 kk1.size
    have hA3 : A2 = A ∨ ∃ g, A2 = some ⟨g, 0, none⟩ ∧ B + 2 ≤ g := hA2.imp id (fun ⟨g, h1, h2⟩ => ⟨g, h1, by omega⟩)
    have HA3 := Lib.hid hA3
    have HA2 := Lib.hid hA2'
    clear rB1 rR1 hs1 hr1 k2 hA2 hA2' hA3
    have b0 : w2.cell? ⟨B, 0, none⟩ = some (.int .i64 r.x.p) := by simpa using rB2.cell 0
    have b1 : w2.cell? ⟨B, 1, none⟩ = some (.int .i64 r.x.left) := by simpa using rB2.cell 1
    have b2 : w2.cell? ⟨B, 2, none⟩ = some (.slice r.ar r.rs.length r.cr) := by simpa using rB2.cell 2
    have b3 : w2.cell? ⟨B, 3, none⟩ = some (.slice r.at' r.ts.length r.ct) := by simpa using rB2.cell 3
    have c0 : w2.cell? ⟨B + 1, 0, none⟩ = some (.int .i64 0) := by simpa using rR2.cell 0
    have c1 : w2.cell? ⟨B + 1, 1, none⟩ = some (.int .i64 0) := by simpa using rR2.cell 1
    have c2 : w2.cell? ⟨B + 1, 2, none⟩ = some (.slice none 0 0) := by simpa using rR2.cell 2
    have c3 : w2.cell? ⟨B + 1, 3, none⟩ = some (.slice none 0 0) := by simpa using rR2.cell 3
    have f0 := rR2.free 0
    have f1 := rR2.free 1
    have f2 := rR2.free 2
    have f3 := rR2.free 3
    have HSE := Lib.hid (rR2.set4 (.int .i64 r.x.p) (.int .i64 r.x.left) (.slice r.ar r.rs.length r.cr) (.slice r.at' r.ts.length r.ct))
    have HKE := Lib.hid (Kept.set4 (Kept.refl [B + 1] w2) (g := B + 1) (.inl (by simp)) (.int .i64 r.x.p) (.int .i64 r.x.left) (.slice r.ar r.rs.length r.cr) (.slice r.at' r.ts.length r.ct))
    clear rR2 rB2
    go_wp2
    (try simp only [Exit.inBlock, Exit.then])
    refine bodyPost_ret (results_cell4 rfl rfl (refA_load HSE.out)) rfl ?_
    have HKW : Kept [] w _ := kk2.chain HKE.out (by simp) (by intro i hi hl; simp at hi; have := HBW.out; omega)
    unfold RefAllocPost
    rw [hres.out]
    exact ⟨r, A2, cap2, rfl, rfl, h.kept HKW, hl2, hs.later rfl hs2 HA3.out HKE.out (by intro k hk; simp at hk; have := HBW.out; omega), HA2.out, .inl ⟨rfl, rfl⟩, .inl ⟨rfl, rfl⟩, HKW⟩
  · rw [hn1.out] at hN1
    have b0 : W.cell? ⟨B, 0, none⟩ = some (.int .i64 r.x.p) := by simpa using rB.cell 0
    have b1 : W.cell? ⟨B, 1, none⟩ = some (.int .i64 r.x.left) := by simpa using rB.cell 1
    unfold RD.val
    go_enter Try.func13, Try.ntmps13
    go_wp2_with fail
    refine (hN1 W).mono ?_
    rintro e w1 ⟨rfl, k1⟩
    have rB1 := rB.kept k1 (by simp)
    have rR1 := rR.kept k1 (by simp)
    have kk1 := kW.trans k1
    have hs1 := hsW.kept k1
    have hr1 := hr.kept k1
    have hz1 := k1.size
    clear b0 b1 rB rR kW k1 hsW hr hW hN1 hn1
    go_wp2_with fail
    refine (refGrant03 A n cap xs N w1 hs1 hn hnl).mono ?_
    rintro e w2 ⟨A2, cap2, rfl, hl2, hs2, hA2, k2⟩
    rw [grantB_some (by omega) hf.out] at hs2 hl2 ⊢
    simp only at hs2 hl2
    have rB2 := rB1.kept k2 (by simp)
    have rR2 := rR1.kept k2 (by simp)
    have kk2 := kk1.trans k2
    have HA3 : Hid (A2 = A ∨ ∃ g, A2 = some ⟨g, 0, none⟩ ∧ B + 2 ≤ g) := hA2.imp id (fun ⟨g, h1, h2⟩ => ⟨g, h1, by omega⟩)
    have HA2 := Lib.hid (new_from hA2 kk1.size)
    have HL2 := Lib.hid hl2
    have hz2 := k2.size
    have rBE := rB2.alloc (.cells #[] 63)
    have rRE := rR2.alloc (.cells #[] 63)
    have kE2 : Kept [] w2 (w2.alloc (.cells #[] 63)) := (Kept.refl [] w2).alloc _
    have kE := kk2.trans kE2
    have hw2 := kk2.size
    have own5 := OwnR.empty w2 w.heap.size hw2
    have sE := h.runs.kept kE
    have hBz := kE.size
    have hzE : (w2.alloc (.cells #[] 63)).heap.size = w2.heap.size + 1 := by simp
    have b2 : (w2.alloc (.cells #[] 63)).cell? ⟨B, 2, none⟩ = some (.slice r.ar r.rs.length r.cr) := by simpa using rBE.cell 2
    clear rB1 rR1 hs1 hr1 k2 hA2 rB2 rR2 hl2
    go_wp2_with (first
      | (at_builtin; refine wpList_append_runs _ rfl _ _ rfl w.heap.size w2.heap.size 0 0 [] r.rs r.ar r.rs.length r.cr rfl own5 rfl rfl sE rfl (by omega) hBz ?_; intro g4 cap4 w4 hown4 hk4 hg4; rw [Nat.zero_add, List.nil_append] at hown4; rw [Nat.zero_add]; have kk4 : Kept [] w w4 := kE.chain hk4 (by simp) (by intro i hi hl; simp at hi; omega); have hg4' : B + 2 ≤ g4 := (by rcases hg4 with h | h <;> omega); have hz4 := kk4.size; have rB4 := rBE.kept hk4 (by simp; omega); have rR4 := rRE.kept hk4 (by simp; omega); have hz4b := rR4.lt)
      | (at_builtin; refine wpList_append_runN _ rfl _ _ rfl w.heap.size w4 _ r.rs P N rfl rfl rfl hown4 (by omega) (by omega) ?_; intro g6 c6 w6 hown6 hk6 hat6; have kk6 : Kept [] w w6 := kk4.chain hk6 (by simp) (by intro i hi hl; have e : g4 = i := Option.some.inj (Option.mem_toList.1 hi); omega); have hg6 : B + 2 ≤ g6 := (by rcases hat6 with h | h; (have e : g4 = g6 := Option.some.inj h; omega); omega); have rB6 := rB4.kept hk6 (by intro hi; have e : g4 = B := Option.some.inj (Option.mem_toList.1 hi); omega); have rR6 := rR4.kept hk6 (by intro hi; have e : g4 = B + 1 := Option.some.inj (Option.mem_toList.1 hi); omega); have b26 : w6.cell? ⟨B, 2, none⟩ = some (.slice r.ar r.rs.length r.cr) := (by simpa using rB6.cell 2); have f26 := rB6.free 2; have rB7 := rB6.set 2 (.slice (some ⟨g6, 0, none⟩) (r.rs.length + 1) c6); simp only [List.set_cons_succ, List.set_cons_zero] at rB7; have rR7 := rR6.other ⟨B, 2, none⟩ (.slice (some ⟨g6, 0, none⟩) (r.rs.length + 1) c6) (by simp); have kS7 := (Kept.refl [B] w6).set (p := ⟨B, 2, none⟩) (.inl (by simp)) (.slice (some ⟨g6, 0, none⟩) (r.rs.length + 1) c6); have kk7 : Kept [] w (w6.setCell ⟨B, 2, none⟩ (.slice (some ⟨g6, 0, none⟩) (r.rs.length + 1) c6)) := kk6.chain kS7 (by simp) (by intro i hi hl; simp at hi; have := HBW.out; omega); have hk27 : Kept [B] w2 (w6.setCell ⟨B, 2, none⟩ (.slice (some ⟨g6, 0, none⟩) (r.rs.length + 1) c6)) := (kE2.chain hk4 (U := [B]) (by simp) (by intro i hi hl; simp at hi; omega)).chain (hk6.chain kS7 (U := B :: [g4]) (by intro i hi _; have e : g4 = i := Option.some.inj (Option.mem_toList.1 hi); simp [e]) (by intro i hi _; simp at hi; simp [hi])) (by intro i hi _; exact hi) (by intro i hi hl; simp at hi; rcases hi with rfl | rfl; (simp); omega); have hown7 := hown6.keptS kS7 (by intro jb hjb hm; have e : g6 = jb := Option.some.inj hjb; simp at hm; omega); have b0 : (w6.setCell ⟨B, 2, none⟩ (.slice (some ⟨g6, 0, none⟩) (r.rs.length + 1) c6)).cell? ⟨B, 0, none⟩ = some (.int .i64 r.x.p) := (by simpa using rB7.cell 0); have b1 : (w6.setCell ⟨B, 2, none⟩ (.slice (some ⟨g6, 0, none⟩) (r.rs.length + 1) c6)).cell? ⟨B, 1, none⟩ = some (.int .i64 r.x.left) := (by simpa using rB7.cell 1))
      | fail)
    have hs7 := hs.later (HL2.out.trans hn.symm) hs2 HA3.out hk27 (by intro k hk; simp at hk; have := HBW.out; omega)
    clear b0 b1 b2 b26 f26 rB6 rR6 rB4 rR4 rBE rRE hk27 kS7 hown6 hk6 hat6 kk6 hown4 hk4 hg4 kk4 hg4' hz4 own5 sE kE hBz hzE kE2 hs2 hw2
    generalize w6.setCell ⟨B, 2, none⟩ (.slice (some ⟨g6, 0, none⟩) (r.rs.length + 1) c6) = w8 at rB7 rR7 kk7 hown7 hs7 ⊢
    refine (refPlace10_any r.x S P w8 hx).mono ?_
    rintro e w3 ⟨rfl, k3⟩
    rw [hput.out]
    unfold refP
    have rB3 := rB7.kept k3 (by simp)
    have rR3 := rR7.kept k3 (by simp)
    have kk3 := kk7.trans k3
    have hs3 := hs7.kept k3
    have hzB : B + 2 ≤ w3.heap.size := by have := rR3.lt; omega
    have hownR := hown7.keptS k3 (by simp)
    have HRS := Lib.hid (OwnR.slR hownR)
    have hgR : B + 2 ≤ g6 := hg6
    have HGR := Lib.hid hgR
    clear rB7 rR7 kk7 hown7 hs7 k3 hput hownR hg6 hgR
    generalize g6 = gR at HRS HGR rB3 ⊢
    generalize c6 = cR at HRS rB3 ⊢
    generalize (if S ≤ 16 then (⟨P, S⟩ : Pl) else r.x) = x' at hres ⊢
    have hz3 := kk3.size
    have rBq := ((rB3.alloc (.cells #[.int .i64 x'.p, .int .i64 x'.left] 35)).set 0 (.int .i64 x'.p)).set 1 (.int .i64 x'.left)
    have rRq := ((rR3.alloc (.cells #[.int .i64 x'.p, .int .i64 x'.left] 35)).other ⟨B, 0, none⟩ (.int .i64 x'.p) (by simp)).other ⟨B, 1, none⟩ (.int .i64 x'.left) (by simp)
    have kq3 : Kept [B] w3 (((w3.alloc (.cells #[.int .i64 x'.p, .int .i64 x'.left] 35)).setCell ⟨B, 0, none⟩ (.int .i64 x'.p)).setCell ⟨B, 1, none⟩ (.int .i64 x'.left)) := (((Kept.refl [B] w3).alloc (.cells #[.int .i64 x'.p, .int .i64 x'.left] 35)).set (p := ⟨B, 0, none⟩) (.inl (by simp)) (.int .i64 x'.p)).set (p := ⟨B, 1, none⟩) (.inl (by simp)) (.int .i64 x'.left)
    have b0 : (w3.alloc (.cells #[.int .i64 x'.p, .int .i64 x'.left] 35)).cell? ⟨B, 0, none⟩ = some (.int .i64 r.x.p) := by simpa using (rB3.alloc (.cells #[.int .i64 x'.p, .int .i64 x'.left] 35)).cell 0
    have b1 : (w3.alloc (.cells #[.int .i64 x'.p, .int .i64 x'.left] 35)).cell? ⟨B, 1, none⟩ = some (.int .i64 r.x.left) := by simpa using (rB3.alloc (.cells #[.int .i64 x'.p, .int .i64 x'.left] 35)).cell 1
    have f0 := (rB3.alloc (.cells #[.int .i64 x'.p, .int .i64 x'.left] 35)).free 0
    have f1 := (rB3.alloc (.cells #[.int .i64 x'.p, .int .i64 x'.left] 35)).free 1
    simp only [List.set_cons_succ, List.set_cons_zero] at rBq
    have hz5 : (((w3.alloc (.cells #[.int .i64 x'.p, .int .i64 x'.left] 35)).setCell ⟨B, 0, none⟩ (.int .i64 x'.p)).setCell ⟨B, 1, none⟩ (.int .i64 x'.left)).heap.size = w3.heap.size + 1 := by simp
    have rBE := rBq.alloc (.cells #[] 63)
    have rRE := rRq.alloc (.cells #[] 63)
    have kE3 : Kept [B] w3 ((((w3.alloc (.cells #[.int .i64 x'.p, .int .i64 x'.left] 35)).setCell ⟨B, 0, none⟩ (.int .i64 x'.p)).setCell ⟨B, 1, none⟩ (.int .i64 x'.left)).alloc (.cells #[] 63)) := kq3.alloc _
    have kE : Kept [] w ((((w3.alloc (.cells #[.int .i64 x'.p, .int .i64 x'.left] 35)).setCell ⟨B, 0, none⟩ (.int .i64 x'.p)).setCell ⟨B, 1, none⟩ (.int .i64 x'.left)).alloc (.cells #[] 63)) := kk3.chain kE3 (by simp) (by intro i hi hl; simp at hi; have := HBW.out; omega)
    have own5 := OwnR.empty (((w3.alloc (.cells #[.int .i64 x'.p, .int .i64 x'.left] 35)).setCell ⟨B, 0, none⟩ (.int .i64 x'.p)).setCell ⟨B, 1, none⟩ (.int .i64 x'.left)) w.heap.size (by rw [hz5]; omega)
    rw [hz5] at own5
    have sE := h.things.kept kE
    have hBz := kE.size
    have hzE : ((((w3.alloc (.cells #[.int .i64 x'.p, .int .i64 x'.left] 35)).setCell ⟨B, 0, none⟩ (.int .i64 x'.p)).setCell ⟨B, 1, none⟩ (.int .i64 x'.left)).alloc (.cells #[] 63)).heap.size = w3.heap.size + 2 := by simp
    have b3 : ((((w3.alloc (.cells #[.int .i64 x'.p, .int .i64 x'.left] 35)).setCell ⟨B, 0, none⟩ (.int .i64 x'.p)).setCell ⟨B, 1, none⟩ (.int .i64 x'.left)).alloc (.cells #[] 63)).cell? ⟨B, 3, none⟩ = some (.slice r.at' r.ts.length r.ct) := by simpa using rBE.cell 3
    clear kq3 rBq rRq
    go_wp2_with (first
      | (at_builtin; refine wpList_append_runs _ rfl _ _ rfl w.heap.size (w3.heap.size + 1) 0 0 [] r.ts r.at' r.ts.length r.ct rfl own5 rfl rfl sE rfl (by omega) hBz ?_; intro g4 cap4 w4 hown4 hk4 hg4; rw [Nat.zero_add, List.nil_append] at hown4; rw [Nat.zero_add]; have kk4 : Kept [] w w4 := kE.chain hk4 (by simp) (by intro i hi hl; simp at hi; omega); have hg4' : B + 2 ≤ g4 := (by rcases hg4 with h | h <;> omega); have hz4 := kk4.size; have rB4 := rBE.kept hk4 (by simp; omega); have rR4 := rRE.kept hk4 (by simp; omega); have hz4b := rR4.lt)
      | (at_builtin; refine wpList_append_runN _ rfl _ _ rfl w.heap.size w4 _ r.ts (16 * P) S rfl rfl rfl hown4 (by omega) (by omega) ?_; intro g6 c6 w6 hown6 hk6 hat6; have kk6 : Kept [] w w6 := kk4.chain hk6 (by simp) (by intro i hi hl; have e : g4 = i := Option.some.inj (Option.mem_toList.1 hi); omega); have hg6 : B + 2 ≤ g6 := (by rcases hat6 with h | h; (have e : g4 = g6 := Option.some.inj h; omega); omega); have rB6 := rB4.kept hk6 (by intro hi; have e : g4 = B := Option.some.inj (Option.mem_toList.1 hi); omega); have rR6 := rR4.kept hk6 (by intro hi; have e : g4 = B + 1 := Option.some.inj (Option.mem_toList.1 hi); omega); have b36 : w6.cell? ⟨B, 3, none⟩ = some (.slice r.at' r.ts.length r.ct) := (by simpa using rB6.cell 3); have f36 := rB6.free 3; have rB7 := rB6.set 3 (.slice (some ⟨g6, 0, none⟩) (r.ts.length + 1) c6); simp only [List.set_cons_succ, List.set_cons_zero] at rB7; have rR7 := rR6.other ⟨B, 3, none⟩ (.slice (some ⟨g6, 0, none⟩) (r.ts.length + 1) c6) (by simp); have kS7 := (Kept.refl [B] w6).set (p := ⟨B, 3, none⟩) (.inl (by simp)) (.slice (some ⟨g6, 0, none⟩) (r.ts.length + 1) c6); have kk7 : Kept [] w (w6.setCell ⟨B, 3, none⟩ (.slice (some ⟨g6, 0, none⟩) (r.ts.length + 1) c6)) := kk6.chain kS7 (by simp) (by intro i hi hl; simp at hi; have := HBW.out; omega); have hk37 : Kept [B] w3 (w6.setCell ⟨B, 3, none⟩ (.slice (some ⟨g6, 0, none⟩) (r.ts.length + 1) c6)) := (kE3.chain hk4 (U := [B]) (by intro i hi _; exact hi) (by intro i hi hl; simp at hi; omega)).chain (hk6.chain kS7 (U := B :: [g4]) (by intro i hi _; have e : g4 = i := Option.some.inj (Option.mem_toList.1 hi); simp [e]) (by intro i hi _; simp at hi; simp [hi])) (by intro i hi _; exact hi) (by intro i hi hl; simp at hi; rcases hi with rfl | rfl; (simp); omega); have hown7 := hown6.keptS kS7 (by intro jb hjb hm; have e : g6 = jb := Option.some.inj hjb; simp at hm; omega); have b0 : (w6.setCell ⟨B, 3, none⟩ (.slice (some ⟨g6, 0, none⟩) (r.ts.length + 1) c6)).cell? ⟨B, 0, none⟩ = some (.int .i64 x'.p) := (by simpa using rB7.cell 0); have b1 : (w6.setCell ⟨B, 3, none⟩ (.slice (some ⟨g6, 0, none⟩) (r.ts.length + 1) c6)).cell? ⟨B, 1, none⟩ = some (.int .i64 x'.left) := (by simpa using rB7.cell 1); have b2 : (w6.setCell ⟨B, 3, none⟩ (.slice (some ⟨g6, 0, none⟩) (r.ts.length + 1) c6)).cell? ⟨B, 2, none⟩ = some (.slice (some ⟨gR, 0, none⟩) (r.rs.length + 1) cR) := (by simpa using rB7.cell 2); have b3 : (w6.setCell ⟨B, 3, none⟩ (.slice (some ⟨g6, 0, none⟩) (r.ts.length + 1) c6)).cell? ⟨B, 3, none⟩ = some (.slice (some ⟨g6, 0, none⟩) (r.ts.length + 1) c6) := (by simpa using rB7.cell 3); have c0 : (w6.setCell ⟨B, 3, none⟩ (.slice (some ⟨g6, 0, none⟩) (r.ts.length + 1) c6)).cell? ⟨B + 1, 0, none⟩ = some (.int .i64 0) := (by simpa using rR7.cell 0); have c1 : (w6.setCell ⟨B, 3, none⟩ (.slice (some ⟨g6, 0, none⟩) (r.ts.length + 1) c6)).cell? ⟨B + 1, 1, none⟩ = some (.int .i64 0) := (by simpa using rR7.cell 1); have c2 : (w6.setCell ⟨B, 3, none⟩ (.slice (some ⟨g6, 0, none⟩) (r.ts.length + 1) c6)).cell? ⟨B + 1, 2, none⟩ = some (.slice none 0 0) := (by simpa using rR7.cell 2); have c3 : (w6.setCell ⟨B, 3, none⟩ (.slice (some ⟨g6, 0, none⟩) (r.ts.length + 1) c6)).cell? ⟨B + 1, 3, none⟩ = some (.slice none 0 0) := (by simpa using rR7.cell 3); have f0 := rR7.free 0; have f1 := rR7.free 1; have f2 := rR7.free 2; have f3 := rR7.free 3; have HSE := Lib.hid (rR7.set4 (.int .i64 x'.p) (.int .i64 x'.left) (.slice (some ⟨gR, 0, none⟩) (r.rs.length + 1) cR) (.slice (some ⟨g6, 0, none⟩) (r.ts.length + 1) c6)); have HKE := Lib.hid (Kept.set4 (Kept.refl [B + 1] (w6.setCell ⟨B, 3, none⟩ (.slice (some ⟨g6, 0, none⟩) (r.ts.length + 1) c6))) (g := B + 1) (.inl (by simp)) (.int .i64 x'.p) (.int .i64 x'.left) (.slice (some ⟨gR, 0, none⟩) (r.rs.length + 1) cR) (.slice (some ⟨g6, 0, none⟩) (r.ts.length + 1) c6)); clear rR7 rB7)
      | fail)
    (try simp only [Exit.inBlock, Exit.then])
    refine bodyPost_ret (results_cell4 rfl rfl (refA_load HSE.out)) rfl ?_
    have HKW : Kept [] w _ := kk7.chain HKE.out (by simp) (by intro i hi hl; simp at hi; have := HBW.out; omega)
    unfold RefAllocPost
    rw [hres.out]
    have hs9 := hs.later (HL2.out.trans hn.symm) hs3 HA3.out (hk37.chain HKE.out (U := [B, B + 1]) (by intro i hi _; simp at hi; simp [hi]) (by intro i hi _; simp at hi; simp [hi])) (by intro k hk; simp at hk; have := HBW.out; omega)
    refine ⟨⟨⟨x', r.rs ++ [(P, N)], r.ts ++ [(16 * P, S)]⟩, some ⟨gR, 0, none⟩, cR, some ⟨g6, 0, none⟩, c6⟩, A2, cap2, ?_, rfl, ⟨?_, ?_⟩, HL2.out, hs9, HA2.out, .inr ⟨gR, rfl, by have := HBW.out; have := HGR.out; omega⟩, .inr ⟨g6, rfl, by have := HBW.out; omega⟩, HKW⟩
    · simp [RD.val]
    · exact (HRS.out.keptS hk37 (by intro b off e hm; cases e; simp at hm; have := HGR.out; omega)).keptS HKE.out (by intro b off e hm; cases e; simp at hm; have := HGR.out; omega)
    · exact (OwnR.slR hown7).keptS HKE.out (by intro b off e hm; cases e; simp at hm; omega)
end Go.Proofs.Ytenhelbmcapfkaa
