/- Package kraalref09: New, Is, In, Before. -/
import Derived.Test.YtkfdkmdjdghdkaaStartsPlain
import Derived.Test.YtkfdkmdjdghdkaaAppendIn
import Derived.Test.YtkfdkmdjdghdkaaRet
import Derived.Test.YtkfdkmdjdghdkaaSame
import Derived.Deep.QuietTactic
namespace Go.Proofs.Ytkfdkmdjdghdkaa
open Go.RowKit

/-- A book of the document: where objects begin (a slice at A), how many words. -/
def refS (A : Option Addr) (n cap : Nat) (words : Int) : Value := .agg #[.slice A n cap, .int .i64 words]
theorem refS_load {w : World} {g : Nat} {vs : List Value} (h : Row w g 30 vs) (hl : vs.length = 2) : (loadVar 30 ⟨g, 0, none⟩).run Try.prog w = .ok (.agg vs.toArray) w :=
  h.load Try.underlying30 rfl (by rw [hl]; kernel_rfl)
/-- The document's list l, at A. -/
def RefL (w : World) (A : Option Addr) (cap : Nat) (l : List Int) : Prop := Sl w .i64 A l ∧ (l.length ≤ cap ∧ cap ≤ maxLen) ∧ ((A = none ∧ cap = 0) ∨ ∃ b off, A = some ⟨b, off, none⟩)
theorem RefL.kept {w w' : World} {A : Option Addr} {cap : Nat} {l : List Int} (h : RefL w A cap l) (hk : Kept [] w w') : RefL w' A cap l := ⟨h.1.kept hk, h.2⟩
theorem RefL.nil (w : World) : RefL w none 0 [] := ⟨.inl rfl, ⟨Nat.le_refl _, Nat.zero_le _⟩, .inl ⟨rfl, rfl⟩⟩
theorem own_capL {w : World} {B : Nat} {e : TypeId} {size g n c : Nat} {vs : List Value} (h : w.ownsRow B e size (.slice (some ⟨g, 0, none⟩) n c) n vs) : n ≤ c ∧ c ≤ maxLen := by
  rcases h.2 with ⟨h, _⟩ | ⟨g', cap', cur, h, _, _, h1, h2, _⟩
  · cases h
  · simp only [Value.slice.injEq, Option.some.injEq, Addr.mk.injEq, and_true, true_and] at h
    obtain ⟨rfl, rfl⟩ := h
    exact ⟨h1, h2⟩
theorem RefL.of_own {w : World} {B g n c : Nat} {xs : List Int} (h : w.ownsRow B 3 1 (.slice (some ⟨g, 0, none⟩) n c) n (xs.map (Value.int .i64))) : RefL w (some ⟨g, 0, none⟩) c xs := by
  have hl : xs.length = n := by have := h.1; simpa using this
  exact ⟨Sl.of_own h, by rw [hl]; exact own_capL h, .inr ⟨g, 0, rfl⟩⟩

set_option maxHeartbeats 1000000 in
theorem refNew09_any (words : Int) (w : World) :
    Calls Try.prog 7 #[.int .i64 words] w fun e w' => e = .returned (refS none 0 0 (min (max words 0) 16384)) ∧ Kept [] w w' := by
  have kW : ∀ o, Kept [] w (w.alloc o) := fun o => (Kept.refl [] w).alloc o
  by_cases h : words < 0
  · have e0 : min (max words 0) 16384 = 0 := by omega
    rw [e0]
    clear e0
    go_enter Try.func7, Try.ntmps7
    go_wp2
    (try simp only [Exit.inBlock, Exit.then])
    refine bodyPost_ret (results_cell1 rfl rfl (refS_load (Row.new w _ [_, _]) rfl)) rfl ?_
    exact ⟨rfl, kW _⟩
  · have h' : decide (words < 0) = false := by simpa using h
    by_cases h2 : 16384 < words
    · have e0 : min (max words 0) 16384 = 16384 := by omega
      rw [e0]
      clear e0
      go_enter Try.func7, Try.ntmps7
      go_wp2
      (try simp only [Exit.inBlock, Exit.then])
      refine bodyPost_ret (results_cell1 rfl rfl (refS_load (Row.new w _ [_, _]) rfl)) rfl ?_
      exact ⟨rfl, kW _⟩
    · have h2' : decide (16384 < words) = false := by simpa using h2
      have e0 : min (max words 0) 16384 = words := by omega
      rw [e0]
      clear e0
      go_enter Try.func7, Try.ntmps7
      go_wp2
      (try simp only [Exit.inBlock, Exit.then])
      refine bodyPost_ret (results_cell1 rfl rfl (refS_load (Row.new w _ [_, _]) rfl)) rfl ?_
      exact ⟨rfl, kW _⟩

def IsPost09 (xs : List Int) (z : Int) (w : World) (e : Ending) (w' : World) : Prop := e = .returned (.bool (decide (z ∈ xs))) ∧ Kept [] w w'

set_option maxHeartbeats 1000000 in
theorem refIs09_any (A : Option Addr) (n cap : Nat) (words z : Int) (xs : List Int) (w : World) (hs : Sl w .i64 A xs) (hn : xs.length = n) (hx : n ≤ 1099511627776) :
    Calls Try.prog 19 #[refS A n cap words, .int .i64 z] w (IsPost09 xs z w) := by
  subst hn
  have rB := Row.new w 30 [.slice A xs.length cap, .int .i64 words]
  have kB := (Kept.refl [] w).alloc (.cells #[.slice A xs.length cap, .int .i64 words] 30)
  have hsB := hs.kept kB
  unfold refS
  go_enter Try.func19, Try.ntmps19
  go_wp2_with fail
  generalize w.alloc (.cells #[.slice A xs.length cap, .int .i64 words] 30) = W at rB kB hsB ⊢
  have c0 : W.cell? ⟨w.heap.size, 0, none⟩ = some (.slice A xs.length cap) := by simpa using rB.cell 0
  clear hs
  go_loop [5] (fun i => ∃ j : Nat, j ≤ xs.length ∧ i = .int .i64 j ∧ Hid (∀ i, i < j → xs[i]?.getD 0 ≠ z)) (fun i => xs.length - (intOf i).toNat)
  case atStart => exact ⟨0, Nat.zero_le _, rfl, fun i hi => by omega⟩
  case round =>
    obtain ⟨j, hj, rfl, HA⟩ := hrel
    by_cases hlt : j < xs.length
    · obtain ⟨b, off, rfl, cG⟩ := hsB.cell hlt
      by_cases hv : xs[j]?.getD 0 = z
      · rw [hv] at cG
        have HV := Lib.hid hv
        clear hv
        go_wp2
        go_ret
        refine ⟨?_, kB⟩
        have hm : z ∈ xs := by
          have := HV.out
          rw [List.getElem?_eq_getElem hlt] at this
          rw [← this]
          exact List.getElem_mem hlt
        rw [decide_eq_true hm]; rfl
      · have hv' : (xs[j]?.getD 0 == z) = false := by simpa using hv
        have HV := Lib.hid hv
        generalize xs[j]?.getD 0 = y at cG hv'
        clear hv
        go_wp2
        go_round
        case rel => exact ⟨j + 1, by omega, by go_num, fun i hi => by by_cases e : i = j; subst e; exact HV.out; exact HA.out i (by omega)⟩
        case measure => simp [intOf]; omega
    · obtain rfl : j = xs.length := by omega
      go_wp2
      go_ret
      refine ⟨?_, kB⟩
      have hm : z ∉ xs := fun hm => by
        obtain ⟨i, hi, e⟩ := List.getElem_of_mem hm
        exact HA.out i hi (by rw [List.getElem?_eq_getElem hi]; exact e)
      rw [decide_eq_false hm]; rfl

/-- The last place, as two results (the document's). -/
def RefBefore (o : Option Int) (w : World) (e : Ending) (w' : World) : Prop := e = .returned (.tuple #[.int .i64 (o.getD 0), .bool o.isSome]) ∧ Kept [] w w'
theorem lastL_take {l : List Int} {at_ : Int} {j : Nat} (hj : j < l.length) : lastL (l.take (j + 1)) at_ = if l[j]?.getD 0 ≤ at_ then some (l[j]?.getD 0) else lastL (l.take j) at_ := by
  rw [List.take_succ_eq_append_getElem hj, List.getElem?_eq_getElem hj, Option.getD_some]
  by_cases e : l[j] ≤ at_
  · rw [if_pos e, lastL_snoc_in e]
  · rw [if_neg e, lastL_append_out (by simpa using e)]

set_option maxHeartbeats 1000000 in
theorem refBefore09_any (A : Option Addr) (n cap : Nat) (words at_ : Int) (xs : List Int) (w : World) (hs : Sl w .i64 A xs) (hn : xs.length = n) (hx : n ≤ 1099511627776) (hp : ∀ x ∈ xs, 1 ≤ x) :
    Calls Try.prog 14 #[refS A n cap words, .int .i64 at_] w (RefBefore (lastL xs at_) w) := by
  subst hn
  have rB := Row.new w 30 [.slice A xs.length cap, .int .i64 words]
  have kB := (Kept.refl [] w).alloc (.cells #[.slice A xs.length cap, .int .i64 words] 30)
  have hsB := hs.kept kB
  unfold refS
  go_enter Try.func14, Try.ntmps14
  go_wp2_with fail
  generalize w.alloc (.cells #[.slice A xs.length cap, .int .i64 words] 30) = W at rB kB hsB ⊢
  have c0 : W.cell? ⟨w.heap.size, 0, none⟩ = some (.slice A xs.length cap) := by simpa using rB.cell 0
  have HPx := Lib.hid hp
  clear hs hp
  go_loop [6, 7] (fun v i => ∃ j : Nat, j ≤ xs.length ∧ v = .int .i64 ((lastL (xs.take j) at_).getD 0) ∧ i = .int .i64 j) (fun _ i => xs.length - (intOf i).toNat)
  case atStart => exact ⟨0, Nat.zero_le _, rfl, rfl⟩
  case round =>
    obtain ⟨j, hj, rfl, rfl⟩ := hrel
    by_cases hlt : j < xs.length
    · obtain ⟨b, off, rfl, cG⟩ := hsB.cell hlt
      have HT := Lib.hid (lastL_take (at_ := at_) hlt)
      obtain ⟨y, hy⟩ : ∃ y, xs[j]?.getD 0 = y := ⟨_, rfl⟩
      rw [hy] at cG HT
      have HB := Lib.hid hy
      clear hy
      obtain ⟨v0, hv0⟩ : ∃ v0, (lastL (xs.take j) at_).getD 0 = v0 := ⟨_, rfl⟩
      have HV0 := Lib.hid hv0
      rw [hv0]
      clear hv0
      by_cases hv : y ≤ at_
      · have HV := Lib.hid hv
        go_wp2
        go_round
        case rel => exact ⟨j + 1, by omega, by rw [HT.out, if_pos HV.out]; rfl, by go_num⟩
        case measure => simp [intOf]; omega
      · have hv' : decide (y ≤ at_) = false := by simpa using hv
        have HV := Lib.hid hv
        clear hv
        go_wp2
        go_round
        case rel => exact ⟨j + 1, by omega, by rw [HT.out, if_neg HV.out, HV0.out], by go_num⟩
        case measure => simp [intOf]; omega
    · obtain rfl : j = xs.length := by omega
      rw [List.take_length]
      have hlast : (lastL xs at_ = none) ∨ (∃ x, lastL xs at_ = some x ∧ 1 ≤ x) := by
        cases hl : lastL xs at_ with
        | none => exact .inl rfl
        | some x =>
          refine .inr ⟨x, rfl, HPx.out x ?_⟩
          have := List.mem_of_getLast? hl
          exact (List.mem_filter.1 this).1
      rcases hlast with hl | ⟨x, hl, hx1⟩
      · rw [hl]
        simp only [Option.getD_none]
        go_wp2
        go_ret2
        exact ⟨rfl, kB⟩
      · rw [hl]
        simp only [Option.getD_some]
        have hx2 : (0 : Int) < x := by omega
        go_wp2
        go_ret2
        exact ⟨rfl, kB⟩
end Go.Proofs.Ytkfdkmdjdghdkaa
