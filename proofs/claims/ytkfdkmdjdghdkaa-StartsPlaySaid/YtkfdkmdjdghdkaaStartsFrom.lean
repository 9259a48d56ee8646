/- Package starts: from: the places at which objects begin, handed on one by one. -/
import Derived.RangeFuncNested
import Derived.RangeFuncBound
import Derived.RangeFuncCalls
import Derived.RangeFuncLeaves
import Derived.Shelf.Abstract
import Derived.Shelf.RegionOpen
import Derived.OwnWalkIn
import Derived.TacticsInMore
import Derived.LoopNIn
import Derived.LoopIn
import Derived.Sort.QuietIn
import Derived.Test.YtkfdkmdjdghdkaaStarts
import Derived.Test.YtkfdkmdjdghdkaaBitsFind
import Derived.Test.YtkfdkmdjdghdkaaRange
namespace Go.Proofs.Ytkfdkmdjdghdkaa
open Go.RowKit Go.Shelf

attribute [local go_sem] Oper.semAt_some

theorem wide_fn (f : Nat) : Fence.wide.fn f = True := rfl
attribute [local simp] wide_fn
attribute [local go_sem] wide_fn

/-- A word's number. -/
abbrev Pos := { x : Int // 0 ≤ x ∧ x < 16384 }
def posL (l : List Pos) : List Int := l.map (·.1)
theorem posL_append (a b : List Pos) : posL (a ++ b) = posL a ++ posL b := List.map_append
theorem posL_one (x : Pos) : posL [x] = [x.1] := rfl
theorem posL_len (l : List Pos) : (posL l).length = l.length := List.length_map _

/-- What a round that goes on keeps: the blocks L. -/
def KeepsL (L : List Nat) (W W' : World) : Prop := ∀ k ∈ L, W'.heap[k]? = W.heap[k]?
theorem KeepsL.refl {L : List Nat} {A : World} : KeepsL L A A := fun _ _ => rfl
theorem KeepsL.trans {L : List Nat} {A C D : World} (h : KeepsL L A C) (k : KeepsL L C D) : KeepsL L A D := fun i hi => (k i hi).trans (h i hi)
theorem KeepsL.put {L : List Nat} {w : World} (hL : ∀ k ∈ L, k < w.heap.size) (W : World) (l : Nat) (o o' : Obj) (hl : w.heap.size ≤ l) (_ : W.heap[l]? = some o) (_ : o.isCells = false) (_ : o.isWalk = false) : KeepsL L W (W.putObj l o') :=
  fun k hk => World.putObj_heap_other (by have := hL k hk; omega)
theorem KeepsL.of_kept {L S : List Nat} {W W' : World} (h : Kept S W W') (hL : ∀ k ∈ L, k < W.heap.size) (hS : ∀ k ∈ L, k ∉ S) : KeepsL L W W' := fun k hk => h.block k (hL k hk) (hS k hk)
theorem KeepsL.of_below {L : List Nat} {W W' : World} {n : Nat} (h : Below n W W') (hL : ∀ k ∈ L, k < n) : KeepsL L W W' := fun k hk => h.block k (hL k hk)
theorem KeepsL.drewN {L : List Nat} {A C : World} (h : KeepsL L A C) (n : Nat) : KeepsL L A (C.drewN n) := fun k hk => by
  have : (C.drewN n).heap = C.heap := by induction n with
    | zero => rfl
    | succ n ih => exact ih
  rw [this]; exact h k hk
theorem KeepsL.row {L : List Nat} {W W' : World} {g : Nat} {t : TypeId} {vs : List Value} (h : KeepsL L W W') (hg : g ∈ L) (hr : Row W g t vs) : Row W' g t vs := (h g hg).trans hr
theorem KeepsL.starts {L : List Nat} {W W' : World} {p b g : Nat} {xs : List Bool} (h : KeepsL L W W') (hp : p ∈ L) (hb : b ∈ L) (hg : g ∈ L) (hs : IsStarts W p b g xs) : IsStarts W' p b g xs := by
  obtain ⟨r1, ⟨⟨n1, l1, c1⟩, r2, le⟩, n2⟩ := hs
  refine ⟨h.row hp r1, ⟨⟨n1, ?_, ?_⟩, h.row hg r2, le⟩, n2⟩
  · have := h b hb
    rw [Array.getElem?_eq_getElem l1] at this
    exact (Array.getElem?_eq_some_iff.1 this).1
  · exact (World.cell?_of_block (w := W) (a := ⟨b, 0, none⟩) (h b hb)).trans c1

/-- What is left to hand on, as the loop's two variables tell it. -/
def atM (n : Nat) : Value → Value → Nat
  | v, .bool true => n + 1 - (intOf v).toNat
  | _, _ => 0

theorem from_in (F : Fence) (n : Nat) (h : F.fn 24) (hro : F.round = none) (p : Nat) (c : Int) (w : World) :
    CallsIn F n Try.prog 24 #[.pointer (some ⟨p, 0, none⟩), .int .i64 c] w fun e w' => e = .returned (.func (.func 26) #[] #[.pointer (some ⟨w.heap.size, 0, none⟩), .pointer (some ⟨w.heap.size + 1, 0, none⟩)]) ∧
      w' = (w.alloc (.cells #[.pointer (some ⟨p, 0, none⟩)] 26)).alloc (.cells #[.int .i64 c] 3) := by
  refine callsIn_of_wp Try.func24 rfl h ?_ hro
  simp only [Try.ntmps24, List.size_toArray, List.length_cons, List.length_nil, Nat.reduceAdd, Nat.reduceSub, Array.replicate_succ, Array.replicate_zero, List.push_toArray, List.append_toArray, List.nil_append, List.cons_append]
  gi_wp2
  go_ret
  exact ⟨rfl, rfl⟩

theorem grown_drewN (W : World) (n : Nat) : W.grownBy (W.drewN n) none := by
  have h := (Kept.refl [] W).drewN n
  exact ⟨h.os, h.tape, h.output, h.size, fun k hk _ => h.block k hk (by simp)⟩

theorem quietIn_same {F : Fence} {n : Nat} {P : Program} {f : FuncId} {args : Array Value} {w : World} {m : Nat} {v : Value}
    (h : CallsIn F n P f args (w.drewN m) fun e w' => e = .returned v ∧ w.drewN m = w') : CallsIn F n P f args (w.drewN m) fun e w'' => e = .returned v ∧ ∃ k, w'' = w.drewN k :=
  h.mono fun _ _ ⟨he, hm⟩ => ⟨he, m, hm.symm⟩

theorem bitsNext_two (b o g : Nat) (xs : List Bool) (fr : Int) (w : World) (hm : IsRow w b o g xs) (hfr : fr ≤ 9223372036854775807) :
    Calls Try.prog 27 #[.pointer (some ⟨b, o, none⟩), .int .i64 fr] w fun e w' => e = .returned (.tuple #[.int .i64 (((nextB xs fr).getD 0 : Nat) : Int), .bool (nextB xs fr).isSome]) ∧ w = w' := bitsNext_any b o g xs fr w hm hfr

set_option maxRecDepth 100000 in
set_option maxHeartbeats 2000000 in
theorem from1_in (n : Nat) (l S C p b g : Nat) (xs : List Bool) (fr : Int) (hfr2 : fr ≤ 9223372036854775807)
    (J Jx : List Pos → World → Prop) (W : World) (hJ : AbidesFrom W.heap.size J)
    (hY : ∀ pre x W, J pre W → pre.length < (marksB xs fr).length → YieldAt Fence.wide (n - 1) Try.prog l #[.int .i64 x.1] W fun e W' =>
      (e = .returned (.bool true) ∧ J (pre ++ [x]) W' ∧ KeepsL [S, C, p, b, g] W W') ∨ (e = .returned (.bool false) ∧ Jx (pre ++ [x]) W'))
    (hS : Row W S 26 [.pointer (some ⟨p, 0, none⟩)]) (hC : Row W C 3 [.int .i64 fr]) (hs : IsStarts W p b g xs) (hJ0 : J [] W) :
    CallsIn Fence.wide n Try.prog 26 #[.func (.yield l) #[] #[], .pointer (some ⟨S, 0, none⟩), .pointer (some ⟨C, 0, none⟩)] W fun e W' => (∃ v, e = .returned v) ∧
      ((∃ ys, posL ys = marksB xs fr ∧ J ys W') ∨ (∃ pre, (∃ t, posL pre ++ t = marksB xs fr) ∧ Jx pre W')) := by
  have hdd : ∀ k : Nat, ((Fence.wide).depth.isSome = true → 1 ≤ k) := fun k h => by cases h
  have cS : W.cell? ⟨S, 0, none⟩ = some (.pointer (some ⟨p, 0, none⟩)) := by simpa using hS.cell 0
  have cC : W.cell? ⟨C, 0, none⟩ = some (.int .i64 fr) := by simpa using hC.cell 0
  have cP := hs.cell
  have hle := hs.le
  refine callsIn_of_wp Try.func26 rfl trivial ?_ rfl
  simp only [Try.ntmps26, List.size_toArray, List.length_cons, List.length_nil, Nat.reduceAdd, Nat.reduceSub, Array.replicate_succ, Array.replicate_zero, List.push_toArray, List.append_toArray, List.nil_append, List.cons_append]
  gi_wp2
  gi_quiet (first | (refine ⟨hdd _, quietIn_same (callsIn_wide.2 (bitsNext_two b 0 g xs fr _ ((hs.kept (Kept.drewN (Kept.refl [] W) _)).row) hfr2))⟩) | fail)
  gi_wp2
  have hJ1 := hJ [] W (W.drewN nq) none hJ0 (grown_drewN W nq) (fun r e => by cases e)
  have kW1 : KeepsL [S, C, p, b, g] W (W.drewN nq) := KeepsL.refl.drewN nq
  generalize W.drewN nq = W1 at hJ1 kW1 ⊢
  gi_loopw [4, 5] (fun v o wr => ∃ (c : Int) (ys : List Pos), v = .int .i64 ((nextB xs c).getD 0 : Nat) ∧ o = .bool (nextB xs c).isSome ∧ Hid (posL ys ++ marksB xs c = marksB xs fr) ∧ J ys wr ∧ KeepsL [S, C, p, b, g] W wr)
    (fun v o _ => atM xs.length v o)
  case atStart => exact ⟨fr, [], rfl, rfl, rfl, hJ1, kW1⟩
  case round =>
    obtain ⟨c, ys, rfl, rfl, HP, hJs, hk⟩ := hrel
    have hSr := hk.row (by simp) hS
    have hsr := hk.starts (by simp) (by simp) (by simp) hs
    cases hnx : nextB xs c with
    | none =>
      have HN := Lib.hid (marksB_none hnx)
      clear hnx
      simp only [Option.getD_none, Option.isSome_none]
      gi_wp2
      go_end0
      exact ⟨⟨_, rfl⟩, .inl ⟨ys, by have := HP.out; rwa [HN.out, List.append_nil] at this, hJs⟩⟩
    | some j =>
      have hj := (nextB_some.1 hnx).1
      have HN := Lib.hid (marksB_some hnx)
      have hlen : ys.length < (marksB xs fr).length := by
        rw [← HP.out, HN.out]; simp [posL_len]
      clear hnx
      simp only [Option.getD_some, Option.isSome_some]
      obtain ⟨fn, tmps, assign, body, hy, hR⟩ := hY ys ⟨j, by omega, by omega⟩ wr hJs hlen
      dsimp only at hy
      gi_wp2
      refine ⟨hdd _, hR.mono ?_⟩
      rintro e W3 (⟨rfl, hJ3, hk3⟩ | ⟨rfl, hJx3⟩)
      · have hk4 := hk.trans hk3
        have hS3 := hk4.row (by simp) hS
        have hs3 := hk4.starts (by simp) (by simp) (by simp) hs
        have cS3 : W3.cell? ⟨S, 0, none⟩ = some (.pointer (some ⟨p, 0, none⟩)) := by simpa using hS3.cell 0
        have cP3 := hs3.cell
        gi_wp2
        refine ⟨hdd _, (callsIn_wide.2 (bitsNext_two b 0 g xs ((j : Int) + 1) W3 hs3.row (by omega))).mono ?_⟩
        rintro e W4 ⟨rfl, rfl⟩
        gi_wp2
        go_roundw
        case rel => exact ⟨(j : Int) + 1, ys ++ [⟨j, by omega, by omega⟩], rfl, rfl, by show _ = _; rw [posL_append, posL_one, List.append_assoc]; exact (congrArg (posL ys ++ ·) HN.out.symm).trans HP.out, hJ3, hk4⟩
        case measure =>
          cases hn2 : nextB xs ((j : Int) + 1) with
          | none => simp [atM, intOf]; omega
          | some j2 =>
            have := (nextB_some.1 hn2).2.1.1
            simp [atM, intOf]; omega
      · gi_wp2
        go_end0
        exact ⟨⟨_, rfl⟩, .inr ⟨ys ++ [⟨j, by omega, by omega⟩], ⟨marksB xs ((j : Int) + 1), by rw [posL_append, posL_one, List.append_assoc]; exact (congrArg (posL ys ++ ·) HN.out.symm).trans HP.out⟩, hJx3⟩⟩

/-- The marked places from fr on, handed on: all of them, rising; or the first ones. -/
theorem from1_stops (n : Nat) (S C p b g : Nat) (xs : List Bool) (fr : Int) (hfr2 : fr ≤ 9223372036854775807) (w : World)
    (hS : Row w S 26 [.pointer (some ⟨p, 0, none⟩)]) (hC : Row w C 3 [.int .i64 fr]) (hs : IsStarts w p b g xs) :
    SeqStopsK Fence.wide n Try.prog 26 #[.pointer (some ⟨S, 0, none⟩), .pointer (some ⟨C, 0, none⟩)] (fun x : Pos => #[Value.int .i64 x.1]) (KeepsL [S, C, p, b, g]) (fun ys => posL ys = marksB xs fr) (fun pre => ∃ t, posL pre ++ t = marksB xs fr) (marksB xs fr).length w := by
  intro l J Jx W hW hJ _ hY h0
  have hL : ∀ k ∈ [S, C, p, b, g], k < w.heap.size := by
    have := hS.lt; have := hC.lt; have := hs.lt
    intro k hk; simp at hk; omega
  have hk : KeepsL [S, C, p, b, g] w W := KeepsL.of_below hW hL
  exact from1_in n l S C p b g xs fr hfr2 J Jx W hJ hY (hk.row (by simp) hS) (hk.row (by simp) hC) (hk.starts (by simp) (by simp) (by simp) hs) h0
end Go.Proofs.Ytkfdkmdjdghdkaa
