/- Package sweep: begins (where objects begin, handed on one by one). -/
import Derived.Test.YtionleocbjfgaaaDoorSweepLies
namespace Go.Proofs.YtionleocbjfgaaaDoor
open Go.RowKit Go.Shelf

attribute [local go_sem] Oper.semAt_some

/-- A place, as it is handed on. -/
abbrev BegX := { r : Int × Int // FitU r.1 ∧ Fit64 r.2 }
def begX (l : List BegX) : List (Int × Int) := l.map (·.1)
theorem begX_append (a b : List BegX) : begX (a ++ b) = begX a ++ begX b := List.map_append
theorem begX_one (x : BegX) : begX [x] = [x.1] := rfl
theorem begX_len (l : List BegX) : (begX l).length = l.length := List.length_map _
def encB1 (r : BegX) : Value := .int .u64 r.1.1
def encB2 (r : BegX) : Value := .int .i64 r.1.2

theorem begins18_in (F : Fence) (n : Nat) (h : F.fn 19) (hro : F.round = none) (A : Option Addr) (len cap : Nat) (w : World) :
    CallsIn F n Tryd.prog 19 #[.slice A len cap] w fun e w' => e = .returned (.func (.func 27) #[] #[.pointer (some ⟨w.heap.size, 0, none⟩)]) ∧
      w' = w.alloc (.cells #[.slice A len cap] 22) := by
  refine callsIn_of_wp Tryd.func19 rfl h ?_ hro
  simp only [Tryd.ntmps19, List.size_toArray, List.length_cons, List.length_nil, Nat.reduceAdd, Nat.reduceSub, Array.replicate_succ, Array.replicate_zero, List.push_toArray, List.append_toArray, List.nil_append, List.cons_append]
  gi_wp2
  go_ret
  exact ⟨rfl, rfl⟩

set_option maxRecDepth 100000 in
set_option maxHeartbeats 4000000 in
theorem begins18x_in (n l S n₀ : Nat) (Z : List Nat) (a : Option Addr) (cap : Nat) (qs : List ObQ) (hfit : ∀ q ∈ qs, q.o.Fit) (w : World) (hs : SlO w a qs) (hn₀ : w.heap.size ≤ n₀) (hZ : ∀ z ∈ Z, w.heap.size ≤ z)
    (J Jx : List BegX → World → Prop) (W : World) (hJ : AbidesFrom W.heap.size J)
    (hY : ∀ pre x W, J pre W → pre.length < (begP (objs qs)).length → YieldAt Fence.wide (n - 1) Tryd.prog l #[encB1 x, encB2 x] W fun e W' =>
      (e = .returned (.bool true) ∧ J (pre ++ [x]) W' ∧ KeptC n₀ Z W W') ∨ (e = .returned (.bool false) ∧ Jx (pre ++ [x]) W'))
    (hold : OldB w W) (hS : Row W S 22 [.slice a qs.length cap]) (hl : qs.length ≤ 1099511627776) (hJ0 : J [] W) :
    CallsIn Fence.wide n Tryd.prog 27 #[.func (.yield l) #[] #[], .pointer (some ⟨S, 0, none⟩)] W fun e W' => (∃ v, e = .returned v) ∧
      ((∃ ys, begX ys = begP (objs qs) ∧ J ys W') ∨ (∃ pre, True ∧ Jx pre W')) := by
  have hdd : ∀ k : Nat, ((Fence.wide).depth.isSome = true → 1 ≤ k) := fun k h => by cases h
  have cS : W.cell? ⟨S, 0, none⟩ = some (.slice a qs.length cap) := by simpa using hS.cell 0
  refine callsIn_of_wp Tryd.func27 rfl trivial ?_ rfl
  simp only [Tryd.ntmps27, List.size_toArray, List.length_cons, List.length_nil, Nat.reduceAdd, Nat.reduceSub, Array.replicate_succ, Array.replicate_zero, List.push_toArray, List.append_toArray, List.nil_append, List.cons_append]
  gi_wp2
  gi_loopw [7] (fun i wr => ∃ (j : Nat) (ys : List BegX), j ≤ qs.length ∧ i = .int .i64 j ∧ Hid (begX ys = begP (objs (qs.take j))) ∧ J ys wr ∧ KeptC n₀ Z W wr)
    (fun i _ => qs.length - (intOf i).toNat)
  case atStart => exact ⟨0, [], Nat.zero_le _, rfl, rfl, hJ0, KeptC.refl⟩
  case round =>
    obtain ⟨j, ys, hj, rfl, HP, hJs, hk⟩ := hrel
    by_cases hlt : j < qs.length
    · obtain ⟨b, off, rfl, _, c0, c1, c2, c3, c4, c5, c6, c7⟩ := (hs.1.old (hold.keptC hk hn₀ hZ)).obj hlt
      have hf := hfit qs[j] (List.getElem_mem hlt)
      have hf1 := hf.at_
      have hf2 := hf.reg
      have HT := Lib.hid (objs_take hlt)
      have HSP := Lib.hid (objs_split hlt)
      clear hf
      obtain ⟨⟨⟨oat, org, oks, ovs⟩, ⟨oar, okd, oty, onn⟩, ka, kc, va, vc⟩, hq⟩ : ∃ q, qs[j] = q := ⟨_, rfl⟩
      rw [hq] at c0 c1 c2 c3 c4 c5 c6 c7 hf1 hf2 HT HSP
      simp only at c0 c1 c2 c3 c4 c5 c6 c7 hf1 hf2 HT HSP
      have h1 : (j : Int) < (qs.length : Int) := by omega
      clear hq
      by_cases hat : 0 < oat
      · have hw : IntKind.u64.wrap oat = oat := IntWalk.u64_in _ (by unfold Fit64 at hf1; omega)
        have hat' : decide (0 < oat) = true := by simpa using hat
        have HB := Lib.hid (begO_some (o := ⟨oat, org, oks, ovs⟩) hat)
        obtain ⟨m, hm⟩ : ∃ m, max org 0 = m := ⟨_, rfl⟩
        have hmf : Fit64 m := by unfold Fit64 at hf2 ⊢; omega
        have hat2 : FitU oat := by unfold FitU; unfold Fit64 at hf1; omega
        simp only [hm] at HB
        have hlen : ys.length < (begP (objs qs)).length := by
          have e1 := congrArg List.length HP.out
          have e2 := congrArg (fun l => (begP l).length) HSP.out
          simp only [begP, List.flatMap_append, List.flatMap_cons, List.length_append] at e2
          rw [begX_len] at e1
          rw [HB.out] at e2
          simp only [begP, List.length_cons, List.length_nil] at e1 e2 ⊢
          omega
        obtain ⟨fn, tmps, assign, body, hy, hR⟩ := hY ys ⟨(oat, m), hat2, hmf⟩ (wr.alloc (.cells #[.int .i64 oat, .int .i64 org, .bool oar, .int .i64 okd, .int .i64 oty, .int .i64 onn, .slice ka oks.length kc, .slice va ovs.length vc] 30)) (hJ ys wr _ none hJs (World.grownBy_alloc wr _ none) (fun r e => by cases e)) hlen
        dsimp only [encB1, encB2] at hy hR
        have hmx : (if org < 0 then (0 : Int) else org) = m := by rw [← hm]; by_cases h : org < 0 <;> simp [h] <;> omega
        clear hat hm hlen
        gi_wp2_with fail
        refine ⟨hdd _, hR.mono ?_⟩
        rintro e W3 (⟨rfl, hJ3, hk3⟩ | ⟨rfl, hJx3⟩)
        · gi_wp2
          go_roundw
          case rel => exact ⟨j + 1, ys ++ [⟨(oat, m), hat2, hmf⟩], by omega, by go_num, by show _ = _; rw [begX_append, begX_one, HT.out, begP_snoc, HB.out, HP.out], hJ3, (hk.alloc _).trans hk3⟩
          case measure => simp [intOf]; omega
        · gi_wp2
          refine bodyPost_ret (results_none rfl _ _ _) rfl ?_
          exact ⟨⟨_, rfl⟩, .inr ⟨_, trivial, hJx3⟩⟩
      · have hat' : decide (0 < oat) = false := by simpa using hat
        have HB := Lib.hid (begO_none (o := ⟨oat, org, oks, ovs⟩) hat)
        have hJ3 := hJ ys wr (wr.alloc (.cells #[.int .i64 oat, .int .i64 org, .bool oar, .int .i64 okd, .int .i64 oty, .int .i64 onn, .slice ka oks.length kc, .slice va ovs.length vc] 30)) none hJs (World.grownBy_alloc wr _ none) (fun r e => by cases e)
        clear hat hY
        gi_wp2_with fail
        refine ⟨fun f h => (by cases h), ?_⟩
        gi_wp2_with fail
        go_roundw
        case rel => exact ⟨j + 1, ys, by omega, by go_num, by show _ = _; rw [HT.out, begP_snoc, HB.out, HP.out, List.append_nil], hJ3, hk.alloc _⟩
        case measure => simp [intOf]; omega
    · obtain rfl : j = qs.length := by omega
      gi_wp2
      go_end0
      exact ⟨⟨_, rfl⟩, .inl ⟨ys, by have := HP.out; rwa [List.take_length] at this, hJs⟩⟩

/-- Where objects begin, handed on: all of it; or the first ones. -/
theorem begins18_stops (n S n₀ : Nat) (Z : List Nat) (a : Option Addr) (cap : Nat) (qs : List ObQ) (hfit : ∀ q ∈ qs, q.o.Fit) (v w : World) (hs : SlO v a qs) (hn₀ : v.heap.size ≤ n₀) (hZ : ∀ z ∈ Z, v.heap.size ≤ z)
    (hold : OldB v w) (hS : Row w S 22 [.slice a qs.length cap]) (hl : qs.length ≤ 1099511627776) :
    SeqStopsK Fence.wide n Tryd.prog 27 #[.pointer (some ⟨S, 0, none⟩)] (fun x : BegX => #[encB1 x, encB2 x]) (KeptC n₀ Z) (fun ys => begX ys = begP (objs qs)) (fun _ => True) (begP (objs qs)).length w := by
  intro l J Jx W hW hJ _ hY h0
  have hk : Kept [] w W := Kept.of_below hW
  exact begins18x_in n l S n₀ Z a cap qs hfit v hs hn₀ hZ J Jx W hJ hY (hold.kept hk (by simp)) (hS.kept hk (by simp)) hl h0
end Go.Proofs.YtionleocbjfgaaaDoor
