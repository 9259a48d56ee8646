/- Package ops: the operation of 25 bytes; slices.Chunk's pieces of 25 bytes, handed on one by one. -/
import Derived.Test.YtpeekhlccjoioaaOpsNum
import Derived.Test.YtpeekhlccjoioaaQuiet
import Derived.Test.YtpeekhlccjoioaaRet
import Derived.Test.YtpeekhlccjoioaaSeq
import Derived.Test.YtpeekhlccjoioaaRegionPick
import Derived.Test.YtpeekhlccjoioaaKeptC
namespace Go.Proofs.Ytpeekhlccjoioaa
open Go.RowKit Go.Shelf

attribute [local go_sem] Oper.semAt_some
attribute [local simp] wide_fn
attribute [local go_sem] wide_fn

theorem Sl.from {w : World} {k : IntKind} {b off : Nat} {xs : List Int} (h : Sl w k (some ⟨b, off, none⟩) xs) (n : Nat) : Sl w k (some ⟨b, off + n, none⟩) (xs.drop n) := by
  rcases h with rfl | ⟨b', off', e, hb, hc⟩
  · exact .inl (by simp)
  · cases e
    refine .inr ⟨b, off + n, rfl, hb, fun j hj => ?_⟩
    have hj' : n + j < xs.length := by simp at hj; omega
    rw [Nat.add_assoc, hc (n + j) hj', List.getElem?_drop]

theorem opR_at0 (bs : List Int) (h : bs ≠ []) : ∃ x, bs[0]? = some x := by
  cases bs with
  | nil => exact absurd rfl h
  | cons x l => exact ⟨x, rfl⟩

set_option maxRecDepth 100000 in
set_option maxHeartbeats 2000000 in
theorem opOf_any (b off : Nat) (bs : List Int) (w : World) (hb : ByB bs) (hl : bs.length = 25) (hs : Sl w .u8 (some ⟨b, off, none⟩) bs) :
    Calls Try.prog 16 #[.slice (some ⟨b, off, none⟩) 25 25] w fun e w' => e = .returned (.agg (opC (opR bs 0)).toArray) ∧ Kept [] w w' := by
  obtain ⟨x, hx⟩ := opR_at0 bs (by intro h; rw [h] at hl; cases hl)
  have hxb := hb x (List.mem_of_getElem? hx)
  obtain ⟨b', off', he, hc⟩ := hs.cell (j := 0) (by omega)
  cases he
  rw [hx, Option.getD_some, Nat.add_zero] at hc
  have hbl : b < w.heap.size := by
    rcases hs with h | ⟨b', off', e, h, _⟩
    · rw [h] at hl; cases hl
    · cases e; exact h
  have hwx : IntKind.i64.wrap x = x := IntWalk.i64_in _ (by omega)
  have hn := fun q W (h : q + 8 ≤ 25) (hk : Kept [] w W) => opsNumber_any b (off + q) (25 - q) (25 - q) (bs.drop q) W (fun y hy => hb y (List.mem_of_mem_drop hy)) (by simp; omega) (by simp; omega) ((hs.kept hk).from q)
  have hn1 := fun W (hk : Kept [] w W) => hn 1 W (by omega) hk
  have hn2 := fun W (hk : Kept [] w W) => hn 9 W (by omega) hk
  have hn3 := fun W (hk : Kept [] w W) => hn 17 W (by omega) hk
  have HR : Hid (opR bs 0 = ⟨x, valB ((bs.drop 1).take 8), valB ((bs.drop 9).take 8), valB ((bs.drop 17).take 8)⟩) := by show _ = _; unfold opR; rw [hx]; rfl
  generalize valB ((bs.drop 1).take 8) = va at hn1 HR
  generalize valB ((bs.drop 9).take 8) = vb at hn2 HR
  generalize valB ((bs.drop 17).take 8) = vc at hn3 HR
  rw [HR.out]
  simp only [Nat.reduceSub] at hn1 hn2 hn3
  have HN1 := Lib.hid hn1
  have HN2 := Lib.hid hn2
  have HN3 := Lib.hid hn3
  have HOLD : Hid (∀ W', Kept [] w W' → W'.cell? ⟨b, off, none⟩ = some (.int .u8 x)) := fun W' hk => (World.cell?_of_block (w := w) (a := ⟨b, off, none⟩) (hk.block b hbl (by simp))).trans hc
  clear hn hn1 hn2 hn3
  have rR := Row.new w 39 [.int .i64 0, .int .u64 0, .int .u64 0, .int .u64 0]
  have kR := (Kept.refl [] w).alloc (.cells #[.int .i64 0, .int .u64 0, .int .u64 0, .int .u64 0] 39)
  obtain ⟨R, hR⟩ : ∃ R, w.heap.size = R := ⟨_, rfl⟩
  rw [hR] at rR
  go_enter Try.func16, Try.ntmps16
  go_wp2_with fail
  generalize w.alloc (.cells #[.int .i64 0, .int .u64 0, .int .u64 0, .int .u64 0] 39) = W at rR kR ⊢
  refine wp_region_pick (fun W' => W'.cell? ⟨b, off, none⟩ = some (.int .u8 x)) (by kernel_rfl) (HOLD.out _ kR.drew) ?_
  have kc := kR.drew
  have rc := rR.drew
  generalize W.drew = wd at kc rc ⊢
  simp only [numbered, List.length_cons, List.length_nil, Nat.reduceAdd]
  repeat (first
    | (refine pick_take0 (v := ?_) rfl (by decide +kernel) (fun _ _ _ h => h) (by rfl) ?_ ?_; rotate_left; (intro w hSw; (try dsimp only at hSw); go_simp; try with_reducible rfl); go_frame)
    | (refine pick_take1 (v := ?_) rfl (by decide +kernel) (fun _ _ _ h => h) (by rfl) ?_ ?_; rotate_left; (intro w hSw; (try dsimp only at hSw); go_simp; try with_reducible rfl); go_frame)
    | (refine pick_take2 (v := ?_) rfl (by decide +kernel) (fun _ _ _ h => h) (by rfl) ?_ ?_; rotate_left; (intro w hSw; (try dsimp only at hSw); go_simp; try with_reducible rfl); go_frame))
  refine pick_call (by decide +kernel) (by rfl) (fun K hK => ?_)
  go_simp
  go_at_call 21
  with_reducible refine (HN1.out wd kc).mono ?_
  rintro e v1 ⟨rfl, rfl⟩
  refine hK _ _ (HOLD.out _ kc) ?_
  clear hK K
  refine pick_call (by decide +kernel) (by rfl) (fun K hK => ?_)
  go_simp
  go_at_call 21
  with_reducible refine (HN2.out wd kc).mono ?_
  rintro e v1 ⟨rfl, rfl⟩
  refine hK _ _ (HOLD.out _ kc) ?_
  clear hK K
  refine pick_call (by decide +kernel) (by rfl) (fun K hK => ?_)
  go_simp
  go_at_call 21
  with_reducible refine (HN3.out wd kc).mono ?_
  rintro e v1 ⟨rfl, rfl⟩
  refine hK _ _ (HOLD.out _ kc) ?_
  clear hK K
  (refine pick_take0 (v := ?_) rfl (by decide +kernel) (fun _ _ _ h => h) (by rfl) ?_ ?_; rotate_left; (intro w hSw; (try dsimp only at hSw); go_simp; try with_reducible rfl); go_frame)
  have f0 := rc.free 0
  have f1 := rc.free 1
  have f2 := rc.free 2
  have f3 := rc.free 3
  have e0 := rc.cell 0
  have e1 := rc.cell 1
  have e2 := rc.cell 2
  have e3 := rc.cell 3
  simp only [List.getElem?_cons_zero, List.getElem?_cons_succ] at e0 e1 e2 e3
  have rS := rc.set4 (.int .i64 x) (.int .u64 va) (.int .u64 vb) (.int .u64 vc)
  have kS : Kept [] w _ := kc.set4 (g := R) (.inr (by omega)) (.int .i64 x) (.int .u64 va) (.int .u64 vb) (.int .u64 vc)
  refine pick_call (by decide +kernel) (by rfl) (fun K hK => ?_)
  go_simp
  refine hK _ _ (HOLD.out _ kS) ?_
  clear hK K
  refine pick_done (by decide +kernel) ?_
  clear e0 e1 e2 e3 f0 f1 f2 f3 rc kc
  generalize (((wd.setCell ⟨R, 0, none⟩ (.int .i64 x)).setCell ⟨R, 1, none⟩ (.int .u64 va)).setCell ⟨R, 2, none⟩ (.int .u64 vb)).setCell ⟨R, 3, none⟩ (.int .u64 vc) = wz at rS kS ⊢
  go_wp2
  refine bodyPost_ret (results_cell1 rfl rfl (Row.load rS Try.underlying39 rfl rfl)) rfl ?_
  exact ⟨rfl, kS⟩

/-- A piece's number. -/
abbrev PcI (k : Nat) := { i : Nat // i < k }
def pcV (b off : Nat) (k : Nat) (x : PcI k) : Value := .slice (some ⟨b, off + 25 * x.1, none⟩) 25 25

theorem chunk_in (F : Fence) (n : Nat) (h : F.fn 15) (hro : F.round = none) (A : Option Addr) (l c : Nat) (w : World) :
    CallsIn F n Try.prog 15 #[.slice A l c, .int .i64 25] w fun e w' => e = .returned (.func (.func 20) #[] #[.pointer (some ⟨w.heap.size, 0, none⟩), .pointer (some ⟨w.heap.size + 1, 0, none⟩)]) ∧
      w' = (w.alloc (.cells #[.slice A l c] 24)).alloc (.cells #[.int .i64 25] 3) := by
  refine callsIn_of_wp Try.func15 rfl h ?_ hro
  simp only [Try.ntmps15, List.size_toArray, List.length_cons, List.length_nil, Nat.reduceAdd, Nat.reduceSub, Array.replicate_succ, Array.replicate_zero, List.push_toArray, List.append_toArray, List.nil_append, List.cons_append]
  gi_wp2
  go_ret
  exact ⟨rfl, rfl⟩

set_option maxRecDepth 100000 in
set_option maxHeartbeats 2000000 in
theorem chunk1_in (n : Nat) (l S C b off k c : Nat) (A : Option Addr) (hA : 0 < k → A = some ⟨b, off, none⟩) (hk : k ≤ 1000000) (hc : 25 * k ≤ c) (hcm : c ≤ maxLen)
    (J Jx : List (PcI k) → World → Prop) (W : World) (hJ : AbidesFrom W.heap.size J)
    (hY : ∀ pre x W, J pre W → pre.length < k → YieldAt Fence.wide (n - 1) Try.prog l #[pcV b off k x] W fun e W' =>
      (e = .returned (.bool true) ∧ J (pre ++ [x]) W' ∧ KeepsL [S, C] W W') ∨ (e = .returned (.bool false) ∧ Jx (pre ++ [x]) W'))
    (hS : Row W S 24 [.slice A (25 * k) c]) (hC : Row W C 3 [.int .i64 25]) (hJ0 : J [] W) :
    CallsIn Fence.wide n Try.prog 20 #[.func (.yield l) #[] #[], .pointer (some ⟨S, 0, none⟩), .pointer (some ⟨C, 0, none⟩)] W fun e W' => (∃ v, e = .returned v) ∧
      ((∃ ys : List (PcI k), ys.map (·.1) = List.range k ∧ J ys W') ∨ (∃ pre, True ∧ Jx pre W')) := by
  have hdd : ∀ k : Nat, ((Fence.wide).depth.isSome = true → 1 ≤ k) := fun k h => by cases h
  unfold maxLen at hcm
  refine callsIn_of_wp Try.func20 rfl trivial ?_ rfl
  simp only [Try.ntmps20, List.size_toArray, List.length_cons, List.length_nil, Nat.reduceAdd, Nat.reduceSub, Array.replicate_succ, Array.replicate_zero, List.push_toArray, List.append_toArray, List.nil_append, List.cons_append]
  gi_wp2
  gi_loopw [4] (fun i wr => ∃ (j : Nat) (ys : List (PcI k)), j ≤ k ∧ i = .int .i64 ((25 * j : Nat) : Int) ∧ Hid (ys.map (·.1) = List.range j) ∧ J ys wr ∧ KeepsL [S, C] W wr)
    (fun i _ => 25 * k - (intOf i).toNat)
  case atStart => exact ⟨0, [], Nat.zero_le _, rfl, rfl, hJ0, KeepsL.refl⟩
  case round =>
    obtain ⟨j, ys, hj, rfl, HY, hJs, hkk⟩ := hrel
    have hSr := hkk.row (by simp) hS
    have hCr := hkk.row (by simp) hC
    have cS : wr.cell? ⟨S, 0, none⟩ = some (.slice A (25 * k) c) := by simpa using hSr.cell 0
    have cC : wr.cell? ⟨C, 0, none⟩ = some (.int .i64 25) := by simpa using hCr.cell 0
    by_cases hlt : j < k
    · obtain rfl := hA (by omega)
      have hlen : ys.length < k := by
        have := congrArg List.length HY.out
        simp at this; omega
      obtain ⟨d, rfl⟩ : ∃ d, k = j + 1 + d := ⟨k - (j + 1), by omega⟩
      obtain ⟨m, hm⟩ : ∃ m, 25 * j = m := ⟨_, rfl⟩
      obtain ⟨L, hL⟩ : ∃ L, 25 * (j + 1 + d) = L := ⟨_, rfl⟩
      rw [hm]
      rw [hL] at cS hc
      obtain ⟨Z, hZ⟩ : ∃ Z, L - m = Z := ⟨_, rfl⟩
      have hZ2 : 25 ≤ Z := by omega
      have hZ3 : decide ((25 : Int) ≤ (Z : Int)) = true := by simp; omega
      have hML : m + 25 ≤ L := by omega
      have hLb : L < 9223372036854775807 := by omega
      have HM := Lib.hid hm
      have HL := Lib.hid hL
      clear hm hL
      gi_wp2
      gi_quiet (fail)
      have hJn := hJ ys wr (wr.drewN nq) none hJs (grown_drewN wr nq) (fun r e => by cases e)
      have hkn := hkk.drewN nq
      clear cS cC hSr hCr hJs
      generalize wr.drewN nq = wn at hJn hkn ⊢
      have cS : wn.cell? ⟨S, 0, none⟩ = some (.slice (some ⟨b, off, none⟩) L c) := by rw [← HL.out]; simpa using (hkn.row (by simp) hS).cell 0
      obtain ⟨fn, tmps, assign, body, hy, hR⟩ := hY ys ⟨j, hlt⟩ wn hJn hlen
      dsimp only [pcV] at hy hR
      rw [HM.out] at hy
      have hsb : m + 25 - m = 25 := by omega
      have hcc : m + 25 ≤ c := by omega
      gi_wp2
      refine ⟨hdd _, hR.mono ?_⟩
      rintro e W3 (⟨rfl, hJ3, hk3⟩ | ⟨rfl, hJx3⟩)
      · have hk4 := hkn.trans hk3
        have cC : W3.cell? ⟨C, 0, none⟩ = some (.int .i64 25) := by simpa using (hk4.row (by simp) hC).cell 0
        gi_wp2
        go_roundw
        case rel => exact ⟨j + 1, ys ++ [⟨j, hlt⟩], by omega, by have := HM.out; congr 1; omega, by show _ = _; rw [List.map_append, HY.out, List.range_succ]; rfl, hJ3, hk4⟩
        case measure => have := HM.out; have := HL.out; simp [intOf]; omega
      · gi_wp2
        refine bodyPost_ret (results_none rfl _ _ _) rfl ?_
        exact ⟨⟨_, rfl⟩, .inr ⟨_, trivial, hJx3⟩⟩
    · obtain rfl : j = k := by omega
      gi_wp2
      go_end0
      exact ⟨⟨_, rfl⟩, .inl ⟨_, HY.out, hJs⟩⟩

/-- The pieces, handed on: all of them, in order. -/
theorem chunk1_stops (n : Nat) (S C b off k c : Nat) (A : Option Addr) (hA : 0 < k → A = some ⟨b, off, none⟩) (hk : k ≤ 1000000) (hc : 25 * k ≤ c) (hcm : c ≤ maxLen) (w : World)
    (hS : Row w S 24 [.slice A (25 * k) c]) (hC : Row w C 3 [.int .i64 25]) :
    SeqStopsK Fence.wide n Try.prog 20 #[.pointer (some ⟨S, 0, none⟩), .pointer (some ⟨C, 0, none⟩)] (fun x : PcI k => #[pcV b off k x]) (KeepsL [S, C]) (fun ys => ys.map (·.1) = List.range k) (fun _ => True) k w := by
  intro l J Jx W hW hJ _ hY h0
  have hL : ∀ k ∈ [S, C], k < w.heap.size := by
    have := hS.lt; have := hC.lt
    intro k hk; simp at hk; omega
  have hk' : KeepsL [S, C] w W := KeepsL.of_below hW hL
  exact chunk1_in n l S C b off k c A hA hk hc hcm J Jx W hJ hY (hk'.row (by simp) hS) (hk'.row (by simp) hC) h0
end Go.Proofs.Ytpeekhlccjoioaa
