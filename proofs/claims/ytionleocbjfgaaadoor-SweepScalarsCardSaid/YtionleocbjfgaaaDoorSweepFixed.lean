/- kraallaw18: the chapter's example; Great. -/
import Derived.Test.YtionleocbjfgaaaDoorSweepComes
import Derived.Test.YtionleocbjfgaaaDoorSameRunZ
namespace Go.Proofs.YtionleocbjfgaaaDoor
open Go.RowKit

theorem run_eql_run (x y : Int) (w : World) : (binOp .eql 41 (.agg #[.int .i64 x, .int .i64 y]) (.agg #[.int .i64 x, .int .i64 y])).run Tryd.prog w = .ok (.bool true) w := by
  rw [run_eql_struct, run_equalIn_struct w 9999 _ _ _ (by kernel_rfl) (by kernel_rfl)]
  simp [Program.fieldsOf, Tryd.underlying41, Op.eqFields, part, isAgg, run_underlying Tryd.underlying3, run_equalIn_int _ 9998 3 .i64 .i64 _ _ Tryd.underlying3]
def exa0 (P : Nat) : ObQ := ⟨⟨3, 1, [1], [9]⟩, ⟨false, 0, 0, 0⟩, some ⟨P, 0, none⟩, 1, some ⟨P + 1, 0, none⟩, 1⟩
def exa1 : ObQ := ⟨⟨9, 2, [], []⟩, ⟨false, 0, 0, 0⟩, none, 0, none, 0⟩
theorem exa_fit (P : Nat) : ∀ q ∈ [exa0 P, exa1], q.o.Fit := by
  intro q hq
  simp only [List.mem_cons, List.not_mem_nil, or_false] at hq
  rcases hq with rfl | rfl
  · exact ⟨by simp [exa0, Fit64], by simp [exa0, Fit64], by simp [exa0, Fit64], by simp [exa0, FitU], by simp [exa0], by simp [exa0]⟩
  · exact ⟨by simp [exa1, Fit64], by simp [exa1, Fit64], by simp [exa1], by simp [exa1], by simp [exa1], by simp [exa1]⟩
theorem exa_out (P : Nat) : tlyP (outP (objs [exa0 P, exa1]) 1) = [(2, 1)] := by
  show tlyP (outP [⟨3, 1, [1], [9]⟩, ⟨9, 2, [], []⟩] 1) = [(2, 1)]
  decide +kernel
theorem exa_in (P : Nat) : (comP (objs [exa0 P, exa1]) []).count 2 = 1 := by
  show (comP [⟨3, 1, [1], [9]⟩, ⟨9, 2, [], []⟩] []).count 2 = 1
  decide +kernel
theorem exa_len (P : Nat) : (ptrP (objs [exa0 P, exa1])).length = 1 := by
  show (ptrP [⟨3, 1, [1], [9]⟩, ⟨9, 2, [], []⟩]).length = 1
  decide +kernel

set_option maxRecDepth 100000 in
set_option maxHeartbeats 4000000 in
theorem fixed18_any (w : World) (hT : Tab w) : Calls Tryd.prog 6 #[] w (FixedPost w) := by
  have heq := run_eql_run
  go_enter Tryd.func6, Tryd.ntmps6
  go_wp2_with fail
  obtain ⟨W0, hW0, hz, k0, q0, q1, q2⟩ := three_new w (.cells #[.int .i64 1] 3) (.cells #[.int .u64 9] 36) (.cells #[.int .i64 3, .int .i64 1, .bool false, .int .i64 0, .int .i64 0, .int .i64 0, .slice (some ⟨w.heap.size, 0, none⟩) 1 1, .slice (some ⟨w.heap.size + 1, 0, none⟩) 1 1, .int .i64 9, .int .i64 2, .bool false, .int .i64 0, .int .i64 0, .int .i64 0, .slice none 0 0, .slice none 0 0] 30)
  have p0 : Row W0 w.heap.size 3 ([(1 : Int)].map (Value.int .i64)) := q0
  have p1 : Row W0 (w.heap.size + 1) 36 ([(9 : Int)].map (Value.int .u64)) := q1
  have p2 : Row W0 (w.heap.size + 2) 30 ((exa0 w.heap.size).cells ++ exa1.cells) := q2
  simp only [Nat.add_assoc, Nat.reduceAdd]
  rw [hW0]
  have hT0 := hT.kept k0
  have hs : SlO W0 (some ⟨w.heap.size + 2, 0, none⟩) [exa0 w.heap.size, exa1] := by
    refine ⟨.inr ⟨_, 0, rfl, p2.lt, fun j x hx i hi => ?_⟩, fun q hq => ?_⟩
    · rw [p2.cell]
      match j, hx with
      | 0, hx =>
        obtain rfl : exa0 w.heap.size = x := by simpa using hx
        simp only [Nat.zero_add, Nat.zero_mul]
        rw [List.getElem?_append_left (by rw [ObQ.cells_length]; exact hi)]
      | 1, hx =>
        obtain rfl : exa1 = x := by simpa using hx
        simp only [Nat.zero_add, Nat.one_mul]
        rw [List.getElem?_append_right (by rw [ObQ.cells_length]; omega), ObQ.cells_length, Nat.add_sub_cancel_left]
      | j + 2, hx => simp at hx
    · simp only [List.mem_cons, List.not_mem_nil, or_false] at hq
      rcases hq with rfl | rfl
      · exact ⟨Sl.of_row p0, Sl.of_row p1⟩
      · exact ⟨.inl rfl, .inl rfl⟩
  obtain ⟨P, hP⟩ : ∃ P, w.heap.size = P := ⟨_, rfl⟩
  rw [hP] at hs ⊢
  have hlen := exa_len P
  clear p0 p1 p2 q0 q1 q2 hW0 hz hP
  have HOUT := Lib.hid (outgoing18_any (some ⟨P + 2, 0, none⟩) 2 [exa0 P, exa1] 1 (exa_fit P) W0 hs hT0 (by simp) (by rw [hlen]; omega))
  rw [exa_out] at HOUT
  have HIN := Lib.hid (fun W (hk : Kept [] W0 W) => incoming18_any (some ⟨P + 2, 0, none⟩) 2 [exa0 P, exa1] none 0 [] 2 (by unfold Fit64; omega) (exa_fit P) (by simp) W (hs.kept hk) (.inl rfl) (hT0.kept hk) (by simp) (by rw [hlen]; simp))
  rw [exa_in] at HIN
  clear hs hT0 hlen
  refine HOUT.out.mono ?_
  rintro e w1 ⟨G, c, rfl, _, hsl, k1⟩
  have HI := Lib.hid (HIN.out w1 k1)
  obtain ⟨b1, off1, hb1, _, c0, c1⟩ := hsl.cellZ (j := 0) (by simp)
  cases hb1
  simp only [List.getElem_cons_zero, Nat.zero_mul, Nat.add_zero] at c0 c1
  go_wp2_with fail
  refine HI.out.mono ?_
  rintro e w2 ⟨rfl, k2⟩
  go_wp2
  go_ret
  exact ⟨rfl, (k0.trans k1).trans k2⟩

/-- More than are gone through. -/
def greatQ (qs : List ObQ) : Bool := qs.any (fun q => decide (40 < q.o.ks.length) || decide (40 < q.o.vs.length)) || decide (60 < qs.length)

set_option maxRecDepth 100000 in
set_option maxHeartbeats 4000000 in
theorem great18_any (a : Option Addr) (cap : Nat) (qs : List ObQ) (w : World) (hs : SlO w a qs) (hl : qs.length ≤ maxLen) :
    Calls Tryd.prog 5 #[.slice a qs.length cap] w fun e w' => e = .returned (.bool (greatQ qs)) ∧ Kept [] w w' := by
  unfold maxLen at hl
  go_enter Tryd.func5, Tryd.ntmps5
  go_wp2_with fail
  go_loopw [7] (fun i wr => ∃ j : Nat, j ≤ qs.length ∧ i = .int .i64 j ∧ Hid (greatQ qs = ((qs.drop j).any (fun q => decide (40 < q.o.ks.length) || decide (40 < q.o.vs.length)) || decide (60 < qs.length))) ∧ Kept [] w wr) (fun i _ => qs.length - (intOf i).toNat)
  case atStart => exact ⟨0, Nat.zero_le _, rfl, rfl, Kept.refl _ _⟩
  case round =>
    obtain ⟨j, hj, rfl, HG, hkr⟩ := hrel
    by_cases hlt : j < qs.length
    · obtain ⟨b, off, rfl, _, c0, c1, c2, c3, c4, c5, c6, c7⟩ := (hs.kept hkr).1.obj hlt
      have HD := Lib.hid (List.drop_eq_getElem_cons hlt)
      obtain ⟨⟨⟨oat, org, oks, ovs⟩, ⟨oar, okd, oty, onn⟩, ka, kc, va, vc⟩, hq⟩ : ∃ q, qs[j] = q := ⟨_, rfl⟩
      rw [hq] at c0 c1 c2 c3 c4 c5 c6 c7 HD
      simp only at c0 c1 c2 c3 c4 c5 c6 c7
      have h1 : (j : Int) < (qs.length : Int) := by omega
      have HG2 : Hid (greatQ qs = (((decide (40 < oks.length) || decide (40 < ovs.length)) || (qs.drop (j + 1)).any (fun q => decide (40 < q.o.ks.length) || decide (40 < q.o.vs.length))) || decide (60 < qs.length))) := by
        show _ = _; rw [HG.out, HD.out, List.any_cons]
      have kA := hkr.alloc (.cells #[.int .i64 oat, .int .i64 org, .bool oar, .int .i64 okd, .int .i64 oty, .int .i64 onn, .slice ka oks.length kc, .slice va ovs.length vc] 30)
      clear hq HG HD
      by_cases hk : 40 < oks.length
      · have hk' : decide ((40 : Int) < (oks.length : Int)) = true := by simp; omega
        have HR : Hid (greatQ qs = true) := by show _ = _; rw [HG2.out]; simp [hk]
        clear hk HG2
        go_wp2_with fail
        go_ret
        rw [HR.out]
        exact ⟨rfl, kA⟩
      · have hk' : decide ((40 : Int) < (oks.length : Int)) = false := by simp; omega
        by_cases hv : 40 < ovs.length
        · have hv' : decide ((40 : Int) < (ovs.length : Int)) = true := by simp; omega
          have HR : Hid (greatQ qs = true) := by show _ = _; rw [HG2.out]; simp [hv]
          clear hk hv HG2
          go_wp2_with fail
          go_ret
          rw [HR.out]
          exact ⟨rfl, kA⟩
        · have hv' : decide ((40 : Int) < (ovs.length : Int)) = false := by simp; omega
          have HR : Hid (greatQ qs = ((qs.drop (j + 1)).any (fun q => decide (40 < q.o.ks.length) || decide (40 < q.o.vs.length)) || decide (60 < qs.length))) := by show _ = _; rw [HG2.out]; simp [hk, hv]
          clear hk hv HG2
          go_wp2_with fail
          go_roundw
          case rel => exact ⟨j + 1, by omega, by go_num, HR, kA⟩
          case measure => simp [intOf]; omega
    · obtain rfl : j = qs.length := by omega
      have HR : Hid (greatQ qs = decide ((60 : Int) < (qs.length : Int))) := by show _ = _; rw [HG.out, List.drop_length]; simp only [List.any_nil, Bool.false_or]; rw [Bool.eq_iff_iff, decide_eq_true_eq, decide_eq_true_eq]; omega
      go_wp2_with fail
      go_ret
      rw [HR.out]
      exact ⟨rfl, hkr⟩
theorem greatQ_no {qs : List ObQ} (h : greatQ qs = false) : qs.length ≤ 60 ∧ ∀ q ∈ qs, q.o.ks.length ≤ 40 ∧ q.o.vs.length ≤ 40 := by
  unfold greatQ at h
  rw [Bool.or_eq_false_iff] at h
  obtain ⟨h1, h2⟩ := h
  refine ⟨by simpa using h2, fun q hq => ?_⟩
  have := List.any_eq_false.1 h1 q hq
  simpa using this
end Go.Proofs.YtionleocbjfgaaaDoor
