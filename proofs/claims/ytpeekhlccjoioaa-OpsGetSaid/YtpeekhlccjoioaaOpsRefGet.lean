/- Package kraalref21: Same, read, Get. -/
import Derived.Test.YtpeekhlccjoioaaOpsRef
import Derived.Laws.StructEq
import Derived.OwnWalk
namespace Go.Proofs.Ytpeekhlccjoioaa
open Go.RowKit

/-- Equal operations are not unlike. -/
theorem run_neq_op (k : Int) (a b c : Nat) (w : World) : (binOp .neq 39 (.agg #[.int .i64 k, .int .u64 a, .int .u64 b, .int .u64 c]) (.agg #[.int .i64 k, .int .u64 a, .int .u64 b, .int .u64 c])).run Try.prog w = .ok (.bool false) w := by
  rw [run_neq_struct, run_equalIn_struct w 9999 _ _ _ (by kernel_rfl) (by kernel_rfl)]
  simp [Program.fieldsOf, Try.underlying39, Op.eqFields, part, isAgg, run_underlying Try.underlying3, run_equalIn_int _ 9998 3 .i64 .i64 _ _ Try.underlying3, run_underlying Try.underlying37, run_equalIn_int _ 9998 37 .u64 .u64 _ _ Try.underlying37]
theorem run_guard_op (x y : Operand) (k : Int) (a b c : Nat) (w : World) : (eqGuard .neq 39 x y (.agg #[.int .i64 k, .int .u64 a, .int .u64 b, .int .u64 c]) (.agg #[.int .i64 k, .int .u64 a, .int .u64 b, .int .u64 c])).run Try.prog w = .ok () w :=
  run_eqGuard_agg w .neq _ x y _ _ (by kernel_rfl)

set_option maxRecDepth 100000 in
set_option maxHeartbeats 2000000 in
/-- Two slices of the same operations. -/
theorem refSame21_yes (A B : Option Addr) (n m ca cb : Nat) (xs : List OpN) (w : World) (ha : SlS opC 4 w A xs) (hb : SlS opC 4 w B xs) (hn : xs.length = n) (hm : xs.length = m) (hx : n ≤ 1000000) :
    Calls Try.prog 9 #[.slice A n ca, .slice B m cb] w (FixedPost w) := by
  subst hn
  subst hm
  go_enter Try.func9, Try.ntmps9
  go_wp2_with fail
  go_loopw [5] (fun i wr => ∃ j : Nat, j ≤ xs.length ∧ i = .int .i64 j ∧ Kept [] w wr) (fun i _ => xs.length - (intOf i).toNat)
  case atStart => exact ⟨0, Nat.zero_le _, rfl, Kept.refl _ _⟩
  case round =>
    obtain ⟨j, hj, rfl, hkr⟩ := hrel
    by_cases hlt : j < xs.length
    · obtain ⟨b, off, rfl, _, hcA⟩ := (ha.kept hkr).cell hlt
      obtain ⟨b', off', rfl, _, hcB⟩ := (hb.kept hkr).cell hlt
      generalize xs[j] = y at hcA hcB
      obtain ⟨yk, ya, yb, yc⟩ := y
      have a0 : wr.cell? ⟨b, off + j * 4, none⟩ = some (.int .i64 yk) := hcA 0 (by omega)
      have a1 : wr.cell? ⟨b, off + j * 4 + 1, none⟩ = some (.int .u64 ya) := hcA 1 (by omega)
      have a2 : wr.cell? ⟨b, off + j * 4 + 2, none⟩ = some (.int .u64 yb) := hcA 2 (by omega)
      have a3 : wr.cell? ⟨b, off + j * 4 + 3, none⟩ = some (.int .u64 yc) := hcA 3 (by omega)
      have b0 : wr.cell? ⟨b', off' + j * 4, none⟩ = some (.int .i64 yk) := hcB 0 (by omega)
      have b1 : wr.cell? ⟨b', off' + j * 4 + 1, none⟩ = some (.int .u64 ya) := hcB 1 (by omega)
      have b2 : wr.cell? ⟨b', off' + j * 4 + 2, none⟩ = some (.int .u64 yb) := hcB 2 (by omega)
      have b3 : wr.cell? ⟨b', off' + j * 4 + 3, none⟩ = some (.int .u64 yc) := hcB 3 (by omega)
      clear hcA hcB
      have h1 : (j : Int) < (xs.length : Int) := by omega
      have hne := run_neq_op yk ya yb yc
      have hgu := fun x y => run_guard_op x y yk ya yb yc
      go_wp2_with fail
      go_quiet (fail)
      go_wp2
      go_roundw
      case rel => exact ⟨j + 1, by omega, by go_num, hkr.drewN _⟩
      case measure => simp [intOf]; omega
    · obtain rfl : j = xs.length := by omega
      go_wp2
      go_ret
      exact ⟨rfl, hkr⟩

/-- A string's byte. -/
theorem run_str_at {P : Program} (w : World) (t : TypeId) (bs : List Int) (hb : ByB bs) (p : Int) (q : Nat) (hp : p = (q : Int)) (hq : q < bs.length) (ht : P.underlying t = some .string) :
    (Instr.index t (.string (strOfNums bs)) (.int .i64 p)).run P w = .ok (.int .u8 (bs[q]?.getD 0)) w := by
  subst hp
  have h := hb bs[q] (List.getElem_mem hq)
  rw [run_index_string w t _ _ _ ht, dif_pos (by rw [strOfNums_size]; omega)]
  have e : ((strOfNums bs)[(q : Int).toNat]'(by rw [strOfNums_size]; simpa using hq)).toNat = bs[q].toNat := by
    show ((bs.map fun n => UInt8.ofNat n.toNat).toArray[q]'(by simpa using hq)).toNat = _
    simp; omega
  rw [List.getElem?_eq_getElem hq, Option.getD_some]
  congr 3
  rw [e]
  exact Int.toNat_of_nonneg h.1

theorem valB_top (bs : List Int) (q j : Nat) (_hj : j < 8) (hq : q + 8 ≤ bs.length) : valB ((bs.drop (q + j)).take (8 - j)) = 256 * valB ((bs.drop (q + (j + 1))).take (8 - (j + 1))) + (bs[q + j]?.getD 0).toNat := by
  rw [List.drop_eq_getElem_cons (by omega), show 8 - j = (8 - (j + 1)) + 1 by omega, List.take_succ_cons, List.getElem?_eq_getElem (by omega), Option.getD_some]
  simp only [valB]
  rw [Nat.add_comm]; rfl

set_option maxRecDepth 100000 in
set_option maxHeartbeats 1000000 in
theorem refRead21_any (bs : List Int) (q : Nat) (w : World) (hb : ByB bs) (hq : q + 8 ≤ bs.length) (hm : bs.length ≤ 1000000) :
    Calls Try.prog 17 #[.string (strOfNums bs), .int .i64 q] w fun e w' => e = .returned (.int .u64 (valB ((bs.drop q).take 8))) ∧ w = w' := by
  go_enter Try.func17, Try.ntmps17
  go_wp2
  go_loop [5, 6] (fun n i => ∃ j : Nat, j ≤ 8 ∧ i = .int .i64 ((j : Int) - 1) ∧ n = .int .u64 (valB ((bs.drop (q + j)).take (8 - j)))) (fun n i => (intOf i + 1).toNat)
  case atStart => exact ⟨8, by omega, rfl, by simp [valB]⟩
  case round =>
    obtain ⟨j, hj, rfl, rfl⟩ := hrel
    rcases Nat.eq_zero_or_pos j with rfl | hpos
    · go_wp2
      go_ret
      exact ⟨by simp, rfl⟩
    · obtain ⟨i, rfl⟩ : ∃ i, j = i + 1 := ⟨j - 1, by omega⟩
      have hv := valB_top bs q i (by omega) hq
      have hat := fun w => run_str_at (P := Try.prog) w 9 bs hb ((q : Int) + (i : Int)) (q + i) (by omega) (by omega) Try.underlying9
      have hx := hb (bs[q + i]'(by omega)) (List.getElem_mem _)
      rw [List.getElem?_eq_getElem (by omega), Option.getD_some] at hv hat
      generalize bs[q + i]'(by omega) = x at hv hat hx
      have h8 := valB_lt ((bs.drop (q + (i + 1))).take (8 - (i + 1))) (fun y hy => hb y (List.mem_of_mem_drop (List.mem_of_mem_take hy)))
      have hl : ((bs.drop (q + (i + 1))).take (8 - (i + 1))).length = 7 - i := by simp; omega
      rw [hl] at h8
      have p1 : (256 : Nat) ^ (7 - i) ≤ 256 ^ 7 := Nat.pow_le_pow_right (by omega) (by omega)
      have p7 : (256 : Nat) ^ 7 = 72057594037927936 := by decide
      obtain ⟨N, hN⟩ : ∃ N, valB ((bs.drop (q + (i + 1))).take (8 - (i + 1))) = N := ⟨_, rfl⟩
      rw [hN] at hv h8 ⊢
      have h9 : N < 72057594037927936 := by omega
      have e0 : (((i + 1 : Nat) : Int) - 1) = (i : Int) := by omega
      rw [e0]
      have e1 : IntKind.u64.wrap (256 * (N : Int)) = 256 * (N : Int) := by rw [IntKind.wrap_u64]; omega
      have e2 : IntKind.u64.wrap x = x := by rw [IntKind.wrap_u64]; omega
      have e3 : IntKind.u64.wrap (256 * (N : Int) + x) = 256 * (N : Int) + x := by rw [IntKind.wrap_u64]; omega
      have HV : Hid (256 * (N : Int) + x = (valB ((bs.drop (q + i)).take (8 - i)) : Nat)) := by show _ = _; rw [hv]; omega
      clear hv p1 p7 h8 hl hN e0
      go_wp2
      go_round
      case rel => exact ⟨i, by omega, rfl, congrArg (Value.int IntKind.u64) HV.out⟩
      case measure => simp [intOf]

/-- append of one thing of several cells, as one step of a region. -/
theorem wp_append_z {α : Type} {c : α → List Value} {k : Nat} {e : TypeId} {P : Program} {w : World} {o : Oper} {a : Act} {K : Act → World → Prop} {Q : Exit → Act → World → Prop} (s x : Operand) (t : TypeId)
    (ho : o.op = .call { callee := .builtin .append, args := #[s, x], argTypes := #[t, t] }) (B : Nat) (i : TypeInfo) (z : Value) (bytes : Nat) (ht : P.underlying t = some (.slice e)) (hi : P.info? e = some i) (hz : i.zero = some z)
    (hsize : i.size = k) (hby : i.bytes = bytes) (hzs : z.cells.size = k) (hk0 : 0 < k) (hb : bytes ≤ 96) (v : Value) (xs : List α) (y : α) (hc : (c y).length = k) (h1 : ∀ u ∈ c y, u.oneCell' = true)
    (hs : a.eval s = v) (E : Nat) (hx : a.eval x = .slice (some ⟨E, 0, none⟩) 1 1) (rE : Row w E e (c y)) (hown : OwnS e c k w B v xs) (hB : B ≤ w.heap.size) (hl : xs.length ≤ 1099511627776)
    (h : ∀ g' c' w', OwnS e c k w' B (.slice (some ⟨g', 0, none⟩) (xs.length + 1) c') (xs ++ [y]) → Kept (v.ownBlock.toList) w w' → (v.ownBlock = some g' ∨ w.heap.size ≤ g') → K (a.put o.dst (.slice (some ⟨g', 0, none⟩) (xs.length + 1) c')) w') : o.wp P a w K Q := by
  have hbytes : (xs.length + 1) * bytes ≤ 140737488355328 := Nat.le_trans (Nat.mul_le_mul (show xs.length + 1 ≤ 1099511627777 by omega) hb) (by omega)
  obtain ⟨v', w', hr, hown', hg, _, hat⟩ := run_append_own_at (P := P) w B t o.type e i z k bytes ht hi hz hsize hby hzs hk0 v xs.length (flatS c xs) hown
    ⟨E, 0, none⟩ 1 1 (c y) (by rw [hc, Nat.one_mul]) (fun j u hu => by rw [add_none, Nat.zero_add]; exact (rE.cell j).trans hu) h1 (by unfold maxLen; omega) hbytes hB
  unfold Oper.wp execOp
  simp only [ho, resolve, invoke, builtin, Sem.run_bind, Sem.run_pure, Result.andThen_ok, List.map_toArray, List.map_cons, List.map_nil, hs, hx, hr]
  rcases hown'.2 with ⟨_, h0⟩ | ⟨g', cap', cur, rfl, _⟩
  · omega
  · refine h g' cap' w' (by unfold OwnS; rw [flatS_snoc]; simpa using hown') (Kept.of_own hg) ?_
    rcases hat with h' | h'
    · exact .inl h'.symm
    · right
      have : g' = w.heap.size := by simpa [Value.ownBlock] using h'
      rw [this]; exact Nat.le_refl _

/-- What the document's Get answers. -/
def RefGet21 (bs : List Int) (w : World) (e : Ending) (w' : World) : Prop :=
  Kept [] w w' ∧ ((bs.length % 25 ≠ 0 ∧ ∃ a c, e = .returned (.tuple #[.slice a 0 c, .int .i64 10])) ∨
    (bs.length % 25 = 0 ∧ ∃ a c, e = .returned (.tuple #[.slice a (bs.length / 25) c, .int .i64 0]) ∧ SlS opC 4 w' a (opsR bs (bs.length / 25))))

set_option maxRecDepth 100000 in
set_option maxHeartbeats 4000000 in
theorem refGet21_any (bs : List Int) (w : World) (hb : ByB bs) (hm : bs.length ≤ 2500) :
    Calls Try.prog 10 #[.string (strOfNums bs)] w (RefGet21 bs w) := by
  obtain ⟨i0, hi, hz0, hz1, hz2⟩ := info_parts Try.infoU39
  obtain ⟨n, hn⟩ : ∃ n, bs.length = n := ⟨_, rfl⟩
  have hsz : (strOfNums bs).size = n := by rw [strOfNums_size, hn]
  have hmod : ((n : Int).tmod 25) = ((n % 25 : Nat) : Int) := (Int.ofNat_tmod n 25).symm
  by_cases h25 : n % 25 = 0
  · have hmod0 : ((n : Int).tmod 25) = 0 := by rw [hmod, h25]; rfl
    clear hmod
    obtain ⟨k, hk⟩ : ∃ k, n = 25 * k := ⟨n / 25, by omega⟩
    have HN := Lib.hid hn
    have HK := Lib.hid hk
    have HM := Lib.hid hmod0
    go_enter Try.func10, Try.ntmps10
    go_wp2_with fail
    have hown0 := OwnS.empty (α := OpN) (e := 39) (c := opC) (k := 4) (Nat.le_refl w.heap.size)
    have k0 := (Kept.refl [] w).alloc (.cells #[] 39)
    obtain ⟨G0, hG0⟩ : ∃ G, w.heap.size = G := ⟨_, rfl⟩
    rw [hG0] at hown0 ⊢
    have HG := Lib.hid hG0
    clear hn hk hmod0 hG0
    go_loopw [4, 5] (fun s i wr => ∃ j g c : Nat, j ≤ k ∧ i = .int .i64 (25 * (j : Int)) ∧ s = .slice (some ⟨g, 0, none⟩) j c ∧ OwnS 39 opC 4 wr G0 (.slice (some ⟨g, 0, none⟩) j c) (opsR bs j) ∧ Kept [] w wr) (fun s i _ => n - (intOf i).toNat)
    case atStart => exact ⟨0, G0, 0, by omega, rfl, rfl, hown0, k0⟩
    case round =>
      obtain ⟨j, g, c, hj, rfl, rfl, ho, hkr⟩ := hrel
      by_cases hlt : j < k
      · have hrd := fun p W (h : p + 8 ≤ bs.length) => refRead21_any bs p W hb h (by omega)
        have HN' := HN.out
        have HK' := HK.out
        have hr1 := fun W => (show Calls Try.prog 17 #[.string (strOfNums bs), .int .i64 (25 * (j : Int) + 1)] W _ from by have := hrd (25 * j + 1) W (by omega); rwa [show ((25 * j + 1 : Nat) : Int) = 25 * (j : Int) + 1 by omega] at this)
        have hr2 := fun W => (show Calls Try.prog 17 #[.string (strOfNums bs), .int .i64 (25 * (j : Int) + 9)] W _ from by have := hrd (25 * j + 9) W (by omega); rwa [show ((25 * j + 9 : Nat) : Int) = 25 * (j : Int) + 9 by omega] at this)
        have hr3 := fun W => (show Calls Try.prog 17 #[.string (strOfNums bs), .int .i64 (25 * (j : Int) + 17)] W _ from by have := hrd (25 * j + 17) W (by omega); rwa [show ((25 * j + 17 : Nat) : Int) = 25 * (j : Int) + 17 by omega] at this)
        have hat := fun w => run_str_at (P := Try.prog) w 9 bs hb (25 * (j : Int)) (25 * j) (by omega) (by omega) Try.underlying9
        have hx0 := hb (bs[25 * j]'(by omega)) (List.getElem_mem _)
        have HR := Lib.hid (show opR bs (25 * j) = ⟨bs[25 * j]?.getD 0, valB ((bs.drop (25 * j + 1)).take 8), valB ((bs.drop (25 * j + 9)).take 8), valB ((bs.drop (25 * j + 17)).take 8)⟩ from rfl)
        rw [List.getElem?_eq_getElem (by omega), Option.getD_some] at hat HR
        generalize bs[25 * j]'(by omega) = x at hat hx0 HR
        generalize valB ((bs.drop (25 * j + 1)).take 8) = va at hr1 HR
        generalize valB ((bs.drop (25 * j + 9)).take 8) = vb at hr2 HR
        generalize valB ((bs.drop (25 * j + 17)).take 8) = vc at hr3 HR
        have HR1 := Lib.hid hr1
        have HR2 := Lib.hid hr2
        have HR3 := Lib.hid hr3
        have hwx : IntKind.i64.wrap x = x := IntWalk.i64_in _ (by omega)
        have hgg := ho.ge g rfl
        have hjb : j ≤ 100 := by omega
        have hq1 : IntKind.i64.wrap (25 * (j : Int) + 1) = 25 * (j : Int) + 1 := IntWalk.i64_in _ (by omega)
        have hq9 : IntKind.i64.wrap (25 * (j : Int) + 9) = 25 * (j : Int) + 9 := IntWalk.i64_in _ (by omega)
        have hq17 : IntKind.i64.wrap (25 * (j : Int) + 17) = 25 * (j : Int) + 17 := IntWalk.i64_in _ (by omega)
        clear hrd hr1 hr2 hr3 HN' HK'
        have hlt' : decide (25 * (j : Int) < (n : Int)) = true := by have := HK.out; simp; omega
        go_wp2_with fail
        refine wp_region_pick (fun _ => True) (by kernel_rfl) trivial ?_
        have kc := hkr.drew
        have ho := ho.keptS (Kept.refl [] wr).drew (by simp)
        generalize wr.drew = wd at kc ho ⊢
        simp only [numbered, List.length_cons, List.length_nil, Nat.reduceAdd]
        repeat (first
          | (refine pick_take0 (v := ?_) rfl (by decide +kernel) (fun _ _ _ h => h) (by rfl) ?_ ?_; rotate_left; (intro w hSw; go_simp; try with_reducible rfl); go_frame)
          | (refine pick_take1 (v := ?_) rfl (by decide +kernel) (fun _ _ _ h => h) (by rfl) ?_ ?_; rotate_left; (intro w hSw; go_simp; try with_reducible rfl); go_frame)
          | (refine pick_take2 (v := ?_) rfl (by decide +kernel) (fun _ _ _ h => h) (by rfl) ?_ ?_; rotate_left; (intro w hSw; go_simp; try with_reducible rfl); go_frame))
        refine pick_call (by decide +kernel) (by rfl) (fun K hK => ?_)
        go_simp
        go_at_call 17
        with_reducible refine (HR1.out wd).mono ?_
        rintro e v1 ⟨rfl, rfl⟩
        refine hK _ _ trivial ?_
        clear hK K
        refine pick_call (by decide +kernel) (by rfl) (fun K hK => ?_)
        go_simp
        go_at_call 17
        with_reducible refine (HR2.out wd).mono ?_
        rintro e v1 ⟨rfl, rfl⟩
        refine hK _ _ trivial ?_
        clear hK K
        refine pick_call (by decide +kernel) (by rfl) (fun K hK => ?_)
        go_simp
        go_at_call 17
        with_reducible refine (HR3.out wd).mono ?_
        rintro e v1 ⟨rfl, rfl⟩
        refine hK _ _ trivial ?_
        clear hK K
        (refine pick_take0 (v := ?_) rfl (by decide +kernel) (fun _ _ _ h => h) (by rfl) ?_ ?_; rotate_left; (intro w hSw; go_simp; try with_reducible rfl); go_frame)
        have rE := Row.new wd 39 [.int .i64 x, .int .u64 va, .int .u64 vb, .int .u64 vc]
        have kE := kc.alloc (.cells #[.int .i64 x, .int .u64 va, .int .u64 vb, .int .u64 vc] 39)
        have hoE := ho.keptS ((Kept.refl [] wd).alloc (.cells #[.int .i64 x, .int .u64 va, .int .u64 vb, .int .u64 vc] 39)) (by simp)
        have hGs := kc.size
        refine pick_call (by decide +kernel) (by rfl) (fun K hK => ?_)
        go_simp
        refine hK _ _ trivial ?_
        clear hK K
        generalize wd.alloc (.cells #[.int .i64 x, .int .u64 va, .int .u64 vb, .int .u64 vc] 39) = we at rE kE hoE ⊢
        obtain ⟨E, hE⟩ : ∃ E, wd.heap.size = E := ⟨_, rfl⟩
        rw [hE] at rE ⊢
        refine pick_call (by decide +kernel) (by rfl) (fun K hK => ?_)
        refine wp_append_z (c := opC) (k := 4) _ _ 22 rfl G0 i0 _ 32 Try.underlying22 hi hz0 hz1 hz2 rfl (by omega) (by omega) (.slice (some ⟨g, 0, none⟩) j c) (opsR bs j) (OpN.mk x va vb vc) rfl (by intro u hu; simp [opC] at hu; rcases hu with rfl | rfl | rfl | rfl <;> rfl) rfl E rfl rE hoE ?_ (by rw [opsR_len]; have := HK.out; have := HN.out; omega) ?_
        · have := HG.out; have := kE.size; omega
        intro g3 c3 w3 ho3 hk3 _
        refine hK _ _ trivial ?_
        clear hK K
        rw [opsR_len] at ho3 ⊢
        (refine pick_take0 (v := ?_) rfl (by decide +kernel) (fun _ _ _ h => h) (by rfl) ?_ ?_; rotate_left; (intro w hSw; go_simp; try with_reducible rfl); try go_frame)
        refine pick_done (by decide +kernel) ?_
        have hgw := HG.out
        have k3 : Kept [] w w3 := kE.chain hk3 (by simp) (by simp [Value.ownBlock]; omega)
        have hos : OwnS 39 opC 4 w3 G0 (.slice (some ⟨g3, 0, none⟩) (j + 1) c3) (opsR bs (j + 1)) := by rw [opsR_succ, HR.out]; exact ho3
        clear ho3 hk3 hoE kE rE hE hgw
        try simp only [Act.put]
        go_wp2
        go_roundw
        case rel => exact ⟨j + 1, g3, c3, by omega, by go_num, rfl, hos, k3⟩
        case measure => have := HK.out; simp [intOf]; omega
      · obtain rfl : j = k := by omega
        have hlt' : decide (25 * (j : Int) < (n : Int)) = false := by have := HK.out; simp; omega
        go_wp2
        go_ret2
        have h0 := HN.out
        have h1 := HK.out
        obtain ⟨a, c', he, hs, _⟩ := ho.slice opC_len
        simp only [opsR_len] at he
        cases he
        have hd : bs.length / 25 = j := by omega
        refine ⟨hkr, .inr ⟨by omega, ?_⟩⟩
        rw [hd]
        exact ⟨_, _, rfl, hs⟩
  · have hpos : (0 : Int) < ((n % 25 : Nat) : Int) := by omega
    have H25 : Hid (bs.length % 25 ≠ 0) := by show _ ≠ _; rw [hn]; exact h25
    generalize n % 25 = r at hmod h25 hpos
    clear h25
    have k0 := (Kept.refl [] w).alloc (.cells #[] 39)
    go_enter Try.func10, Try.ntmps10
    go_wp2
    go_ret2
    exact ⟨k0, .inl ⟨H25.out, _, _, rfl⟩⟩
end Go.Proofs.Ytpeekhlccjoioaa
