/- Arrays of integers by value: read, written and held against each other whole. -/
import Derived.Test.YthlkammoinokoaaKept
import Derived.Laws.StructEq
import Derived.StillTailTactics
import Derived.Laws.Rows
import Derived.Laws.Tables
import Derived.Deep.WholeRow
import Derived.Laws.NewFold
namespace Go.Proofs.Ythlkammoinokoaa
open Go.RowKit

/-- An array of integers of kind k. -/
def arrV (k : IntKind) (xs : List Int) : Value := .agg (xs.map (Value.int k)).toArray
theorem arrV_def (k : IntKind) (xs : List Int) : arrV k xs = .agg (xs.map (Value.int k)).toArray := rfl
theorem all_range_int : ∀ (xs ys : List Int), xs.length = ys.length → ((List.range xs.length).all fun i => xs.getD i 0 == ys.getD i 0) = (xs == ys)
  | [], [], _ => rfl
  | x :: xs, y :: ys, h => by
    have ih := all_range_int xs ys (by simpa using h)
    rw [List.length_cons, List.range_succ_eq_map, List.all_cons, List.all_map]
    simp only [List.getD_cons_zero, Function.comp_def, List.getD_cons_succ, ih]
    simp [List.cons_beq_cons]
  | [], _ :: _, h => by simp at h
  | _ :: _, [], h => by simp at h

section
variable {P : Program} (w : World)
theorem run_equalIn_arr (d : Nat) (t e : TypeId) (n : Nat) (k : IntKind) (ht : P.underlying t = some (.array n e)) (he : P.underlying e = some (.int k)) (hsz : ∀ w, (sizeOf e).run P w = .ok 1 w)
    (xs ys : List Int) (hx : xs.length = n) (hy : ys.length = n) :
    (Op.equalIn (d + 2) t (arrV k xs) (arrV k ys)).run P w = .ok (xs == ys) w := by
  rw [← all_range_int xs ys (hx.trans hy.symm), hx, List.range_eq_range', Op.equalIn, arrV, arrV]
  simp only [Sem.run_bind, run_underlying ht, Result.andThen_ok, hsz, Std.Legacy.Range.forIn_eq_forIn_range', Std.Legacy.Range.size, Nat.sub_zero, Nat.add_sub_cancel, Nat.div_one]
  have hl : ∀ i ∈ List.range' 0 n 1, i < n := fun i hi => by simpa using (List.mem_range'_1.1 hi).2
  generalize List.range' 0 n 1 = l at hl ⊢
  induction l with
  | nil => simp
  | cons i l ih =>
    have hi : i < n := hl i (by simp)
    have px : (part e (xs.map (Value.int k)).toArray (i * 1)).run P w = .ok (.int k (xs.getD i 0)) w := by
      simp [part, isAgg, run_underlying he, List.getD, List.getElem?_eq_getElem (show i < xs.length by omega)]
    have py : (part e (ys.map (Value.int k)).toArray (i * 1)).run P w = .ok (.int k (ys.getD i 0)) w := by
      simp [part, isAgg, run_underlying he, List.getD, List.getElem?_eq_getElem (show i < ys.length by omega)]
    have pe : (Op.equalIn (d + 1) e (.int k (xs.getD i 0)) (.int k (ys.getD i 0))).run P w = .ok (xs.getD i 0 == ys.getD i 0) w := run_equalIn_int w d e k k _ _ he
    simp only [List.forIn_cons, Sem.run_bind, px, py, pe, Result.andThen_ok, List.all_cons]
    cases hb : (xs.getD i 0 == ys.getD i 0)
    · simp
    · simp only [Bool.not_true, Bool.false_eq_true, if_false, Sem.run_pure, Result.andThen_ok, Bool.true_and]
      exact ih fun j hj => hl j (by simp [hj])
theorem run_eql_arr (t e : TypeId) (n : Nat) (k : IntKind) (ht : P.underlying t = some (.array n e)) (he : P.underlying e = some (.int k)) (hsz : ∀ w, (sizeOf e).run P w = .ok 1 w)
    (xs ys : List Int) (hx : xs.length = n) (hy : ys.length = n) :
    (binOp .eql t (arrV k xs) (arrV k ys)).run P w = .ok (.bool (xs == ys)) w := by
  have := run_equalIn_arr w 9998 t e n k ht he hsz xs ys hx hy
  rw [arrV, arrV] at *
  rw [run_eql_struct, this]
  rfl
theorem run_eqGuard_arr (op : BinOp) (t : TypeId) (x y : Operand) (k : IntKind) (xs ys : List Int) (hm : P.eqGuardType P.depth t = false) : (eqGuard op t x y (arrV k xs) (arrV k ys)).run P w = .ok () w :=
  run_eqGuard_agg w op t x y _ _ hm
/-- 'a[i]', a by value. -/
theorem run_index_arr (t e : TypeId) (n : Nat) (k : IntKind) (ht : P.underlying t = some (.array n e)) (he : P.underlying e = some (.int k)) (hsz : ∀ w, (sizeOf e).run P w = .ok 1 w)
    (xs : List Int) (hx : xs.length = n) (j : Nat) (hj : j < n) :
    (Instr.index t (arrV k xs) (.int .i64 j)).run P w = .ok (.int k (xs[j]?.getD 0)) w := by
  simp [arrV, Instr.index, asIntOf, run_underlying ht, hj, hsz, part, isAgg, run_underlying he, List.getElem?_eq_getElem (show j < xs.length by omega)]
end

theorem ones_arr (k : IntKind) (xs : List Int) : ((xs.map (Value.int k)).toArray).all (·.oneCell') = true := by
  simp [Value.oneCell']
theorem Row.setAll {w : World} {g : Nat} {t : TypeId} {vs us : List Value} (h : Row w g t vs) : Row (w.setRow g us.toArray) g t us := setRow_heap w g _ _ t _ h
theorem Kept.setAll {S : List Nat} {a w : World} (h : Kept S a w) {g : Nat} (hp : g ∈ S ∨ a.heap.size ≤ g) (cs : Array Value) : Kept S a (w.setRow g cs) :=
  ⟨h.os, h.tape, h.output, by rw [size_setRow]; exact h.size, fun k hk hn => (setRow_other w g k cs (fun e => by subst e; rcases hp with hp | hp; exact hn hp; omega)).trans (h.block k hk hn)⟩

section
variable {P : Program} {ops : Array Oper} {rest : List Oper} {o : Oper} {a : Act} {w : World} {Q : Exit → Act → World → Prop}
/-- 'var a T': a new block of zeros, T an array of n integers. -/
theorem wpList_alloc_arr (hgd : o.guard = none) (t : TypeId) (ho : o.op = .alloc t) (k : IntKind) (n : Nat) (hz : ∀ w, (zeroValue t).run P w = .ok (arrV k (List.replicate n 0)) w)
    (h : ∀ w', Row w' w.heap.size t ((List.replicate n 0).map (Value.int k)) → Kept [] w w' → w'.heap.size = w.heap.size + 1 → wpList P ops Q rest (a.put o.dst (.pointer (some ⟨w.heap.size, 0, none⟩))) w') :
    wpList P ops Q (o :: rest) a w := by
  refine wpList_plain hgd fun K hK => ?_
  have hw := hK _ _ (h _ (Row.new w t ((List.replicate n 0).map (Value.int k))) ((Kept.refl [] w).alloc _) (by simp))
  unfold Oper.wp
  simp [execOp, ho, Instr.alloc, hz, arrV, newVar, newRow, Value.cells, Result.andThen]
  rw [Oper.upon_value]
  simpa using hw
/-- 'a = b', both whole arrays. -/
theorem wpList_store_arr (hgd : o.guard = none) (t : TypeId) (x y : Operand) (ho : o.op = .store t x y) (k : IntKind) (n : Nat) (hsz : (P.info? t).map (·.size) = some n)
    (g : Nat) (t' : TypeId) (vs : List Value) (xs : List Int) (hx : a.eval x = .pointer (some ⟨g, 0, none⟩)) (hy : a.eval y = arrV k xs) (hrow : Row w g t' vs) (hv : vs.length = n) (hn : xs.length = n)
    (h : ∀ w', Row w' g t' (xs.map (Value.int k)) → Kept [g] w w' → w'.heap.size = w.heap.size → wpList P ops Q rest (a.put o.dst undef) w') :
    wpList P ops Q (o :: rest) a w :=
  wpList_store_row hgd t x y ho g _ hx hy t' vs.toArray hrow (by rw [hsz]; simp [hn]) (by simp [hv, hn]) (ones_arr k xs)
    (h _ (Row.setAll hrow) ((Kept.refl [g] w).setAll (.inl (by simp)) _) (by simp))
/-- The whole array out of its block. -/
theorem wpList_load_arr (hgd : o.guard = none) (t : TypeId) (x : Operand) (ho : o.op = .load t x) (e : TypeId) (k : IntKind) (n : Nat) (ht : P.underlying t = some (.array n e)) (hsz : (P.info? t).map (·.size) = some n)
    (g : Nat) (t' : TypeId) (xs : List Int) (hx : a.eval x = .pointer (some ⟨g, 0, none⟩)) (hrow : Row w g t' (xs.map (Value.int k))) (hn : xs.length = n)
    (h : wpList P ops Q rest (a.put o.dst (arrV k xs)) w) : wpList P ops Q (o :: rest) a w :=
  wpList_load_row hgd t x ho g hx t' _ (0, 0) _ hrow ht rfl (by rw [hsz]; simp [hn]) h
/-- 'a == b', arrays by value. -/
theorem wpList_eql_arr (hgd : o.guard = none) (t : TypeId) (x y : Operand) (ty : TypeId) (ho : o.op = .binOp .eql t x y ty) (e : TypeId) (n : Nat) (k : IntKind) (ht : P.underlying t = some (.array n e)) (he : P.underlying e = some (.int k)) (hsz : ∀ w, (sizeOf e).run P w = .ok 1 w)
    (hm : P.eqGuardType P.depth t = false) (xs ys : List Int) (hx : a.eval x = arrV k xs) (hy : a.eval y = arrV k ys) (hlx : xs.length = n) (hly : ys.length = n)
    (h : wpList P ops Q rest (a.put o.dst (.bool (xs == ys))) w) : wpList P ops Q (o :: rest) a w := by
  refine wpList_plain hgd fun K hK => ?_
  unfold Oper.wp
  simp [execOp, ho, hx, hy, run_eqGuard_arr w .eql t x y k xs ys hm, run_eql_arr w t e n k ht he hsz xs ys hlx hly, Result.andThen]
  exact hK _ _ h
/-- The whole array out of its block, as a step of a region that draws its order. -/
theorem wpStill_load_arr {R : Act → Prop} (hgd : o.guard = none) (t : TypeId) (x : Operand) (ho : o.op = .load t x) (e : TypeId) (k : IntKind) (n : Nat) (ht : P.underlying t = some (.array n e)) (hsz : (P.info? t).map (·.size) = some n)
    (g : Nat) (t' : TypeId) (xs : List Int) (hx : a.eval x = .pointer (some ⟨g, 0, none⟩)) (hrow : Row w g t' (xs.map (Value.int k))) (hn : xs.length = n)
    (h : wpStill P ops w R rest (a.put o.dst (arrV k xs))) : wpStill P ops w R (o :: rest) a := by
  refine wpStill_step fun K hK => ?_
  have hw : Region.wanted o (yielded ops a.tmps) = true := by simp [Region.wanted, hgd]
  rw [if_pos hw]
  have hr : (loadVar t ⟨g, 0, none⟩).run P w = .ok (arrV k xs) w := run_loadVar_row w g t' t _ (0, 0) _ hrow ht rfl (by rw [hsz]; simp [hn])
  unfold Oper.still
  simp only [execOp, ho, hx, Instr.loadAt, Instr.sureAddr, Sem.run_bind, Sem.run_pure, Result.andThen_ok, hr]
  exact ⟨rfl, hK _ h⟩
end
end Go.Proofs.Ythlkammoinokoaa
