/- A map[uint64]int that the call made, told by the list of the entries that came: of one key the first counts. -/
import Derived.Test.YtionleocbjfgaaaDoorMapB
import Derived.Test.YtionleocbjfgaaaDoorTallyPlain
import Derived.Maps.OwnIn
namespace Go.Proofs.YtionleocbjfgaaaDoor
open Go.RowKit Go.Maps

/-- A machine's word. -/
def FitU (z : Int) : Prop := 0 ≤ z ∧ z ≤ 18446744073709551615
theorem FitU.wf {z : Int} (h : FitU z) : (Lit.int .u64 z).wf = true := by
  simpa [Lit.wf, IntKind.min, IntKind.max, IntKind.signed, IntKind.bits, FitU] using h
theorem keyed_word : Keyed Tryd.prog 36 := int_keyed Tryd.underlying36
theorem zero_intF (w : World) : (zeroValue 3).run Tryd.prog w = .ok (.int .i64 0) w := by kernel_rfl

/-- Block b is a map that has the first entries of ps. -/
def OwnF (w : World) (b : Nat) (ps : List (Int × Int)) : Prop :=
  ∃ D : DataW Unit, w.ownsMap Tryd.prog 36 (plainElem Tryd.prog 3) b ps.length D ∧ IsMap D ∧
    ∀ z, FitU z → D.atKey (.int .u64 z) (.lit (.int .i64 0)) = .lit (.int .i64 (cntY ps z)) ∧ Maps.has D (.int .u64 z) = decide (z ∈ keysL ps)
theorem OwnF.made (w : World) : OwnF (w.alloc (.map #[] 0)) w.heap.size [] :=
  ⟨.map [], World.ownsMap_made w _ _ _, isMap_empty, fun _ _ => ⟨rfl, rfl⟩⟩
theorem OwnF.lt {w : World} {b : Nat} {ps : List (Int × Int)} (h : OwnF w b ps) : b < w.heap.size := let ⟨_, h, _⟩ := h; h.lt
theorem OwnF.kept {w w' : World} {S : List Nat} {b : Nat} {ps : List (Int × Int)} (h : OwnF w b ps) (hk : Kept S w w') (hn : b ∉ S) : OwnF w' b ps := by
  obtain ⟨D, ⟨es, clock, hb, h1⟩, h2⟩ := h
  exact ⟨D, ⟨es, clock, (hk.block b (lt_of_block hb) hn).trans hb, h1⟩, h2⟩
/-- 'm[k]'. -/
theorem OwnF.look {w : World} {b : Nat} {ps : List (Int × Int)} (h : OwnF w b ps) {z : Int} (hz : FitU z) :
    (Instr.lookup 42 (.map (some b)) (.int .u64 z) false).run Tryd.prog w = .ok (.int .i64 (cntY ps z)) w := by
  obtain ⟨D, hD, hM, hat⟩ := h
  obtain ⟨c, hrun, ha, _⟩ := hD.lookup_int keyed_word Tryd.underlying42 Tryd.underlying3 (zero_intF w) (keyOf_int_mk Tryd.underlying36 hz.wf)
  rw [(hat z hz).1] at ha
  simp only [DataW.lit.injEq, Lit.int.injEq, true_and] at ha
  rw [hrun, ha]
/-- 'v, ok := m[k]'. -/
theorem OwnF.look_ok {w : World} {b : Nat} {ps : List (Int × Int)} (h : OwnF w b ps) {z : Int} (hz : FitU z) :
    (Instr.lookup 42 (.map (some b)) (.int .u64 z) true).run Tryd.prog w = .ok (.tuple #[.int .i64 (cntY ps z), .bool (decide (z ∈ keysL ps))]) w := by
  obtain ⟨D, hD, hM, hat⟩ := h
  obtain ⟨v, q, hrun, hv⟩ := World.ownsMap.look_ok hD keyed_word Tryd.underlying42 (zero_intF w) (plainElem_int Tryd.underlying3 (by decide)) (keyOf_int_mk Tryd.underlying36 hz.wf)
  obtain ⟨c, rfl, hc, _⟩ := plainElem_int_inv Tryd.underlying3 hv
  rw [(hat z hz).1] at hc
  obtain rfl : cntY ps z = c := by
    have : cntY ps z = c ∧ q = [] := by simpa using hc
    exact this.1
  rw [hrun, (hat z hz).2]
theorem keysL_snoc (ps : List (Int × Int)) (x : Int × Int) (z : Int) : z ∈ keysL (ps ++ [x]) ↔ z ∈ keysL ps ∨ z = x.1 := by
  simp [keysL]
theorem cntY_snoc (ps : List (Int × Int)) (x : Int × Int) (z : Int) : cntY (ps ++ [x]) z = if z ∈ keysL ps then cntY ps z else if z = x.1 then x.2 else 0 := by
  induction ps with
  | nil =>
    by_cases h : x.1 = z
    · simp [cntY, atL, keysL, h]
    · have h' : ¬ z = x.1 := fun e => h e.symm
      simp [cntY, atL, keysL, h, h']
  | cons r ps ih =>
    rw [List.cons_append, cntY_cons, cntY_cons]
    by_cases h : r.1 = z
    · rw [if_pos h, if_pos h, if_pos (by simp [keysL, h])]
    · have e : z ∈ keysL (r :: ps) ↔ z ∈ keysL ps := by simp [keysL, Ne.symm h]
      rw [if_neg h, if_neg h, ih]
      by_cases h2 : z ∈ keysL ps
      · rw [if_pos h2, if_pos (e.2 h2)]
      · rw [if_neg h2, if_neg (fun h3 => h2 (e.1 h3))]
theorem OwnF.mono {w : World} {b : Nat} {ps : List (Int × Int)} (h : OwnF w b ps) {x : Int × Int} (hx : x.1 ∈ keysL ps) : OwnF w b (ps ++ [x]) := by
  obtain ⟨D, hD, hM, hat⟩ := h
  refine ⟨D, hD.mono (by simp), hM, fun z hz => ⟨?_, ?_⟩⟩
  · rw [(hat z hz).1, cntY_snoc]
    by_cases h : z ∈ keysL ps
    · rw [if_pos h]
    · rw [if_neg h, if_neg (fun e => h (by rw [e]; exact hx)), cntY_none h]
  · rw [(hat z hz).2]
    rw [Bool.eq_iff_iff, decide_eq_true_eq, decide_eq_true_eq, keysL_snoc]
    exact ⟨.inl, fun h => h.elim id (fun e => by rw [e]; exact hx)⟩
/-- 'm[k] = v' at a new key, inside a fence. -/
theorem wpListIn_mapUpdate_F {F : Fence} {nF : Nat} (w : World) {ops : Array Oper} {rest : List Oper} {o : Oper} {a : Act} {Q : Exit → Act → World → Prop}
    (hg : o.guard = none) (m x v : Operand) (hop : o.op = Op.mapUpdate 42 m x v) (b : Nat) (ps : List (Int × Int))
    (hm : a.eval m = .map (some b)) (hown : OwnF w b ps) (hn : ps.length < maxLen) (z : Int) (hz : FitU z) (hnew : z ∉ keysL ps) (u : Int) (hu : Fit64 u) (hx : a.eval x = .int .u64 z) (hv : a.eval v = .int .i64 u)
    (hK : ∀ w', OwnF w' b (ps ++ [(z, u)]) → Kept [b] w w' → wpListIn F nF Tryd.prog ops Q rest (a.put o.dst undef) w') :
    wpListIn F nF Tryd.prog ops Q (o :: rest) a w := by
  obtain ⟨D, hD, hM, hat⟩ := hown
  refine wpListIn_mapUpdate_own w hg m x v _ hop 36 3 keyed_word Tryd.underlying42 (plainElem Tryd.prog 3) b _ D hm hD hn _ _ (.int .u64 z) hx hv (keyOf_int_mk Tryd.underlying36 hz.wf) (.lit (.int .i64 u)) [] (plainElem_int Tryd.underlying3 hu.wf) ?_
  intro w' h1 h2
  refine hK w' ⟨_, by simpa using h1, hM.put _ _, fun y hy => ?_⟩ (Kept.of_grown h2)
  by_cases e : y = z
  · subst e
    rw [cntY_snoc, if_neg hnew, if_pos rfl]
    exact ⟨atKey_put_same (k := .int .u64 y) hM trivial _ _, by rw [has_put_same (k := .int .u64 y) hM trivial]; simp [keysL_snoc]⟩
  · have hne : (Lit.int .u64 y) ≠ .int .u64 z := by simpa using e
    rw [atKey_put_other hne, has_put_other hne, (hat y hy).1, (hat y hy).2, cntY_snoc]
    constructor
    · by_cases h : y ∈ keysL ps
      · rw [if_pos h]
      · rw [if_neg h, if_neg e, cntY_none h]
    · rw [Bool.eq_iff_iff, decide_eq_true_eq, decide_eq_true_eq, keysL_snoc]
      exact ⟨.inl, fun h => h.elim id (fun e' => absurd e' e)⟩
end Go.Proofs.YtionleocbjfgaaaDoor
