/- Package ops: names; the law OpsNames: its walk. -/
import Derived.Test.YtpeekhlccjoioaaDoorOpsPut
import Derived.Test.YtpeekhlccjoioaaDoorOpsFixed
namespace Go.Proofs.YtpeekhlccjoioaaDoor
open Go.RowKit

/-- The names, by their kinds. -/
def nmT : List (List UInt8) := [[], [114, 101, 103, 105, 111, 110], [115, 117, 98], [100, 101, 108, 101, 116, 101], [110, 101, 119], [97, 114, 114, 97, 121], [115, 101, 116], [103, 101, 116], [103, 108, 111, 98, 97, 108], [108, 111, 111, 107], [112, 117, 115, 104], [112, 111, 112], [115, 108, 111, 116], [112, 101, 101, 107], [99, 111, 117, 110, 116], [102, 114, 101, 101]]
def strV (l : List UInt8) : Value := .string ⟨l.toArray⟩
def namesV : List Value := nmT.map strV
/-- The table lies as it was laid. -/
def TabN (w : World) : Prop := 0 < w.heap.size ∧ ∀ j v, namesV[j]? = some v → w.cell? ⟨0, j, none⟩ = some v
theorem TabN.kept {w w' : World} (h : TabN w) (hk : Kept [] w w') : TabN w' :=
  ⟨Nat.lt_of_lt_of_le h.1 hk.size, fun j v hv => (World.cell?_of_block (w := w) (a := ⟨0, j, none⟩) (hk.block 0 h.1 (by simp))).trans (h.2 j v hv)⟩
/-- Name j's letters. -/
def nmA (j : Nat) : List UInt8 := nmT[j]?.getD []
theorem namesV_at {j : Nat} (hj : j < 16) : namesV[j]? = some (strV (nmA j)) := by
  have hl : j < nmT.length := hj
  unfold namesV nmA
  rw [List.getElem?_map, List.getElem?_eq_getElem hl]; rfl
theorem nmA_ne : ∀ j, j < 15 → nmA (j + 1) ≠ [] := by decide +kernel
theorem nmA_one : ∀ i, i < 15 → ∀ j, j < 15 → nmA (i + 1) = nmA (j + 1) → i = j := by decide +kernel

/-- The kind of a name, among the first m: r; none: 0. -/
def IsKind (m : Nat) (n : List UInt8) (r : Nat) : Prop := (r = 0 ∧ ∀ j, j < m → nmA (j + 1) ≠ n) ∨ (1 ≤ r ∧ r ≤ m ∧ nmA r = n)
theorem IsKind.uniq {n : List UInt8} {r s : Nat} (h : IsKind 15 n r) (k : IsKind 15 n s) : r = s := by
  rcases h with ⟨h0, h1⟩ | ⟨h0, h1, h2⟩ <;> rcases k with ⟨k0, k1⟩ | ⟨k0, k1, k2⟩
  · omega
  · obtain ⟨t, rfl⟩ : ∃ t, s = t + 1 := ⟨s - 1, by omega⟩
    exact absurd k2 (h1 t (by omega))
  · obtain ⟨t, rfl⟩ : ∃ t, r = t + 1 := ⟨r - 1, by omega⟩
    exact absurd h2 (k1 t (by omega))
  · obtain ⟨t, rfl⟩ : ∃ t, r = t + 1 := ⟨r - 1, by omega⟩
    obtain ⟨u, rfl⟩ : ∃ u, s = u + 1 := ⟨s - 1, by omega⟩
    rw [nmA_one t (by omega) u (by omega) (h2.trans k2.symm)]
theorem IsKind.next {n : List UInt8} {j a : Nat} (h : IsKind j n a) (hn : nmA (j + 1) ≠ n) : IsKind (j + 1) n a := by
  rcases h with ⟨h0, h1⟩ | ⟨h0, h1, h2⟩
  · refine .inl ⟨h0, fun t ht => ?_⟩
    rcases (by omega : t < j ∨ t = j) with h | rfl
    · exact h1 t h
    · exact hn
  · exact .inr ⟨h0, by omega, h2⟩
/-- A kind's name. -/
def nameA (k : Int) : List UInt8 := if 0 ≤ k ∧ k < 16 then nmA k.toNat else []

theorem wpList_load_cells {P : Program} {w : World} {ops : Array Oper} {rest : List Oper} {o : Oper} {a : Act} {Q : Exit → Act → World → Prop} (hgd : o.guard = none) (ty : TypeId) (x : Operand) (ho : o.op = .load ty x) (g : Nat) (hx : a.eval x = .pointer (some ⟨g, 0, none⟩)) (cs : List Value)
    (hc : ∀ j v, cs[j]? = some v → w.cell? ⟨g, j, none⟩ = some v) (d : TypeDesc) (hu : P.underlying ty = some d) (hd : (match d with | .struct _ | .array _ _ => true | _ => false) = true) (hi : (P.info? ty).map (·.size) = some cs.length)
    (V : Value) (hV : V = .agg cs.toArray) (h : wpList P ops Q rest (a.put o.dst V) w) : wpList P ops Q (o :: rest) a w := by
  subst hV
  have hl : (loadCells ⟨g, 0, none⟩ cs.length).run P w = .ok cs.toArray w := run_loadCells_list (P := P) w ⟨g, 0, none⟩ cs (fun j v hv => by rw [add_none, Nat.zero_add]; exact hc j v hv)
  have hr : (loadVar ty ⟨g, 0, none⟩).run P w = .ok (.agg cs.toArray) w := by
    cases hq : P.info? ty with
    | none => simp [hq] at hi
    | some i =>
      have hs : i.size = cs.length := by simpa [hq] using hi
      have hagg : (isAgg ty).run P w = .ok true w := by
        unfold isAgg
        rw [Sem.run_bind, run_underlying hu w]
        cases d <;> simp_all
      simp [loadVar, Sem.run_bind, hagg, sizeOf, typeInfo, hq, hs, hl]
  refine wpList_plain hgd fun K hK => ?_
  unfold Oper.wp execOp
  simp only [ho, hx, Instr.loadAt, Instr.sureAddr, Sem.run_bind, Sem.run_pure, Result.andThen_ok, hr]
  exact hK _ _ h
/-- The table, by value. -/
def tabA : Value := .agg namesV.toArray
set_option maxRecDepth 100000 in
theorem index_tab (w : World) (j : Nat) (hj : j < 16) : (Instr.index 37 tabA (.int .i64 j)).run Tryd.prog w = .ok (strV (nmA j)) w := by
  have hv := namesV_at hj
  have hsz : ∀ w, (sizeOf 9).run Tryd.prog w = .ok 1 w := fun w => by rfl
  unfold tabA
  simp [Instr.index, asIntOf, run_underlying Tryd.underlying37, hj, hsz, part, isAgg, run_underlying Tryd.underlying9, hv]

set_option maxRecDepth 100000 in
set_option maxHeartbeats 1000000 in
theorem opsKind_any (s : ByteArray) (w : World) (ht : TabN w) :
    Calls Tryd.prog 6 #[.string s] w fun e w' => ∃ r : Nat, e = .returned (.tuple #[.int .i64 r, .bool (decide (0 < r))]) ∧ IsKind 15 s.toList r ∧ w = w' := by
  have HIX := Lib.hid index_tab
  go_enter Tryd.func6, Tryd.ntmps6
  go_wp2_with (refine wpList_load_cells rfl _ _ rfl 0 rfl namesV ht.2 _ Tryd.underlying37 rfl rfl tabA rfl ?_)
  generalize tabA = TA at *
  go_loopw [4, 5, 7] (fun _ _ i wr => ∃ j : Nat, j ≤ 16 ∧ i = .int .i64 j ∧ Hid (∀ t, t + 1 < j → nmA (t + 1) ≠ s.toList) ∧ wr = w) (fun _ _ i _ => 16 - (intOf i).toNat)
  case atStart => exact ⟨0, by omega, rfl, fun t h => by omega, rfl⟩
  case round =>
    obtain ⟨j, hj, rfl, HA, rfl⟩ := hrel
    by_cases hlt : j < 16
    · have hix := HIX.out wr j hlt
      unfold strV at hix
      rcases Nat.eq_zero_or_pos j with rfl | hp
      · have h0 : (⟨(nmA 0).toArray⟩ : ByteArray).toList.isEmpty = true := by rw [ByteArray.toList_mk]; rfl
        generalize (⟨(nmA 0).toArray⟩ : ByteArray) = X at hix h0
        have hix : (Instr.index 37 TA (.int .i64 0)).run Tryd.prog wr = .ok (.string X) wr := hix
        go_wp2
        go_roundw
        case rel => exact ⟨1, by omega, rfl, fun t h => by omega, trivial⟩
        case measure => simp [intOf]
      · obtain ⟨t, rfl⟩ : ∃ t, j = t + 1 := ⟨j - 1, by omega⟩
        have h0 : (⟨(nmA (t + 1)).toArray⟩ : ByteArray).toList.isEmpty = false := by
          rw [ByteArray.toList_mk, List.isEmpty_eq_false_iff]
          exact nmA_ne t (by omega)
        by_cases h : nmA (t + 1) = s.toList
        · have h1 : (((⟨(nmA (t + 1)).toArray⟩ : ByteArray).toList == s.toList) = true) := by rw [ByteArray.toList_mk, h]; simp
          have HE := Lib.hid h
          generalize (⟨(nmA (t + 1)).toArray⟩ : ByteArray) = X at hix h0 h1
          clear h hp
          obtain ⟨J, hJ⟩ : ∃ J, t + 1 = J := ⟨_, rfl⟩
          rw [hJ] at hix hlt hj HE ⊢
          have HJ := Lib.hid hJ
          clear hJ
          go_wp2
          go_ret2
          refine ⟨J, ?_, .inr ⟨by have := HJ.out; omega, by omega, HE.out⟩, rfl⟩
          rw [show decide (0 < J) = true from decide_eq_true (by have := HJ.out; omega)]; rfl
        · have h1 : (((⟨(nmA (t + 1)).toArray⟩ : ByteArray).toList == s.toList) = false) := by rw [ByteArray.toList_mk]; exact beq_false_of_ne h
          have HE := Lib.hid h
          generalize (⟨(nmA (t + 1)).toArray⟩ : ByteArray) = X at hix h0 h1
          clear h hp
          obtain ⟨J, hJ⟩ : ∃ J, t + 1 = J := ⟨_, rfl⟩
          rw [hJ] at hix hlt hj HE HA ⊢
          have HJ := Lib.hid hJ
          clear hJ
          go_wp2
          go_roundw
          case rel =>
            refine ⟨J + 1, by omega, by go_num, fun u hu => ?_, trivial⟩
            rcases (by omega : u + 1 < J ∨ u + 1 = J) with h' | h'
            · exact HA.out u h'
            · rw [h']; exact HE.out
          case measure => simp [intOf]; omega
    · obtain rfl : j = 16 := by omega
      go_wp2
      go_ret2
      exact ⟨0, rfl, .inl ⟨rfl, fun t ht => HA.out t (by omega)⟩, rfl⟩

set_option maxRecDepth 100000 in
theorem opsName_any (k : Int) (w : World) (ht : TabN w) : Calls Tryd.prog 7 #[.int .i64 k] w fun e w' => e = .returned (.string ⟨(nameA k).toArray⟩) ∧ w = w' := by
  by_cases h1 : k < 0
  · have HN : Hid (nameA k = []) := by show _ = _; unfold nameA; rw [if_neg (by omega)]
    have h1' : decide (k < 0) = true := decide_eq_true h1
    clear h1
    go_enter Tryd.func7, Tryd.ntmps7
    go_wp2
    go_ret
    rw [HN.out]; exact ⟨rfl, rfl⟩
  · have h1' : decide (k < 0) = false := decide_eq_false h1
    by_cases h2 : 16 ≤ k
    · have HN : Hid (nameA k = []) := by show _ = _; unfold nameA; rw [if_neg (by omega)]
      have h2' : decide (16 ≤ k) = true := decide_eq_true h2
      clear h1 h2
      go_enter Tryd.func7, Tryd.ntmps7
      go_wp2
      go_ret
      rw [HN.out]; exact ⟨rfl, rfl⟩
    · have h2' : decide (16 ≤ k) = false := decide_eq_false h2
      obtain ⟨n, rfl⟩ := Int.eq_ofNat_of_zero_le (by omega : 0 ≤ k)
      have hn : n < 16 := by omega
      have HN : Hid (nameA (n : Int) = nmA n) := by show _ = _; unfold nameA; rw [if_pos (by omega)]; rfl
      have hc := ht.2 n _ (namesV_at hn)
      rw [HN.out]
      unfold strV at hc
      generalize (⟨(nmA n).toArray⟩ : ByteArray) = X at hc ⊢
      clear h1 h2
      go_enter Tryd.func7, Tryd.ntmps7
      go_wp2
      go_ret
      exact ⟨rfl, rfl⟩

set_option maxRecDepth 100000 in
theorem refNames_any (w : World) : Calls Tryd.prog 5 #[] w fun e w' => ∃ g, e = .returned (.slice (some ⟨g, 0, none⟩) 15 15) ∧ Row w' g 9 (namesV.drop 1) ∧ Kept [] w w' := by
  have r0 := Row.new w 9 (namesV.drop 1)
  have k0 := (Kept.refl [] w).alloc (.cells (namesV.drop 1).toArray 9)
  go_enter Tryd.func5, Tryd.ntmps5
  go_wp2
  go_ret
  exact ⟨_, rfl, r0, k0⟩

/-- The name of a kind among the first m. -/
def wantA (m : Nat) (k : Int) : List UInt8 := if 1 ≤ k ∧ k ≤ m then nmA k.toNat else []
theorem wantA_all (k : Int) : wantA 15 k = nameA k := by
  unfold wantA nameA
  by_cases h : 1 ≤ k ∧ k ≤ 15
  · rw [if_pos (by omega), if_pos (by omega)]
  · rw [if_neg (by omega)]
    by_cases h0 : k = 0
    · subst h0; rfl
    · rw [if_neg (by omega)]
theorem wantA_ne (k : Int) : (nameA k).isEmpty = !decide (1 ≤ k ∧ k ≤ 15) := by
  rw [← wantA_all]
  unfold wantA
  by_cases h : 1 ≤ k ∧ k ≤ 15
  · obtain ⟨t, ht⟩ : ∃ t : Nat, k.toNat = t + 1 := ⟨k.toNat - 1, by omega⟩
    rw [if_pos (by omega), decide_eq_true h, ht]
    exact List.isEmpty_eq_false_iff.2 (nmA_ne t (by omega))
  · rw [if_neg (by omega), decide_eq_false h]; rfl
theorem isKind_name {k : Int} {r : Nat} (h : IsKind 15 (nameA k) r) : (1 ≤ k ∧ k ≤ 15 → (r : Int) = k) ∧ (¬ (1 ≤ k ∧ k ≤ 15) → r = 0) := by
  constructor
  · intro hk
    obtain ⟨t, ht⟩ : ∃ t : Nat, k.toNat = t + 1 := ⟨k.toNat - 1, by omega⟩
    have : IsKind 15 (nameA k) (t + 1) := .inr ⟨by omega, by omega, by unfold nameA; rw [if_pos (by omega), ht]⟩
    have := h.uniq this
    omega
  · intro hk
    have he : nameA k = [] := by have := wantA_ne k; rw [decide_eq_false hk] at this; simpa using this
    rw [he] at h
    rcases h with h | ⟨h1, h2, h3⟩
    · exact h.1
    · obtain ⟨t, rfl⟩ : ∃ t, r = t + 1 := ⟨r - 1, by omega⟩
      exact absurd h3 (nmA_ne t (by omega))

set_option maxRecDepth 100000 in
set_option maxHeartbeats 4000000 in
theorem opsNames_law (k : Int) (s : ByteArray) (w : World) (ht : TabN w) (hs : s.size ≤ maxLen) :
    Calls Tryd.prog 3 #[.int .i64 k, .string s] w (FixedPost w) := by
  unfold maxLen at hs
  obtain ⟨N, hN⟩ : ∃ N, s.size = N := ⟨_, rfl⟩
  rw [hN] at hs
  by_cases hbig : 100 < N
  · have h1 : decide ((100 : Int) < (N : Int)) = true := by simp; omega
    go_enter Tryd.func3, Tryd.ntmps3
    go_wp2_with fail
    refine (fixed21_any w).mono ?_
    rintro e w1 ⟨rfl, hk⟩
    go_wp2
    go_ret
    exact ⟨rfl, hk⟩
  · have h1 : decide ((100 : Int) < (N : Int)) = false := by simp; omega
    go_enter Tryd.func3, Tryd.ntmps3
    go_wp2_with fail
    refine (refNames_any w).mono ?_
    rintro e w1 ⟨g, rfl, hr, hk1⟩
    have HC : Hid (∀ i, i < 15 → w1.cell? ⟨g, i, none⟩ = some (strV (nmA (i + 1)))) := fun i hi => by
      rw [hr.cell i, List.getElem?_drop, Nat.add_comm]; exact namesV_at (by omega)
    go_wp2_with fail
    go_loopw [5, 6, 7, 8, 19] (fun want at_ _ _ i wr => ∃ j a : Nat, j ≤ 15 ∧ i = .int .i64 j ∧ want = strV (wantA j k) ∧ at_ = .int .i64 a ∧ Hid (IsKind j s.toList a) ∧ wr = w1) (fun _ _ _ _ i _ => 15 - (intOf i).toNat)
    case atStart => exact ⟨0, 0, by omega, rfl, by unfold wantA; rw [if_neg (by omega)]; rfl, rfl, .inl ⟨rfl, fun j hj => by omega⟩, rfl⟩
    case round =>
      obtain ⟨j, a, hj, rfl, rfl, rfl, HA, rfl⟩ := hrel
      by_cases hlt : j < 15
      · have hc := HC.out j hlt
        have HW : Hid (∀ b : Bool, (k == (j : Int) + 1) = b → strV (wantA (j + 1) k) = (if b = true then strV (nmA (j + 1)) else strV (wantA j k))) := by
          intro b hb
          cases b with
          | true =>
            have : k = (j : Int) + 1 := by simpa using hb
            rw [if_pos rfl]
            unfold wantA
            rw [if_pos (by omega), this]; rfl
          | false =>
            have : k ≠ (j : Int) + 1 := by simpa using hb
            rw [if_neg (by decide)]
            unfold wantA
            by_cases h : 1 ≤ k ∧ k ≤ (j : Int)
            · rw [if_pos (by omega), if_pos h]
            · rw [if_neg (by omega), if_neg h]
        have hE : ((s.toList == (⟨(nmA (j + 1)).toArray⟩ : ByteArray).toList) = decide (nmA (j + 1) = s.toList)) := by
          rw [ByteArray.toList_mk (nmA (j + 1))]
          by_cases h : nmA (j + 1) = s.toList
          · rw [decide_eq_true h, h]; simp
          · rw [decide_eq_false h]; exact beq_false_of_ne (fun e => h e.symm)
        unfold strV at hc HW
        generalize (⟨(nmA (j + 1)).toArray⟩ : ByteArray) = X at hc HW hE
        obtain ⟨V, hV⟩ : ∃ V, strV (wantA j k) = .string V := ⟨_, rfl⟩
        have hVV : (⟨(wantA j k).toArray⟩ : ByteArray) = V := by unfold strV at hV; exact Value.string.inj hV
        rw [hVV] at HW
        rw [hV]
        have HE : Hid (∀ t, nmA (t + 1) = nmA (t + 1)) := fun _ => rfl
        clear hV hVV HE
        cases hk : (k == (j : Int) + 1) with
        | true =>
          have HK := HW.out true hk
          rw [if_pos rfl] at HK
          have HK2 := Lib.hid HK
          clear HK HW
          by_cases h : nmA (j + 1) = s.toList
          · rw [decide_eq_true h] at hE
            have HN := Lib.hid h
            clear h
            go_wp2
            go_roundw
            case rel => exact ⟨j + 1, j + 1, by omega, by go_num, HK2.out.symm, by go_num, .inr ⟨by omega, Nat.le_refl _, HN.out⟩, trivial⟩
            case measure => simp [intOf]; omega
          · rw [decide_eq_false h] at hE
            have HN := Lib.hid h
            clear h
            go_wp2
            go_roundw
            case rel => exact ⟨j + 1, a, by omega, by go_num, HK2.out.symm, rfl, HA.out.next HN.out, trivial⟩
            case measure => simp [intOf]; omega
        | false =>
          have HK := HW.out false hk
          rw [if_neg (by decide)] at HK
          have HK2 := Lib.hid HK
          clear HK HW
          by_cases h : nmA (j + 1) = s.toList
          · rw [decide_eq_true h] at hE
            have HN := Lib.hid h
            clear h
            go_wp2
            go_roundw
            case rel => exact ⟨j + 1, j + 1, by omega, by go_num, HK2.out.symm, by go_num, .inr ⟨by omega, Nat.le_refl _, HN.out⟩, trivial⟩
            case measure => simp [intOf]; omega
          · rw [decide_eq_false h] at hE
            have HN := Lib.hid h
            clear h
            go_wp2
            go_roundw
            case rel => exact ⟨j + 1, a, by omega, by go_num, HK2.out.symm, rfl, HA.out.next HN.out, trivial⟩
            case measure => simp [intOf]; omega
      · obtain rfl : j = 15 := by omega
        have ht1 := ht.kept hk1
        have hw15 := wantA_all k
        have hne : (⟨(nameA k).toArray⟩ : ByteArray).toList.isEmpty = !decide (1 ≤ k ∧ k ≤ 15) := by rw [ByteArray.toList_mk]; exact wantA_ne k
        have HNM := Lib.hid (opsName_any k)
        have HTL : Hid ((⟨(nameA k).toArray⟩ : ByteArray).toList = nameA k) := ByteArray.toList_mk _
        unfold strV
        rw [hw15]
        generalize (⟨(nameA k).toArray⟩ : ByteArray) = V at hne HNM HTL ⊢
        clear hw15
        go_wp2_with fail
        refine (opsKind_any s wr ht1).mono ?_
        rintro e w2 ⟨r, rfl, hr2, rfl⟩
        obtain rfl := HA.out.uniq hr2
        go_wp2_with fail
        refine (HNM.out wr ht1).mono ?_
        rintro e w2 ⟨rfl, rfl⟩
        go_wp2_with fail
        refine (opsKind_any V wr ht1).mono ?_
        rintro e w2 ⟨b, rfl, hb, rfl⟩
        rw [HTL.out] at hb
        have hbk := isKind_name hb
        go_wp2_with fail
        refine (fixed21_any wr).mono ?_
        rintro e w2 ⟨rfl, hk2⟩
        have ht2 := ht1.kept hk2
        have hVV : (V.toList == V.toList) = true := by simp
        have haa : ((a : Int) == (a : Int)) = true := by simp
        by_cases hin : 1 ≤ k ∧ k ≤ 15
        · have hb1 := hbk.1 hin
          rw [decide_eq_true hin, Bool.not_true] at hne
          have hb0 : decide (0 < b) = true := by simp; omega
          have hbk2 : ((b : Int) == k) = true := by rw [hb1]; simp
          rw [hb0]
          obtain ⟨d, hd⟩ : ∃ d, decide (0 < a) = d := ⟨_, rfl⟩
          rw [hd]
          clear hbk hb1 hb
          cases d
          all_goals
            go_wp2_with fail
            refine (HNM.out w2 ht2).mono ?_
            rintro e w3 ⟨rfl, rfl⟩
            go_wp2
            go_ret
            exact ⟨rfl, hk1.trans hk2⟩
        · have hb1 := hbk.2 hin
          subst hb1
          rw [decide_eq_false hin, Bool.not_false] at hne
          obtain ⟨d, hd⟩ : ∃ d, decide (0 < a) = d := ⟨_, rfl⟩
          rw [hd]
          clear hbk hb
          cases d
          all_goals
            go_wp2_with fail
            refine (HNM.out w2 ht2).mono ?_
            rintro e w3 ⟨rfl, rfl⟩
            go_wp2
            go_ret
            exact ⟨rfl, hk1.trans hk2⟩
end Go.Proofs.YtpeekhlccjoioaaDoor
