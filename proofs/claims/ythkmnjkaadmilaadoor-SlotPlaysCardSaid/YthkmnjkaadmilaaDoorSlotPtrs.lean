/- Package slot: Pointers; kraalref13: Pointers. -/
import Derived.Test.YthkmnjkaadmilaaDoorSlotPlain
import Derived.Test.YthkmnjkaadmilaaDoorNum
import Derived.Test.YthkmnjkaadmilaaDoorAppendOne
import Derived.Test.YthkmnjkaadmilaaDoorDescTable
namespace Go.Proofs.YthkmnjkaadmilaaDoor
open Go.RowKit

/-- Which of the first j fields are pointers. -/
def ptrsK (ks : List Int) (j : Nat) : List Int := ((List.range j).filter (fun i => pointerB (ks[i]?.getD 0))).map (fun i : Nat => (i : Int))
theorem ptrsK_zero (ks : List Int) : ptrsK ks 0 = [] := rfl
theorem ptrsK_yes {ks : List Int} {j : Nat} (h : pointerB (ks[j]?.getD 0) = true) : ptrsK ks (j + 1) = ptrsK ks j ++ [(j : Int)] := by
  unfold ptrsK
  rw [List.range_succ, List.filter_append, List.map_append]
  simp [h]
theorem ptrsK_no {ks : List Int} {j : Nat} (h : pointerB (ks[j]?.getD 0) = false) : ptrsK ks (j + 1) = ptrsK ks j := by
  unfold ptrsK
  rw [List.range_succ, List.filter_append, List.map_append]
  simp [h]
theorem ptrsK_length (ks : List Int) (j : Nat) : (ptrsK ks j).length ≤ j := by
  unfold ptrsK
  rw [List.length_map]
  have := List.length_filter_le (fun i => pointerB (ks[i]?.getD 0)) (List.range j)
  simpa using this
/-- A slice of the call's own that tells them. -/
def PtrsAns (ks : List Int) (w : World) (e : Ending) (w' : World) : Prop :=
  ∃ v, e = .returned v ∧ w'.ownsRow w.heap.size 3 1 v (ptrsK ks ks.length).length ((ptrsK ks ks.length).map (Value.int .i64)) ∧ Kept [] w w'

theorem info_int13p : (Tryd.prog.info? 3).map (fun i => (i.zero, i.size, i.bytes)) = some (some (.int .i64 0), 1, 8) := by kernel_rfl
theorem own_base {w : World} {B B' : Nat} {e : TypeId} {size : Nat} {v : Value} {n : Nat} {vs : List Value} (h : w.ownsRow B e size v n vs) (hb : B' ≤ B) : w.ownsRow B' e size v n vs := by
  refine ⟨h.1, ?_⟩
  rcases h.2 with h' | ⟨g, cap, cur, rfl, hB, r⟩
  · exact .inl h'
  · exact .inr ⟨g, cap, cur, rfl, Nat.le_trans hb hB, r⟩

set_option maxRecDepth 100000 in
set_option maxHeartbeats 2000000 in
theorem slotWhich_any (ka : Option Addr) (kc : Nat) (ks : List Int) (w : World) (hT : Tab w) (hs : Sl w .i64 ka ks) (hk : ks.length ≤ 1048576) :
    Calls Tryd.prog 25 #[.slice ka ks.length kc, .func (Fn.func 26) #[] #[]] w (PtrsAns ks w) := by
  obtain ⟨i0, hi, hz0, hz1, hz2⟩ := info_parts info_int13p
  go_enter Tryd.func25, Tryd.ntmps25
  go_wp2_with fail
  go_loopw [5, 10] (fun s5 i wr => ∃ (j : Nat) (v : Value), v = s5 ∧ j ≤ ks.length ∧ i = .int .i64 j ∧ wr.ownsRow w.heap.size 3 1 v (ptrsK ks j).length ((ptrsK ks j).map (Value.int .i64)) ∧ Kept [] w wr) (fun _ i _ => ks.length - (intOf i).toNat)
  case atStart => exact ⟨0, _, rfl, Nat.zero_le _, rfl, World.ownsRow_nil _ _ _ _, Kept.refl _ _⟩
  case round =>
    obtain ⟨j, v, rfl, hj, rfl, hown, hkr⟩ := hrel
    by_cases hlt : j < ks.length
    · obtain ⟨b, off, rfl, hc⟩ := (hs.kept hkr).cell hlt
      have hjl : (j : Int) < (ks.length : Int) := by omega
      have hpl := ptrsK_length ks j
      have hyes := ptrsK_yes (ks := ks) (j := j)
      have hno := ptrsK_no (ks := ks) (j := j)
      obtain ⟨z, hz⟩ : ∃ z, ks[j]?.getD 0 = z := ⟨_, rfl⟩
      rw [hz] at hc hyes hno
      obtain ⟨zs, hzs⟩ : ∃ zs, ptrsK ks j = zs := ⟨_, rfl⟩
      rw [hzs] at hown hpl hyes hno
      have HP := Lib.hid (descPointer_any z wr (hT.kept hkr))
      have hsz := hkr.size
      clear hz hzs
      cases hp : pointerB z with
      | false =>
        have hn := hno hp
        have HP := Lib.hid (show Calls Tryd.prog 26 #[.int .i64 z] wr fun e w' => e = .returned (.bool false) ∧ wr = w' by rw [← hp]; exact HP.out)
        have HN := Lib.hid hn
        clear hn hyes hno hp
        go_wp2_with fail
        refine HP.out.mono ?_
        rintro e w2 ⟨rfl, rfl⟩
        go_wp2
        go_roundw
        case rel => exact ⟨j + 1, v, rfl, by omega, by go_num, by rw [HN.out]; exact hown, hkr⟩
        case measure => simp [intOf]; omega
      | true =>
        have hn := hyes hp
        have HP := Lib.hid (show Calls Tryd.prog 26 #[.int .i64 z] wr fun e w' => e = .returned (.bool true) ∧ wr = w' by rw [← hp]; exact HP.out)
        have HN := Lib.hid hn
        obtain ⟨L, hL⟩ : ∃ L, zs.length = L := ⟨_, rfl⟩
        rw [hL] at hown hpl
        have HL := Lib.hid hL
        clear hn hyes hno hp hL
        go_wp2_with fail
        refine HP.out.mono ?_
        rintro e w2 ⟨rfl, rfl⟩
        go_wp2_with (at_builtin; refine wpList_append_one _ rfl _ _ 25 rfl w.heap.size 3 i0 (.int .i64 0) 8 Tryd.underlying25 hi hz0 hz1 hz2 rfl wr (.int .i64 j) v L (zs.map (Value.int .i64)) rfl rfl rfl hown hsz rfl (by omega) (by omega) ?_; intro g2 c2 w3 hown3 hk3 hg3)
        go_roundw
        case rel =>
          refine ⟨j + 1, _, rfl, by omega, by go_num, ?_, hkr.chain hk3 (by simp) (fun i hi hlt => by rw [Option.mem_toList] at hi; have := World.ownsRow.lt hown i hi; omega)⟩
          rw [HN.out, List.length_append, List.length_singleton, HL.out, List.map_append]
          exact hown3
        case measure => simp [intOf]; omega
    · obtain rfl : j = ks.length := by omega
      go_wp2
      go_ret
      exact ⟨v, rfl, hown, hkr⟩

set_option maxRecDepth 100000 in
set_option maxHeartbeats 2000000 in
theorem slotPointers_any (a r : Int) (ar : Bool) (kd ty nn : Int) (ka : Option Addr) (kc : Nat) (ks : List Int) (va : Option Addr) (vc : Nat) (vs : List Int) (w : World) (hT : Tab w) (hs : Sl w .i64 ka ks) (hk : ks.length ≤ 1048576) :
    Calls Tryd.prog 16 #[.agg #[.int .i64 a, .int .i64 r, .bool ar, .int .i64 kd, .int .i64 ty, .int .i64 nn, .slice ka ks.length kc, .slice va vs.length vc]] w (PtrsAns ks w) := by
  have k0 := (Kept.refl [] w).alloc (.cells #[.int .i64 a, .int .i64 r, .bool ar, .int .i64 kd, .int .i64 ty, .int .i64 nn, .slice ka ks.length kc, .slice va vs.length vc] 27)
  go_enter Tryd.func16, Tryd.ntmps16
  go_wp2_with fail
  refine (slotWhich_any ka kc ks _ (hT.kept k0) (hs.kept k0) hk).mono ?_
  rintro e w2 ⟨v, rfl, hown, k2⟩
  go_wp2
  go_ret
  exact ⟨v, rfl, own_base hown k0.size, k0.trans k2⟩

set_option maxRecDepth 100000 in
set_option maxHeartbeats 4000000 in
theorem refPointers13_any (a r : Int) (ar : Bool) (kd ty nn : Int) (ka : Option Addr) (kc : Nat) (ks : List Int) (va : Option Addr) (vc : Nat) (vs : List Int) (w : World) (hs : Sl w .i64 ka ks) (hk : ks.length ≤ 1048576) :
    Calls Tryd.prog 17 #[.agg #[.int .i64 a, .int .i64 r, .bool ar, .int .i64 kd, .int .i64 ty, .int .i64 nn, .slice ka ks.length kc, .slice va vs.length vc]] w (PtrsAns ks w) := by
  obtain ⟨i0, hi, hz0, hz1, hz2⟩ := info_parts info_int13p
  have k0 := ((Kept.refl [] w).alloc (.cells #[.int .i64 a, .int .i64 r, .bool ar, .int .i64 kd, .int .i64 ty, .int .i64 nn, .slice ka ks.length kc, .slice va vs.length vc] 27)).alloc (.cells #[] 3)
  have rB := (Row.new w 27 [.int .i64 a, .int .i64 r, .bool ar, .int .i64 kd, .int .i64 ty, .int .i64 nn, .slice ka ks.length kc, .slice va vs.length vc]).alloc (.cells #[] 3)
  have own0 := own_empty (w.alloc (.cells #[.int .i64 a, .int .i64 r, .bool ar, .int .i64 kd, .int .i64 ty, .int .i64 nn, .slice ka ks.length kc, .slice va vs.length vc] 27)) 3 1 w.heap.size (by simp)
  go_enter Tryd.func17, Tryd.ntmps17
  go_wp2_with fail
  rw [World.size_alloc] at own0
  obtain ⟨R, hR⟩ : ∃ R, w.heap.size = R := ⟨_, rfl⟩
  have HR := Lib.hid hR
  rw [hR] at rB own0 ⊢
  generalize (w.alloc (.cells #[.int .i64 a, .int .i64 r, .bool ar, .int .i64 kd, .int .i64 ty, .int .i64 nn, .slice ka ks.length kc, .slice va vs.length vc] 27)).alloc (.cells #[] 3) = W at k0 rB own0 ⊢
  have hRl := rB.lt
  clear hR
  go_loopw [3, 4] (fun s3 i wr => ∃ (j : Nat) (v : Value), v = s3 ∧ j ≤ ks.length ∧ i = .int .i64 j ∧ wr.ownsRow R 3 1 v (ptrsK ks j).length ((ptrsK ks j).map (Value.int .i64)) ∧ (∀ i, v.ownBlock = some i → R < i) ∧ Kept [] w wr ∧ Row wr R 27 [.int .i64 a, .int .i64 r, .bool ar, .int .i64 kd, .int .i64 ty, .int .i64 nn, .slice ka ks.length kc, .slice va vs.length vc]) (fun _ i _ => ks.length - (intOf i).toNat)
  case atStart => exact ⟨0, _, rfl, Nat.zero_le _, rfl, own0, by simp [Value.ownBlock], k0, rB⟩
  case round =>
    obtain ⟨j, v, rfl, hj, rfl, hown, hvR, hkr, rBr⟩ := hrel
    have c6 : wr.cell? ⟨R, 6, none⟩ = some (.slice ka ks.length kc) := by simpa using rBr.cell 6
    by_cases hlt : j < ks.length
    · obtain ⟨b, off, rfl, hc⟩ := (hs.kept hkr).cell hlt
      have hjl : (j : Int) < (ks.length : Int) := by omega
      have hpl := ptrsK_length ks j
      have hyes := ptrsK_yes (ks := ks) (j := j)
      have hno := ptrsK_no (ks := ks) (j := j)
      obtain ⟨z, hz⟩ : ∃ z, ks[j]?.getD 0 = z := ⟨_, rfl⟩
      rw [hz] at hc hyes hno
      obtain ⟨zs, hzs⟩ : ∃ zs, ptrsK ks j = zs := ⟨_, rfl⟩
      rw [hzs] at hown hpl hyes hno
      have hsz : R ≤ wr.heap.size := by have := hkr.size; have := HR.out; omega
      obtain ⟨L, hL⟩ : ∃ L, zs.length = L := ⟨_, rfl⟩
      rw [hL] at hown hpl
      have HL := Lib.hid hL
      clear hz hzs hL
      cases hp : pointerB z with
      | false =>
        have HN := Lib.hid (hno hp)
        have hz1 : (z == 1) = false := by simp [pointerB] at hp ⊢; omega
        have hz2 : (z == 2) = false := by simp [pointerB] at hp ⊢; omega
        have hz3 : (z == 3) = false := by simp [pointerB] at hp ⊢; omega
        clear hyes hno hp
        go_wp2
        go_roundw
        case rel => exact ⟨j + 1, v, rfl, by omega, by go_num, by rw [HN.out, HL.out]; exact hown, hvR, hkr, rBr⟩
        case measure => simp [intOf]; omega
      | true =>
        have HN := Lib.hid (hyes hp)
        have hz : z = 1 ∨ z = 2 ∨ z = 3 := by simp [pointerB] at hp; omega
        clear hyes hno hp
        rcases hz with rfl | rfl | rfl
        all_goals
          go_wp2_with (at_builtin; refine wpList_append_one _ rfl _ _ 25 rfl R 3 i0 (.int .i64 0) 8 Tryd.underlying25 hi hz0 hz1 hz2 rfl wr (.int .i64 j) v L (zs.map (Value.int .i64)) rfl rfl rfl hown hsz rfl (by omega) (by omega) ?_; intro g2 c2 w3 hown3 hk3 hg3)
          go_roundw
          case rel =>
            refine ⟨j + 1, _, rfl, by omega, by go_num, ?_, ?_, hkr.chain hk3 (by simp) (fun i hi hlt => by rw [Option.mem_toList] at hi; have := hvR i hi; have := HR.out; omega), rBr.kept hk3 (fun hi => by rw [Option.mem_toList] at hi; have := hvR _ hi; omega)⟩
            · rw [HN.out, List.length_append, List.length_singleton, HL.out, List.map_append]
              exact hown3
            · intro i hi
              obtain rfl : g2 = i := by simpa [Value.ownBlock] using hi
              rcases hg3 with h | h
              · exact hvR _ h
              · have := rBr.lt; omega
          case measure => simp [intOf]; omega
    · obtain rfl : j = ks.length := by omega
      go_wp2
      go_ret
      exact ⟨v, rfl, by rw [HR.out]; exact hown, hkr⟩
end Go.Proofs.YthkmnjkaadmilaaDoor
