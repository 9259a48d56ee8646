/- Package frames: New, Depth, top, slot, Get, Set. -/
import Derived.Test.YtljpmckbkpoikaaFramesPlain
import Derived.Deep.WholeRow
import Derived.RangeFuncBox
namespace Go.Proofs.Ytljpmckbkpoikaa
open Go.RowKit

/-- The zero value of a stack. -/
def zeroStk : Array Value := (stackC (List.replicate 1024 0) 0 (.slice none 0 0)).toArray
theorem zero_stk (w : World) : (zeroValue 54).run Try.prog w = .ok (.agg zeroStk) w := (zero_of_info (P := Try.prog) (t := 54) (v := .agg zeroStk) (n := 1026) (by kernel_rfl)).1 w

/-- What New leaves: a stack in new blocks. -/
def NewStack (w : World) (e : Ending) (w' : World) : Prop :=
  ∃ b, e = .returned (.pointer (some ⟨b, 0, none⟩)) ∧ w.heap.size ≤ b ∧ IsStack w' b (.slice none 0 0) [] ∧ Kept [] w w'
theorem newStack_made (w : World) : NewStack w (.returned (.pointer (some ⟨w.heap.size, 0, none⟩))) (w.alloc (.cells zeroStk 54)) :=
  ⟨w.heap.size, rfl, Nat.le_refl _, ⟨Row.new w 54 _, World.ownsRow_nil _ _ _ _, SmallF.nil⟩, (Kept.refl [] w).alloc _⟩

set_option maxRecDepth 100000 in
set_option maxHeartbeats 400000 in
theorem stackNew_any (w : World) : Calls Try.prog 6 #[] w (NewStack w) := by
  have hb := zero_stk
  have HN := Lib.hid (newStack_made w)
  go_enter Try.func6, Try.ntmps6
  go_wp2
  go_ret
  exact HN.out

set_option maxRecDepth 100000 in
set_option maxHeartbeats 400000 in
theorem stackDepth_any (b : Nat) (v : Value) (fs : List (List Int)) (w : World) (hm : IsStack w b v fs) :
    Calls Try.prog 15 #[.pointer (some ⟨b, 0, none⟩)] w fun e w' => e = .returned (.int .i64 fs.length) ∧ w = w' := by
  have hc := hm.cellF
  rcases hm.own.2 with ⟨rfl, h0⟩ | ⟨g, cap, cur, rfl, _⟩
  · rw [h0]
    go_enter Try.func15, Try.ntmps15
    go_wp2
    go_ret
    exact ⟨rfl, rfl⟩
  · go_enter Try.func15, Try.ntmps15
    go_wp2
    go_ret
    exact ⟨rfl, rfl⟩

section
variable {w : World} {b : Nat} {v : Value} {fs gs : List (List Int)} {f : List Int}
theorem IsStack.form (h : IsStack w b v fs) : ∃ A cap, v = .slice A fs.length cap := by
  rcases h.own.2 with ⟨rfl, h0⟩ | ⟨g, cap, cur, rfl, _⟩
  · exact ⟨none, 0, by rw [h0]⟩
  · exact ⟨_, _, rfl⟩
theorem IsStack.snoc (h : IsStack w b v (gs ++ [f])) : ∃ g cap, v = .slice (some ⟨g, 0, none⟩) (gs.length + 1) cap ∧ w.cell? ⟨g, gs.length, none⟩ = some (frV b (totF gs) f) ∧
    w.ownsRow b 31 1 (.slice (some ⟨g, 0, none⟩) gs.length cap) gs.length (framesV b 0 gs) ∧ b ≠ g ∧ gs.length + 1 ≤ cap := by
  have hb := h.blockLt
  have ho := h.own
  rw [framesV_snoc, Nat.zero_add, show gs.flatten.length = totF gs from rfl, List.length_append, List.length_singleton] at ho
  obtain ⟨g, cap, rfl⟩ := ownsRow_succ ho
  have hcap : gs.length + 1 ≤ cap := by
    rcases ho.2 with ⟨h0, _⟩ | ⟨g', cap', cur, hv, _, _, hn, _⟩
    · cases h0
    · cases hv; exact hn
  refine ⟨g, cap, rfl, ?_, ownsRow_pop (by rw [framesV_length, Nat.mul_one]) ho, fun e => (hb g rfl).2 e.symm, hcap⟩
  rw [ho.cellAt gs.length (by omega), List.getElem?_append_right (by rw [framesV_length]; exact Nat.le_refl _), framesV_length, Nat.sub_self]
  rfl
theorem IsStack.bound (h : IsStack w b v (gs ++ [f])) : gs.length ≤ 63 ∧ f.length ≤ 16 ∧ totF gs + f.length ≤ 1024 := by
  have h1 := h.small.few
  have h2 := h.small.small f (by simp)
  have h3 := h.small.pre.flat
  rw [show gs.flatten.length = totF gs from rfl] at h3
  rw [List.length_append, List.length_singleton] at h1
  omega
end

set_option maxRecDepth 100000 in
set_option maxHeartbeats 400000 in
theorem stackTop_no (b : Nat) (v : Value) (w : World) (hm : IsStack w b v []) :
    Calls Try.prog 21 #[.pointer (some ⟨b, 0, none⟩)] w fun e w' => e = .returned (.tuple #[.slice none 0 0, .bool false]) ∧ w = w' := by
  have hc := hm.cellF
  obtain ⟨A, cap, rfl⟩ := hm.form
  rw [List.length_nil] at hc
  clear hm
  go_enter Try.func21, Try.ntmps21
  go_wp2
  go_ret2
  exact ⟨rfl, rfl⟩

set_option maxRecDepth 100000 in
set_option maxHeartbeats 400000 in
theorem stackTop_yes (b : Nat) (v : Value) (gs : List (List Int)) (f : List Int) (w : World) (hm : IsStack w b v (gs ++ [f])) :
    Calls Try.prog 21 #[.pointer (some ⟨b, 0, none⟩)] w fun e w' => e = .returned (.tuple #[frV b (totF gs) f, .bool true]) ∧ Kept [] w w' := by
  have hc := hm.cellF
  have hbd := hm.bound.1
  obtain ⟨g, cap, rfl, hg, _⟩ := hm.snoc
  clear hm
  obtain ⟨V, hV⟩ : ∃ V, frV b (totF gs) f = V := ⟨_, rfl⟩
  rw [hV] at hg ⊢
  generalize gs.length = K at hc hg hbd
  have HMV := Lib.hid hV
  clear hV
  go_enter Try.func21, Try.ntmps21
  go_wp2_with fail
  go_quiet (fail)
  go_wp2
  go_ret2
  exact ⟨rfl, (Kept.refl [] w).drewN _⟩

set_option maxRecDepth 100000 in
set_option maxHeartbeats 400000 in
theorem stackSlot_none (b : Nat) (v : Value) (i : Nat) (w : World) (hm : IsStack w b v []) :
    Calls Try.prog 23 #[.pointer (some ⟨b, 0, none⟩), .int .u64 i] w fun e w' => e = .returned (.tuple #[.pointer none, .int .i64 2]) ∧ w = w' := by
  go_enter Try.func23, Try.ntmps23
  go_wp2_with fail
  refine (stackTop_no b v w hm).mono ?_
  rintro e w' ⟨rfl, rfl⟩
  go_wp2
  go_ret2
  exact ⟨rfl, rfl⟩

set_option maxRecDepth 100000 in
set_option maxHeartbeats 400000 in
theorem stackSlot_no (b : Nat) (v : Value) (gs : List (List Int)) (f : List Int) (i : Nat) (w : World) (hm : IsStack w b v (gs ++ [f])) (hi : f.length ≤ i) :
    Calls Try.prog 23 #[.pointer (some ⟨b, 0, none⟩), .int .u64 i] w fun e w' => e = .returned (.tuple #[.pointer none, .int .i64 8]) ∧ Kept [] w w' := by
  have hbd := hm.bound
  have hwl : IntKind.u64.wrap (f.length : Int) = (f.length : Int) := by rw [IntKind.wrap_u64]; omega
  have d1 : decide ((f.length : Int) ≤ (i : Int)) = true := by simp; omega
  have H := Lib.hid hi
  clear hi
  go_enter Try.func23, Try.ntmps23
  go_wp2_with fail
  refine (stackTop_yes b v gs f w hm).mono ?_
  rintro e w' ⟨rfl, hk⟩
  unfold frV
  generalize fAt b (totF gs) f.length = A
  go_wp2
  go_ret2
  exact ⟨rfl, hk⟩

set_option maxRecDepth 100000 in
set_option maxHeartbeats 400000 in
theorem stackSlot_yes (b : Nat) (v : Value) (gs : List (List Int)) (f : List Int) (i : Nat) (w : World) (hm : IsStack w b v (gs ++ [f])) (hi : i < f.length) :
    Calls Try.prog 23 #[.pointer (some ⟨b, 0, none⟩), .int .u64 i] w fun e w' => e = .returned (.tuple #[.pointer (some ⟨b, totF gs + i, none⟩), .int .i64 0]) ∧ Kept [] w w' := by
  have hbd := hm.bound
  have hwl : IntKind.u64.wrap (f.length : Int) = (f.length : Int) := by rw [IntKind.wrap_u64]; omega
  have d1 : decide ((f.length : Int) ≤ (i : Int)) = false := by simp; omega
  have hwi : IntKind.i64.wrap (i : Int) = (i : Int) := IntWalk.i64_in _ (by omega)
  have hfr : frV b (totF gs) f = .slice (some ⟨b, totF gs, none⟩) f.length f.length := by unfold frV fAt; rw [if_neg (by omega)]
  have HF := Lib.hid hfr
  clear hfr
  go_enter Try.func23, Try.ntmps23
  go_wp2_with fail
  refine (stackTop_yes b v gs f w hm).mono ?_
  rintro e w' ⟨rfl, hk⟩
  rw [HF.out]
  go_wp2
  go_ret2
  exact ⟨rfl, hk⟩

set_option maxRecDepth 100000 in
set_option maxHeartbeats 400000 in
theorem stackGet_any (b : Nat) (v : Value) (fs : List (List Int)) (i : Nat) (w : World) (hm : IsStack w b v fs) :
    Calls Try.prog 17 #[.pointer (some ⟨b, 0, none⟩), .int .u64 i] w fun e w' =>
      e = .returned (.tuple #[.int .u64 ((topF fs)[i]?.getD 0), .int .i64 (getE fs i)]) ∧ Kept [] w w' := by
  rcases snoc_cases fs with rfl | ⟨gs, f, rfl⟩
  · go_enter Try.func17, Try.ntmps17
    go_wp2_with fail
    refine (stackSlot_none b v i w hm).mono ?_
    rintro e w' ⟨rfl, rfl⟩
    go_wp2
    go_ret2
    exact ⟨rfl, Kept.refl _ _⟩
  · rw [topF_snoc, getE_snoc]
    have hbd := hm.bound
    by_cases hi : i < f.length
    · have hh : slotB f.length i = true := by simpa [slotB] using hi
      have H := Lib.hid hh
      have HI := Lib.hid hi
      clear hh
      obtain ⟨y, hy⟩ : ∃ y, f[i]?.getD 0 = y := ⟨_, rfl⟩
      rw [hy]
      have HY := Lib.hid hy
      clear hy
      go_enter Try.func17, Try.ntmps17
      go_wp2_with fail
      refine (stackSlot_yes b v gs f i w hm hi).mono ?_
      rintro e w' ⟨rfl, hk⟩
      have hc := (hm.kept hk).cellW (totF gs + i) (by omega)
      rw [show (wordsF (gs ++ [f]))[totF gs + i]?.getD 0 = f[i]?.getD 0 from wordsF_get gs f i hi, HY.out] at hc
      clear hi
      go_wp2
      go_ret2
      exact ⟨by rw [H.out]; rfl, hk⟩
    · have hh : slotB f.length i = false := by simp [slotB]; omega
      have hv : f[i]?.getD 0 = 0 := by rw [List.getElem?_eq_none (by omega)]; rfl
      have H := Lib.hid hh
      have HV := Lib.hid hv
      clear hh hv
      go_enter Try.func17, Try.ntmps17
      go_wp2_with fail
      refine (stackSlot_no b v gs f i w hm (by omega)).mono ?_
      rintro e w' ⟨rfl, hk⟩
      go_wp2
      go_ret2
      exact ⟨by rw [H.out, HV.out]; rfl, hk⟩

set_option maxRecDepth 100000 in
set_option maxHeartbeats 400000 in
theorem stackSet_any (b : Nat) (v : Value) (fs : List (List Int)) (i : Nat) (x : Int) (w : World) (hm : IsStack w b v fs) :
    Calls Try.prog 11 #[.pointer (some ⟨b, 0, none⟩), .int .u64 i, .int .u64 x] w fun e w' =>
      e = .returned (.tuple #[.int .u64 ((topF fs)[i]?.getD 0), .int .i64 (getE fs i)]) ∧ IsStack w' b v (setF fs i x) ∧ Kept [b] w w' := by
  rcases snoc_cases fs with rfl | ⟨gs, f, rfl⟩
  · go_enter Try.func11, Try.ntmps11
    go_wp2_with fail
    refine (stackSlot_none b v i w hm).mono ?_
    rintro e w' ⟨rfl, rfl⟩
    go_wp2
    go_ret2
    exact ⟨rfl, hm, Kept.refl _ _⟩
  · rw [topF_snoc, getE_snoc, setF_snoc]
    have hbd := hm.bound
    by_cases hi : i < f.length
    · have hh : slotB f.length i = true := by simpa [slotB] using hi
      have H := Lib.hid hh
      clear hh
      obtain ⟨y, hy⟩ : ∃ y, f[i]?.getD 0 = y := ⟨_, rfl⟩
      rw [hy]
      have HY := Lib.hid hy
      clear hy
      go_enter Try.func11, Try.ntmps11
      go_wp2_with fail
      refine (stackSlot_yes b v gs f i w hm hi).mono ?_
      rintro e w' ⟨rfl, hk⟩
      have hm' := hm.kept hk
      have hc := hm'.cellW (totF gs + i) (by omega)
      rw [show (wordsF (gs ++ [f]))[totF gs + i]?.getD 0 = f[i]?.getD 0 from wordsF_get gs f i hi, HY.out] at hc
      have hf := hm'.box.free (totF gs + i)
      have hst : IsStack (w'.setCell ⟨b, totF gs + i, none⟩ (.int .u64 x)) b v (gs ++ [f.set i x]) := by
        have hs := hm'.small.set i x
        rw [setF_snoc] at hs
        refine ⟨?_, ?_, hs⟩
        · have := hm'.box.set (totF gs + i) (.int .u64 x)
          rw [stackC_setWord _ (by rw [hm'.small.words]; omega), show (wordsF (gs ++ [f])).set (totF gs + i) x = wordsF (gs ++ [f.set i x]) from wordsF_set gs f i x hi] at this
          rw [totF_snoc, List.length_set, ← totF_snoc]
          exact this
        · have := own_keptV hm'.own ((Kept.refl [b] w').set (p := ⟨b, totF gs + i, none⟩) (.inl (by simp)) (.int .u64 x)) (fun j hj hm => (hm'.blockLt j hj).2 (by simpa using hm))
          rw [framesV_snoc, frV_set, ← framesV_snoc]
          simpa using this
      have HST := Lib.hid hst
      have HK := Lib.hid ((hk.any (S := [b])).set (p := ⟨b, totF gs + i, none⟩) (.inl (by simp)) (.int .u64 x))
      clear hst
      clear hi
      go_wp2
      go_ret2
      exact ⟨by rw [H.out]; rfl, HST.out, HK.out⟩
    · have hh : slotB f.length i = false := by simp [slotB]; omega
      have hv : f[i]?.getD 0 = 0 := by rw [List.getElem?_eq_none (by omega)]; rfl
      have hs : f.set i x = f := List.set_eq_of_length_le (by omega)
      have H := Lib.hid hh
      have HV := Lib.hid hv
      have HS := Lib.hid hs
      clear hh hv hs
      go_enter Try.func11, Try.ntmps11
      go_wp2_with fail
      refine (stackSlot_no b v gs f i w hm (by omega)).mono ?_
      rintro e w' ⟨rfl, hk⟩
      go_wp2
      go_ret2
      exact ⟨by rw [H.out, HV.out]; rfl, by rw [HS.out]; exact hm.kept hk, hk.any⟩

set_option maxRecDepth 100000 in
set_option maxHeartbeats 400000 in
theorem toldF_any (A : Option Addr) (cap n : Nat) (xs : List Int) (w : World) (hs : Sl w .u64 A xs) (hn : xs.length = n) (hx : n ≤ 16384) :
    Calls Try.prog 22 #[.slice A n cap] w (OwnPost n xs w) := by
  subst hn
  obtain ⟨i0, hi, hz0, hz1, hz2⟩ := info_parts Try.infoU23
  have own0 := own_empty w 23 1 w.heap.size (Nat.le_refl _)
  have k0 := (Kept.refl [] w).alloc (.cells #[] 23)
  have s0 := (hs.kept k0).toV
  go_enter Try.func22, Try.ntmps22
  go_wp2_with (at_builtin; refine wpList_append_on _ rfl _ _ 31 rfl w.heap.size 23 i0 (.int .u64 0) 1 8 Try.underlying31 hi hz0 hz1 hz2 rfl (by omega) w.heap.size 0 0 [] rfl own0 A xs.length cap _ rfl s0 int_oneCell (by unfold maxLen; omega) (by omega) (by simp) ?_; intro g' cap' w1 hown hk _; rw [Nat.zero_add, List.nil_append] at hown; rw [Nat.zero_add])
  go_ret
  exact ⟨g', cap', rfl, hown, k0.chain hk (by simp) (by simp)⟩
end Go.Proofs.Ytljpmckbkpoikaa
