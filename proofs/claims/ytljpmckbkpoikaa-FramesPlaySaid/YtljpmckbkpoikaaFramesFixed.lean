/- Push in all its ways; the chapter's example (fixed). -/
import Derived.Test.YtljpmckbkpoikaaFramesPush
import Derived.Test.YtljpmckbkpoikaaFramesPop
import Derived.Test.YtljpmckbkpoikaaSameU
import Derived.Test.YtljpmckbkpoikaaStructs
namespace Go.Proofs.Ytljpmckbkpoikaa
open Go.RowKit

theorem stackPush_any (b n : Nat) (v : Value) (fs : List (List Int)) (w : World) (hm : IsStack w b v fs) :
    Calls Try.prog 7 #[.pointer (some ⟨b, 0, none⟩), .int .u64 n] w fun e w' => ∃ v', e = .returned (.int .i64 (pushE fs n)) ∧ IsStack w' b v' (pushF fs n) ∧ GoesF b v w v' w' := by
  unfold pushF pushE
  by_cases h1 : 16 < n
  · rw [if_pos h1, if_pos h1]
    refine (stackPush_arg b n w h1).mono ?_
    rintro e w' ⟨rfl, rfl⟩
    exact ⟨v, rfl, hm, GoesF.refl _ _ _⟩
  · rw [if_neg h1, if_neg h1]
    by_cases h2 : 63 < fs.length
    · rw [if_pos h2, if_pos h2]
      refine (stackPush_full b n v fs w hm (by omega) (by have := hm.small.few; omega)).mono ?_
      rintro e w' ⟨rfl, rfl⟩
      exact ⟨v, rfl, hm, GoesF.refl _ _ _⟩
    · rw [if_neg h2, if_neg h2]
      exact stackPush_ok b n v fs w hm (by omega) (by omega)
/-- From a stack that is new: what lay before lies as it lay. -/
theorem kept_of_goes {b : Nat} {v : Value} {w w1 w2 : World} (h : Kept [] w w1) (hb : w.heap.size ≤ b) (g : GoesF b (.slice none 0 0) w1 v w2) : Kept [] w w2 :=
  h.chain g.kept (by simp) (by intro i hi hl; simp [Value.ownBlock] at hi; omega)
theorem GoesF.of_set {b : Nat} {v : Value} {w w' : World} (h : Kept [b] w w') : GoesF b v w v w' := ⟨h.mono (fun i hi _ => by simp at hi; simp [hi]), fun _ h => .inl h⟩

set_option maxRecDepth 100000 in
set_option maxHeartbeats 1000000 in
theorem fixed17_any (w : World) : Calls Try.prog 5 #[] w (FixedPost w) := by
  go_enter Try.func5, Try.ntmps5
  go_wp2_with fail
  refine (stackNew_any w).mono ?_
  rintro e w1 ⟨b, rfl, hb, hm1, hk1⟩
  go_wp2_with fail
  refine (stackPush_any b 2 _ _ w1 hm1).mono ?_
  rintro e w2 ⟨v2, rfl, hm2, g2⟩
  rw [show pushE [] 2 = 0 from rfl]
  rw [show pushF [] 2 = [[0, 0]] from rfl] at hm2
  go_wp2_with fail
  refine (stackSet_any b v2 _ 1 7 w2 hm2).mono ?_
  rintro e w3 ⟨rfl, hm3, k3⟩
  have g3 := g2.trans (GoesF.of_set k3)
  rw [show setF [[0, 0]] 1 7 = [[0, 7]] from rfl] at hm3
  go_wp2_with fail
  refine (stackPush_any b 1 _ _ w3 hm3).mono ?_
  rintro e w4 ⟨v4, rfl, hm4, g4⟩
  have g4 := g3.trans g4
  rw [show pushF [[0, 7]] 1 = [[0, 7], [0]] from rfl] at hm4
  go_wp2_with fail
  refine (stackPop_any b v4 _ w4 hm4).mono ?_
  rintro e w5 ⟨u5, v5, rfl, _, hm5, g5, _⟩
  have g5 := g4.trans g5
  rw [show [[0, 7], [(0 : Int)]].dropLast = [[0, 7]] from rfl] at hm5
  go_wp2_with fail
  refine (stackPop_any b v5 _ w5 hm5).mono ?_
  rintro e w6 ⟨u6, v6, rfl, ho6, hm6, g6, _⟩
  have g6 := g5.trans g6
  have k6 := kept_of_goes hk1 hb g6
  rw [show popE [[0, 7]] = 0 from rfl]
  rw [show topF [[0, 7]] = [0, 7] from rfl] at ho6
  obtain ⟨A, cap, rfl, hx⟩ := SlX.of_own (k := .u64) (xs := [0, 7]) ho6
  have kE := (Kept.refl [] w6).alloc (.cells #[.int .u64 0, .int .u64 7] 23)
  have hE := Sl.of_row (k := .u64) (xs := [0, 7]) (Row.new w6 23 [.int .u64 0, .int .u64 7])
  have hA := hx.sl.kept kE
  have K7 := Lib.hid (k6.trans kE)
  clear hx ho6 hm6 hm1 hm2 hm3 hm4 hm5 g2 g3 g4 g5 g6 k6 kE k3 hk1
  go_wp2_with fail
  refine (refSame01_yes A (some ⟨w6.heap.size, 0, none⟩) 2 2 cap 2 [0, 7] _ hA hE rfl rfl (by omega)).mono ?_
  rintro e w7 ⟨rfl, k7⟩
  go_wp2
  go_ret
  exact ⟨rfl, K7.out.trans k7⟩
end Go.Proofs.Ytljpmckbkpoikaa
