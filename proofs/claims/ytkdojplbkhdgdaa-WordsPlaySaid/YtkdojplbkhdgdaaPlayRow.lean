/- WordsPlay: for every input the law answers true, and its arguments read behind the call as they read before. Conditions: none. -/
import Derived.Test.YtkdojplbkhdgdaaSlRows
import Derived.Test.YtkdojplbkhdgdaaPlay
namespace Go.Proofs.Ytkdojplbkhdgdaa
open Go.ChangeShapes Go.WideShapes Go.ChangeAt Go.RowKit

def actOf (row : List Int) : ActV := { kind := row[0]?.getD 0, at_ := row[1]?.getD 0, n := row[2]?.getD 0, to := row[3]?.getD 0, v := row[4]?.getD 0 }
theorem acts_of {w : World} {a : Option Addr} {rows : List (List Int)} (h : SlI w [.i64, .i64, .i64, .i64, .u64] a rows) :
    ∃ l : List ActV, l.length = rows.length ∧ SlA w a l ∧ ∀ x ∈ l, x.at_ ≤ 9223372036854775807 ∧ x.to ≤ 9223372036854775807 := by
  refine ⟨rows.map actOf, by simp, ?_, ?_⟩
  · rcases h with rfl | ⟨b, off, rfl, hb, hc⟩
    · exact .inl rfl
    · refine .inr ⟨b, off, rfl, hb, fun j x hx => ?_⟩
      rw [List.getElem?_map] at hx
      cases hr : rows[j]? with
      | none => simp [hr] at hx
      | some row =>
        rw [hr] at hx
        simp only [Option.map_some, Option.some.injEq] at hx
        subst hx
        obtain ⟨_, hcc⟩ := hc j row hr
        exact ⟨(hcc 0 .i64 rfl).1, (hcc 1 .i64 rfl).1, (hcc 2 .i64 rfl).1, (hcc 3 .i64 rfl).1, (hcc 4 .u64 rfl).1⟩
  · intro x hx
    obtain ⟨row, hrow, rfl⟩ := List.mem_map.1 hx
    rcases h with rfl | ⟨b, off, rfl, hb, hc⟩
    · cases hrow
    · obtain ⟨j, hj, rfl⟩ := List.getElem_of_mem hrow
      obtain ⟨_, hcc⟩ := hc j _ (List.getElem?_eq_getElem hj)
      exact ⟨(i64_le (hcc 1 .i64 rfl).2).2, (i64_le (hcc 3 .i64 rfl).2).2⟩

set_option maxRecDepth 100000 in
theorem wordsPlay_lifted (os : Os) (started : os.Started) (H : Type) (enc : TypeId × Value → H) :
    ReturnsInHanded {} Try.checked os 3 .any (Rows.wordsPlaySpec.pre6 enc Try.prog Try.f3 Rows.wordsPlayRow.domain false) (Rows.wordsPlaySpec.post enc Try.prog Try.f3 false true false false) := by
  refine returnsInHanded_of_change (C := Try.checked) law_own started (by kernel_rfl) Try.func3
    (ChangeSpec.witness6 (enc := enc) (C := Try.checked) false ⟨#[], #[.int .i64 0, .slice none 0 0, .int .i64 0], []⟩ 8 (by kernel_rfl) (by kernel_rfl) (by kernel_rfl) (by kernel_rfl)) ?_
  intro W base args ds gs before hval0 hW hcnd _
  have hval : ∀ (j : Nat) t v, Try.f3.params[j]? = some t → args[j]? = some v → Value.okWide Try.prog W .any base t v := hval0
  have hW' := hW
  obtain ⟨p, q, hA0, hV, rfl, hfz, hnd⟩ := hW
  have hA : DataW.TrodAll enc Try.prog W 0 (fun _ => true) true Try.f3.params.toList args.toList ds p := hA0
  rw [Try.params3] at hA hval
  have hK := hA
  obtain ⟨v0, v1, v2, d0, d1, d2, p0, p1, p2, rfl, rfl, rfl, h0, h1, h2⟩ := trodAll_three hA
  obtain ⟨rfl, rfl⟩ := trodVars_none hV
  obtain ⟨n, rfl, _, _, wn⟩ := open_int Try.underlying3 (hval 0 3 v0 rfl rfl) h0
  obtain ⟨a0, cap, rows, rfl, hs0, hmx⟩ := open_sli (ks := [.i64, .i64, .i64, .i64, .u64]) Try.underlying22 Try.underlying33 (by kernel_rfl) (by kernel_rfl) (by kernel_rfl) (by decide) (hval 1 22 v1 rfl rfl) h1
  obtain ⟨at_, rfl, _, _, _⟩ := open_int Try.underlying3 (hval 2 3 v2 rfl rfl) h2
  obtain ⟨l, hll, hs, hbd⟩ := acts_of hs0
  clear hA0 hval0
  have hwalk : Calls Try.prog 3 #[.int .i64 n, .slice a0 rows.length cap, .int .i64 at_] W (FixedPost W) := by
    by_cases c1 : 300 < n ∧ n ≤ 16384
    · exact play_fixed n a0 rows.length cap at_ W hmx (.inl c1)
    · by_cases c2 : 60 < rows.length
      · exact play_fixed n a0 rows.length cap at_ W hmx (.inr ⟨c1, c2⟩)
      · by_cases c3 : n < 0 ∨ 16384 < n
        · exact play_none n a0 rows.length cap at_ W (by omega) c3
        · obtain ⟨N, rfl⟩ := Int.eq_ofNat_of_zero_le (show 0 ≤ n by omega)
          rw [← hll]
          exact play_any N a0 cap l at_ W hs (by omega) (by omega) hbd
  refine hwalk.mono fun e W' ⟨he, hk⟩ => ?_
  subst he
  have bel : Below W.heap.size W W' := hk.below (by simp) (Nat.le_refl _)
  exact ⟨_, rfl, _, _, _, [], _, [], hW', trodAll_mk1 (shut_bool Try.underlying4 _), trodAll_below bel _ _ _ _ (by decide +kernel) hK, rfl, bel.frame _, fun h => by cases h⟩

theorem wordsPlay_holds : Rows.WordsPlaySaid :=
  OpenClaim.holds_of_wide 3 Try.f3 rfl rfl rfl rfl rfl rfl rfl ⟨rfl, rfl, rfl, rfl, rfl⟩ rfl rfl rfl rfl rfl (by kernel_rfl) Try.func3 (by kernel_rfl)
    (of_decide_eq_true (by kernel_rfl)) (by unfold Func.isWrapper; first | (rw [if_pos (by decide +kernel)]; kernel_rfl) | (rw [if_neg (by decide +kernel)]; exact ⟨rfl, rfl⟩))
    (fun os started H enc _ => wordsPlay_lifted os started H enc)
end Go.Proofs.Ytkdojplbkhdgdaa
