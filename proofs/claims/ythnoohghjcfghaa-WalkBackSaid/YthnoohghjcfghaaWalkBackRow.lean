/- WalkBack: for every input the law answers true, and its arguments read behind the call as they read before. Conditions: none. -/
import Derived.Test.YthnoohghjcfghaaFlat
import Derived.Test.YthnoohghjcfghaaWalkBackLaw
namespace Go.Proofs.Ythnoohghjcfghaa
open Go.ChangeShapes Go.WideShapes Go.ChangeAt Go.RowKit

def intR : Value → Int
  | .int _ z => z
  | _ => 0
def boolR : Value → Bool
  | .bool b => b
  | _ => false
def headR (row : List Value) : Hd := ⟨boolR (row[0]?.getD (.bool false)), intR (row[1]?.getD (.bool false)), intR (row[2]?.getD (.bool false)), intR (row[3]?.getD (.bool false))⟩
theorem heads_of {w : World} {a : Option Addr} {rows : List (List Value)} (h : SlFlat w [.bool, .int .i64, .int .i64, .int .i64] a rows) :
    ∃ l : List Hd, l.length = rows.length ∧ SlS Hd.cells 4 w a l := by
  have key : ∀ row : List Value, Fits [.bool, .int .i64, .int .i64, .int .i64] row → ∃ (b : Bool) (x y z : Int), row = [.bool b, .int .i64 x, .int .i64 y, .int .i64 z] := by
    intro row hf
    obtain ⟨b, r, rfl, hf0⟩ := hf.bool
    obtain ⟨x, r, rfl, _, hf1⟩ := hf0.int
    obtain ⟨y, r, rfl, _, hf2⟩ := hf1.int
    obtain ⟨z, r, rfl, _, hf3⟩ := hf2.int
    rw [hf3.nil]
    exact ⟨b, x, y, z, rfl⟩
  refine ⟨rows.map headR, by simp, ?_⟩
  rcases h with rfl | ⟨b, off, rfl, hb, hc⟩
  · exact .inl rfl
  · refine .inr ⟨b, off, rfl, hb, fun j x hx i hi => ?_⟩
    rw [List.getElem?_map] at hx
    cases hr : rows[j]? with
    | none => simp [hr] at hx
    | some row =>
      rw [hr] at hx
      simp only [Option.map_some, Option.some.injEq] at hx
      subst hx
      obtain ⟨hf, hcc⟩ := hc j row hr
      obtain ⟨b, x, y, z, rfl⟩ := key row hf
      match i, hi with
      | 0, _ => exact hcc 0 _ rfl
      | 1, _ => exact hcc 1 _ rfl
      | 2, _ => exact hcc 2 _ rfl
      | 3, _ => exact hcc 3 _ rfl

set_option maxRecDepth 100000 in
set_option maxHeartbeats 1000000 in
theorem walkBack_lifted (os : Os) (started : os.Started) (H : Type) (enc : TypeId × Value → H) :
    ReturnsInHanded {} Try.checked os 5 .any (Rows.walkBackSpec.pre6 enc Try.prog Try.f5 Rows.walkBackRow.domain false) (Rows.walkBackSpec.post enc Try.prog Try.f5 false true false false) := by
  refine returnsInHanded_of_change (C := Try.checked) law_own started (by kernel_rfl) Try.func5
    (ChangeSpec.witness6 (enc := enc) (C := Try.checked) false ⟨#[], #[.slice none 0 0, .int .u8 0], []⟩ 8 (by kernel_rfl) (by kernel_rfl) (by kernel_rfl) (by kernel_rfl)) ?_
  intro W base args ds gs before hval0 hW hcnd _
  have hval : ∀ (j : Nat) t v, Try.f5.params[j]? = some t → args[j]? = some v → Value.okWide Try.prog W .any base t v := hval0
  have hW' := hW
  obtain ⟨p, q, hA0, hV, rfl, hfz, hnd⟩ := hW
  have hA : DataW.TrodAll enc Try.prog W 0 (fun _ => true) true Try.f5.params.toList args.toList ds p := hA0
  rw [Try.params5] at hA hval
  have hK := hA
  obtain ⟨v0, v1, d0, d1, p0, p1, rfl, rfl, rfl, h0, h1⟩ := trodAll_two hA
  obtain ⟨rfl, rfl⟩ := trodVars_none hV
  obtain ⟨a0, ca, rows, rfl, hf, hrm⟩ := open_flat (ls := [.bool, .int .i64, .int .i64, .int .i64]) 8 Try.underlying55 (by kernel_rfl) (by kernel_rfl) (by decide) (hval 0 55 v0 rfl rfl) h0
  obtain ⟨hs, hsl, hr⟩ := heads_of hf
  obtain ⟨gap, rfl, _, _, hgw⟩ := open_int Try.underlying5 (hval 1 5 v1 rfl rfl) h1
  obtain ⟨hg0, hg1⟩ := u8_le hgw
  obtain ⟨A, rfl⟩ : ∃ A : Nat, gap = A := ⟨gap.toNat, by omega⟩
  clear hA0 hval0
  have hwalk : Calls Try.prog 5 #[.slice a0 rows.length ca, .int .u8 A] W (FixedPost W) := by
    by_cases hb : 20 < rows.length
    · exact walkBack_big a0 rows.length ca A W hb hrm
    · rw [← hsl] at hb ⊢
      exact walkBack_law a0 ca hs A W hr (by omega) (by omega)
  refine hwalk.mono fun e W' ⟨he, hk⟩ => ?_
  subst he
  have bel : Below W.heap.size W W' := hk.below (by simp) (Nat.le_refl _)
  exact ⟨_, rfl, _, _, _, [], _, [], hW', trodAll_mk1 (shut_bool Try.underlying4 _), trodAll_below bel _ _ _ _ (by decide +kernel) hK, rfl, bel.frame _, fun h => by cases h⟩

theorem walkBack_holds : Rows.WalkBackSaid :=
  OpenClaim.holds_of_wide 5 Try.f5 rfl rfl rfl rfl rfl rfl rfl ⟨rfl, rfl, rfl, rfl, rfl⟩ rfl rfl rfl rfl rfl (by kernel_rfl) Try.func5 (by kernel_rfl)
    (of_decide_eq_true (by kernel_rfl)) (by unfold Func.isWrapper; first | (rw [if_pos (by decide +kernel)]; kernel_rfl) | (rw [if_neg (by decide +kernel)]; exact ⟨rfl, rfl⟩))
    (fun os started H enc _ => walkBack_lifted os started H enc)
end Go.Proofs.Ythnoohghjcfghaa
