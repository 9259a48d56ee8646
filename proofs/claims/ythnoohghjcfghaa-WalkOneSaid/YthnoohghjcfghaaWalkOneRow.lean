/- WalkOne: for every input the law answers true, and its arguments read behind the call as they read before. Conditions: none. -/
import Derived.Test.YthnoohghjcfghaaFlat
import Derived.Test.YthnoohghjcfghaaDescArgs
import Derived.Test.YthnoohghjcfghaaHeaderArg
import Derived.Test.YthnoohghjcfghaaWalkOneLaw
namespace Go.Proofs.Ythnoohghjcfghaa
open Go.ChangeShapes Go.WideShapes Go.ChangeAt Go.RowKit

set_option maxRecDepth 100000 in
/-- A slice of integers, its room told too. -/
theorem open_slC {H : Type} {enc : TypeId × Value → H} {W : World} {b0 : Nat} {held : Bool} {r : Reach} {t e : TypeId} {k : IntKind} {v : Value} {d : DataW H} {p : List MemPlace}
    (ht : Try.prog.underlying t = some (.slice e)) (he : Try.prog.underlying e = some (.int k)) (hce : Try.prog.cellsOf e = 1)
    (hv : Value.okWide Try.prog W r b0 t v) (h : DataW.Trod enc Try.prog W 0 (fun _ => true) held t v d p) :
    ∃ (a : Option Addr) (cap : Nat) (zs : List Int), v = .slice a zs.length cap ∧ Sl W k a zs ∧ zs.length ≤ cap ∧ cap ≤ maxLen ∧ ∀ z ∈ zs, (Lit.int k z).wf = true := by
  obtain ⟨a, cap, zs, rfl, hs, _, hw⟩ := open_sl ht he hce hv h
  obtain ⟨fuel, hf⟩ := h
  rcases open_ints ht he hce hf with ⟨hcs, _⟩ | ⟨x, l, c, zs', hcs, _, hl, hm, _⟩
  · simp [Value.cells] at hcs
    obtain ⟨_, h0, rfl⟩ := hcs
    exact ⟨a, 0, zs, rfl, hs, by simp [h0], Nat.zero_le _, hw⟩
  · simp [Value.cells] at hcs
    obtain ⟨_, h0, rfl⟩ := hcs
    exact ⟨a, cap, zs, rfl, hs, by omega, hm, hw⟩

def intR : Value → Int
  | .int _ z => z
  | _ => 0
def runZ (row : List Value) : RunZ := (intR (row[0]?.getD (.bool false)), intR (row[1]?.getD (.bool false)))
theorem runsZ_of {w : World} {a : Option Addr} {rows : List (List Value)} (h : SlFlat w [.int .i64, .int .i64] a rows) :
    ∃ l : List RunZ, l.length = rows.length ∧ SlS cellsZ 2 w a l ∧ ∀ r ∈ l, (-9223372036854775808 ≤ r.1 ∧ r.1 ≤ 9223372036854775807) := by
  have key : ∀ row : List Value, Fits [.int .i64, .int .i64] row → ∃ (x y : Int), row = [.int .i64 x, .int .i64 y] ∧ (Lit.int .i64 x).wf = true := by
    intro row hf
    obtain ⟨x, r, rfl, wx, hf1⟩ := hf.int
    obtain ⟨y, r, rfl, _, hf2⟩ := hf1.int
    rw [hf2.nil]
    exact ⟨x, y, rfl, wx⟩
  refine ⟨rows.map runZ, by simp, ?_, ?_⟩
  · rcases h with rfl | ⟨b, off, rfl, hb, hc⟩
    · exact .inl rfl
    · refine .inr ⟨b, off, rfl, hb, fun j x hx i hi => ?_⟩
      rw [List.getElem?_map] at hx
      cases hr : rows[j]? with
      | none => simp [hr] at hx
      | some row =>
        rw [hr] at hx
        simp only [Option.map_some, Option.some.injEq] at hx
        subst hx
        obtain ⟨hf, hcc⟩ := hc j row hr
        obtain ⟨x, y, rfl, _⟩ := key row hf
        match i, hi with
        | 0, _ => exact hcc 0 _ rfl
        | 1, _ => exact hcc 1 _ rfl
  · intro x hx
    obtain ⟨row, hrow, rfl⟩ := List.mem_map.1 hx
    rcases h with rfl | ⟨b, off, rfl, hb, hc⟩
    · simp at hrow
    · obtain ⟨i, hi, rfl⟩ := List.getElem_of_mem hrow
      obtain ⟨hf, _⟩ := hc i _ (List.getElem?_eq_getElem hi)
      obtain ⟨x, y, he, wx⟩ := key _ hf
      rw [he]
      exact i64_le wx

set_option maxRecDepth 100000 in
set_option maxHeartbeats 1000000 in
theorem walkOne_lifted (os : Os) (started : os.Started) (H : Type) (enc : TypeId × Value → H) :
    ReturnsInHanded {} Try.checked os 3 .any (Rows.walkOneSpec.pre6 enc Try.prog Try.f3 Rows.walkOneRow.domain false) (Rows.walkOneSpec.post enc Try.prog Try.f3 false true false false) := by
  refine returnsInHanded_of_change (C := Try.checked) law_own started (by kernel_rfl) Try.func3
    (ChangeSpec.witness6 (enc := enc) (C := Try.checked) false ⟨#[], #[.slice none 0 0, .slice none 0 0, .slice none 0 0], []⟩ 8 (by kernel_rfl) (by kernel_rfl) (by kernel_rfl) (by kernel_rfl)) ?_
  intro W base args ds gs before hval0 hW hcnd _
  have hval : ∀ (j : Nat) t v, Try.f3.params[j]? = some t → args[j]? = some v → Value.okWide Try.prog W .any base t v := hval0
  have hW' := hW
  obtain ⟨p, q, hA0, hV, rfl, hfz, hnd⟩ := hW
  have hA : DataW.TrodAll enc Try.prog W 0 (fun _ => true) true Try.f3.params.toList args.toList ds p := hA0
  rw [Try.params3] at hA hval
  have hK := hA
  obtain ⟨v0, v1, v2, d0, d1, d2, p0, p1, p2, rfl, rfl, rfl, h0, h1, h2⟩ := trodAll_three hA
  obtain ⟨rfl, rfl⟩ := trodVars_none hV
  obtain ⟨a0, ca, zs, rfl, hs, hzc, hcm, hzw⟩ := open_slC Try.underlying22 Try.underlying61 (by kernel_rfl) (hval 0 22 v0 rfl rfl) h0
  obtain ⟨A, ct, l, rfl, ht, hlm⟩ := open_types (hval 1 23 v1 rfl rfl) h1
  obtain ⟨R, rc, rows, rfl, hf, hrm⟩ := open_flat (ls := [.int .i64, .int .i64]) 8 Try.underlying24 (by kernel_rfl) (by kernel_rfl) (by decide) (hval 2 24 v2 rfl rfl) h2
  obtain ⟨rs, hrl, hr, hrs⟩ := runsZ_of hf
  have hlx : l.length ≤ 9223372036854775807 := hlm
  clear hA0 hval0
  have hwalk : Calls Try.prog 3 #[.slice a0 zs.length ca, .slice A l.length ct, .slice R rows.length rc] W (FixedPost W) := by
    by_cases hb : 300 < zs.length ∨ greatB (l.map Ty.ks) = true ∨ 30 < rows.length
    · exact walkOne_big a0 zs.length ca A ct l R rows.length rc W ht hlx (by omega) hrm hb
    · have hgf : greatB (l.map Ty.ks) = false := by
        cases hg : greatB (l.map Ty.ks) with
        | true => exact absurd (.inr (.inl hg)) hb
        | false => rfl
      obtain ⟨h1, h2⟩ := greatB_false hgf
      have hz3 : zs.length ≤ 300 := Nat.le_of_not_lt fun h => hb (.inl h)
      have hr3 : rows.length ≤ 30 := Nat.le_of_not_lt fun h => hb (.inr (.inr h))
      rw [← hrl] at hr3 ⊢
      exact walkOne_law a0 ca zs A ct l R rc rs W hs hz3 hzc hcm (fun z hz => u64_le (hzw z hz)) ht (fun t htm => h1 _ (List.mem_map.2 ⟨t, htm, rfl⟩)) hgf hlx hr hrs hr3
  refine hwalk.mono fun e W' ⟨he, hk⟩ => ?_
  subst he
  have bel : Below W.heap.size W W' := hk.below (by simp) (Nat.le_refl _)
  exact ⟨_, rfl, _, _, _, [], _, [], hW', trodAll_mk1 (shut_bool Try.underlying4 _), trodAll_below bel _ _ _ _ (by decide +kernel) hK, rfl, bel.frame _, fun h => by cases h⟩

theorem walkOne_holds : Rows.WalkOneSaid :=
  OpenClaim.holds_of_wide 3 Try.f3 rfl rfl rfl rfl rfl rfl rfl ⟨rfl, rfl, rfl, rfl, rfl⟩ rfl rfl rfl rfl rfl (by kernel_rfl) Try.func3 (by kernel_rfl)
    (of_decide_eq_true (by kernel_rfl)) (by unfold Func.isWrapper; first | (rw [if_pos (by decide +kernel)]; kernel_rfl) | (rw [if_neg (by decide +kernel)]; exact ⟨rfl, rfl⟩))
    (fun os started H enc _ => walkOne_lifted os started H enc)
end Go.Proofs.Ythnoohghjcfghaa
