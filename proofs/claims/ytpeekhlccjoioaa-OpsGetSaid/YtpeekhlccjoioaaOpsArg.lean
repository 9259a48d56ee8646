/- A slice of operations, handed in: what it reads as. -/
import Derived.Test.YtpeekhlccjoioaaPairsU
import Derived.Test.YtpeekhlccjoioaaOpsPlain
namespace Go.Proofs.Ytpeekhlccjoioaa
open Go.ChangeShapes Go.WideShapes Go.ChangeAt Go.RowKit

def intO : Value → Int
  | .int _ z => z
  | _ => 0
theorem ops_flat {w : World} {a : Option Addr} {rows : List (List Value)} (h : SlFlat w [.int .i64, .int .u64, .int .u64, .int .u64] a rows) :
    ∃ l : List OpN, l.length = rows.length ∧ SlS opC 4 w a l ∧ ∀ x ∈ l, x.Fit := by
  have key : ∀ row : List Value, Fits [.int .i64, .int .u64, .int .u64, .int .u64] row → ∃ (k : Int) (x y z : Nat), row = [.int .i64 k, .int .u64 x, .int .u64 y, .int .u64 z] ∧ x < 18446744073709551616 ∧ y < 18446744073709551616 ∧ z < 18446744073709551616 := by
    intro row hf
    obtain ⟨k, r, rfl, _, hf1⟩ := hf.int
    obtain ⟨x, r, rfl, wx, hf2⟩ := hf1.int
    obtain ⟨y, r, rfl, wy, hf3⟩ := hf2.int
    obtain ⟨z, r, rfl, wz, hf4⟩ := hf3.int
    rw [hf4.nil]
    have hx := u64_fit wx
    have hy := u64_fit wy
    have hz := u64_fit wz
    obtain ⟨x, rfl⟩ := Int.eq_ofNat_of_zero_le hx.1
    obtain ⟨y, rfl⟩ := Int.eq_ofNat_of_zero_le hy.1
    obtain ⟨z, rfl⟩ := Int.eq_ofNat_of_zero_le hz.1
    exact ⟨k, x, y, z, rfl, by omega, by omega, by omega⟩
  refine ⟨rows.map fun row => ⟨intO (row[0]?.getD undef), natP (row[1]?.getD undef), natP (row[2]?.getD undef), natP (row[3]?.getD undef)⟩, by simp, ?_, ?_⟩
  · rcases h with rfl | ⟨b, off, rfl, hb, hc⟩
    · exact .inl rfl
    · refine .inr ⟨b, off, rfl, hb, fun j x hx i hi => ?_⟩
      rw [List.getElem?_map] at hx
      cases hr : rows[j]? with
      | none => simp [hr] at hx
      | some row =>
        rw [hr] at hx
        simp only [Option.map_some, Option.some.injEq] at hx
        subst hx
        obtain ⟨hf, hcc⟩ := hc j row hr
        obtain ⟨k, x, y, z, rfl, _⟩ := key row hf
        rcases (by omega : i = 0 ∨ i = 1 ∨ i = 2 ∨ i = 3) with rfl | rfl | rfl | rfl
        · exact hcc 0 _ rfl
        · exact hcc 1 _ rfl
        · exact hcc 2 _ rfl
        · exact hcc 3 _ rfl
  · intro x hx
    obtain ⟨row, hrow, rfl⟩ := List.mem_map.1 hx
    rcases h with rfl | ⟨b, off, rfl, hb, hc⟩
    · cases hrow
    · obtain ⟨j, hj, rfl⟩ := List.getElem_of_mem hrow
      obtain ⟨hf, _⟩ := hc j _ (List.getElem?_eq_getElem hj)
      obtain ⟨k, x, y, z, he, h1, h2, h3⟩ := key _ hf
      rw [he]
      exact ⟨h1, h2, h3⟩
set_option maxRecDepth 100000 in
/-- A slice of integers, its room told too. -/
theorem open_slK {H : Type} {enc : TypeId × Value → H} {W : World} {b0 : Nat} {held : Bool} {r : Reach} {t e : TypeId} {k : IntKind} {v : Value} {d : DataW H} {p : List MemPlace}
    (ht : Try.prog.underlying t = some (.slice e)) (he : Try.prog.underlying e = some (.int k)) (hce : Try.prog.cellsOf e = 1)
    (hv : Value.okWide Try.prog W r b0 t v) (h : DataW.Trod enc Try.prog W 0 (fun _ => true) held t v d p) :
    ∃ (a : Option Addr) (cap : Nat) (zs : List Int), v = .slice a zs.length cap ∧ Sl W k a zs ∧ zs.length ≤ cap ∧ cap ≤ maxLen ∧ ∀ z ∈ zs, (Lit.int k z).wf = true := by
  obtain ⟨a, cap, zs, rfl, hs, _, hw⟩ := open_sl ht he hce hv h
  obtain ⟨fuel, hf⟩ := h
  rcases open_ints ht he hce hf with ⟨hcs, _⟩ | ⟨x, l, c, zs', hcs, _, hl, hm, _⟩
  · simp [Value.cells] at hcs
    obtain ⟨_, h0, rfl⟩ := hcs
    exact ⟨a, 0, zs, rfl, hs, by simp [h0], Nat.zero_le _, hw⟩
  · simp [Value.cells] at hcs
    obtain ⟨_, h0, rfl⟩ := hcs
    exact ⟨a, cap, zs, rfl, hs, by omega, hm, hw⟩
theorem u8_by {x : Int} (h : (Lit.int .u8 x).wf = true) : 0 ≤ x ∧ x < 256 := by
  have : 0 ≤ x ∧ x ≤ 255 := by simpa [Lit.wf, IntKind.min, IntKind.max, IntKind.signed, IntKind.bits] using h
  omega
end Go.Proofs.Ytpeekhlccjoioaa
