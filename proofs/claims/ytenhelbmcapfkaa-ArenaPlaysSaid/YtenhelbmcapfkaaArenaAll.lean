/- Four arenas in an array; acts that are handed in. -/
import Derived.Test.YtenhelbmcapfkaaArenaYard
import Derived.Test.YtenhelbmcapfkaaArenaPlain2
import Derived.Test.YtenhelbmcapfkaaFlat
import Derived.Laws.Rows
import Derived.Laws.NewFold
namespace Go.Proofs.Ytenhelbmcapfkaa
open Go.ChangeShapes Go.WideShapes Go.ChangeAt Go.RowKit

/-- An arena, pointed to. -/
def ptrB (d : AD) : Value := .pointer (some ⟨d.B, 0, none⟩)
def ptrs (ds : List AD) : List Value := ds.map ptrB
theorem ptrs_get {ds : List AD} {i : Nat} {d : AD} (h : ds[i]? = some d) : (ptrs ds)[i]? = some (ptrB d) := by simp [ptrs, h]
theorem ptrs_length (ds : List AD) : (ptrs ds).length = ds.length := List.length_map _
theorem ptrs_set {ds : List AD} {i : Nat} {d d' : AD} (h : ds[i]? = some d) (hB : d'.B = d.B) : ptrs (ds.set i d') = ptrs ds := by
  unfold ptrs
  rw [List.map_set, show ptrB d' = ptrB d by unfold ptrB; rw [hB]]
  apply List.ext_getElem?
  intro j
  by_cases hj : i = j
  · subst hj
    rw [List.getElem?_set_self', List.getElem?_map, h]; simp
  · rw [List.getElem?_set_ne hj]
/-- The array, as far as it is filled. -/
def ptrs4 (ds : List AD) : List Value := ptrs ds ++ List.replicate (4 - ds.length) (.pointer none)
theorem ptrs4_set {ds : List AD} (h : ds.length < 4) (d : AD) : (ptrs4 ds).set ds.length (ptrB d) = ptrs4 (ds ++ [d]) := by
  unfold ptrs4
  rw [List.set_append_right _ _ (by rw [ptrs_length]; omega), ptrs_length, Nat.sub_self, List.length_append, List.length_singleton, show 4 - ds.length = (4 - (ds.length + 1)) + 1 by omega, List.replicate_succ, List.set_cons_zero]
  simp [ptrs]
theorem ptrs4_full {ds : List AD} (h : ds.length = 4) : ptrs4 ds = ptrs ds := by unfold ptrs4; rw [h]; simp
theorem ptrs4_get {ds : List AD} {i : Nat} {d : AD} (h : ds[i]? = some d) : (ptrs4 ds)[i]? = some (ptrB d) := by
  unfold ptrs4
  rw [List.getElem?_append_left (by rw [ptrs_length]; exact (List.getElem?_eq_some_iff.1 h).1)]
  exact ptrs_get h

/-- The arenas alone. -/
def toA (ds : List AD) : List ArN := ds.map (·.toArN)
theorem toA_get {ds : List AD} {i : Nat} {d : AD} (h : ds[i]? = some d) : (toA ds)[i]? = some d.toArN := by simp [toA, h]
theorem toA_set (ds : List AD) (i : Nat) (d : AD) : toA (ds.set i d) = (toA ds).set i d.toArN := by simp [toA, List.map_set]
theorem toA_start {ds : List AD} {m : Nat} (hl : ds.length = m) (h : ∀ d ∈ ds, d.toArN = ⟨⟨0, 0⟩, [], []⟩) : toA ds = List.replicate m ⟨⟨0, 0⟩, [], []⟩ := by
  subst hl
  unfold toA
  exact List.map_eq_replicate_iff.2 h

/-- 'a[i]', a an array of pointers by value. -/
theorem run_index_ptr {P : Program} (w : World) (t e o : TypeId) (n : Nat) (ht : P.underlying t = some (.array n e)) (he : P.underlying e = some (.pointer o)) (hsz : ∀ w, (sizeOf e).run P w = .ok 1 w)
    (vs : List Value) (v : Value) (j : Nat) (hj : j < n) (hv : vs[j]? = some v) : (Instr.index t (.agg vs.toArray) (.int .i64 j)).run P w = .ok v w := by
  simp [Instr.index, asIntOf, run_underlying ht, hj, hsz, part, isAgg, run_underlying he, hv]

/-- What is done: with which arena, of what size; or all is given back. -/
structure ActN where
  k : Int
  s : Int
  rel : Bool
/-- The slice of acts that begins at a0 reads as l. -/
def SlActN (w : World) (a0 : Option Addr) (l : List ActN) : Prop :=
  l = [] ∨ ∃ b off, a0 = some ⟨b, off, none⟩ ∧ b < w.heap.size ∧ ∀ j x, l[j]? = some x →
    w.cell? ⟨b, off + j * 3, none⟩ = some (.int .u8 x.k) ∧ w.cell? ⟨b, off + j * 3 + 1, none⟩ = some (.int .i64 x.s) ∧ w.cell? ⟨b, off + j * 3 + 2, none⟩ = some (.bool x.rel)
theorem SlActN.kept {w w' : World} {a : Option Addr} {l : List ActN} (h : SlActN w a l) (hk : Kept [] w w') : SlActN w' a l := by
  rcases h with h | ⟨b, off, rfl, hb, hc⟩
  · exact .inl h
  · have e : ∀ o, w'.cell? ⟨b, o, none⟩ = w.cell? ⟨b, o, none⟩ := fun o => World.cell?_of_block (w := w) (a := ⟨b, o, none⟩) (hk.block b hb (by simp))
    exact .inr ⟨b, off, rfl, Nat.lt_of_lt_of_le hb hk.size, fun j x hx => by simp only [e]; exact hc j x hx⟩
theorem SlActN.cell {w : World} {a : Option Addr} {l : List ActN} (h : SlActN w a l) {j : Nat} (hj : j < l.length) : ∃ b off x, a = some ⟨b, off, none⟩ ∧ l[j]? = some x ∧
    w.cell? ⟨b, off + j * 3, none⟩ = some (.int .u8 x.k) ∧ w.cell? ⟨b, off + j * 3 + 1, none⟩ = some (.int .i64 x.s) ∧ w.cell? ⟨b, off + j * 3 + 2, none⟩ = some (.bool x.rel) := by
  rcases h with h | ⟨b, off, rfl, hb, hc⟩
  · subst h; simp at hj
  · have hx := List.getElem?_eq_getElem hj
    obtain ⟨h1, h2, h3⟩ := hc j _ hx
    exact ⟨b, off, _, rfl, hx, h1, h2, h3⟩
def intA : Value → Int
  | .int _ z => z
  | _ => 0
def boolA : Value → Bool
  | .bool b => b
  | _ => false
def actN (row : List Value) : ActN := { k := intA (row[0]?.getD undef), s := intA (row[1]?.getD undef), rel := boolA (row[2]?.getD undef) }
theorem actsN_of {w : World} {a : Option Addr} {rows : List (List Value)} (h : SlFlat w [.int .u8, .int .i64, .bool] a rows) :
    ∃ l : List ActN, l.length = rows.length ∧ SlActN w a l ∧ ∀ x ∈ l, (Lit.int .u8 x.k).wf = true := by
  have key : ∀ row : List Value, Fits [.int .u8, .int .i64, .bool] row → ∃ (x y : Int) (o : Bool), row = [.int .u8 x, .int .i64 y, .bool o] ∧ (Lit.int .u8 x).wf = true := by
    intro row hf
    obtain ⟨x, r, rfl, wx, hf1⟩ := hf.int
    obtain ⟨y, r, rfl, _, hf2⟩ := hf1.int
    obtain ⟨o, r, rfl, hf3⟩ := hf2.bool
    rw [hf3.nil]
    exact ⟨x, y, o, rfl, wx⟩
  refine ⟨rows.map actN, by simp, ?_, ?_⟩
  · rcases h with rfl | ⟨b, off, rfl, hb, hc⟩
    · exact .inl rfl
    · refine .inr ⟨b, off, rfl, hb, fun j x hx => ?_⟩
      rw [List.getElem?_map] at hx
      cases hr : rows[j]? with
      | none => simp [hr] at hx
      | some row =>
        rw [hr] at hx
        simp only [Option.map_some, Option.some.injEq] at hx
        subst hx
        obtain ⟨hf, hcc⟩ := hc j row hr
        obtain ⟨x, y, o, rfl, _⟩ := key row hf
        exact ⟨hcc 0 _ rfl, hcc 1 _ rfl, hcc 2 _ rfl⟩
  · intro x hx
    obtain ⟨row, hrow, rfl⟩ := List.mem_map.1 hx
    rcases h with rfl | ⟨b, off, rfl, hb, hc⟩
    · cases hrow
    · obtain ⟨j, hj, rfl⟩ := List.getElem_of_mem hrow
      obtain ⟨hf, _⟩ := hc j _ (List.getElem?_eq_getElem hj)
      obtain ⟨x, y, o, he, hx⟩ := key _ hf
      rw [he]
      exact hx
end Go.Proofs.Ytenhelbmcapfkaa
