/- Objects as plain things: which one begins at a word; how they lie. -/
import Derived.Test.YthnoohghjcfghaaHeaderPlain
import Derived.Test.YthnoohghjcfghaaStructs
import Derived.Test.YthnoohghjcfghaaMem
namespace Go.Proofs.Ythnoohghjcfghaa
open Go.RowKit

/-- An object. -/
structure Ob where
  at_ : Int
  h : Hd
  ks : List Int
  vs : List Int
def Hd.zero : Hd := ⟨false, 0, 0, 0⟩
def Ob.zero : Ob := ⟨0, Hd.zero, [], []⟩
/-- A run, anywhere. -/
abbrev RunZ := Int × Int
/-- A head's object behind word K of xs (its head's word), and the error's number. -/
def oneN (xs : List Int) (ls : List (List Int)) (K : Nat) : Ob × Int :=
  if (getH (xs[K]?.getD 0)).2 ≠ 0 then (Ob.zero, (getH (xs[K]?.getD 0)).2)
  else if (kindsB ls (getH (xs[K]?.getD 0)).1).2 ≠ 0 then (Ob.zero, (kindsB ls (getH (xs[K]?.getD 0)).1).2)
  else if xs.length < K + 1 + (kindsB ls (getH (xs[K]?.getD 0)).1).1.length then (Ob.zero, 8)
  else (⟨K + 1, (getH (xs[K]?.getD 0)).1, (kindsB ls (getH (xs[K]?.getD 0)).1).1, (xs.drop (K + 1)).take (kindsB ls (getH (xs[K]?.getD 0)).1).1.length⟩, 0)
/-- The object at a word, and the error's number. -/
def oneB (xs : List Int) (ls : List (List Int)) (at_ : Int) : Ob × Int := if 1 ≤ at_ ∧ at_ ≤ (xs.length : Int) then oneN xs ls (at_ - 1).toNat else (Ob.zero, 8)
/-- The object of a thing, and the error's number. -/
def thingB (xs : List Int) (ls : List (List Int)) (r : RunZ) : Ob × Int :=
  if 0 ≤ r.1 ∧ r.1 < (xs.length : Int) then
    if (oneN xs ls r.1.toNat).2 = 0 ∧ sizeH (oneN xs ls r.1.toNat).1.h ≠ r.2 then ((oneN xs ls r.1.toNat).1, 11) else oneN xs ls r.1.toNat
  else (Ob.zero, 8)
/-- The first error that is met; 0: none. -/
def firstE (xs : List Int) (ls : List (List Int)) : List RunZ → Int
  | [] => 0
  | r :: rs => if (thingB xs ls r).2 ≠ 0 then (thingB xs ls r).2 else firstE xs ls rs
/-- Objects of things, and the error's number. -/
def objsB (xs : List Int) (ls : List (List Int)) (rs : List RunZ) : List Ob × Int :=
  if firstE xs ls rs ≠ 0 then ([], firstE xs ls rs) else (rs.map fun r => (thingB xs ls r).1, 0)

theorem firstE_cons (xs : List Int) (ls : List (List Int)) (r : RunZ) (rs : List RunZ) : firstE xs ls (r :: rs) = if (thingB xs ls r).2 ≠ 0 then (thingB xs ls r).2 else firstE xs ls rs := rfl
theorem firstE_append (xs : List Int) (ls : List (List Int)) (a b : List RunZ) : firstE xs ls (a ++ b) = if firstE xs ls a ≠ 0 then firstE xs ls a else firstE xs ls b := by
  induction a with
  | nil => simp [firstE]
  | cons r rs ih =>
    rw [List.cons_append, firstE_cons, firstE_cons]
    by_cases h : (thingB xs ls r).2 ≠ 0
    · rw [if_pos h, if_pos h, if_pos h]
    · rw [if_neg h, if_neg h, ih]
theorem firstE_met {xs : List Int} {ls : List (List Int)} {a b rs : List RunZ} {r : RunZ} (h0 : firstE xs ls a = 0) (h : (thingB xs ls r).2 ≠ 0) (hr : rs = a ++ r :: b) : objsB xs ls rs = ([], (thingB xs ls r).2) := by
  subst hr
  have e : firstE xs ls (a ++ r :: b) = (thingB xs ls r).2 := by
    rw [firstE_append, if_neg (by simp [h0]), firstE_cons, if_pos h]
  unfold objsB
  rw [e, if_pos h]
theorem firstE_snoc {xs : List Int} {ls : List (List Int)} {a : List RunZ} {r : RunZ} (h0 : firstE xs ls a = 0) (h : (thingB xs ls r).2 = 0) : firstE xs ls (a ++ [r]) = 0 := by
  rw [firstE_append, if_neg (by simp [h0]), firstE_cons, if_neg (by simp [h])]
  rfl
theorem objsB_none {xs : List Int} {ls : List (List Int)} {rs : List RunZ} (h : firstE xs ls rs = 0) : objsB xs ls rs = (rs.map fun r => (thingB xs ls r).1, 0) := by
  unfold objsB
  rw [if_neg (by simp [h])]

/-- A run's cells. -/
def cellsZ (r : RunZ) : List Value := [.int .i64 r.1, .int .i64 r.2]
theorem cellsZ_length (r : RunZ) : (cellsZ r).length = 2 := rfl
theorem cellsZ_one (r : RunZ) : ∀ u ∈ cellsZ r, u.oneCell' = true := by
  intro u hu
  simp [cellsZ] at hu
  rcases hu with rfl | rfl <;> rfl
/-- A head's cells. -/
def Hd.cells (h : Hd) : List Value := [.bool h.array, .int .i64 h.kind, .int .i64 h.ty, .int .i64 h.n]
theorem Hd.cells_length (h : Hd) : h.cells.length = 4 := rfl
theorem Hd.cells_one (h : Hd) : ∀ u ∈ h.cells, u.oneCell' = true := by
  intro u hu
  simp [Hd.cells] at hu
  rcases hu with rfl | rfl | rfl | rfl <;> rfl
/-- An object as it lies: where its kinds and values do. -/
structure ObL where
  o : Ob
  ka : Option Addr
  kc : Nat
  va : Option Addr
  vc : Nat
def ObL.zero : ObL := ⟨Ob.zero, none, 0, none, 0⟩
instance : Inhabited ObL := ⟨ObL.zero⟩
def ObL.cells (l : ObL) : List Value := [.int .i64 l.o.at_, .int .i64 0, .bool l.o.h.array, .int .i64 l.o.h.kind, .int .i64 l.o.h.ty, .int .i64 l.o.h.n, .slice l.ka l.o.ks.length l.kc, .slice l.va l.o.vs.length l.vc]
theorem ObL.cells_length (l : ObL) : l.cells.length = 8 := rfl
theorem ObL.cells_one (l : ObL) : ∀ u ∈ l.cells, u.oneCell' = true := by
  intro u hu
  simp [ObL.cells] at hu
  rcases hu with rfl | rfl | rfl | rfl | rfl | rfl | rfl | rfl <;> rfl
/-- Its kinds and values lie there, in blocks of X. -/
def Lies (w : World) (X : Nat → Prop) (l : ObL) : Prop := SlX w .i64 X l.ka l.o.ks ∧ SlX w .u64 X l.va l.o.vs
theorem Lies.zero (w : World) (X : Nat → Prop) : Lies w X ObL.zero := ⟨.inl rfl, .inl rfl⟩
theorem Lies.kept {w w' : World} {X : Nat → Prop} {l : ObL} {S : List Nat} (h : Lies w X l) (hk : Kept S w w') (hS : ∀ b ∈ S, ¬ X b) : Lies w' X l := ⟨h.1.kept hk hS, h.2.kept hk hS⟩
theorem Lies.mono {w : World} {X Y : Nat → Prop} {l : ObL} (h : Lies w X l) (hX : ∀ b, b < w.heap.size → X b → Y b) : Lies w Y l := ⟨h.1.mono hX, h.2.mono hX⟩
/-- What a call leaves that answers an object and an error. -/
def OneAns (X : Nat → Prop) (x : Ob × Int) (w : World) (e : Ending) (w' : World) : Prop :=
  ∃ l : ObL, l.o = x.1 ∧ e = .returned (.tuple #[.agg l.cells.toArray, .int .i64 x.2]) ∧ Lies w' X l ∧ Kept [] w w'
theorem OneAns.none {X : Nat → Prop} {x : Ob × Int} {er : Int} {w w' : World} (hx : x = (Ob.zero, er)) (hk : Kept [] w w') :
    OneAns X x w (.returned (.tuple #[.agg #[.int .i64 0, .int .i64 0, .bool false, .int .i64 0, .int .i64 0, .int .i64 0, .slice Option.none 0 0, .slice Option.none 0 0], .int .i64 er])) w' := by
  subst hx
  exact ⟨ObL.zero, rfl, rfl, Lies.zero _ _, hk⟩
end Go.Proofs.Ythnoohghjcfghaa
