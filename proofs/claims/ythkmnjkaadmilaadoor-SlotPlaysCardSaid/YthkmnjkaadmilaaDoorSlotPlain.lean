/- A field of an object as plain things: is there one, where does it stand, what is loaded, what a store makes of the words. -/
import Derived.Test.YthkmnjkaadmilaaDoorMem
namespace Go.Proofs.YthkmnjkaadmilaaDoor
open Go.RowKit

/-- Is there such a field? -/
def inK (ks : List Int) (n : Nat) : Bool := decide (n < ks.length)
/-- Where it stands. -/
def placeK (a : Int) (ks : List Int) (n : Nat) : Int := if n < ks.length then wrap64 (a + n) else 0
/-- Its kind. -/
def kindK (ks : List Int) (n : Nat) : Int := ks[n]?.getD 0
/-- Is there such a field, and a word for it? -/
def okK (xs : List Int) (a : Int) (ks : List Int) (n : Nat) : Bool := inK ks n && hasB xs.length (placeK a ks n)
/-- Its word. -/
def loadK (xs : List Int) (a : Int) (ks : List Int) (n : Nat) : Int := if okK xs a ks n then xs[(placeK a ks n).toNat]?.getD 0 else 0
/-- The words with v stored there. -/
def storeK (xs : List Int) (a : Int) (ks : List Int) (n : Nat) (v : Int) : List Int := if okK xs a ks n then xs.set (placeK a ks n).toNat v else xs
/-- The error's number of a nil memory. -/
def nilK (ks : List Int) (n : Nat) : Int := if inK ks n then 1 else 8
theorem storeK_length (xs : List Int) (a : Int) (ks : List Int) (n : Nat) (v : Int) : (storeK xs a ks n v).length = xs.length := by unfold storeK; split <;> simp
theorem inK_true {ks : List Int} {n : Nat} (h : inK ks n = true) : n < ks.length := by simpa [inK] using h
theorem inK_false {ks : List Int} {n : Nat} (h : inK ks n = false) : ks.length ≤ n := by simpa [inK] using h
theorem okK_of_in {xs : List Int} {a : Int} {ks : List Int} {n : Nat} (h : inK ks n = true) : okK xs a ks n = hasB xs.length (placeK a ks n) := by simp [okK, h]
theorem okK_of_out {xs : List Int} {a : Int} {ks : List Int} {n : Nat} (h : inK ks n = false) : okK xs a ks n = false := by simp [okK, h]
theorem storeK_of_in {xs : List Int} {a : Int} {ks : List Int} {n : Nat} (v : Int) (h : inK ks n = true) : storeK xs a ks n v = wrB xs (placeK a ks n) v := by simp [storeK, wrB, okK, h]
theorem loadK_of_in {xs : List Int} {a : Int} {ks : List Int} {n : Nat} (h : inK ks n = true) : loadK xs a ks n = if hasB xs.length (placeK a ks n) then xs[(placeK a ks n).toNat]?.getD 0 else 0 := by simp [loadK, okK, h]
end Go.Proofs.YthkmnjkaadmilaaDoor
