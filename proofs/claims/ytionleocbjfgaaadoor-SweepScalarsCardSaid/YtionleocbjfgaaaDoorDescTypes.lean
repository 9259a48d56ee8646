/- How a list of types lies. -/
import Derived.Test.YtionleocbjfgaaaDoorSlG
import Derived.Test.YtionleocbjfgaaaDoorDescPlain
namespace Go.Proofs.YtionleocbjfgaaaDoor
open Go.RowKit

/-- A type as it lies: where its fields' kinds begin, how many there is room for, the kinds. -/
structure Ty where
  a : Option Addr
  cap : Nat
  ks : List Int
def Ty.v (t : Ty) : Value := .slice t.a t.ks.length t.cap
/-- The slice of types that begins at a reads as l. -/
def SlD (w : World) (a : Option Addr) (l : List Ty) : Prop := SlG Ty.v w a l ∧ ∀ t ∈ l, Sl w .i64 t.a t.ks
theorem SlD.kept {w w' : World} {a : Option Addr} {l : List Ty} (h : SlD w a l) (hk : Kept [] w w') : SlD w' a l :=
  ⟨h.1.kept hk, fun t ht => (h.2 t ht).kept hk⟩
theorem SlD.keptS {w w' : World} {a : Option Addr} {l : List Ty} {S : List Nat} (h : SlD w a l) (hk : Kept S w w') (hn : ∀ b off, a = some ⟨b, off, none⟩ → b ∉ S) (hn2 : ∀ t ∈ l, ∀ b off, t.a = some ⟨b, off, none⟩ → b ∉ S) : SlD w' a l :=
  ⟨h.1.keptS hk hn, fun t ht => (h.2 t ht).keptS hk (hn2 t ht)⟩
theorem SlD.cell {w : World} {a : Option Addr} {l : List Ty} (h : SlD w a l) {j : Nat} (hj : j < l.length) :
    ∃ b off t, a = some ⟨b, off, none⟩ ∧ l[j]? = some t ∧ w.cell? ⟨b, off + j, none⟩ = some (.slice t.a t.ks.length t.cap) ∧ Sl w .i64 t.a t.ks := by
  obtain ⟨b, off, rfl, hc⟩ := h.1.cell hj
  exact ⟨b, off, l[j], rfl, List.getElem?_eq_getElem hj, hc, h.2 _ (List.getElem_mem hj)⟩
end Go.Proofs.YtionleocbjfgaaaDoor
