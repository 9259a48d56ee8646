/- How many pages things take, one behind the other, as plain numbers. -/
import Derived.Test.YtenhelbmcapfkaaPlanPlain
namespace Go.Proofs.Ytenhelbmcapfkaa
open Go.RowKit

/-- The plan behind things that are placed in page 0. -/
def plansL (ss : List Int) : Pl := ss.foldl (fun x s => (putP x s 0).1) ⟨0, 0⟩
/-- How many pages they take. -/
def pagesL : List Int → Pl → Int
  | [], _ => 0
  | s :: ss, x => (needP x.left s).1 + pagesL ss (putP x s 0).1
theorem plansL_step {ss : List Int} {j : Nat} (hj : j < ss.length) : plansL (ss.take (j + 1)) = (putP (plansL (ss.take j)) (ss[j]?.getD 0) 0).1 := by
  unfold plansL
  rw [List.take_succ_eq_append_getElem hj, List.foldl_append, List.getElem?_eq_getElem hj]
  rfl
theorem plansL_ok (ss : List Int) : (plansL ss).ok := by
  unfold plansL
  suffices h : ∀ x : Pl, x.ok → (ss.foldl (fun x s => (putP x s 0).1) x).ok from h _ Pl.ok0
  induction ss with
  | nil => exact fun x h => h
  | cons s ss ih => exact fun x h => ih _ (putP_ok h s 0)
theorem pagesL_append (ts : List Int) : ∀ (ss : List Int) (x : Pl), pagesL (ss ++ ts) x = pagesL ss x + pagesL ts (ss.foldl (fun x s => (putP x s 0).1) x)
  | [], x => by simp [pagesL]
  | s :: ss, x => by
    rw [List.cons_append, pagesL, pagesL, pagesL_append ts ss, List.foldl_cons, Int.add_assoc]
/-- How many pages things take together. -/
def totL (ss : List Int) : Int := pagesL ss ⟨0, 0⟩
theorem totL_nil : totL [] = 0 := rfl
theorem totL_step {ss : List Int} {j : Nat} (hj : j < ss.length) : totL (ss.take (j + 1)) = totL (ss.take j) + (needP (plansL (ss.take j)).left (ss[j]?.getD 0)).1 := by
  unfold totL
  rw [List.take_succ_eq_append_getElem hj, pagesL_append, List.getElem?_eq_getElem hj]
  simp [pagesL, plansL]
theorem pagesL_range : ∀ (ss : List Int) (x : Pl), 0 ≤ pagesL ss x ∧ pagesL ss x ≤ 1024 * ss.length
  | [], x => by simp [pagesL]
  | s :: ss, x => by
    have h1 := needP_range x.left s
    have h2 := pagesL_range ss (putP x s 0).1
    rw [pagesL, List.length_cons]
    omega
theorem totL_range (ss : List Int) : 0 ≤ totL ss ∧ totL ss ≤ 1024 * ss.length := pagesL_range ss _
/-- What errors leave. -/
theorem needP_err {x : Pl} {s : Int} (hx : x.ok) {n e : Int} (h : needP x.left s = (n, e)) (he : e ≠ 0) : n = 0 ∧ (putP x s 0).1 = x := by
  rcases putP_cases x s 0 hx with ⟨⟨_, e1⟩, e2⟩ | ⟨⟨_, _, e1⟩, e2⟩ | ⟨⟨_, _, e1⟩, e2⟩ | ⟨⟨_, _, e1⟩, e2⟩ | ⟨⟨_, _, e1⟩, e2⟩ <;> rw [e2.out] at h <;> simp only [Prod.mk.injEq] at h
  · exact ⟨h.1.symm, by rw [e1.out]⟩
  all_goals exact absurd h.2.symm he
end Go.Proofs.Ytenhelbmcapfkaa
