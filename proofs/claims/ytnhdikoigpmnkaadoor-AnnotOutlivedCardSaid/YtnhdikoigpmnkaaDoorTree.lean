/- Package tree: New, Has, Parent, Add, Within. -/
import Derived.Test.YtnhdikoigpmnkaaDoorTreeMap
import Derived.Test.YtnhdikoigpmnkaaDoorQuiet
import Derived.StillTailTactics
namespace Go.Proofs.YtnhdikoigpmnkaaDoor
open Go.RowKit

/-- The tree in block p: its entries are rs, rising (in the map at g). -/
structure IsTree (w : World) (p g : Nat) (rs : List Rw) : Prop where
  box : Row w p 63 [.map (some g)]
  own : OwnT w g rs
  apart : p ≠ g
  fit : ∀ r ∈ rs, Fit64 r.1 ∧ Fit64 r.2
section
variable {w w' : World} {p g : Nat} {rs : List Rw}
theorem IsTree.cell (h : IsTree w p g rs) : w.cell? ⟨p, 0, none⟩ = some (.map (some g)) := by simpa using h.box.cell 0
theorem IsTree.keptS {S : List Nat} (h : IsTree w p g rs) (hk : Kept S w w') (hp : p ∉ S) (hg : g ∉ S) : IsTree w' p g rs :=
  ⟨h.box.kept hk hp, h.own.kept hk hg, h.apart, h.fit⟩
theorem IsTree.kept (h : IsTree w p g rs) (hk : Kept [] w w') : IsTree w' p g rs := h.keptS hk (by simp) (by simp)
theorem IsTree.lt (h : IsTree w p g rs) : p < w.heap.size ∧ g < w.heap.size := ⟨h.box.lt, h.own.lt⟩
theorem IsTree.drewN (h : IsTree w p g rs) (n : Nat) : IsTree (w.drewN n) p g rs := h.kept ((Kept.refl [] w).drewN n)
end

/-- What New leaves: a tree in new blocks. -/
def NewTree (w : World) (e : Ending) (w' : World) : Prop :=
  ∃ p g, e = .returned (.pointer (some ⟨p, 0, none⟩)) ∧ (w.heap.size ≤ p ∧ w.heap.size ≤ g) ∧ IsTree w' p g [] ∧ Kept [] w w'

set_option maxRecDepth 100000 in
set_option maxHeartbeats 1000000 in
theorem treeNew_any (w : World) : Calls Tryd.prog 18 #[] w (NewTree w) := by
  have hmm := @run_makeMap Tryd.prog
  go_enter Tryd.func18, Tryd.ntmps18
  go_wp2
  go_ret
  have hr := Row.new (w.alloc (.map #[] 0)) 63 [.map (some w.heap.size)]
  have hz : (w.alloc (.map #[] 0)).heap.size = w.heap.size + 1 := by simp
  rw [hz] at hr
  exact ⟨w.heap.size + 1, w.heap.size, by simp, by omega, ⟨hr, (OwnT.made w).kept ((Kept.refl [] _).alloc _) (by simp), by omega, by simp⟩, ((Kept.refl [] w).alloc _).alloc _⟩

theorem treeHas_any (p g : Nat) (rs : List Rw) (z : Int) (w : World) (h : IsTree w p g rs) (hz : Fit64 z) :
    Calls Tryd.prog 23 #[.pointer (some ⟨p, 0, none⟩), .int .i64 z] w fun e w' => e = .returned (.bool (decide (z ∈ idsT rs))) ∧ w = w' := by
  have hc := h.cell
  have hlook := h.own.look_ok hz
  go_enter Tryd.func23, Tryd.ntmps23
  go_wp2
  go_ret
  exact ⟨rfl, rfl⟩

theorem treeParent_any (p g : Nat) (rs : List Rw) (z : Int) (w : World) (h : IsTree w p g rs) (hz : Fit64 z) :
    Calls Tryd.prog 17 #[.pointer (some ⟨p, 0, none⟩), .int .i64 z] w fun e w' => e = .returned (.int .i64 (parB rs z)) ∧ w = w' := by
  have hc := h.cell
  have hlook := h.own.look hz
  go_enter Tryd.func17, Tryd.ntmps17
  go_wp2
  go_ret
  exact ⟨rfl, rfl⟩

/-- Behind Add: the entries, the error's number. -/
def addB (rs : List Rw) (z p : Int) : List Rw × Int :=
  if z < 1 ∨ z ∈ idsT rs then (rs, 1) else if p ≠ 0 ∧ p ∉ idsT rs then (rs, 2) else (insB rs (z, p), 0)
theorem addB_arg {rs : List Rw} {z p : Int} (h : z < 1 ∨ z ∈ idsT rs) : addB rs z p = (rs, 1) := by unfold addB; rw [if_pos h]
theorem addB_none {rs : List Rw} {z p : Int} (h : ¬ (z < 1 ∨ z ∈ idsT rs)) (h2 : p ≠ 0 ∧ p ∉ idsT rs) : addB rs z p = (rs, 2) := by unfold addB; rw [if_neg h, if_pos h2]
theorem addB_ok {rs : List Rw} {z p : Int} (h : ¬ (z < 1 ∨ z ∈ idsT rs)) (h2 : ¬ (p ≠ 0 ∧ p ∉ idsT rs)) : addB rs z p = (insB rs (z, p), 0) := by unfold addB; rw [if_neg h, if_neg h2]
theorem mem_insB {rs : List Rw} {x y : Rw} : y ∈ insB rs x ↔ y = x ∨ y ∈ rs := by
  unfold insB
  rw [List.mem_append, List.mem_cons]
  have : y ∈ rs ↔ y ∈ rs.takeWhile (fun r => decide (r.1 < x.1)) ∨ y ∈ rs.dropWhile (fun r => decide (r.1 < x.1)) := by
    rw [← List.mem_append, List.takeWhile_append_dropWhile]
  rw [this]
  constructor <;> rintro (h | h | h) <;> simp [h]

/-- What a call that may write the tree's map leaves. -/
def AddPost (p g : Nat) (rs' : List Rw) (n : Int) (w : World) (e : Ending) (w' : World) : Prop :=
  e = .returned (.int .i64 n) ∧ IsTree w' p g rs' ∧ Kept [g] w w'

set_option maxRecDepth 100000 in
set_option maxHeartbeats 1000000 in
theorem treeAdd_any (p g : Nat) (rs : List Rw) (z q : Int) (w : World) (h : IsTree w p g rs) (hz : Fit64 z) (hq : Fit64 q) (hn : rs.length < 1099511627776) :
    Calls Tryd.prog 19 #[.pointer (some ⟨p, 0, none⟩), .int .i64 z, .int .i64 q] w (AddPost p g (addB rs z q).1 (addB rs z q).2 w) := by
  have hc := h.cell
  go_enter Tryd.func19, Tryd.ntmps19
  by_cases h1 : z < 1
  · have h1' : decide (z < 1) = true := by simpa using h1
    go_wp2_with fail
    go_ret
    exact ⟨by rw [addB_arg (.inl h1)]; rfl, by rw [addB_arg (.inl h1)]; exact h, Kept.refl _ _⟩
  · have h1' : decide (z < 1) = false := by simpa using h1
    go_wp2_with fail
    refine (treeHas_any p g rs z w h hz).mono ?_
    rintro e w1 ⟨rfl, rfl⟩
    by_cases h2 : z ∈ idsT rs
    · have HI := Lib.hid h2
      rw [decide_eq_true h2]
      clear h2
      go_wp2_with fail
      go_ret
      exact ⟨by rw [addB_arg (.inr HI.out)]; rfl, by rw [addB_arg (.inr HI.out)]; exact h, Kept.refl _ _⟩
    · have HI := Lib.hid (show ¬ (z < 1 ∨ z ∈ idsT rs) from fun e => e.elim (fun h => by omega) h2)
      have HN := Lib.hid h2
      rw [decide_eq_false h2]
      clear h2
      by_cases h3 : q = 0
      · subst h3
        go_wp2_with (at_mapUpdate; refine wpList_mapUpdate_T _ rfl _ _ _ rfl g rs rfl h.own (by unfold maxLen; omega) z 0 hz hq HN.out rfl rfl ?_; intro w2 own2 kw2)
        go_ret
        rw [addB_ok HI.out (by simp)]
        refine ⟨rfl, ⟨h.box.kept kw2 (by simpa using h.apart), own2, h.apart, fun r hr => ?_⟩, kw2⟩
        rcases mem_insB.1 hr with rfl | hr
        · exact ⟨hz, hq⟩
        · exact h.fit r hr
      · have h3' : decide (q = 0) = false := by simpa using h3
        go_wp2_with fail
        refine (treeHas_any p g rs q w h hq).mono ?_
        rintro e w1 ⟨rfl, rfl⟩
        by_cases h4 : q ∈ idsT rs
        · have HQ := Lib.hid h4
          rw [decide_eq_true h4]
          clear h4
          go_wp2_with (at_mapUpdate; refine wpList_mapUpdate_T _ rfl _ _ _ rfl g rs rfl h.own (by unfold maxLen; omega) z q hz hq HN.out rfl rfl ?_; intro w2 own2 kw2)
          go_ret
          rw [addB_ok HI.out (by simp [HQ.out])]
          refine ⟨rfl, ⟨h.box.kept kw2 (by simpa using h.apart), own2, h.apart, fun r hr => ?_⟩, kw2⟩
          rcases mem_insB.1 hr with rfl | hr
          · exact ⟨hz, hq⟩
          · exact h.fit r hr
        · have HQ := Lib.hid h4
          rw [decide_eq_false h4]
          clear h4
          go_wp2_with fail
          go_ret
          rw [addB_none HI.out ⟨h3, HQ.out⟩]
          exact ⟨rfl, h, Kept.refl _ _⟩
end Go.Proofs.YtnhdikoigpmnkaaDoor
