/- Package tree: Remove. -/
import Derived.Test.YtnhdikoigpmnkaaDoorTreeKids
namespace Go.Proofs.YtnhdikoigpmnkaaDoor
open Go.RowKit

/-- Behind Remove: the entries, the error's number. -/
def remB (rs : List Rw) (z : Int) : List Rw × Int :=
  if z ∉ idsT rs then (rs, 2) else if kidsB rs z ≠ [] then (rs, 6) else (delB rs z, 0)
theorem remB_none {rs : List Rw} {z : Int} (h : z ∉ idsT rs) : remB rs z = (rs, 2) := by unfold remB; rw [if_pos h]
theorem remB_busy {rs : List Rw} {z : Int} (h : z ∈ idsT rs) (h2 : kidsB rs z ≠ []) : remB rs z = (rs, 6) := by unfold remB; rw [if_neg (fun e => e h), if_pos h2]
theorem remB_ok {rs : List Rw} {z : Int} (h : z ∈ idsT rs) (h2 : kidsB rs z = []) : remB rs z = (delB rs z, 0) := by unfold remB; rw [if_neg (fun e => e h), if_neg (fun e => e h2)]

set_option maxRecDepth 100000 in
set_option maxHeartbeats 1000000 in
theorem treeRemove_any (p g : Nat) (rs : List Rw) (z : Int) (w : World) (h : IsTree w p g rs) (hz : Fit64 z) (hr : rs.Pairwise (fun a b => a.1 < b.1)) (hn : rs.length < 1099511627776) :
    Calls Tryd.prog 16 #[.pointer (some ⟨p, 0, none⟩), .int .i64 z] w (AddPost p g (remB rs z).1 (remB rs z).2 w) := by
  go_enter Tryd.func16, Tryd.ntmps16
  go_wp2_with fail
  refine (treeHas_any p g rs z w h hz).mono ?_
  rintro e w1 ⟨rfl, rfl⟩
  by_cases h1 : z ∈ idsT rs
  · have HI := Lib.hid h1
    rw [decide_eq_true h1]
    clear h1
    go_wp2_with fail
    refine (treeKids_any p g rs z w h hr hn).mono ?_
    rintro e w1 ⟨a, c, rfl, hs, hk⟩
    have hT := h.kept hk
    have hc := hT.cell
    have hkl := kids_len rs z
    by_cases h2 : kidsB rs z = []
    · have HK := Lib.hid h2
      rw [h2]
      clear h2 hs
      go_wp2_with (at_delete; refine wpList_delete_T _ rfl _ _ rfl g rs rfl hT.own z hz rfl ?_; intro w2 own2 kw2)
      go_ret
      rw [remB_ok HI.out HK.out]
      refine ⟨rfl, ⟨hT.box.kept kw2 (by simpa using h.apart), own2, h.apart, fun r hr => h.fit r (List.mem_filter.1 hr).1⟩, hk.any.trans kw2⟩
    · have HK := Lib.hid h2
      have hpos : 0 < (kidsB rs z).length := List.length_pos_iff.2 h2
      clear h2
      go_wp2_with fail
      go_ret
      rw [remB_busy HI.out HK.out]
      exact ⟨rfl, hT, hk.any⟩
  · have HI := Lib.hid h1
    rw [decide_eq_false h1]
    clear h1
    go_wp2_with fail
    go_ret
    rw [remB_none HI.out]
    exact ⟨rfl, h, Kept.refl _ _⟩
end Go.Proofs.YtnhdikoigpmnkaaDoor
