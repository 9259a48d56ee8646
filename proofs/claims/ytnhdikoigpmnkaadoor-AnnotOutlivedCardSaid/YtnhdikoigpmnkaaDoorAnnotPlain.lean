/- Which pointers may point where, over a tree's rows. -/
import Derived.Test.YtnhdikoigpmnkaaDoorTreeIn
import Derived.Test.YtnhdikoigpmnkaaDoorDescPlain
namespace Go.Proofs.YtnhdikoigpmnkaaDoor

/-- May a field of that kind, of that holder, point there? The error's number. -/
def annB (rs : List Rw) (kd h t : Int) : Int :=
  if pointerB kd = false then 4 else if t = 0 then 0 else if ¬ (h ∈ idsT rs ∧ t ∈ idsT rs) then 2 else
    if kd = 1 then 0 else if kd = 2 then (if t = h then 0 else 5) else (if inB rs h t = true then 0 else 5)
/-- Where it may point to. -/
def targB (rs : List Rw) (kd h : Int) : List Int := (idsT rs).filter fun t => decide (annB rs kd h t = 0)
/-- Is it counted? -/
def cntB (kd h t : Int) : Bool := decide (kd = 1 ∧ t ≠ 0 ∧ t ≠ h)

theorem annB_kind {rs : List Rw} {kd h t : Int} (hp : pointerB kd = false) : annB rs kd h t = 4 := by unfold annB; rw [if_pos hp]
theorem annB_zero {rs : List Rw} {kd h : Int} (hp : pointerB kd = true) : annB rs kd h 0 = 0 := by unfold annB; rw [if_neg (by simp [hp]), if_pos rfl]
theorem annB_none {rs : List Rw} {kd h t : Int} (hp : pointerB kd = true) (h0 : t ≠ 0) (hn : ¬ (h ∈ idsT rs ∧ t ∈ idsT rs)) : annB rs kd h t = 2 := by
  unfold annB; rw [if_neg (by simp [hp]), if_neg h0, if_pos hn]
theorem annB_one {rs : List Rw} {h t : Int} (h0 : t ≠ 0) (hn : h ∈ idsT rs ∧ t ∈ idsT rs) : annB rs 1 h t = 0 := by
  unfold annB; rw [if_neg (by decide), if_neg h0, if_neg (fun e => e hn), if_pos rfl]
theorem annB_same {rs : List Rw} {h t : Int} (h0 : t ≠ 0) (hn : h ∈ idsT rs ∧ t ∈ idsT rs) : annB rs 2 h t = if t = h then 0 else 5 := by
  unfold annB; rw [if_neg (by decide), if_neg h0, if_neg (fun e => e hn), if_neg (by decide), if_pos rfl]
theorem annB_up {rs : List Rw} {h t : Int} (h0 : t ≠ 0) (hn : h ∈ idsT rs ∧ t ∈ idsT rs) : annB rs 3 h t = if inB rs h t = true then 0 else 5 := by
  unfold annB; rw [if_neg (by decide), if_neg h0, if_neg (fun e => e hn), if_neg (by decide), if_neg (by decide)]
theorem pointer_three {k : Int} (h : pointerB k = true) : k = 1 ∨ k = 2 ∨ k = 3 := by
  simp only [pointerB, decide_eq_true_eq] at h; omega
theorem targB_mem {rs : List Rw} {kd h t : Int} : t ∈ targB rs kd h ↔ t ∈ idsT rs ∧ annB rs kd h t = 0 := by
  unfold targB; rw [List.mem_filter]; simp
theorem targB_rise {k : Nat} {rs : List Rw} (hf : Fine k rs) (kd h : Int) : (targB rs kd h).Pairwise (· < ·) :=
  (List.pairwise_map.2 (hf.rise.imp (fun h => h))).filter _
theorem targB_len (rs : List Rw) (kd h : Int) : (targB rs kd h).length ≤ rs.length := by
  unfold targB
  have := List.length_filter_le (fun t => decide (annB rs kd h t = 0)) (idsT rs)
  simpa [idsT] using this
/-- What a field Up, or Same, may point to is its holder, or above it. -/
theorem annB_within {rs : List Rw} {kd h t : Int} (hk : kd = 2 ∨ kd = 3) (h0 : t ≠ 0) (h1 : h ∈ idsT rs) (h2 : t ∈ idsT rs) (ha : annB rs kd h t = 0) : inB rs h t = true := by
  rcases hk with rfl | rfl
  · rw [annB_same h0 ⟨h1, h2⟩] at ha
    by_cases e : t = h
    · subst e; unfold inB; exact decide_eq_true ⟨h1, h1, by simp [subT]⟩
    · rw [if_neg e] at ha; omega
  · rw [annB_up h0 ⟨h1, h2⟩] at ha
    by_cases e : inB rs h t = true
    · exact e
    · rw [if_neg e] at ha; omega
end Go.Proofs.YtnhdikoigpmnkaaDoor
