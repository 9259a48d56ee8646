/- Package ids: New, Give, Take, Lives, Last. -/
import Derived.Test.YtbncfpglofmejaaKeys
import Derived.Test.YtbncfpglofmejaaQuiet
import Derived.StillTailTactics
namespace Go.Proofs.Ytbncfpglofmejaa
open Go.RowKit

/-- The book in block p: at most most live; xs live, rising (in the map at g); last was given out last. -/
structure IsBook (w : World) (p g : Nat) (most : Int) (last : Nat) (xs : List Int) : Prop where
  box : Row w p 45 [.int .i64 most, .int .i64 last, .map (some g)]
  own : OwnS w g xs
  apart : p ≠ g
  rise : xs.Pairwise (· < ·)
  within : ∀ x ∈ xs, 1 ≤ x ∧ x ≤ last
section
variable {w w' : World} {p g : Nat} {most : Int} {last : Nat} {xs : List Int}
theorem IsBook.cell0 (h : IsBook w p g most last xs) : w.cell? ⟨p, 0, none⟩ = some (.int .i64 most) := by simpa using h.box.cell 0
theorem IsBook.cell1 (h : IsBook w p g most last xs) : w.cell? ⟨p, 1, none⟩ = some (.int .i64 last) := by simpa using h.box.cell 1
theorem IsBook.cell2 (h : IsBook w p g most last xs) : w.cell? ⟨p, 2, none⟩ = some (.map (some g)) := by simpa using h.box.cell 2
theorem IsBook.free (h : IsBook w p g most last xs) (j : Nat) : w.frozen? ⟨p, j, none⟩ = false := h.box.free j
theorem IsBook.keptS {S : List Nat} (h : IsBook w p g most last xs) (hk : Kept S w w') (hp : p ∉ S) (hg : g ∉ S) : IsBook w' p g most last xs :=
  ⟨h.box.kept hk hp, h.own.kept hk hg, h.apart, h.rise, h.within⟩
theorem IsBook.kept (h : IsBook w p g most last xs) (hk : Kept [] w w') : IsBook w' p g most last xs := h.keptS hk (by simp) (by simp)
theorem IsBook.lt (h : IsBook w p g most last xs) : p < w.heap.size ∧ g < w.heap.size := ⟨h.box.lt, h.own.lt⟩
theorem IsBook.drewN (h : IsBook w p g most last xs) (n : Nat) : IsBook (w.drewN n) p g most last xs := h.kept ((Kept.refl [] w).drewN n)
end
theorem rise_le : ∀ (xs : List Int) (lo n : Int), xs.Pairwise (· < ·) → (∀ x ∈ xs, lo + 1 ≤ x ∧ x ≤ n) → lo ≤ n → (xs.length : Int) ≤ n - lo
  | [], lo, n, _, _, h => by simp; omega
  | x :: r, lo, n, h, hw, _ => by
    obtain ⟨h1, h2⟩ := List.pairwise_cons.1 h
    have hx := hw x (by simp)
    have := rise_le r x n h2 (fun y hy => ⟨by have := h1 y hy; omega, (hw y (by simp [hy])).2⟩) hx.2
    simp; omega
theorem IsBook.len_le {w : World} {p g : Nat} {most : Int} {last : Nat} {xs : List Int} (h : IsBook w p g most last xs) : xs.length ≤ last := by
  have := rise_le xs 0 last h.rise (fun x hx => by have := h.within x hx; omega) (by omega)
  omega

/-- What New leaves: a book in new blocks. -/
def NewBook (w : World) (most : Int) (e : Ending) (w' : World) : Prop :=
  ∃ p g, e = .returned (.pointer (some ⟨p, 0, none⟩)) ∧ (w.heap.size ≤ p ∧ w.heap.size ≤ g) ∧ IsBook w' p g (max most 0) 0 [] ∧ Kept [] w w'

theorem newBook_made (w : World) (most : Int) (m : Int) (hm : m = max most 0) : NewBook w most (.returned (.pointer (some ⟨w.heap.size + 1, 0, none⟩))) ((w.alloc (.map #[] 0)).alloc (.cells #[.int .i64 m, .int .i64 0, .map (some w.heap.size)] 45)) := by
  subst hm
  have hr := Row.new (w.alloc (.map #[] 0)) 45 [.int .i64 (max most 0), .int .i64 0, .map (some w.heap.size)]
  have hz : (w.alloc (.map #[] 0)).heap.size = w.heap.size + 1 := by simp
  rw [hz] at hr
  exact ⟨w.heap.size + 1, w.heap.size, rfl, by omega, ⟨hr, (OwnS.made w).kept ((Kept.refl [] _).alloc _) (by simp), by omega, List.Pairwise.nil, by simp⟩, ((Kept.refl [] w).alloc _).alloc _⟩

set_option maxHeartbeats 1000000 in
theorem idsNew_any (most : Int) (w : World) : Calls Try.prog 6 #[.int .i64 most] w (NewBook w most) := by
  have hmm := @run_makeMap Try.prog
  go_enter Try.func6, Try.ntmps6
  go_wp2
  · go_ret
    exact newBook_made w most _ (by omega)
  · go_ret
    exact newBook_made w most _ (by omega)

theorem idsLast_any (p g : Nat) (most : Int) (last : Nat) (xs : List Int) (w : World) (h : IsBook w p g most last xs) :
    Calls Try.prog 14 #[.pointer (some ⟨p, 0, none⟩)] w fun e w' => e = .returned (.int .i64 last) ∧ w = w' := by
  have hc := h.cell1
  go_enter Try.func14, Try.ntmps14
  go_wp2
  go_ret
  exact ⟨rfl, rfl⟩

theorem idsLives_any (p g : Nat) (most : Int) (last : Nat) (xs : List Int) (z : Int) (w : World) (h : IsBook w p g most last xs) (hz : Fit64 z) :
    Calls Try.prog 15 #[.pointer (some ⟨p, 0, none⟩), .int .i64 z] w fun e w' => e = .returned (.bool (decide (z ∈ xs))) ∧ w = w' := by
  have hc := h.cell2
  have hlook := h.own.look hz
  go_enter Try.func15, Try.ntmps15
  go_wp2
  go_ret
  exact ⟨rfl, rfl⟩

def TakePost (p g : Nat) (most : Int) (last : Nat) (xs : List Int) (z : Int) (w : World) (e : Ending) (w' : World) : Prop :=
  e = .returned (.int .i64 (if z ∈ xs then 0 else 2)) ∧ IsBook w' p g most last (xs.filter fun x => !decide (x = z)) ∧ Kept [g] w w'
theorem filter_none {xs : List Int} {z : Int} (h : z ∉ xs) : (xs.filter fun x => !decide (x = z)) = xs :=
  List.filter_eq_self.2 (fun x hx => by simp; intro e; subst e; exact h hx)

set_option maxHeartbeats 1000000 in
theorem idsTake_any (p g : Nat) (most : Int) (last : Nat) (xs : List Int) (z : Int) (w : World) (h : IsBook w p g most last xs) (hz : Fit64 z) :
    Calls Try.prog 10 #[.pointer (some ⟨p, 0, none⟩), .int .i64 z] w (TakePost p g most last xs z w) := by
  have hc := h.cell2
  go_enter Try.func10, Try.ntmps10
  go_wp2_with fail
  refine (idsLives_any p g most last xs z w h hz).mono ?_
  rintro e w1 ⟨rfl, rfl⟩
  by_cases hin : z ∈ xs
  · have HI := Lib.hid hin
    rw [decide_eq_true hin]
    clear hin
    go_wp2_with (at_delete; refine wpList_delete_S _ rfl _ _ rfl g xs rfl h.own z hz rfl ?_; intro w2 own2 kw2)
    go_ret
    refine ⟨by rw [if_pos HI.out]; rfl, ⟨h.box.kept kw2 (by simpa using h.apart), own2, h.apart, h.rise.filter _, fun x hx => h.within x (List.mem_filter.1 hx).1⟩, kw2⟩
  · have HI := Lib.hid hin
    rw [decide_eq_false hin]
    clear hin
    go_wp2
    go_ret
    exact ⟨by rw [if_neg HI.out]; rfl, by rw [filter_none HI.out]; exact h, Kept.refl _ _⟩

/-- Behind Give: those that live, the last number, the number, the error's. -/
def giveB (most : Int) (last : Nat) (xs : List Int) : List Int × Nat × Int × Int :=
  if most ≤ xs.length then (xs, last, 0, 3) else (xs ++ [(last : Int) + 1], last + 1, (last : Int) + 1, 0)
theorem giveB_no {most : Int} {last : Nat} {xs : List Int} (h : most ≤ xs.length) : giveB most last xs = (xs, last, 0, 3) := by unfold giveB; rw [if_pos h]
theorem giveB_yes {most : Int} {last : Nat} {xs : List Int} (h : ¬ most ≤ xs.length) : giveB most last xs = (xs ++ [(last : Int) + 1], last + 1, (last : Int) + 1, 0) := by unfold giveB; rw [if_neg h]
def GivePost (p g : Nat) (most : Int) (last : Nat) (xs : List Int) (w : World) (e : Ending) (w' : World) : Prop :=
  e = .returned (.tuple #[.int .i64 (giveB most last xs).2.2.1, .int .i64 (giveB most last xs).2.2.2]) ∧ IsBook w' p g most (giveB most last xs).2.1 (giveB most last xs).1 ∧ Kept [p, g] w w'

set_option maxRecDepth 100000 in
set_option maxHeartbeats 1000000 in
theorem idsGive_any (p g : Nat) (most : Int) (last : Nat) (xs : List Int) (w : World) (h : IsBook w p g most last xs) (hl : last < 1099511627776) :
    Calls Try.prog 8 #[.pointer (some ⟨p, 0, none⟩)] w (GivePost p g most last xs w) := by
  have hc0 := h.cell0
  have hc2 := h.cell2
  have hll := h.len_le
  have hlen : ∀ n ty, (Builtin.len_ #[43] ty #[.map (some g)]).run Try.prog (w.drewN n) = .ok (.int .i64 xs.length) (w.drewN n) := fun n ty => (h.drewN n).own.len ty
  by_cases hm : most ≤ xs.length
  · go_enter Try.func8, Try.ntmps8
    go_wp2_with fail
    go_quiet (fail)
    go_wp2
    go_ret2
    exact ⟨by rw [giveB_no hm]; rfl, by rw [giveB_no hm]; exact h.drewN _, (Kept.refl _ _).drewN _⟩
  · have hm' : decide (most ≤ xs.length) = false := by simpa using hm
    go_enter Try.func8, Try.ntmps8
    go_wp2_with fail
    go_quiet (fail)
    have hB := h.drewN nq
    have kB := (Kept.refl [p, g] w).drewN nq
    generalize w.drewN nq = W at hB kB ⊢
    clear hc0 hc2 hlen h
    have c1 := hB.cell1
    have f1 := hB.free 1
    go_wp2_with fail
    have hr1 := hB.box.set 1 (.int .i64 ((last : Int) + 1))
    have ho1 : OwnS (W.setCell ⟨p, 1, none⟩ (.int .i64 ((last : Int) + 1))) g xs := World.ownsMap.setCell hB.own (a := ⟨p, 1, none⟩) (fun e => hB.apart e.symm) _
    have k1 := kB.set (p := ⟨p, 1, none⟩) (.inl (by simp)) (.int .i64 ((last : Int) + 1))
    have hap := hB.apart
    have hri := hB.rise
    have hwi := hB.within
    clear c1 f1 hB kB
    generalize W.setCell ⟨p, 1, none⟩ (.int .i64 ((last : Int) + 1)) = W2 at hr1 ho1 k1 ⊢
    have c1 : W2.cell? ⟨p, 1, none⟩ = some (.int .i64 ((last : Int) + 1)) := by simpa using hr1.cell 1
    have c2 : W2.cell? ⟨p, 2, none⟩ = some (.map (some g)) := by simpa using hr1.cell 2
    go_still_tail 8, (by kernel_rfl)
    change wpList _ _ _ _ _ W2.drew
    have kD : Kept [] W2 W2.drew := (Kept.refl _ _).drew
    have rD := hr1.kept kD (by simp)
    have oD := ho1.kept kD (by simp)
    have k2 := k1.trans kD.any
    clear c1 c2 hr1 ho1 k1 kD
    generalize W2.drew = W3 at rD oD k2 ⊢
    go_wp2_with (at_mapUpdate; refine wpList_mapUpdate_S _ rfl _ _ _ rfl g xs rfl oD (by unfold maxLen; omega) ((last : Int) + 1) (by unfold Fit64; omega) (fun x hx => by have := hwi x hx; omega) rfl rfl ?_; intro w4 own4 kw4; have c1 : w4.cell? ⟨p, 1, none⟩ = some (.int .i64 ((last : Int) + 1)) := by simpa using (rD.kept kw4 (by simpa using hap)).cell 1)
    go_ret2
    have hr4 := rD.kept kw4 (by simpa using hap)
    refine ⟨by rw [giveB_yes (by omega)]; rfl, ?_, k2.trans (kw4.mono (by simp))⟩
    rw [giveB_yes (by omega)]
    refine ⟨by simpa using hr4, own4, hap, ?_, ?_⟩
    · refine List.pairwise_append.2 ⟨hri, by simp, fun a ha b hb => ?_⟩
      have := hwi a ha
      simp at hb; omega
    · intro x hx
      rcases List.mem_append.1 hx with hx | hx
      · have := hwi x hx; simp; omega
      · simp at hx; simp; omega
end Go.Proofs.Ytbncfpglofmejaa
