/- The library's sort by regions on a row of runs of the call's own. -/
import Derived.Test.YtionleocbjfgaaaDoorRunZ
import Derived.Test.YtionleocbjfgaaaDoorSortFLay
import Derived.Shelf.SlSortCmp.WholeK
import Derived.Shelf.SlicesG.Cmp
import Derived.Sort.OwnSortedInts
namespace Go.Proofs.YtionleocbjfgaaaDoor
open Go.RowKit Go.Shelf Go.Lib Go.Sort

set_option maxHeartbeats 1000000 in
/-- The function that All sorts by: two blocks are laid, nothing else. -/
theorem allLess_any (x y : RunZ) (W : World) : Calls Tryd.prog 25 #[.agg #[.int .i64 x.1, .int .i64 x.2], .agg #[.int .i64 y.1, .int .i64 y.2]] W fun e w' => e = .returned (.int .i64 (Lib.compareInt x.1 y.1)) ∧ ∃ q os', w' = grow (W.drewN q) os' := by
  have hcon := fun W' => AnyG.cmp_Compare_int cmpI_lays x.1 y.1 W'
  change ∀ W', Calls Tryd.prog 26 _ _ _ at hcon
  generalize Lib.compareInt x.1 y.1 = r at hcon ⊢
  go_enter Tryd.func25, Tryd.ntmps25
  go_wp2_with (go_at_call 26; refine (hcon _).mono ?_; rintro e w' ⟨rfl, rfl⟩)
  go_ret
  exact ⟨rfl, 0, _, by rw [alloc_eq_grow, alloc_eq_grow, grow_grow]; rfl⟩
theorem ltKey (x y : RunZ) : ltOf (fun x y : RunZ => Lib.compareInt x.1 y.1) x y = decide (x.1 < y.1) := by
  unfold ltOf Lib.compareInt
  by_cases h1 : x.1 < y.1
  · simp [h1]
  · by_cases h2 : y.1 < x.1 <;> simp [h1, h2]
theorem swoKey : SWO (ltOf fun x y : RunZ => Lib.compareInt x.1 y.1) where
  irrefl x := by rw [ltKey]; simp
  trans x y z h1 h2 := by rw [ltKey] at *; simp at *; omega
  ntrans x y z h1 h2 := by rw [ltKey] at *; simp at *; omega

theorem flatK_flatS {c : RunZ → List Value} (hc : ∀ x, (c x).length = 2) (ss : List RunZ) : flatK c 2 ss.toArray = (flatS c ss).toArray := by
  have hl := flatS_length hc ss
  refine ext_get! (by simp [hl]) fun t ht => ?_
  have ht' : t < ss.length * 2 := by simpa using ht
  rw [get_flatK c 2 ss.toArray t (by simpa using ht')]
  have hq : t / 2 < ss.length := by omega
  have h1 := flatS_get hc ss (t / 2) _ (List.getElem?_eq_getElem hq) (t % 2) (by omega)
  rw [show t / 2 * 2 + t % 2 = t by omega] at h1
  have h2 : t % 2 < (c ss[t / 2]).length := by rw [hc]; omega
  rw [List.getElem?_eq_getElem (by omega), List.getElem?_eq_getElem h2] at h1
  have h3 : (ss.toArray)[t / 2]! = ss[t / 2] := by simp [hq]
  rw [h3]
  simp only [Option.some.injEq] at h1
  have h4 : ((flatS c ss).toArray)[t]! = (flatS c ss)[t]'(by omega) := by simp [show t < (flatS c ss).length by omega]
  rw [h4, h1]
  simp [h2]
theorem holdsK_of_own {w : World} {B g cp : Nat} {e : TypeId} {ss : List RunZ} (h : OwnS e cellsZ 2 w B (.slice (some ⟨g, 0, none⟩) ss.length cp) ss) : HoldsK cellsZ 2 w g 0 ss.toArray := by
  rcases h.2 with ⟨hnil, _⟩ | ⟨g', cap', cur, hv, hB, hb, h1, h2, h3, h4⟩
  · cases hnil
  cases hv
  unfold HoldsK
  rw [flatK_flatS cellsZ_length]
  intro j hj
  have hl := flatS_length cellsZ_length ss
  have hj' : j < ss.length * 2 := by simpa [hl] using hj
  refine ⟨?_, by simp [World.frozen?, hb]⟩
  have h5 : (cur.toList.take (ss.length * 2))[j]? = (flatS cellsZ ss)[j]? := by rw [h4]
  rw [List.getElem?_take_of_lt hj'] at h5
  simp only [World.cell?, hb, Nat.zero_add]
  simp only [Option.isSome_none, Bool.false_eq_true, if_false]
  rw [← Array.getElem?_toList, h5]
  simp [List.getElem?_eq_getElem (show j < (flatS cellsZ ss).length by omega)]
theorem kept_sortedK {w : World} {g n : Nat} {os : Array Obj} {α : Type} [Inhabited α] (enc : α → List Value) (k : Nat) (d : Array α) : Kept [g] w (sortWorldK enc k w g 0 n d os) := by
  refine Kept.of_grown (?_ : w.grownBy _ (some g))
  refine ⟨rfl, rfl, rfl, by simp [sortWorldK, putRowK], fun j hj hne => ?_⟩
  unfold sortWorldK putRowK
  rw [heap_grow_old _ _ (by simpa using hj)]
  have : g ≠ j := fun e => hne (by rw [e])
  simp [putRow, mapBlock, Sort.ahead, Array.getElem?_modify, this]
theorem slS_of_holdsK {w : World} {g : Nat} {d : Array RunZ} (hg : g < w.heap.size) (h : HoldsK cellsZ 2 w g 0 d) : SlS cellsZ 2 w (some ⟨g, 0, none⟩) d.toList := by
  refine .inr ⟨g, 0, rfl, hg, fun j x hx i hi => ?_⟩
  have hj : j < d.size := by have := (List.getElem?_eq_some_iff.1 hx).1; simpa using this
  have hx2 : d[j]! = x := by
    have := (List.getElem?_eq_some_iff.1 hx).2
    rw [← this]; simp [hj]
  have hc := (HoldsK.cell h hj hi).1
  rw [hx2] at hc
  rw [hc]
  have h2 : i < (cellsZ x).length := by rw [cellsZ_length]; exact hi
  simp [h2]

/-- What the sort leaves in a row of the call's own: the same runs, rising by regions, in the same block. -/
def SortedY (g : Nat) (ss : List RunZ) (w : World) (e : Ending) (w' : World) : Prop :=
  e = .returned (.tuple #[]) ∧ ∃ ts : List RunZ, ts.Perm ss ∧ ts.Pairwise (fun a b => a.1 ≤ b.1) ∧ SlS cellsZ 2 w' (some ⟨g, 0, none⟩) ts ∧ Kept [g] w w'
theorem sortF_any (e : TypeId) (B g cp : Nat) (ss : List RunZ) (w : World) (h : OwnS e cellsZ 2 w B (.slice (some ⟨g, 0, none⟩) ss.length cp) ss) (hl : ss.length < 1099511627776) :
    Calls Tryd.prog 24 #[.slice (some ⟨g, 0, none⟩) ss.length cp, .func (.func 25) #[] #[]] w (SortedY g ss w) := by
  have hH := holdsK_of_own h
  have hg : g < w.heap.size := h.lt g rfl
  have eg : ∀ args w, (callFunc 25 args).run Tryd.prog w = .ok (.enter 25 args) w := enters_of Tryd.func25 (by kernel_rfl) rfl
  have hcon := AnyQ.slices_SortFunc sortF_lays 2 Tryd.isAgg41 Tryd.sizeOf41 cellsZ cellsZ_length cellsZ_one (fun x y : RunZ => Lib.compareInt x.1 y.1) swoKey 25 #[] g 0 cp ss.toArray w eg
    (fun _ _ _ _ x y => allLess_any x y _) hH hg (by simp; omega)
  change Calls Tryd.prog 24 _ _ _ at hcon
  simp only [List.size_toArray] at hcon
  refine hcon.mono ?_
  rintro e w' ⟨rfl, d', n, os, hp, hs, rfl⟩
  obtain ⟨hp1, _, hp3⟩ := hp
  have hz : d'.size = ss.length := by simpa using hp1
  refine ⟨rfl, d'.toList, ?_, ?_, slS_of_holdsK (Nat.lt_of_lt_of_le hg (size_sortWorldK_c cellsZ 2 w g 0 n d' os)) (holdsK_sortWorldK_c cellsZ 2 w g 0 ss.toArray d' n os hH hg (by simpa using hp1)), kept_sortedK cellsZ 2 d'⟩
  · rw [← hz] at hp3
    have e2 : ss.toArray.extract 0 d'.size = ss.toArray := by rw [hz]; simp
    rw [e2, Array.extract_size] at hp3
    simpa using hp3
  · rw [List.pairwise_iff_getElem]
    intro i j hi hj hij
    have hj' : j < d'.size := by simpa using hj
    have hi' : i < d'.size := by simpa using hi
    have := hs i j (Nat.zero_le _) hij (by omega)
    rw [ltKey, decide_eq_false_iff_not] at this
    rw [getElem!_pos d' j hj', getElem!_pos d' i hi'] at this
    simp only [Array.getElem_toList]
    omega
/-- Sorted, the entries of a rising list are that list. -/
theorem sortedY_eq {ts ss gs : List RunZ} (h1 : ts.Perm ss) (h2 : ss.Perm gs) (hr : gs.Pairwise (fun a b => a.1 < b.1)) (hs : ts.Pairwise (fun a b => a.1 ≤ b.1)) : ts = gs := by
  have hp := h1.trans h2
  refine List.Perm.eq_of_pairwise (le := fun a b : RunZ => a.1 ≤ b.1) (fun a b ha hb h3 h4 => ?_) hs (hr.imp (fun h => by omega)) hp
  have hag := hp.mem_iff.1 ha
  obtain ⟨i, hi, hia⟩ := List.getElem_of_mem hag
  obtain ⟨j, hj, hjb⟩ := List.getElem_of_mem hb
  rcases Nat.lt_trichotomy i j with h | h | h
  · have := List.pairwise_iff_getElem.1 hr i j hi hj h
    rw [hia, hjb] at this; omega
  · subst h; rw [← hia, hjb]
  · have := List.pairwise_iff_getElem.1 hr j i hj hi h
    rw [hia, hjb] at this; omega
end Go.Proofs.YtionleocbjfgaaaDoor
