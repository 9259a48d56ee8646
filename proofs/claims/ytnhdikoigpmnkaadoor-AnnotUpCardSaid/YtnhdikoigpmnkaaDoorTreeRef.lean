/- Package kraalref05: the document's answers on trees: Has, Parent, Kids, Within. -/
import Derived.Test.YtnhdikoigpmnkaaDoorTreeIn
import Derived.Test.YtnhdikoigpmnkaaDoorTreeRem
import Derived.Test.YtnhdikoigpmnkaaDoorNum
namespace Go.Proofs.YtnhdikoigpmnkaaDoor
open Go.RowKit

/-- The slice of rows that begins at a reads as rs. -/
def SlT (w : World) (a : Option Addr) (rs : List Rw) : Prop :=
  rs = [] ∨ ∃ b off, a = some ⟨b, off, none⟩ ∧ b < w.heap.size ∧ ∀ j, j < rs.length → w.cell? ⟨b, off + j * 2, none⟩ = some (.int .i64 (rs[j]?.getD (0, 0)).1) ∧ w.cell? ⟨b, off + j * 2 + 1, none⟩ = some (.int .i64 (rs[j]?.getD (0, 0)).2)
theorem SlT.kept {w w' : World} {a : Option Addr} {rs : List Rw} (h : SlT w a rs) (hk : Kept [] w w') : SlT w' a rs := by
  rcases h with h | ⟨b, off, rfl, hb, hc⟩
  · exact .inl h
  · have e : ∀ o, w'.cell? ⟨b, o, none⟩ = w.cell? ⟨b, o, none⟩ := fun o => World.cell?_of_block (w := w) (a := ⟨b, o, none⟩) (hk.block b hb (by simp))
    exact .inr ⟨b, off, rfl, Nat.lt_of_lt_of_le hb hk.size, fun j hj => by simp only [e]; exact hc j hj⟩
theorem SlT.cell {w : World} {a : Option Addr} {rs : List Rw} (h : SlT w a rs) {j : Nat} (hj : j < rs.length) :
    ∃ b off, a = some ⟨b, off, none⟩ ∧ w.cell? ⟨b, off + j * 2, none⟩ = some (.int .i64 (rs[j]?.getD (0, 0)).1) ∧ w.cell? ⟨b, off + j * 2 + 1, none⟩ = some (.int .i64 (rs[j]?.getD (0, 0)).2) := by
  rcases h with h | ⟨b, off, rfl, _, hc⟩
  · subst h; simp at hj
  · exact ⟨b, off, rfl, hc j hj⟩
theorem SlT.keptS {w w' : World} {S : List Nat} {b off : Nat} {rs : List Rw} (h : SlT w (some ⟨b, off, none⟩) rs) (hk : Kept S w w') (hn : b ∉ S) : SlT w' (some ⟨b, off, none⟩) rs := by
  rcases h with h | ⟨b', off', e, hb, hc⟩
  · exact .inl h
  · cases e
    have e : ∀ o, w'.cell? ⟨b, o, none⟩ = w.cell? ⟨b, o, none⟩ := fun o => World.cell?_of_block (w := w) (a := ⟨b, o, none⟩) (hk.block b hb hn)
    exact .inr ⟨b, off, rfl, Nat.lt_of_lt_of_le hb hk.size, fun j hj => by simp only [e]; exact hc j hj⟩
/-- The tree's own changes leave rows of cells alone. -/
theorem SlT.keptG {w w' : World} {b off p g : Nat} {rs rs' : List Rw} (h : SlT w (some ⟨b, off, none⟩) rs) (ht : IsTree w p g rs') (hk : Kept [g] w w') : SlT w' (some ⟨b, off, none⟩) rs := by
  by_cases e : b = g
  · subst e
    rcases h with h | ⟨b', off', e, hb, hc⟩
    · exact .inl h
    · cases e
      cases rs with
      | nil => exact .inl rfl
      | cons r rs =>
        obtain ⟨es, clock, hm, _⟩ := ht.own
        have := (hc 0 (by simp)).1
        simp [World.cell?, hm] at this
  · exact h.keptS hk (by simpa using e)
theorem row_mem {rs : List Rw} {j : Nat} (hj : j < rs.length) {x p : Int} (h : rs[j]?.getD (0, 0) = (x, p)) : (x, p) ∈ rs := by
  rw [List.getElem?_eq_getElem hj] at h
  simp only [Option.getD_some] at h
  rw [← h]; exact List.getElem_mem hj

set_option maxRecDepth 100000 in
set_option maxHeartbeats 1000000 in
theorem refHas05_any (A : Option Addr) (cap : Nat) (rs : List Rw) (z : Int) (w : World) (hs : SlT w A rs) (hn : rs.length < 1099511627776) :
    Calls Tryd.prog 25 #[.slice A rs.length cap, .int .i64 z] w fun e w' => e = .returned (.bool (decide (z ∈ idsT rs))) ∧ w = w' := by
  go_enter Tryd.func25, Tryd.ntmps25
  go_wp2_with fail
  go_loopw [5] (fun i wr => ∃ j : Nat, j ≤ rs.length ∧ i = .int .i64 j ∧ Hid (∀ i, i < j → (rs[i]?.getD (0, 0)).1 ≠ z) ∧ w = wr) (fun i _ => rs.length - (intOf i).toNat)
  case atStart => exact ⟨0, Nat.zero_le _, rfl, fun i hi => by omega, rfl⟩
  case round =>
    obtain ⟨j, hj, rfl, HA, rfl⟩ := hrel
    by_cases hlt : j < rs.length
    · obtain ⟨b, off, rfl, cG, _⟩ := hs.cell hlt
      obtain ⟨⟨x, p⟩, hxp⟩ : ∃ xp, rs[j]?.getD (0, 0) = xp := ⟨_, rfl⟩
      rw [hxp] at cG
      simp only at cG
      have HX := Lib.hid hxp
      clear hxp
      by_cases hv : x = z
      · subst hv
        have hm : x ∈ idsT rs := mem_ids.2 ⟨p, row_mem hlt HX.out⟩
        have HM := Lib.hid hm
        clear hm
        go_wp2
        go_ret
        exact ⟨by rw [decide_eq_true HM.out]; rfl, rfl⟩
      · have hv' : (x == z) = false := by simpa using hv
        have HV := Lib.hid hv
        clear hv
        go_wp2
        go_roundw
        case rel => exact ⟨j + 1, by omega, by go_num, fun i hi => by by_cases e : i = j; subst e; rw [HX.out]; exact HV.out; exact HA.out i (by omega), trivial⟩
        case measure => simp [intOf]; omega
    · obtain rfl : j = rs.length := by omega
      go_wp2
      go_ret
      have hm : z ∉ idsT rs := fun hm => by
        obtain ⟨p, hp⟩ := mem_ids.1 hm
        obtain ⟨i, hi, e⟩ := List.getElem_of_mem hp
        exact HA.out i hi (by rw [List.getElem?_eq_getElem hi, e]; rfl)
      exact ⟨by rw [decide_eq_false hm]; rfl, rfl⟩

set_option maxRecDepth 100000 in
set_option maxHeartbeats 1000000 in
theorem refParent05_any (A : Option Addr) (cap : Nat) (rs : List Rw) (z : Int) (w : World) (hs : SlT w A rs) (hr : rs.Pairwise (fun a b => a.1 < b.1)) (hn : rs.length < 1099511627776) :
    Calls Tryd.prog 35 #[.slice A rs.length cap, .int .i64 z] w fun e w' => e = .returned (.int .i64 (parB rs z)) ∧ w = w' := by
  go_enter Tryd.func35, Tryd.ntmps35
  go_wp2_with fail
  go_loopw [5] (fun i wr => ∃ j : Nat, j ≤ rs.length ∧ i = .int .i64 j ∧ Hid (∀ i, i < j → (rs[i]?.getD (0, 0)).1 ≠ z) ∧ w = wr) (fun i _ => rs.length - (intOf i).toNat)
  case atStart => exact ⟨0, Nat.zero_le _, rfl, fun i hi => by omega, rfl⟩
  case round =>
    obtain ⟨j, hj, rfl, HA, rfl⟩ := hrel
    by_cases hlt : j < rs.length
    · obtain ⟨b, off, rfl, cG, cH⟩ := hs.cell hlt
      obtain ⟨⟨x, p⟩, hxp⟩ : ∃ xp, rs[j]?.getD (0, 0) = xp := ⟨_, rfl⟩
      rw [hxp] at cG cH
      simp only at cG cH
      have HX := Lib.hid hxp
      clear hxp
      by_cases hv : x = z
      · subst hv
        have HM := Lib.hid (par_of_mem hr (row_mem hlt HX.out))
        go_wp2
        go_ret
        exact ⟨by rw [HM.out]; rfl, rfl⟩
      · have hv' : (x == z) = false := by simpa using hv
        have HV := Lib.hid hv
        clear hv
        go_wp2
        go_roundw
        case rel => exact ⟨j + 1, by omega, by go_num, fun i hi => by by_cases e : i = j; subst e; rw [HX.out]; exact HV.out; exact HA.out i (by omega), trivial⟩
        case measure => simp [intOf]; omega
    · obtain rfl : j = rs.length := by omega
      go_wp2
      go_ret
      have hm : z ∉ idsT rs := fun hm => by
        obtain ⟨p, hp⟩ := mem_ids.1 hm
        obtain ⟨i, hi, e⟩ := List.getElem_of_mem hp
        exact HA.out i hi (by rw [List.getElem?_eq_getElem hi, e]; rfl)
      exact ⟨by rw [par_of_not hm]; rfl, rfl⟩

/-- A new slice of its own that holds xs. -/
def NewList (xs : List Int) (w : World) (e : Ending) (w' : World) : Prop :=
  ∃ g c, e = .returned (.slice (some ⟨g, 0, none⟩) xs.length c) ∧ w.heap.size ≤ g ∧ w'.ownsRow w.heap.size 3 1 (.slice (some ⟨g, 0, none⟩) xs.length c) xs.length (xs.map (Value.int .i64)) ∧ Kept [] w w'
theorem NewList.list {xs : List Int} {w w' : World} {e : Ending} (h : NewList xs w e w') : ListPost xs w e w' := by
  obtain ⟨g, c, rfl, _, ho, hk⟩ := h
  exact ⟨some ⟨g, 0, none⟩, c, rfl, Sl.of_own ho, hk⟩
/-- The kids among the first j. -/
theorem kidO_take_succ {rs : List Rw} {z : Int} {j : Nat} (hj : j < rs.length) {x p : Int} (h : rs[j]?.getD (0, 0) = (x, p)) : kidO z (rs.take (j + 1)) = if p = z then kidO z (rs.take j) ++ [x] else kidO z (rs.take j) := by
  rw [List.getElem?_eq_getElem hj] at h
  simp only [Option.getD_some] at h
  rw [List.take_succ_eq_append_getElem hj, h, kidO_snoc]

set_option maxRecDepth 100000 in
set_option maxHeartbeats 2000000 in
theorem refKids05_any (A : Option Addr) (cap : Nat) (rs : List Rw) (z : Int) (w : World) (hs : SlT w A rs) (hn : rs.length < 1099511627776) :
    Calls Tryd.prog 30 #[.slice A rs.length cap, .int .i64 z] w (NewList (kidsB rs z) w) := by
  obtain ⟨i0, hi, hz0, hz1, hz2⟩ := info_parts info_tint
  have own0 := own_empty w 3 1 w.heap.size (Nat.le_refl _)
  have k0 := (Kept.refl [] w).alloc (.cells #[] 3)
  go_enter Tryd.func30, Tryd.ntmps30
  go_wp2_with fail
  generalize w.alloc (.cells #[] 3) = W2 at own0 k0 ⊢
  go_loopw [5, 6] (fun o i wr => ∃ (j g' cp : Nat), j ≤ rs.length ∧ o = .slice (some ⟨g', 0, none⟩) (kidO z (rs.take j)).length cp ∧ i = .int .i64 j ∧
      wr.ownsRow w.heap.size 3 1 (.slice (some ⟨g', 0, none⟩) (kidO z (rs.take j)).length cp) (kidO z (rs.take j)).length ((kidO z (rs.take j)).map (Value.int .i64)) ∧ Kept [] w wr) (fun _ i _ => rs.length - (intOf i).toNat)
  case atStart => exact ⟨0, w.heap.size, 0, Nat.zero_le _, by simp [kidO], rfl, by simpa [kidO] using own0, k0⟩
  case round =>
    obtain ⟨j, g', cp, hj, rfl, rfl, hor, hkr⟩ := hrel
    clear own0 k0
    have hgl := own_ge hor
    have hlj := kidO_len z (rs.take j)
    rw [List.length_take] at hlj
    by_cases hlt : j < rs.length
    · obtain ⟨b, off, rfl, cG, cH⟩ := (hs.kept hkr).cell hlt
      obtain ⟨⟨x, p⟩, hxp⟩ : ∃ xp, rs[j]?.getD (0, 0) = xp := ⟨_, rfl⟩
      have HS := Lib.hid (kidO_take_succ (z := z) hlt hxp)
      rw [hxp] at cG cH
      simp only at cG cH
      clear hxp
      by_cases hv : p = z
      · subst hv
        have rE := Row.new wr 3 [.int .i64 x]
        have kE := (Kept.refl [] wr).alloc (.cells #[.int .i64 x] 3)
        have rowE := own_kept hor kE (by simp)
        have sE := (Sl.of_row (k := .i64) (xs := [x]) rE).toV
        have hsz := hkr.size
        generalize (kidO p (rs.take j)).length = L at hor hlj rowE ⊢
        go_wp2_with (at_builtin; refine wpList_append_on _ rfl _ _ 34 rfl w.heap.size 3 i0 (.int .i64 0) 1 8 Tryd.underlying34 hi hz0 hz1 hz2 rfl (by omega) g' L cp _ rfl rowE _ 1 1 _ rfl sE int_oneCell (by unfold maxLen; omega) (by omega) (by simp; omega) ?_; intro g2 cp2 w3 hown3 hk3 hg3)
        go_roundw
        case rel =>
          have e1 := HS.out
          rw [if_pos rfl] at e1
          have e2 : (kidO p (rs.take (j + 1))).length = L + 1 := by
            have := hown3.1
            rw [← List.map_append] at this
            rw [e1]; simpa using this
          exact ⟨j + 1, g2, cp2, by omega, by rw [e2], by go_num, by rw [e2, e1, List.map_append]; exact hown3, (hkr.alloc _).chain hk3 (by simp) (by simp; omega)⟩
        case measure => simp [intOf]; omega
      · have hv' : (p == z) = false := by simpa using hv
        have HV := Lib.hid hv
        clear hv
        go_wp2
        go_roundw
        case rel =>
          have e1 := HS.out
          rw [if_neg HV.out] at e1
          exact ⟨j + 1, g', cp, by omega, by rw [e1], by go_num, by rw [e1]; exact hor, hkr⟩
        case measure => simp [intOf]; omega
    · obtain rfl : j = rs.length := by omega
      rw [List.take_length] at hor ⊢
      go_wp2
      go_ret
      exact ⟨g', cp, rfl, hgl, hor, hkr⟩

set_option maxRecDepth 100000 in
set_option maxHeartbeats 2000000 in
theorem refWithin05_any {k : Nat} (A : Option Addr) (cap : Nat) (rs : List Rw) (a b : Int) (w : World) (hs : SlT w A rs) (hf : Fine k rs) (hk : k < 1000) :
    Calls Tryd.prog 26 #[.slice A rs.length cap, .int .i64 a, .int .i64 b] w fun e w' => e = .returned (.bool (inB rs a b)) ∧ w = w' := by
  have hrl := hf.len
  go_enter Tryd.func26, Tryd.ntmps26
  go_wp2_with fail
  refine (refHas05_any A cap rs a w hs (by omega)).mono ?_
  rintro e w1 ⟨rfl, rfl⟩
  by_cases h1 : a ∈ idsT rs
  · have HA := Lib.hid h1
    rw [decide_eq_true h1]
    clear h1
    go_wp2_with fail
    refine (refHas05_any A cap rs b w hs (by omega)).mono ?_
    rintro e w1 ⟨rfl, rfl⟩
    by_cases h2 : b ∈ idsT rs
    · have HB := Lib.hid h2
      rw [decide_eq_true h2]
      clear h2
      go_wp2_with fail
      go_loopw [1] (fun v wr => ∃ x : Int, v = .int .i64 x ∧ UpB rs a b x ∧ w = wr) (fun v _ => farB hf (intOf v))
      case atStart => exact ⟨a, rfl, ⟨.inl HA.out, Iff.rfl⟩, rfl⟩
      case round =>
        obtain ⟨x, rfl, hU, rfl⟩ := hrel
        by_cases e2 : x = 0
        · subst e2
          have hd := Lib.hid (hU.done hf hk HA.out HB.out (.inl rfl))
          go_wp2
          go_ret
          exact ⟨by rw [← hd.out]; simp; rw [Bool.eq_iff_iff]; simp, rfl⟩
        · have e2' : (x != 0) = true := by simpa using e2
          have e2'' : decide (x = 0) = false := by simpa using e2
          by_cases e1 : x = b
          · subst e1
            have hd := Lib.hid (hU.done hf hk HA.out HB.out (.inr rfl))
            clear e2
            go_wp2
            go_ret
            exact ⟨by rw [← hd.out]; simp, rfl⟩
          · have hxi : x ∈ idsT rs := hU.1.elim id (fun h => absurd h e2)
            have hm := farB_lt hf hxi
            have hst := hU.step hf hk e2 e1
            have e1' : (x != b) = true := by simpa using e1
            clear hxi e1 e2
            go_wp2_with fail
            refine (refParent05_any A cap rs x w hs hf.rise (by omega)).mono ?_
            rintro e w1 ⟨rfl, rfl⟩
            go_wp2_with fail
            go_roundw
            case rel => exact ⟨_, rfl, hst, trivial⟩
            case measure => simpa [intOf] using hm
    · have HB := Lib.hid h2
      rw [decide_eq_false h2]
      clear h2
      go_wp2_with fail
      go_ret
      exact ⟨by rw [inB_no (fun e => HB.out e.2)]; rfl, rfl⟩
  · have HA := Lib.hid h1
    rw [decide_eq_false h1]
    clear h1
    go_wp2_with fail
    go_ret
    exact ⟨by rw [inB_no (fun e => HA.out e.1)]; rfl, rfl⟩
end Go.Proofs.YtnhdikoigpmnkaaDoor
