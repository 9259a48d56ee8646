/- Package ids: All. -/
import Derived.Test.YtbncfpglofmejaaIds
import Derived.Test.YtbncfpglofmejaaAppend
import Derived.Test.YtbncfpglofmejaaSortLay
import Derived.Sort.OwnSortedInts
namespace Go.Proofs.Ytbncfpglofmejaa
open Go.RowKit Go.Maps Go.Sort

theorem info_int : (Try.prog.info? 3).map (fun i => (i.zero, i.size, i.bytes)) = some (some (.int .i64 0), 1, 8) := by kernel_rfl
theorem Kept.grown {g : Nat} {w w' : World} (h : Kept [g] w w') : w.grownBy w' (some g) :=
  ⟨h.os, h.tape, h.output, h.size, fun i hi hn => h.block i hi (by simp; intro e; subst e; exact hn rfl)⟩

/-- A bool that no rule takes apart. -/
structure BoxB where
  b : Bool
/-- What All leaves: a slice of its own that holds xs. -/
def AllPost (xs : List Int) (w : World) (e : Ending) (w' : World) : Prop :=
  ∃ g cap, e = .returned (.slice (some ⟨g, 0, none⟩) xs.length cap) ∧ w'.ownsRow w.heap.size 3 1 (.slice (some ⟨g, 0, none⟩) xs.length cap) xs.length (xs.map (Value.int .i64)) ∧ Kept [] w w'

set_option maxRecDepth 100000 in
set_option maxHeartbeats 2000000 in
theorem idsAll_any (p g : Nat) (most : Int) (last : Nat) (xs : List Int) (w : World) (h : IsBook w p g most last xs) (hl : last ≤ 1099511627776) :
    Calls Try.prog 13 #[.pointer (some ⟨p, 0, none⟩)] w (AllPost xs w) := by
  obtain ⟨i0, hi, hz0, hz1, hz2⟩ := info_parts info_int
  have hc := h.cell2
  have hll := h.len_le
  have hsz := Lib.hid (size_setD xs)
  go_enter Try.func13, Try.ntmps13
  go_wp2_with (first
    | (at_len; refine wpList_len_own _ rfl _ 43 rfl 3 4 Try.underlying43 _ g _ _ rfl h.own ?_)
    | (at_make; refine wpList_make_own _ rfl _ _ 22 rfl w.heap.size 3 i0 (.int .i64 0) 1 Try.underlying22 hi hz0 hz1 _ _ _ (Maps.size (setD xs)) rfl rfl rfl (by rw [hz2, hsz.out]; omega) (by rw [hsz.out]; unfold maxLen; omega) (Nat.le_refl _) ?_; intro w1 hrow1 hg1; have hc1 := (h.kept (Kept.of_grown0 hg1)).cell2)
    | (at_range; refine wpList_range_own _ rfl _ 43 rfl 3 4 keyed_int Try.underlying43 _ g xs.length (setD xs) rfl (h.kept (Kept.of_grown0 hg1)).own ?_; intro w0 hrg0 hg0 hs0)
    | go_in)
  go_frame
  have hrow0 := own_kept hrow1 (Kept.of_grown0 hg0) (by simp)
  have k0 : Kept [] w w0 := (Kept.of_grown0 hg1).trans (Kept.of_grown0 hg0)
  have hrl := hrg0.lt
  have hws := hg1.size
  have hgl := h.lt
  generalize w1.heap.size = r at hrg0 hs0 hrl hws ⊢
  clear hrow1 hg1 hg0 hc1 hc hs0
  go_loopw [3] (fun v wr => ∃ (left : Lit → Bool) (cnt : Nat) (ss : List Int) (gA cp : Nat), v = .slice (some ⟨gA, 0, none⟩) ss.length cp ∧ wr.ranges Try.prog 3 (plainElem Try.prog 4) g r xs.length (setD xs) left cnt ∧ ss.length + cnt ≤ xs.length ∧
      wr.ownsRow w.heap.size 3 1 (.slice (some ⟨gA, 0, none⟩) ss.length cp) ss.length (ss.map (Value.int .i64)) ∧ CollI xs left ss ∧ Kept [] w wr)
    (fun _ wr => wr.rangeLeft g r)
  case atStart => exact ⟨_, _, [], _, _, rfl, hrg0, by simp [hsz.out], hrow0, CollI.start xs, k0⟩
  case round =>
    obtain ⟨left, cnt, ss, gA, cp, rfl, hrg, hcs, hrow, hC, hkr⟩ := hrel
    clear hrg0 hrow0 k0 hrl
    go_wp2_with (first
      | (at_next; refine wpList_next_ranges _ rfl _ rfl 3 keyed_int (plainElem Try.prog 4) (Value.int .i64) (fun c : BoxB => Value.bool c.b) (fun key kl hk => by obtain ⟨x, hx, _⟩ := Maps.keyOf_int_inv Try.underlying3 hk; exact ⟨x, hx⟩) (fun v y hv => by obtain ⟨c, hc, _⟩ := plainElem_bool_inv Try.underlying4 hv; exact ⟨⟨c⟩, hc⟩) g r xs.length _ _ _ rfl hrg ?_ ?_)
      | go_in)
    · -- nothing is left: the slice is sorted and handed back
      intro hc0 hl0
      rcases hrow.2 with ⟨hnil, _⟩ | ⟨g', cap', cur, hv, hbase, hb, h1, h2, h3, h4⟩
      · cases hnil
      cases hv
      have hH : Holds (Value.int .i64) wr gA 0 ss.toArray := holds_of_blockI hb (by simpa using h4)
      have hgA : gA < wr.heap.size := (Array.getElem?_eq_some_iff.1 hb).1
      have hsort := Lib.hid (hC.sorted h.rise hl0)
      have HL := Lib.hid (hC.perm h.rise hl0).length_eq
      clear hc0 hl0
      go_wp2_with fail
      refine (slicesSort_any gA 0 cp ss wr hH hgA (by omega)).mono ?_
      rintro e w' ⟨rfl, nn, os, rfl⟩
      rw [hsort.out]
      have hlen := HL.out
      have hown := ownsRow_sortedI (n := nn) (os := os) (ts := xs) hlen.symm hbase hb h1 h2 h3
      have hk : Kept [] w _ := hkr.chain (Kept.of_grown (grownBy_sortedI (n := nn) (os := os) xs.toArray)) (by simp) (by simp; omega)
      generalize grow (putRow (Value.int .i64) (Sort.ahead wr nn) gA 0 xs.toArray) os = W' at hown hk ⊢
      rw [hlen] at hown
      clear hlen
      go_wp2
      go_ret
      exact ⟨gA, cp, by rw [← HL.out]; rfl, hown, hk⟩
    · -- an entry has come: its key goes to the slice's end
      intro x c kl yd yp w2 cnt2 hkey hlk hv hat hrg2 hlt hg2 hs2 hen
      obtain ⟨x', ex, rfl, _⟩ := Maps.keyOf_int_inv Try.underlying3 hkey
      cases ex
      have hne : gA ≠ r := fun e => row_ne_iter hrow hrg (by rw [e]; rfl)
      have hgA := own_lt hrow
      have hgA' := own_ge hrow
      have kw2 := Kept.of_grown hg2
      have hrow2 := own_kept hrow kw2 (by simpa using hne)
      have hkr2 : Kept [] w w2 := hkr.chain kw2 (by simp) (by simp; omega)
      clear hs2 hkey
      have rE := Row.new w2 3 [.int .i64 x]
      have kE := (Kept.refl [] w2).alloc (.cells #[.int .i64 x] 3)
      have rowE := own_kept hrow2 kE (by simp)
      have sE := (Sl.of_row (k := .i64) (xs := [x]) rE).toV
      have hsz2 := hkr2.size
      go_wp2_with (first
        | (at_builtin; refine wpList_append_on _ rfl _ _ 22 rfl w.heap.size 3 i0 (.int .i64 0) 1 8 Try.underlying22 hi hz0 hz1 hz2 rfl (by omega) gA ss.length cp _ rfl rowE _ 1 1 _ rfl sE int_oneCell (by unfold maxLen; omega) (by omega) (by simp; omega) ?_; intro g' cp' w3 hown3 hk3 hg3; go_frame)
        | go_in)
      have hrg3 := (hrg2.alloc (.cells #[.int .i64 x] 3)).kept hk3.grown (by simp; omega) (by simp; exact fun e => hne e.symm)
      go_roundw
      case rel =>
        refine ⟨_, cnt2, ss ++ [x], g', cp', by simp, hrg3, by simp; omega, by simpa using hown3, hC.step hlk hat, ?_⟩
        exact (hkr2.alloc _).chain hk3 (by simp) (by simp; omega)
      case measure => rw [hrg3.left_eq, hrg.left_eq]; exact hlt
end Go.Proofs.Ytbncfpglofmejaa
