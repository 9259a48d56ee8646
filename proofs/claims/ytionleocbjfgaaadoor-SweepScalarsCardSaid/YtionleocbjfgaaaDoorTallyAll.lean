/- Package tally: All. -/
import Derived.Test.YtionleocbjfgaaaDoorTally
import Derived.Test.YtionleocbjfgaaaDoorTallySort
import Derived.Test.YtionleocbjfgaaaDoorRuns
namespace Go.Proofs.YtionleocbjfgaaaDoor
open Go.RowKit Go.Maps

/-- What All leaves: a slice in a new block that reads as gs. -/
def AllPostY (gs : List RunZ) (w : World) (e : Ending) (w' : World) : Prop :=
  ∃ G c, e = .returned (.slice (some ⟨G, 0, none⟩) gs.length c) ∧ w.heap.size ≤ G ∧ SlS cellsZ 2 w' (some ⟨G, 0, none⟩) gs ∧ Kept [] w w'

set_option maxRecDepth 100000 in
set_option maxHeartbeats 4000000 in
theorem tallyAll_any (p g : Nat) (gs : List RunZ) (w : World) (h : IsTally w p g gs) (hl : gs.length < 1099511627776) :
    Calls Tryd.prog 16 #[.pointer (some ⟨p, 0, none⟩)] w (AllPostY gs w) := by
  obtain ⟨i0, hi, hz0, hz1, hz2⟩ := info_parts info_run
  have hc := h.cell
  have hgl := h.lt
  have HR := Lib.hid h.good.rise
  have hlen := fun ty => OwnL.len Tryd.underlying57 h.own ty
  have hsz := Lib.hid (size_setL (f := cntV) gs)
  go_enter Tryd.func16, Tryd.ntmps16
  go_wp2_with (first
    | (at_make; refine wpList_make_own _ rfl _ _ 31 rfl w.heap.size 41 i0 (.agg #[.int .i64 0, .int .i64 0]) 2 Tryd.underlying31 hi hz0 hz1 _ _ _ gs.length rfl rfl rfl (by rw [hz2]; omega) (by unfold maxLen; omega) (Nat.le_refl _) ?_; intro w1 hrow1 hg1; have hc1 := (h.kept (Kept.of_grown0 hg1)).cell)
    | (at_range; refine wpList_range_own _ rfl _ 57 rfl 3 3 keyed_int Tryd.underlying57 rawL g gs.length (setL cntV gs) rfl (h.kept (Kept.of_grown0 hg1)).own ?_; intro w0 hrg0 hg0 hs0)
    | fail)
  go_frame
  have k0 : Kept [] w w0 := (Kept.of_grown0 hg1).trans (Kept.of_grown0 hg0)
  have hrow0 : OwnS 41 cellsZ 2 w0 w.heap.size (.slice (some ⟨w.heap.size, 0, none⟩) 0 gs.length) [] := OwnS.keptS (xs := ([] : List RunZ)) hrow1 (Kept.of_grown0 hg0) (by simp)
  have hrl := hrg0.lt
  have hws := hg1.size
  have hml := own_lt hrow1
  obtain ⟨r, hr⟩ : ∃ r, w1.heap.size = r := ⟨_, rfl⟩
  rw [hr] at hrg0 hs0 hrl hws hml ⊢
  clear hrow1 hg1 hg0 hc1 hc hs0 hr hlen
  go_loopw [3] (fun v wr => ∃ (left : Lit → Bool) (cnt : Nat) (ss : List RunZ) (gA cp : Nat), v = .slice (some ⟨gA, 0, none⟩) ss.length cp ∧ wr.ranges Tryd.prog 3 rawL g r gs.length (setL cntV gs) left cnt ∧ ss.length + cnt ≤ gs.length ∧
      OwnS 41 cellsZ 2 wr w.heap.size (.slice (some ⟨gA, 0, none⟩) ss.length cp) ss ∧ gA ≠ r ∧ CollL gs left ss ∧ Kept [] w wr)
    (fun _ wr => wr.rangeLeft g r)
  case atStart => exact ⟨_, _, [], _, _, rfl, hrg0, by simp [hsz.out], hrow0, by omega, CollL.start gs, k0⟩
  case round =>
    obtain ⟨left, cnt, ss, gA, cp, rfl, hrg, hcs, hrow, hne, hC, hkr⟩ := hrel
    clear hrg0 hrow0 k0 hrl
    go_wp2_with (first
      | (at_next; refine wpList_next_ranges _ rfl _ rfl 3 keyed_int rawL (Value.int .i64) (fun v : Value => v) (fun key kl hk => by obtain ⟨x, hx, _⟩ := Maps.keyOf_int_inv Tryd.underlying3 hk; exact ⟨x, hx⟩) (fun v y hv => ⟨v, rfl⟩) g r gs.length _ _ _ rfl hrg ?_ ?_)
      | fail)
    · -- nothing is left: the slice is sorted and handed back
      intro hc0 hl0
      have hP := hC.perm HR.out hl0
      have HP := Lib.hid hP
      have HL := Lib.hid hP.length_eq
      have hss : ss.length < 1099511627776 := by have := HL.out; omega
      have hge := hrow.ge gA rfl
      clear hc0 hl0 hP hcs
      go_wp2_with fail
      refine (sortF_any _ _ gA cp ss wr hrow hss).mono ?_
      rintro e w' ⟨rfl, ts, hp, hpw, hs, hk⟩
      have he := sortedY_eq hp HP.out HR.out hpw
      have hk2 : Kept [] w w' := hkr.chain hk (by simp) (by simp; omega)
      go_wp2
      go_ret
      exact ⟨gA, cp, by rw [HL.out]; rfl, hge, by rw [he] at hs; exact hs, hk2⟩
    · -- an entry has come: it goes to the slice's end
      intro x v kl yd yp w2 cnt2 hkey hlk hv hatx hrg2 hlt hg2 hs2 hen
      obtain ⟨x', ex, rfl, _⟩ := Maps.keyOf_int_inv Tryd.underlying3 hkey
      cases ex
      have hyd := rawL_inv hv
      simp only [Prod.mk.injEq] at hyd
      obtain ⟨rfl, rfl⟩ := hyd
      obtain ⟨c, hmem, rfl⟩ := entryL HR.out hatx
      have HC2 := Lib.hid (hC.step HR.out hlk hmem)
      have kw2 := Kept.of_grown hg2
      have hgA := hrow.lt gA rfl
      have hgA' := hrow.ge gA rfl
      have hrow2 := hrow.keptS kw2 (by simpa [Value.ownBlock] using hne)
      have hkr2 : Kept [] w w2 := hkr.chain kw2 (by simp) (by simp; omega)
      have HH := Lib.hid (show ss.length + cnt2 + 1 ≤ gs.length by omega)
      have HT := Lib.hid hlt
      have HL2 := Lib.hid hrg.left_eq
      have hss : ss.length ≤ 1099511627776 := by omega
      have hsz2 := hkr2.size
      have hsz3 := hkr.size
      have hri := hrg2.lt
      have hgg : g ≠ gA := by have := hkr.size; omega
      clear hs2 hkey hlk hv hatx hC hrg hcs hlt hmem
      unfold cntV at hen
      go_wp2_with (
          (at_builtin; refine wpList_append_s _ rfl _ _ 31 rfl w.heap.size i0 _ 16 Tryd.underlying31 hi hz0 hz1 hz2 rfl (by decide) (by decide) w2 (.slice (some ⟨gA, 0, none⟩) ss.length cp) ss (x, c) (cellsZ_length _) (cellsZ_one _) rfl rfl rfl hrow2 (by omega) hss ?_; intro g3 c3 w3 hown3 hk3 hat3; go_frame))
      have hk3 : Kept [gA] w2 w3 := by simpa [Value.ownBlock] using hk3
      have hrg3 := hrg2.kept hk3.grown (by simpa using hgg) (by simpa using fun e => hne e.symm)
      go_roundw
      case rel =>
        refine ⟨_, cnt2, ss ++ [(x, c)], g3, c3, by simp, hrg3, by have := HH.out; simp; omega, by simpa using hown3, ?_, HC2.out, ?_⟩
        · rcases hat3 with h' | h'
          · simp [Value.ownBlock] at h'; omega
          · omega
        · exact hkr2.chain hk3 (by simp) (by simp; omega)
      case measure => rw [hrg3.left_eq, HL2.out]; exact HT.out
end Go.Proofs.YtionleocbjfgaaaDoor
