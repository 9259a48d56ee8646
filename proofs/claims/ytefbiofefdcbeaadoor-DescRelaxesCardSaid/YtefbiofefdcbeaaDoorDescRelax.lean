/- Package desc: relaxKinds, Relax. -/
import Derived.Test.YtefbiofefdcbeaaDoorDescTable
import Derived.Test.YtefbiofefdcbeaaDoorDescRepeat
import Derived.Test.YtefbiofefdcbeaaDoorAppendOne
namespace Go.Proofs.YtefbiofefdcbeaaDoor
open Go.RowKit

/-- The first j relaxed, then zeros. -/
def fillB (xs : List Int) (j : Nat) : List Int := (xs.take j).map relaxB ++ List.replicate (xs.length - j) 0
theorem fillB_length {xs : List Int} {j : Nat} (h : j ≤ xs.length) : (fillB xs j).length = xs.length := by simp [fillB]; omega
theorem fillB_step {xs : List Int} {j : Nat} (h : j < xs.length) : (fillB xs j).set j (relaxB (xs[j]?.getD 0)) = fillB xs (j + 1) := by
  unfold fillB
  rw [List.set_append, if_neg (by simp; omega), show j - ((xs.take j).map relaxB).length = 0 by simp; omega, show xs.length - j = (xs.length - (j + 1)) + 1 by omega, List.replicate_succ, List.set_cons_zero,
    List.take_add_one, List.getElem?_eq_getElem h, List.map_append]
  simp
theorem fillB_full (xs : List Int) : fillB xs xs.length = xs.map relaxB := by simp [fillB]

set_option maxRecDepth 100000 in
set_option maxHeartbeats 2000000 in
theorem relaxKinds_any (A : Option Addr) (ca : Nat) (xs : List Int) (w : World) (hT : Tab w) (hs : Sl w .i64 A xs) (hN : xs.length ≤ 100) :
    Calls Tryd.prog 17 #[.slice A xs.length ca] w fun e w' => ∃ g, e = .returned (.slice (some ⟨g, 0, none⟩) xs.length xs.length) ∧ Row w' g 3 ((xs.map relaxB).map (Value.int .i64)) ∧ w.heap.size ≤ g ∧ Kept [] w w' := by
  obtain ⟨i0, hi, hz0, hz1, hz2⟩ := info_parts info_int07
  go_enter Tryd.func17, Tryd.ntmps17
  go_wp2_with (first
    | (refine wpList_make_row _ rfl _ _ 25 rfl 3 i0 (.int .i64 0) Tryd.underlying25 hi hz0 hz1 rfl .i64 .i64 xs.length xs.length xs.length rfl rfl rfl rfl (by rw [hz2]; omega) (by unfold maxLen; omega) ?_; intro w1 hr hk hsz)
    | fail)
  obtain ⟨g, hg⟩ : ∃ g, w.heap.size = g := ⟨_, rfl⟩
  have HG := Lib.hid hg
  rw [hg] at hr ⊢
  have hr0 : Row w1 g 3 ((fillB xs 0).map (Value.int .i64)) := by
    have h := hr
    rw [zeros_ints] at h
    simpa [fillB] using h
  clear hg hr hsz
  go_wp2_with fail
  go_loopw [11] (fun i wr => ∃ j : Nat, j ≤ xs.length ∧ i = .int .i64 j ∧ Row wr g 3 ((fillB xs j).map (Value.int .i64)) ∧ Kept [g] w1 wr) (fun i _ => xs.length - (intOf i).toNat)
  case atStart => exact ⟨0, Nat.zero_le _, rfl, hr0, Kept.refl _ _⟩
  case round =>
    obtain ⟨j, hj, rfl, hor, hkr⟩ := hrel
    clear hr0
    have kr : Kept [] w wr := hk.chain hkr (by simp) (fun i hi hlt => by have := HG.out; simp at hi; omega)
    by_cases hlt : j < xs.length
    · obtain ⟨b, off, rfl, cA⟩ := (hs.kept kr).cell hlt
      have hst := hor.set j (.int .i64 (relaxB (xs[j]?.getD 0)))
      rw [← List.map_set, fillB_step hlt] at hst
      have HST := Lib.hid hst
      have hfr := hor.free j
      have hcell := hor.cellInt (k := .i64) j (by rw [fillB_length hj]; exact hlt)
      generalize (fillB xs j)[j]?.getD 0 = old at hcell
      generalize xs[j]?.getD 0 = y at cA HST
      clear hst hor
      go_wp2_with fail
      refine (relaxKind_any y wr (hT.kept kr)).mono ?_
      rintro e w2 ⟨rfl, rfl⟩
      go_wp2
      go_roundw
      case rel => exact ⟨j + 1, by omega, by go_num, HST.out, hkr.set (.inl (by simp)) _⟩
      case measure => simp [intOf]; omega
    · obtain rfl : j = xs.length := by omega
      go_wp2
      go_ret
      exact ⟨g, rfl, by rw [← fillB_full]; exact hor, by rw [HG.out]; exact Nat.le_refl _, kr⟩
/-- What a call leaves that answers types: a list that reads so. -/
def RelaxAns (L : List (List Int)) (w : World) (e : Ending) (w' : World) : Prop :=
  ∃ (a : Option Addr) (cap : Nat) (ts : List Ty), e = .returned (.slice a ts.length cap) ∧ ts.map Ty.ks = L ∧ SlD w' a ts ∧ Kept [] w w'
theorem info_desc07 : (Tryd.prog.info? 27).map (fun i => (i.zero, i.size, i.bytes)) = some (some (.agg #[.slice none 0 0]), 1, 24) := by kernel_rfl

/-- The first types, then none. -/
def rowD (ts : List Ty) (m : Nat) : List Value := ts.map Ty.v ++ List.replicate (m - ts.length) (.slice none 0 0)
theorem rowD_set {ts : List Ty} {m : Nat} (t : Ty) (h : ts.length < m) : (rowD ts m).set ts.length t.v = rowD (ts ++ [t]) m := by
  unfold rowD
  rw [List.set_append, if_neg (by simp), show ts.length - (ts.map Ty.v).length = 0 by simp, show m - ts.length = (m - (ts.length + 1)) + 1 by omega, List.replicate_succ, List.set_cons_zero]
  simp

set_option maxRecDepth 100000 in
set_option maxHeartbeats 4000000 in
theorem descRelax_any (A : Option Addr) (cap : Nat) (l : List Ty) (w : World) (hT : Tab w) (hs : SlD w A l) (hl : l.length ≤ 60) (hx : ∀ t ∈ l, t.ks.length ≤ 100) :
    Calls Tryd.prog 13 #[.slice A l.length cap] w (RelaxAns ((l.map Ty.ks).map (List.map relaxB)) w) := by
  obtain ⟨i0, hi, hz0, hz1, hz2⟩ := info_parts info_desc07
  go_enter Tryd.func13, Tryd.ntmps13
  go_wp2_with (first
    | (refine wpList_make_rowC _ rfl _ _ 22 rfl 27 i0 (.agg #[.slice none 0 0]) (.slice none 0 0) Tryd.underlying22 hi hz0 hz1 rfl rfl .i64 .i64 l.length l.length l.length rfl rfl rfl rfl (by rw [hz2]; omega) (by unfold maxLen; omega) ?_; intro w1 hr hk hsz)
    | fail)
  obtain ⟨g, hg⟩ : ∃ g, w.heap.size = g := ⟨_, rfl⟩
  have HG := Lib.hid hg
  rw [hg] at hr ⊢
  have hr0 : Row w1 g 27 (rowD [] l.length) := by simpa [rowD, zeros] using hr
  have hg1 := hr.lt
  clear hg hr hsz
  go_wp2_with fail
  go_loopw [11] (fun i wr => ∃ (j : Nat), j ≤ l.length ∧ i = .int .i64 j ∧ Hid (∃ ts : List Ty, ts.length = j ∧ ts.map Ty.ks = ((l.take j).map Ty.ks).map (List.map relaxB) ∧ Row wr g 27 (rowD ts l.length) ∧ (∀ t ∈ ts, Sl wr .i64 t.a t.ks) ∧ ∀ t ∈ ts, ∀ b off, t.a = some ⟨b, off, none⟩ → b ≠ g) ∧ Kept [g] w1 wr) (fun i _ => l.length - (intOf i).toNat)
  case atStart => exact ⟨0, Nat.zero_le _, rfl, ⟨[], rfl, rfl, hr0, by simp, by simp⟩, Kept.refl _ _⟩
  case round =>
    obtain ⟨j, hj, rfl, HR, hkr⟩ := hrel
    clear hr0
    have kr : Kept [] w wr := hk.chain hkr (by simp) (fun i hi hlt => by have := HG.out; simp at hi; omega)
    by_cases hlt : j < l.length
    · obtain ⟨b, off, t, rfl, ht, hc, hsl⟩ := (hs.kept kr).cell hlt
      have htl := hx t (List.mem_of_getElem? ht)
      have rB := Row.new wr 27 [.slice t.a t.ks.length t.cap]
      have kB := (Kept.refl [] wr).alloc (.cells #[.slice t.a t.ks.length t.cap] 27)
      have hTB := (hT.kept kr).kept kB
      have hslB := hsl.kept kB
      have hgr : g < wr.heap.size := Nat.lt_of_lt_of_le hg1 hkr.size
      go_wp2_with fail
      generalize wr.alloc (.cells #[.slice t.a t.ks.length t.cap] 27) = wa at rB kB hTB hslB ⊢
      refine (relaxKinds_any t.a t.cap t.ks wa hTB hslB htl).mono ?_
      rintro e w3 ⟨g3, rfl, hr3, hg3, kw3⟩
      have k3 := kB.trans kw3
      have hBz := kB.size
      have hg3g : g3 ≠ g := by omega
      obtain ⟨ts, rfl, hks, hor, hsls, hne⟩ := HR.out
      have hor3 := hor.kept k3 (by simp)
      obtain ⟨nt, hnt⟩ : ∃ nt : Ty, nt = ⟨some ⟨g3, 0, none⟩, t.ks.length, t.ks.map relaxB⟩ := ⟨_, rfl⟩
      have hntv : nt.v = .slice (some ⟨g3, 0, none⟩) t.ks.length t.ks.length := by rw [hnt]; simp [Ty.v]
      have hst := hor3.set ts.length nt.v
      rw [rowD_set nt hlt] at hst
      rw [hntv] at hst
      have hfr := hor3.free ts.length
      have hcell : w3.cell? ⟨g, ts.length, none⟩ = some (.slice none 0 0) := by
        rw [hor3.cell]
        unfold rowD
        rw [List.getElem?_append_right (by simp), List.length_map, Nat.sub_self, List.getElem?_replicate, if_pos (by omega)]
      have kS := (Kept.refl [g] w3).set (p := ⟨g, ts.length, none⟩) (.inl (by simp)) (.slice (some ⟨g3, 0, none⟩) t.ks.length t.ks.length)
      have hsl3 : Sl w3 .i64 (some ⟨g3, 0, none⟩) (t.ks.map relaxB) := Sl.of_row hr3
      have HREL : Hid (∃ ts2 : List Ty, ts2.length = ts.length + 1 ∧ ts2.map Ty.ks = ((l.take (ts.length + 1)).map Ty.ks).map (List.map relaxB) ∧ Row (w3.setCell ⟨g, ts.length, none⟩ (.slice (some ⟨g3, 0, none⟩) t.ks.length t.ks.length)) g 27 (rowD ts2 l.length) ∧ (∀ t2 ∈ ts2, Sl (w3.setCell ⟨g, ts.length, none⟩ (.slice (some ⟨g3, 0, none⟩) t.ks.length t.ks.length)) .i64 t2.a t2.ks) ∧ ∀ t2 ∈ ts2, ∀ b off, t2.a = some ⟨b, off, none⟩ → b ≠ g) := by
        refine ⟨ts ++ [nt], by simp, ?_, hst, fun t2 h2 => ?_, fun t2 h2 b off hb => ?_⟩
        · rw [List.map_append, hks, List.take_add_one, ht]
          simp [hnt]
        · rcases List.mem_append.1 h2 with h2 | h2
          · exact ((hsls t2 h2).kept k3).keptS kS (fun b off hb => by simpa using hne t2 h2 b off hb)
          · obtain rfl := List.mem_singleton.1 h2
            rw [hnt]
            exact hsl3.keptS kS (fun b off hb => by cases hb; simpa using hg3g)
        · rcases List.mem_append.1 h2 with h2 | h2
          · exact hne t2 h2 b off hb
          · obtain rfl := List.mem_singleton.1 h2
            rw [hnt] at hb
            cases hb
            exact hg3g
      have kk := (hkr.trans k3.any).trans kS
      clear hst hks hor hsls hne hor3 hr3 hsl3 HR hnt hntv
      go_wp2
      go_roundw
      case rel => exact ⟨ts.length + 1, by omega, by go_num, HREL, kk⟩
      case measure => simp [intOf]; omega
    · obtain rfl : j = l.length := by omega
      go_wp2
      go_ret
      obtain ⟨ts, htl, hks, hor, hsls, _⟩ := HR.out
      refine ⟨some ⟨g, 0, none⟩, l.length, ts, by rw [htl]; rfl, by rw [hks, List.take_length], ⟨SlG.of_row (t := 27) ?_, hsls⟩, kr⟩
      simpa [rowD, htl] using hor
end Go.Proofs.YtefbiofefdcbeaaDoor
