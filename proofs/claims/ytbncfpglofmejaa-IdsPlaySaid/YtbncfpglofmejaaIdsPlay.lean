/- The law IdsPlay: its walk. -/
import Derived.Test.YtbncfpglofmejaaIdsFixed
import Derived.Test.YtbncfpglofmejaaIdsRefGive
import Derived.Deep.RegionHeld3
namespace Go.Proofs.Ytbncfpglofmejaa
open Go.RowKit

set_option maxRecDepth 100000 in
set_option maxHeartbeats 1000000 in
theorem idsPlay_big (most : Int) (a0 : Option Addr) (len cap : Nat) (w : World) (hl : 100 < len) (hm : len ≤ maxLen) :
    Calls Try.prog 3 #[.int .i64 most, .slice a0 len cap] w (FixedPost w) := by
  unfold maxLen at hm
  go_enter Try.func3, Try.ntmps3
  go_wp2_with fail
  refine (fixed04_any _).mono ?_
  rintro e w5 ⟨rfl, kw5⟩
  go_wp2
  go_ret
  exact ⟨rfl, kw5⟩

theorem heldX {W w' : World} {X : Nat} {t : TypeId} {v0 v1 v2 : Value} (hr : Row W X t [v0, v1, v2]) (hk : Kept [] W w') :
    Kept [] W w' ∧ w'.cell? ⟨X, 0, none⟩ = some v0 ∧ w'.cell? ⟨X, 1, none⟩ = some v1 ∧ w'.cell? ⟨X, 2, none⟩ = some v2 :=
  ⟨hk, by simpa using (hr.kept hk (by simp)).cell 0, by simpa using (hr.kept hk (by simp)).cell 1, by simpa using (hr.kept hk (by simp)).cell 2⟩
/-- The slice lies in none of the three blocks. -/
def ApartA (p g X : Nat) (A : Option Addr) : Prop := ∀ b off, A = some ⟨b, off, none⟩ → b ≠ p ∧ b ≠ g ∧ b ≠ X
theorem ApartA.of {p g X n : Nat} {A A' : Option Addr} (h : ApartA p g X A) (h' : A' = A ∨ ∃ g', A' = some ⟨g', 0, none⟩ ∧ n ≤ g') (hp : p < n) (hg : g < n) (hX : X < n) : ApartA p g X A' := by
  rcases h' with rfl | ⟨g', rfl, hn⟩
  · exact h
  · intro b off e
    cases e
    omega
theorem Sl.keptS {w w' : World} {S : List Nat} {k : IntKind} {a : Option Addr} {zs : List Int} (h : Sl w k a zs) (hk : Kept S w w') (hn : ∀ b off, a = some ⟨b, off, none⟩ → b ∉ S) : Sl w' k a zs := by
  rcases h with h | ⟨b, off, rfl, hb, hc⟩
  · exact .inl h
  · exact .inr ⟨b, off, rfl, Nat.lt_of_lt_of_le hb hk.size, fun j hj => (World.cell?_of_block (w := w) (a := ⟨b, off + j, none⟩) (hk.block b hb (hn b off rfl))).trans (hc j hj)⟩
theorem giveB_last (most : Int) (last : Nat) (xs : List Int) : (giveB most last xs).2.1 ≤ last + 1 := by
  unfold giveB
  split <;> simp

set_option maxRecDepth 100000 in
set_option maxHeartbeats 16000000 in
theorem idsPlay_any (most : Int) (a0 : Option Addr) (cap : Nat) (l : List Int) (w : World) (hs : Sl w .i64 a0 l) (hl : l.length ≤ 100) (hb : ∀ z ∈ l, Fit64 z) :
    Calls Try.prog 3 #[.int .i64 most, .slice a0 l.length cap] w (FixedPost w) := by
  have h5 : decide ((100 : Int) < l.length) = false := by simp; omega
  go_enter Try.func3, Try.ntmps3
  go_wp2_with fail
  refine (idsNew_any most w).mono ?_
  rintro e w1 ⟨p, g, rfl, hnew, hb1, kw1⟩
  go_wp2_with fail
  refine (refNew04_any most w1).mono ?_
  rintro e w2 ⟨rfl, kw2⟩
  obtain ⟨M, hM⟩ : ∃ M, max most 0 = M := ⟨_, rfl⟩
  rw [hM] at hb1 ⊢
  clear hM
  unfold refB
  have rX := Row.new w2 27 [.slice none 0 0, .int .i64 0, .int .i64 M]
  have kX := (Kept.refl [] w2).alloc (.cells #[.slice none 0 0, .int .i64 0, .int .i64 M] 27)
  have hb2 := (hb1.kept kw2).kept kX
  have kW2 := (kw1.trans kw2).trans kX
  have hXp : p < w2.heap.size ∧ g < w2.heap.size := (hb1.kept kw2).lt
  have hXw := (kw1.trans kw2).size
  clear kw1 kw2 kX hb1
  go_wp2_with fail
  generalize w2.alloc (.cells #[.slice none 0 0, .int .i64 0, .int .i64 M] 27) = W at rX hb2 kW2 ⊢
  generalize w2.heap.size = X at rX hXp hXw ⊢
  go_loopw [29] (fun i wr => ∃ (j last : Nat) (xs : List Int) (A : Option Addr) (cp : Nat), j ≤ l.length ∧ last ≤ j ∧ i = .int .i64 j ∧ IsBook wr p g M last xs ∧ Row wr X 27 [.slice A xs.length cp, .int .i64 last, .int .i64 M] ∧ Sl wr .i64 A xs ∧ ApartA p g X A ∧ Kept [] w wr) (fun i _ => l.length - (intOf i).toNat)
  case atStart => exact ⟨0, 0, [], none, 0, Nat.zero_le _, Nat.le_refl _, rfl, hb2, rX, .inl rfl, (fun b off e => by cases e), kW2⟩
  case round =>
    obtain ⟨j, last, xs, A, cp, hj, hlast, rfl, hbr, hXr, hsr, hAr, kWr⟩ := hrel
    clear hb2 rX kW2
    by_cases hlt : j < l.length
    · obtain ⟨b, off, rfl, cz⟩ := (hs.kept kWr).cell hlt
      have hfz : Fit64 (l[j]?.getD 0) := hb _ (by rw [List.getElem?_eq_getElem hlt]; exact List.getElem_mem hlt)
      generalize l[j]?.getD 0 = z at cz hfz
      have hll := hbr.len_le
      have hbl := hbr.lt
      by_cases hz : z < 1
      · obtain ⟨xs', last', id, er, hg⟩ : ∃ xs' last' id er, giveB M last xs = (xs', last', id, er) := ⟨_, _, _, _, rfl⟩
        have hgl := giveB_last M last xs
        rw [hg] at hgl
        have HLA := Lib.hid hgl
        go_wp2_with fail
        refine (idsGive_any p g M last xs wr hbr (by omega)).mono ?_
        rintro e w3 ⟨rfl, hb3, kw3⟩
        rw [hg] at hb3 ⊢
        have hX3 := hXr.kept kw3 (by simp; omega)
        have hs3 := hsr.keptS kw3 (fun b off e => by have := hAr b off e; simp; omega)
        have kW3 : Kept [] w w3 := kWr.chain kw3 (by simp) (by intro i hi hlt; simp at hi; omega)
        have c0 : w3.cell? ⟨X, 0, none⟩ = some (.slice A xs.length cp) := by simpa using hX3.cell 0
        have c1 : w3.cell? ⟨X, 1, none⟩ = some (.int .i64 last) := by simpa using hX3.cell 1
        have c2 : w3.cell? ⟨X, 2, none⟩ = some (.int .i64 M) := by simpa using hX3.cell 2
        clear kw3 hbr hXr hsr
        go_wp2_with fail
        refine (refGive04_any A xs.length cp last M xs w3 hs3 rfl (by omega) (by omega)).mono ?_
        rintro e w4 ⟨A1, cp1, rfl, hs4, hA1, kw4⟩
        rw [hg] at hs4 ⊢
        clear hg
        dsimp only at hs4 hb3
        have hX4 := hX3.kept kw4 (by simp)
        have hb4 := hb3.kept kw4
        have kW4 := kW3.trans kw4
        have hXl := hX3.lt
        have hA4 := hAr.of hA1 hb3.lt.1 hb3.lt.2 hXl
        unfold refB
        clear c0 c1 c2 hX3 hb3 hs3 kW3 kw4 hA1 hAr
        have c0 : ∀ o, (w4.alloc o).cell? ⟨X, 0, none⟩ = some (.slice A xs.length cp) := fun o => by simpa using (hX4.alloc o).cell 0
        have c1 : ∀ o, (w4.alloc o).cell? ⟨X, 1, none⟩ = some (.int .i64 last) := fun o => by simpa using (hX4.alloc o).cell 1
        have c2 : ∀ o, (w4.alloc o).cell? ⟨X, 2, none⟩ = some (.int .i64 M) := fun o => by simpa using (hX4.alloc o).cell 2
        have f0 : ∀ o, (w4.alloc o).frozen? ⟨X, 0, none⟩ = false := fun o => (hX4.alloc o).free 0
        have f1 : ∀ o, (w4.alloc o).frozen? ⟨X, 1, none⟩ = false := fun o => (hX4.alloc o).free 1
        have f2 : ∀ o, (w4.alloc o).frozen? ⟨X, 2, none⟩ = false := fun o => (hX4.alloc o).free 2
        go_wp2_with fail
        have hX5 := (hX4.alloc (.cells #[.slice A1 xs'.length cp1, .int .i64 last', .int .i64 M] 27)).set3 (.slice A1 xs'.length cp1) (.int .i64 last') (.int .i64 M)
        have kS := ((Kept.refl [X] w4).alloc (.cells #[.slice A1 xs'.length cp1, .int .i64 last', .int .i64 M] 27)).set3 (g := X) (.inl (by simp)) (.slice A1 xs'.length cp1) (.int .i64 last') (.int .i64 M)
        have hb5 := hb4.keptS kS (by simp; omega) (by simp; omega)
        have hs5 := hs4.keptS kS (fun b off e => by have := hA4 b off e; simp; omega)
        have kW5 : Kept [] w _ := kW4.chain kS (by simp) (low_none hXw)
        have hA5 := hA4
        have HX : Hid (xs'.length ≤ 1099511627776) := by have := hb5.len_le; show _ ≤ _; omega
        clear kS hX4 hb4 hs4 kW4 c0 c1 c2 f0 f1 f2 hA4
        generalize (((w4.alloc (.cells #[.slice A1 xs'.length cp1, .int .i64 last', .int .i64 M] 27)).setCell ⟨X, 0, none⟩ (.slice A1 xs'.length cp1)).setCell ⟨X, 1, none⟩ (.int .i64 last')).setCell ⟨X, 2, none⟩ (.int .i64 M) = W5 at hX5 hb5 hs5 kW5 ⊢
        have cX0 : W5.cell? ⟨X, 0, none⟩ = some (.slice A1 xs'.length cp1) := by simpa using hX5.cell 0
        have cX1 : W5.cell? ⟨X, 1, none⟩ = some (.int .i64 last') := by simpa using hX5.cell 1
        have cX2 : W5.cell? ⟨X, 2, none⟩ = some (.int .i64 M) := by simpa using hX5.cell 2
        have kk0 : Kept [] W5 W5.drew := (Kept.refl _ _).drew
        go_wp2_with fail
        go_region_held3 (fun w' => Kept [] W5 w' ∧ w'.cell? ⟨X, 0, none⟩ = some (.slice A1 xs'.length cp1) ∧ w'.cell? ⟨X, 1, none⟩ = some (.int .i64 last') ∧ w'.cell? ⟨X, 2, none⟩ = some (.int .i64 M)) (exact heldX hX5 (by assumption))
          (first
            | (go_at_call 13; refine (idsAll_any p g M last' xs' _ ?_ (by omega)).mono ?_; (exact hb5.kept (by assumption)); rintro e w' ⟨ga, ca, rfl, hownA, kk⟩; have kq : Kept [] W5 w' := Kept.trans (by assumption) kk)
            | (go_at_call 12; refine (refSame04_yes _ _ _ _ _ _ xs' _ ?_ ?_ rfl rfl ?_).mono ?_; (exact Sl.of_own (by assumption)); (exact hs5.kept (by assumption)); (exact HX.out); rintro e w' ⟨rfl, kk⟩; have kq : Kept [] W5 w' := Kept.trans (by assumption) kk)
            | (go_at_call 14; refine (idsLast_any p g M last' xs' _ ?_).mono ?_; (exact hb5.kept (by assumption)); rintro e w' ⟨rfl, rfl⟩)
            | (go_at_call 15; refine (idsLives_any p g M last' xs' z _ ?_ hfz).mono ?_; (exact hb5.kept (by assumption)); rintro e w' ⟨rfl, rfl⟩)
            | (go_at_call 16; refine (refLives04_any A1 xs'.length cp1 last' M z xs' _ ?_ rfl ?_).mono ?_; (exact hs5.kept (by assumption)); (exact HX.out); rintro e w' ⟨rfl, kk⟩; have kq : Kept [] W5 w' := Kept.trans (by assumption) kk))
        go_wp2
        go_roundw
        case rel => exact ⟨j + 1, last', xs', A1, cp1, by omega, by have := HLA.out; omega, by go_num, hb5.kept kq, hX5.kept kq (by simp), hs5.kept kq, hA5, kW5.trans kq⟩
        case measure => simp [intOf]; omega
      · have hz' : decide (z < 1) = false := by simpa using hz
        obtain ⟨xs', hxs⟩ : ∃ xs', (xs.filter fun x => !decide (x = z)) = xs' := ⟨_, rfl⟩
        obtain ⟨er, her⟩ : ∃ er : Int, (if z ∈ xs then 0 else 2) = er := ⟨_, rfl⟩
        have HLA : Hid (last ≤ last + 1) := Nat.le_succ _
        go_wp2_with fail
        refine (idsTake_any p g M last xs z wr hbr hfz).mono ?_
        rintro e w3 ⟨rfl, hb3, kw3⟩
        rw [hxs] at hb3
        rw [her]
        have hX3 := hXr.kept kw3 (by simp; omega)
        have hs3 := hsr.keptS kw3 (fun b off e => by have := hAr b off e; simp; omega)
        have kW3 : Kept [] w w3 := kWr.chain kw3 (by simp) (by intro i hi hlt; simp at hi; omega)
        have c0 : w3.cell? ⟨X, 0, none⟩ = some (.slice A xs.length cp) := by simpa using hX3.cell 0
        have c1 : w3.cell? ⟨X, 1, none⟩ = some (.int .i64 last) := by simpa using hX3.cell 1
        have c2 : w3.cell? ⟨X, 2, none⟩ = some (.int .i64 M) := by simpa using hX3.cell 2
        have HE := Lib.hid her
        have HXS := Lib.hid hxs
        clear kw3 hbr hXr hsr her hxs
        go_wp2_with fail
        refine (refTake04_any A xs.length cp last M z xs w3 hs3 rfl (by omega)).mono ?_
        rintro e w4 ⟨A1, cp1, rfl, hs4, hA1, kw4⟩
        rw [HXS.out] at hs4 ⊢
        rw [HE.out]
        have hX4 := hX3.kept kw4 (by simp)
        have hb4 := hb3.kept kw4
        have kW4 := kW3.trans kw4
        have hXl := hX3.lt
        have hA4 := hAr.of hA1 hb3.lt.1 hb3.lt.2 hXl
        unfold refB
        clear c0 c1 c2 hX3 hb3 hs3 kW3 kw4 hA1 hAr
        have c0 : ∀ o, (w4.alloc o).cell? ⟨X, 0, none⟩ = some (.slice A xs.length cp) := fun o => by simpa using (hX4.alloc o).cell 0
        have c1 : ∀ o, (w4.alloc o).cell? ⟨X, 1, none⟩ = some (.int .i64 last) := fun o => by simpa using (hX4.alloc o).cell 1
        have c2 : ∀ o, (w4.alloc o).cell? ⟨X, 2, none⟩ = some (.int .i64 M) := fun o => by simpa using (hX4.alloc o).cell 2
        have f0 : ∀ o, (w4.alloc o).frozen? ⟨X, 0, none⟩ = false := fun o => (hX4.alloc o).free 0
        have f1 : ∀ o, (w4.alloc o).frozen? ⟨X, 1, none⟩ = false := fun o => (hX4.alloc o).free 1
        have f2 : ∀ o, (w4.alloc o).frozen? ⟨X, 2, none⟩ = false := fun o => (hX4.alloc o).free 2
        go_wp2_with fail
        have hX5 := (hX4.alloc (.cells #[.slice A1 xs'.length cp1, .int .i64 last, .int .i64 M] 27)).set3 (.slice A1 xs'.length cp1) (.int .i64 last) (.int .i64 M)
        have kS := ((Kept.refl [X] w4).alloc (.cells #[.slice A1 xs'.length cp1, .int .i64 last, .int .i64 M] 27)).set3 (g := X) (.inl (by simp)) (.slice A1 xs'.length cp1) (.int .i64 last) (.int .i64 M)
        have hb5 := hb4.keptS kS (by simp; omega) (by simp; omega)
        have hs5 := hs4.keptS kS (fun b off e => by have := hA4 b off e; simp; omega)
        have kW5 : Kept [] w _ := kW4.chain kS (by simp) (low_none hXw)
        have hA5 := hA4
        have HX : Hid (xs'.length ≤ 1099511627776) := by have := hb5.len_le; show _ ≤ _; omega
        clear kS hX4 hb4 hs4 kW4 c0 c1 c2 f0 f1 f2 hA4
        generalize (((w4.alloc (.cells #[.slice A1 xs'.length cp1, .int .i64 last, .int .i64 M] 27)).setCell ⟨X, 0, none⟩ (.slice A1 xs'.length cp1)).setCell ⟨X, 1, none⟩ (.int .i64 last)).setCell ⟨X, 2, none⟩ (.int .i64 M) = W5 at hX5 hb5 hs5 kW5 ⊢
        have cX0 : W5.cell? ⟨X, 0, none⟩ = some (.slice A1 xs'.length cp1) := by simpa using hX5.cell 0
        have cX1 : W5.cell? ⟨X, 1, none⟩ = some (.int .i64 last) := by simpa using hX5.cell 1
        have cX2 : W5.cell? ⟨X, 2, none⟩ = some (.int .i64 M) := by simpa using hX5.cell 2
        have kk0 : Kept [] W5 W5.drew := (Kept.refl _ _).drew
        go_wp2_with fail
        go_region_held3 (fun w' => Kept [] W5 w' ∧ w'.cell? ⟨X, 0, none⟩ = some (.slice A1 xs'.length cp1) ∧ w'.cell? ⟨X, 1, none⟩ = some (.int .i64 last) ∧ w'.cell? ⟨X, 2, none⟩ = some (.int .i64 M)) (exact heldX hX5 (by assumption))
          (first
            | (go_at_call 13; refine (idsAll_any p g M last xs' _ ?_ (by omega)).mono ?_; (exact hb5.kept (by assumption)); rintro e w' ⟨ga, ca, rfl, hownA, kk⟩; have kq : Kept [] W5 w' := Kept.trans (by assumption) kk)
            | (go_at_call 12; refine (refSame04_yes _ _ _ _ _ _ xs' _ ?_ ?_ rfl rfl ?_).mono ?_; (exact Sl.of_own (by assumption)); (exact hs5.kept (by assumption)); (exact HX.out); rintro e w' ⟨rfl, kk⟩; have kq : Kept [] W5 w' := Kept.trans (by assumption) kk)
            | (go_at_call 14; refine (idsLast_any p g M last xs' _ ?_).mono ?_; (exact hb5.kept (by assumption)); rintro e w' ⟨rfl, rfl⟩)
            | (go_at_call 15; refine (idsLives_any p g M last xs' z _ ?_ hfz).mono ?_; (exact hb5.kept (by assumption)); rintro e w' ⟨rfl, rfl⟩)
            | (go_at_call 16; refine (refLives04_any A1 xs'.length cp1 last M z xs' _ ?_ rfl ?_).mono ?_; (exact hs5.kept (by assumption)); (exact HX.out); rintro e w' ⟨rfl, kk⟩; have kq : Kept [] W5 w' := Kept.trans (by assumption) kk))
        go_wp2
        go_roundw
        case rel => exact ⟨j + 1, last, xs', A1, cp1, by omega, by have := HLA.out; omega, by go_num, hb5.kept kq, hX5.kept kq (by simp), hs5.kept kq, hA5, kW5.trans kq⟩
        case measure => simp [intOf]; omega
    · go_wp2_with fail
      refine (fixed04_any _).mono ?_
      rintro e w5 ⟨rfl, kw5⟩
      go_wp2
      go_ret
      exact ⟨rfl, kWr.trans kw5⟩
end Go.Proofs.Ytbncfpglofmejaa
