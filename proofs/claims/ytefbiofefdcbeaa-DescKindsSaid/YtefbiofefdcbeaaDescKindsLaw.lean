/- The law DescKinds: its walk. -/
import Derived.Test.YtefbiofefdcbeaaDescFixed
import Derived.Test.YtefbiofefdcbeaaDescGreat
import Derived.Test.YtefbiofefdcbeaaDescRefKinds
namespace Go.Proofs.Ytefbiofefdcbeaa
open Go.RowKit

/-- An owned slice of numbers, or nil: its address, and which block it lies in, if any. -/
theorem own_where {w : World} {B : Nat} {t : TypeId} {v : Value} {n : Nat} {xs : List Int} (h : w.ownsRow B t 1 v n (xs.map (Value.int .i64))) :
    ∃ (a : Option Addr) (cap : Nat) (S : List Nat), v = .slice a n cap ∧ Sl w .i64 a xs ∧ (∀ b off, a = some ⟨b, off, none⟩ → b ∈ S) ∧ (∀ i ∈ S, B ≤ i ∧ i < w.heap.size) ∧ (0 < n → ∃ g, a = some ⟨g, 0, none⟩) := by
  rcases h.2 with ⟨rfl, h0⟩ | ⟨g, cap, cur, rfl, h1, hb, _⟩
  · have : xs = [] := by
      have := h.1
      rw [h0] at this
      simpa using this
    subst this
    exact ⟨none, 0, [], by rw [h0], .inl rfl, by simp, by simp, by omega⟩
  · exact ⟨_, cap, [g], rfl, Sl.of_own h, by simp, by intro i hi; obtain rfl := List.mem_singleton.1 hi; exact ⟨h1, lt_of_block hb⟩, fun _ => ⟨g, rfl⟩⟩

set_option maxRecDepth 100000 in
set_option maxHeartbeats 2000000 in
theorem descKinds_great (A : Option Addr) (cap : Nat) (l : List Ty) (ar : Bool) (kind ty n : Int) (w : World) (hs : SlD w A l) (hx : l.length ≤ 9223372036854775807) (hg : greatB (l.map Ty.ks) = true) :
    Calls Try.prog 3 #[.slice A l.length cap, .agg #[.bool ar, .int .i64 kind, .int .i64 ty, .int .i64 n]] w (FixedPost w) := by
  have kW := (Kept.refl [] w).alloc (.cells #[.bool ar, .int .i64 kind, .int .i64 ty, .int .i64 n] 24)
  go_enter Try.func3, Try.ntmps3
  go_wp2_with fail
  refine (great07_any A cap l _ (hs.kept kW) hx).mono ?_
  rintro e w2 ⟨rfl, kw2⟩
  rw [hg]
  go_wp2_with fail
  refine (fixed07_any _).mono ?_
  rintro e w3 ⟨rfl, kw3⟩
  go_wp2
  go_ret
  exact ⟨rfl, (kW.trans kw2).trans kw3⟩

set_option maxRecDepth 100000 in
set_option maxHeartbeats 8000000 in
theorem descKinds_law (A : Option Addr) (cap : Nat) (l : List Ty) (ar : Bool) (kind ty n : Int) (w : World) (hs : SlD w A l) (hl : l.length ≤ 60) (hx : ∀ t ∈ l, t.ks.length ≤ 100) (hg : greatB (l.map Ty.ks) = false) :
    Calls Try.prog 3 #[.slice A l.length cap, .agg #[.bool ar, .int .i64 kind, .int .i64 ty, .int .i64 n]] w (FixedPost w) := by
  obtain ⟨i0, hi, hz0, hz1, hz2⟩ := info_parts info_int07
  have rB := Row.new w 24 [.bool ar, .int .i64 kind, .int .i64 ty, .int .i64 n]
  have kW := (Kept.refl [] w).alloc (.cells #[.bool ar, .int .i64 kind, .int .i64 ty, .int .i64 n] 24)
  have hlen := kindsB_len (l.map Ty.ks) ⟨ar, kind, ty, n⟩ (by intro ks hk; obtain ⟨t, ht, rfl⟩ := List.mem_map.1 hk; exact hx t ht)
  have hk1 := fun w' hs' => descKinds_any A cap l ar kind ty n w' hs' hx
  have hk2 := fun w' hs' => refKinds07_any A cap l ar kind ty n w' hs' hx
  obtain ⟨⟨xs, er⟩, hk⟩ : ∃ x, kindsB (l.map Ty.ks) ⟨ar, kind, ty, n⟩ = x := ⟨_, rfl⟩
  rw [hk] at hlen
  simp only [hk] at hk1 hk2
  simp only at hlen
  have HK1 := Lib.hid hk1
  have HK2 := Lib.hid hk2
  clear hk hk1 hk2
  go_enter Try.func3, Try.ntmps3
  go_wp2_with fail
  generalize w.alloc (.cells #[.bool ar, .int .i64 kind, .int .i64 ty, .int .i64 n] 24) = W at rB kW ⊢
  refine (great07_any A cap l W (hs.kept kW) (by omega)).mono ?_
  rintro e w1 ⟨rfl, kw1⟩
  rw [hg]
  have rB1 := rB.kept kw1 (by simp)
  have k1 := kW.trans kw1
  have c0 : w1.cell? ⟨w.heap.size, 0, none⟩ = some (.bool ar) := by simpa using rB1.cell 0
  have c1 : w1.cell? ⟨w.heap.size, 1, none⟩ = some (.int .i64 kind) := by simpa using rB1.cell 1
  have c2 : w1.cell? ⟨w.heap.size, 2, none⟩ = some (.int .i64 ty) := by simpa using rB1.cell 2
  have c3 : w1.cell? ⟨w.heap.size, 3, none⟩ = some (.int .i64 n) := by simpa using rB1.cell 3
  clear rB kW kw1 hg
  go_wp2_with fail
  refine (HK1.out w1 (hs.kept k1)).mono ?_
  rintro e w2 ⟨v, rfl, hown, kw2⟩
  simp only at hown ⊢
  obtain ⟨a, cp, S, rfl, hsl, hS, hSb, hpos⟩ := own_where hown
  have rB2 := rB1.kept kw2 (by simp)
  have k2 := k1.trans kw2
  have d0 : w2.cell? ⟨w.heap.size, 0, none⟩ = some (.bool ar) := by simpa using rB2.cell 0
  have d1 : w2.cell? ⟨w.heap.size, 1, none⟩ = some (.int .i64 kind) := by simpa using rB2.cell 1
  have d2 : w2.cell? ⟨w.heap.size, 2, none⟩ = some (.int .i64 ty) := by simpa using rB2.cell 2
  have d3 : w2.cell? ⟨w.heap.size, 3, none⟩ = some (.int .i64 n) := by simpa using rB2.cell 3
  have hB1 := rB1.lt
  clear c0 c1 c2 c3
  go_wp2_with fail
  refine (HK2.out w2 (hs.kept k2)).mono ?_
  rintro e w3 ⟨am, cm, rfl, hsm, kw3⟩
  simp only at hsm ⊢
  clear d0 d1 d2 d3
  go_wp2_with fail
  refine (refSame04_reads a am xs.length xs.length cp cm xs w3 (hsl.kept kw3) hsm rfl rfl (by omega)).mono ?_
  rintro e w4 ⟨rfl, q, rfl⟩
  have rB4 := (rB2.kept kw3 (by simp)).drewN q
  have kq4 : Kept [] w2 (w3.drewN q) := kw3.drewN q
  have hsm4 := hsm.kept ((Kept.refl [] w3).drewN q)
  have hnil : (∀ (g : Nat), a = some ⟨g, 0, none⟩ → (w3.drewN q).ownsRow w1.heap.size 3 1 (.slice (some ⟨g, 0, none⟩) xs.length cp) xs.length (xs.map (Value.int .i64))) := by
    intro g hga
    subst hga
    exact own_kept hown kq4 (by simp)
  clear hown hsl hsm kw3 rB1 rB2
  generalize w3.drewN q = W4 at rB4 kq4 hsm4 hnil ⊢
  have k4 : Kept [] w W4 := k2.trans kq4
  have own0 := own_empty W4 3 1 W4.heap.size (Nat.le_refl _)
  have k0 := (Kept.refl [] W4).alloc (.cells #[] 3)
  have s0 := (hsm4.kept k0).toV
  go_wp2_with (at_builtin; refine wpList_append_on _ rfl _ _ 27 rfl W4.heap.size 3 i0 (.int .i64 0) 1 8 Try.underlying27 hi hz0 hz1 hz2 rfl (by omega) W4.heap.size 0 0 [] rfl own0 am xs.length cm _ rfl s0 int_oneCell (by unfold maxLen; omega) (by omega) k0.size ?_; intro gw cw w5 hwas hk5 _; rw [Nat.zero_add, List.nil_append] at hwas; rw [Nat.zero_add])
  have hwl := own_lt hwas
  have hwg := own_ge hwas
  have k5 : Kept [] W4 w5 := k0.chain hk5 (by simp) (by simp)
  have rB5 := rB4.kept k5 (by simp)
  have kw5 := k4.trans k5
  have hW1 := k1.size
  have hSw : ∀ i ∈ S, w1.heap.size ≤ i ∧ i < W4.heap.size := fun i hi => ⟨(hSb i hi).1, Nat.lt_of_lt_of_le (hSb i hi).2 kq4.size⟩
  have hon5 : ∀ g, a = some ⟨g, 0, none⟩ → w5.ownsRow w1.heap.size 3 1 (.slice (some ⟨g, 0, none⟩) xs.length cp) xs.length (xs.map (Value.int .i64)) := fun g hg => own_kept (hnil g hg) k5 (by simp)
  clear own0 k0 s0 hk5 hnil hsm4 rB4 hSb kq4 k4 k5
  have HON := Lib.hid hon5
  have HSW := Lib.hid hSw
  have HSS := Lib.hid hS
  clear hon5 hSw hS
  go_wp2_with fail
  go_loopw [42] (fun i wr => ∃ (j : Nat), j ≤ xs.length ∧ i = .int .i64 j ∧ Hid (∃ ys : List Int, ∀ g, a = some ⟨g, 0, none⟩ → wr.ownsRow w1.heap.size 3 1 (.slice (some ⟨g, 0, none⟩) xs.length cp) xs.length (ys.map (Value.int .i64))) ∧ Kept S w5 wr) (fun i _ => xs.length - (intOf i).toNat)
  case atStart => exact ⟨0, Nat.zero_le _, rfl, ⟨xs, HON.out⟩, Kept.refl _ _⟩
  case round =>
    obtain ⟨j, hj, rfl, HY, hkr⟩ := hrel
    by_cases hlt : j < xs.length
    · obtain ⟨g, rfl⟩ := hpos (by omega)
      obtain ⟨ys, hy⟩ := HY.out
      have hor := hy g rfl
      have hyl : ys.length = xs.length := by have := hor.1; simpa using this
      have hcell := hor.cellAt j (by omega)
      rw [List.getElem?_map, List.getElem?_eq_getElem (by omega), Option.map_some] at hcell
      have hfr := hor.frozenAt j
      have hst := (hor.stored j (.int .i64 (wrap64 (ys[j]'(by omega) + 5)))).1
      rw [← List.map_set] at hst
      have hgS := HSS.out g 0 rfl
      have HST := Lib.hid hst
      generalize ys[j]'(by omega) = y at hcell HST
      clear hst hor hy hyl
      go_wp2
      go_roundw
      case rel => exact ⟨j + 1, by omega, by go_num, ⟨_, fun g' hg' => by cases hg'; exact HST.out⟩, hkr.set (.inl hgS) _⟩
      case measure => simp [intOf]; omega
    · have kr : Kept [] w wr := kw5.chain hkr (by simp) (fun i hi hlt => by have := HSW.out i hi; omega)
      have rBr := rB5.kept hkr (fun hi => by have := HSW.out _ hi; omega)
      have hwr := own_kept hwas hkr (fun hi => by have := HSW.out _ hi; omega)
      have c0 : wr.cell? ⟨w.heap.size, 0, none⟩ = some (.bool ar) := by simpa using rBr.cell 0
      have c1 : wr.cell? ⟨w.heap.size, 1, none⟩ = some (.int .i64 kind) := by simpa using rBr.cell 1
      have c2 : wr.cell? ⟨w.heap.size, 2, none⟩ = some (.int .i64 ty) := by simpa using rBr.cell 2
      have c3 : wr.cell? ⟨w.heap.size, 3, none⟩ = some (.int .i64 n) := by simpa using rBr.cell 3
      clear hwas rB5 kw5
      go_wp2_with fail
      refine (HK1.out wr (hs.kept kr)).mono ?_
      rintro e w6 ⟨v6, rfl, hown6, kw6⟩
      simp only at hown6 ⊢
      obtain ⟨a6, cp6, S6, rfl, hsl6, _, _, _⟩ := own_where hown6
      have hw6 := own_kept hwr kw6 (by simp)
      go_wp2_with fail
      refine (fixed07_any w6).mono ?_
      rintro e w7 ⟨rfl, kw7⟩
      go_wp2_with fail
      refine (refSame04_reads a6 (some ⟨gw, 0, none⟩) xs.length xs.length cp6 cw xs w7 (hsl6.kept kw7) (Sl.of_own (own_kept hw6 kw7 (by simp))) rfl rfl (by omega)).mono ?_
      rintro e w8 ⟨rfl, q8, rfl⟩
      go_wp2
      go_ret
      exact ⟨rfl, ((kr.trans kw6).trans kw7).drewN _⟩
end Go.Proofs.Ytefbiofefdcbeaa
