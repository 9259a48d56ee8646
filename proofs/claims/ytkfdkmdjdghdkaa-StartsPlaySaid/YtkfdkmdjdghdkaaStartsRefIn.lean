/- Package kraalref09: In. -/
import Derived.Test.YtkfdkmdjdghdkaaStartsRef
import Derived.BigQuiet
namespace Go.Proofs.Ytkfdkmdjdghdkaa
open Go.RowKit

/-- Is it one of those words? -/
def inW (a c x : Int) : Bool := decide (0 ≤ a ∧ 0 ≤ c ∧ a ≤ x ∧ x - a < c)
theorem inL_take {l : List Int} {a c : Int} {j : Nat} (hj : j < l.length) : inL (l.take (j + 1)) a c = inL (l.take j) a c ++ (if inW a c (l[j]?.getD 0) then [l[j]?.getD 0] else []) := by
  rw [List.take_succ_eq_append_getElem hj, List.getElem?_eq_getElem hj, Option.getD_some]
  unfold inL inW
  by_cases h : 0 ≤ a ∧ 0 ≤ c
  · rw [if_pos h, if_pos h, List.filter_append]
    congr 1
    by_cases e : a ≤ l[j] ∧ l[j] - a < c
    · simp [h, e]
    · simp [h, e]
  · rw [if_neg h, if_neg h]
    rw [if_neg]
    · rfl
    · simp; intro h1 h2; exact absurd ⟨h1, h2⟩ h

/-- A slice of places, in a new block. -/
def RefIn (zs : List Int) (w : World) (e : Ending) (w' : World) : Prop :=
  ∃ G cap, e = .returned (.slice (some ⟨G, 0, none⟩) zs.length cap) ∧ w'.ownsRow w.heap.size 3 1 (.slice (some ⟨G, 0, none⟩) zs.length cap) zs.length (zs.map (Value.int .i64)) ∧ Kept [] w w'

set_option maxRecDepth 100000 in
set_option maxHeartbeats 2000000 in
theorem refIn09_any (A : Option Addr) (n cap : Nat) (words a c : Int) (xs : List Int) (w : World) (hs : Sl w .i64 A xs) (hn : xs.length = n) (hx : n ≤ 1099511627776) (ha : a ≤ 9223372036854775807) (hb : ∀ x ∈ xs, 0 ≤ x ∧ x < 16384) :
    Calls Try.prog 17 #[refS A n cap words, .agg #[.int .i64 a, .int .i64 c]] w (RefIn (inL xs a c) w) := by
  subst hn
  obtain ⟨i0, hi, hz0, hz1, hz2⟩ := info_parts infoI
  have rB := (Row.new w 30 [.slice A xs.length cap, .int .i64 words]).alloc (.cells #[.int .i64 a, .int .i64 c] 24)
  have rR := Row.new (w.alloc (.cells #[.slice A xs.length cap, .int .i64 words] 30)) 24 [.int .i64 a, .int .i64 c]
  rw [World.size_alloc] at rR
  have kB := ((Kept.refl [] w).alloc (.cells #[.slice A xs.length cap, .int .i64 words] 30)).alloc (.cells #[.int .i64 a, .int .i64 c] 24)
  have hsB := hs.kept kB
  have hWz : ((w.alloc (.cells #[.slice A xs.length cap, .int .i64 words] 30)).alloc (.cells #[.int .i64 a, .int .i64 c] 24)).heap.size = w.heap.size + 1 + 1 := by simp
  unfold refS
  go_enter Try.func17, Try.ntmps17
  go_wp2_with fail
  generalize (w.alloc (.cells #[.slice A xs.length cap, .int .i64 words] 30)).alloc (.cells #[.int .i64 a, .int .i64 c] 24) = W at rB rR kB hsB hWz ⊢
  have HWZ := Lib.hid hWz
  clear hWz
  have own0 := own_empty W 3 1 W.heap.size (Nat.le_refl _)
  have k0 := (Kept.refl [] W).alloc (.cells #[] 3)
  go_wp2_with fail
  generalize W.alloc (.cells #[] 3) = W2 at own0 k0 ⊢
  have HBD := Lib.hid hb
  have HWs := Lib.hid kB.size
  clear hs hb
  go_loopw [5, 6] (fun o i wr => ∃ (j g' cp : Nat), j ≤ xs.length ∧ o = .slice (some ⟨g', 0, none⟩) (inL (xs.take j) a c).length cp ∧ i = .int .i64 j ∧
      wr.ownsRow W.heap.size 3 1 (.slice (some ⟨g', 0, none⟩) (inL (xs.take j) a c).length cp) (inL (xs.take j) a c).length ((inL (xs.take j) a c).map (Value.int .i64)) ∧ Kept [] W wr) (fun _ i _ => xs.length - (intOf i).toNat)
  case atStart =>
    have e0 : inL (xs.take 0) a c = [] := by unfold inL; simp
    exact ⟨0, W.heap.size, 0, Nat.zero_le _, by rw [e0, HWZ.out]; rfl, rfl, by rw [e0]; simpa using own0, k0⟩
  case round =>
    obtain ⟨j, g', cp, hj, rfl, rfl, hor, hkr⟩ := hrel
    clear own0 k0
    have rBr := rB.kept hkr (by simp)
    have rRr := rR.kept hkr (by simp)
    have c0 : wr.cell? ⟨w.heap.size, 0, none⟩ = some (.slice A xs.length cap) := by simpa using rBr.cell 0
    have d0 : wr.cell? ⟨w.heap.size + 1, 0, none⟩ = some (.int .i64 a) := by simpa using rRr.cell 0
    have d1 : wr.cell? ⟨w.heap.size + 1, 1, none⟩ = some (.int .i64 c) := by simpa using rRr.cell 1
    have hgl := own_ge hor
    have hlj : (inL (xs.take j) a c).length ≤ xs.length := Nat.le_trans (inL_len _ _ _) (by simp; omega)
    by_cases hlt : j < xs.length
    · obtain ⟨b, off, rfl, cG⟩ := (hsB.kept hkr).cell hlt
      have HS := Lib.hid (inL_take (a := a) (c := c) hlt)
      obtain ⟨y, hy⟩ : ∃ y, xs[j]?.getD 0 = y := ⟨_, rfl⟩
      have hyb : 0 ≤ y ∧ y < 16384 := HBD.out y (by rw [← hy, List.getElem?_eq_getElem hlt, Option.getD_some]; exact List.getElem_mem hlt)
      rw [hy] at cG HS
      have HY := Lib.hid hy
      clear hy
      obtain ⟨zs, hzs⟩ : ∃ zs, inL (xs.take j) a c = zs := ⟨_, rfl⟩
      rw [hzs] at hor hlj HS ⊢
      clear hzs
      have hcs : (¬ 0 ≤ a) ∨ (0 ≤ a ∧ ¬ 0 ≤ c) ∨ (0 ≤ a ∧ 0 ≤ c ∧ ¬ a ≤ y) ∨ (0 ≤ a ∧ 0 ≤ c ∧ a ≤ y ∧ ¬ y - a < c) ∨ (0 ≤ a ∧ 0 ≤ c ∧ a ≤ y ∧ y - a < c) := by omega
      rcases hcs with h1 | ⟨h1, h2⟩ | ⟨h1, h2, h3⟩ | ⟨h1, h2, h3, h4⟩ | ⟨h1, h2, h3, h4⟩
      · have HW : Hid (inW a c y = false) := by show _ = _; unfold inW; simp; omega
        have h1' : decide (0 ≤ a) = false := by simpa using h1
        go_wp2_with fail
        go_quiet (fail)
        go_wp2
        go_roundw
        case rel => exact ⟨j + 1, g', cp, by omega, by rw [HS.out, HW.out]; simp, by go_num, by rw [HS.out, HW.out]; simpa using own_kept hor ((Kept.refl [] wr).drewN _) (by simp), hkr.drewN _⟩
        case measure => simp [intOf]; omega
      · have HW : Hid (inW a c y = false) := by show _ = _; unfold inW; simp; omega
        have h2' : decide (0 ≤ c) = false := by simpa using h2
        go_wp2_with fail
        go_quiet (fail)
        go_wp2
        go_roundw
        case rel => exact ⟨j + 1, g', cp, by omega, by rw [HS.out, HW.out]; simp, by go_num, by rw [HS.out, HW.out]; simpa using own_kept hor ((Kept.refl [] wr).drewN _) (by simp), hkr.drewN _⟩
        case measure => simp [intOf]; omega
      · have HW : Hid (inW a c y = false) := by show _ = _; unfold inW; simp; omega
        have h3' : decide (a ≤ y) = false := by simpa using h3
        go_wp2_with fail
        go_quiet (fail)
        go_wp2
        go_roundw
        case rel => exact ⟨j + 1, g', cp, by omega, by rw [HS.out, HW.out]; simp, by go_num, by rw [HS.out, HW.out]; simpa using own_kept hor ((Kept.refl [] wr).drewN _) (by simp), hkr.drewN _⟩
        case measure => simp [intOf]; omega
      · have HW : Hid (inW a c y = false) := by show _ = _; unfold inW; simp; omega
        have h4' : decide (y - a < c) = false := by simpa using h4
        go_wp2_with fail
        go_quiet (fail)
        go_wp2
        go_roundw
        case rel => exact ⟨j + 1, g', cp, by omega, by rw [HS.out, HW.out]; simp, by go_num, by rw [HS.out, HW.out]; simpa using own_kept hor ((Kept.refl [] wr).drewN _) (by simp), hkr.drewN _⟩
        case measure => simp [intOf]; omega
      · have HW : Hid (inW a c y = true) := by show _ = _; unfold inW; simp; omega
        go_wp2_with fail
        go_quiet (fail)
        have kq := (Kept.refl [] wr).drewN nq
        have horq := own_kept hor kq (by simp)
        have hkq := hkr.trans kq
        have cGq : (wr.drewN nq).cell? ⟨b, off + j, none⟩ = some (.int .i64 y) := by simpa using cG
        have c0q : (wr.drewN nq).cell? ⟨w.heap.size, 0, none⟩ = some (.slice (some ⟨b, off, none⟩) xs.length cap) := by simpa using c0
        generalize wr.drewN nq = wq at horq hkq cGq c0q ⊢
        have hszq := hkq.size
        obtain ⟨L, hL⟩ : ∃ L, zs.length = L := ⟨_, rfl⟩
        have HL := Lib.hid hL
        rw [hL] at horq hlj ⊢
        clear hL
        go_wp2_with (at_builtin; refine wpList_append_one _ rfl _ _ 28 rfl W.heap.size 3 i0 (.int .i64 0) 8 Try.underlying28 hi hz0 hz1 hz2 rfl wq (.int .i64 y) (.slice (some ⟨g', 0, none⟩) L cp) L (zs.map (Value.int .i64)) rfl rfl rfl horq hszq rfl (by omega) (by omega) ?_; intro g2 cp2 w3 hown3 hk3 hg3)
        go_roundw
        case rel =>
          have e1 := HS.out
          rw [HW.out, if_pos rfl] at e1
          have e2 : (inL (xs.take (j + 1)) a c).length = L + 1 := by rw [e1]; simp [HL.out]
          exact ⟨j + 1, g2, cp2, by omega, by rw [e2], by go_num, by rw [e2, e1, List.map_append]; exact hown3, hkq.chain hk3 (by simp) (by intro i hi hl; simp [Value.ownBlock] at hi; omega)⟩
        case measure => simp [intOf]; omega
    · obtain rfl : j = xs.length := by omega
      rw [List.take_length] at hor ⊢
      go_wp2
      go_ret
      have hWs := HWs.out
      refine ⟨g', cp, rfl, ?_, kB.trans hkr⟩
      rcases hor with ⟨h1, h2 | ⟨g3, c3, cur, h2, h3, h4⟩⟩
      · exact ⟨h1, .inl h2⟩
      · exact ⟨h1, .inr ⟨g3, c3, cur, h2, by omega, h4⟩⟩
end Go.Proofs.Ytkfdkmdjdghdkaa
