/- Package kraalref09: Drop. -/
import Derived.Test.YtkfdkmdjdghdkaaStartsRefIn
namespace Go.Proofs.Ytkfdkmdjdghdkaa
open Go.RowKit

theorem Row.set2 {w : World} {g : Nat} {t : TypeId} {a b : Value} (h : Row w g t [a, b]) (u0 u1 : Value) : Row ((w.setCell ⟨g, 0, none⟩ u0).setCell ⟨g, 1, none⟩ u1) g t [u0, u1] := by
  simpa using (h.set 0 u0).set 1 u1
theorem Kept.set2 {S : List Nat} {a w : World} (h : Kept S a w) {g : Nat} (hp : g ∈ S ∨ a.heap.size ≤ g) (u0 u1 : Value) : Kept S a ((w.setCell ⟨g, 0, none⟩ u0).setCell ⟨g, 1, none⟩ u1) :=
  (h.set (p := ⟨g, 0, none⟩) hp _).set (p := ⟨g, 1, none⟩) hp _
/-- What Put and Drop leave of the document's book. -/
theorem lt_of_cellA {W : World} {g j : Nat} {v : Value} (h : W.cell? ⟨g, j, none⟩ = some v) : g < W.heap.size := by
  obtain ⟨o, ho, _⟩ := cells_of_cell h
  exact (Array.getElem?_eq_some_iff.1 ho).1
def RefSPost (A : Option Addr) (zs : List Int) (words n : Int) (w : World) (e : Ending) (w' : World) : Prop :=
  ∃ A' cap', e = .returned (.tuple #[refS A' zs.length cap' words, .int .i64 n]) ∧ RefL w' A' cap' zs ∧ (A' = A ∨ ∃ G, A' = some ⟨G, 0, none⟩ ∧ w.heap.size ≤ G) ∧ Kept [] w w'
/-- Three new blocks. -/
theorem three_new (w : World) (o0 o1 o2 : Obj) : ∃ W, (((w.alloc o0).alloc o1).alloc o2) = W ∧ W.heap.size = w.heap.size + 1 + 1 + 1 ∧ Kept [] w W ∧
    W.heap[w.heap.size]? = some o0 ∧ W.heap[w.heap.size + 1]? = some o1 ∧ W.heap[w.heap.size + 1 + 1]? = some o2 := by
  have n0 := heap_alloc_new w o0
  have n1 := heap_alloc_new (w.alloc o0) o1
  have n2 := heap_alloc_new ((w.alloc o0).alloc o1) o2
  simp only [World.size_alloc] at n1 n2
  have up : ∀ (W : World) (o : Obj) {k : Nat} {v : Obj}, W.heap[k]? = some v → (W.alloc o).heap[k]? = some v := fun W o k v h => (Below.heap_alloc W o k (Array.getElem?_eq_some_iff.1 h).1).trans h
  exact ⟨_, rfl, by simp, (((Kept.refl [] w).alloc _).alloc _).alloc _, up _ _ (up _ _ n0), up _ _ n1, n2⟩

/-- Those that stay. -/
def stayB (zs : List Int) (l : List Int) : List Int := l.filter fun x => !decide (x ∈ zs)
theorem stayB_take {zs l : List Int} {j : Nat} (hj : j < l.length) : stayB zs (l.take (j + 1)) = stayB zs (l.take j) ++ (if l[j]?.getD 0 ∈ zs then [] else [l[j]?.getD 0]) := by
  rw [List.take_succ_eq_append_getElem hj, List.getElem?_eq_getElem hj, Option.getD_some]
  unfold stayB
  rw [List.filter_append]
  by_cases e : l[j] ∈ zs <;> simp [e]
theorem stayB_len (zs l : List Int) : (stayB zs l).length ≤ l.length := List.length_filter_le _ _
theorem mem_take_step {zs : List Int} {d : Nat} (hd : d < zs.length) (y : Int) : decide (y ∈ zs.take (d + 1)) = (decide (y ∈ zs.take d) || decide (zs[d]?.getD 0 = y)) := by
  rw [List.take_succ_eq_append_getElem hd, List.getElem?_eq_getElem hd, Option.getD_some]
  have h : (y ∈ zs.take d ++ [zs[d]]) ↔ (y ∈ zs.take d ∨ zs[d] = y) := by rw [List.mem_append, List.mem_singleton, eq_comm]
  rw [decide_eq_decide.2 h, Bool.decide_or]

set_option maxRecDepth 100000 in
set_option maxHeartbeats 4000000 in
theorem refDrop09_any (A : Option Addr) (n cap : Nat) (words a c : Int) (xs : List Int) (w : World) (hs : Sl w .i64 A xs) (hn : xs.length = n) (hx : n ≤ 1099511627776) (ha : a ≤ 9223372036854775807) (hb : ∀ x ∈ xs, 0 ≤ x ∧ x < 16384) :
    Calls Try.prog 9 #[refS A n cap words, .agg #[.int .i64 a, .int .i64 c]] w (RefSPost A (stayB (inL xs a c) xs) words (inL xs a c).length w) := by
  subst hn
  obtain ⟨i0, hi, hz0, hz1, hz2⟩ := info_parts infoI
  obtain ⟨W, hW, hWz, kW, r0, r1, r2⟩ := three_new w (.cells #[.slice A xs.length cap, .int .i64 words] 30) (.cells #[.int .i64 a, .int .i64 c] 24) (.cells #[.slice none 0 0, .int .i64 0] 30)
  have rB : Row W w.heap.size 30 [.slice A xs.length cap, .int .i64 words] := r0
  have rA : Row W (w.heap.size + 1) 24 [.int .i64 a, .int .i64 c] := r1
  have rR : Row W (w.heap.size + 1 + 1) 30 [.slice none 0 0, .int .i64 0] := r2
  have hsW := hs.kept kW
  have b0 : W.cell? ⟨w.heap.size, 0, none⟩ = some (.slice A xs.length cap) := by simpa using rB.cell 0
  have b1 : W.cell? ⟨w.heap.size, 1, none⟩ = some (.int .i64 words) := by simpa using rB.cell 1
  have a0 : W.cell? ⟨w.heap.size + 1, 0, none⟩ = some (.int .i64 a) := by simpa using rA.cell 0
  have a1 : W.cell? ⟨w.heap.size + 1, 1, none⟩ = some (.int .i64 c) := by simpa using rA.cell 1
  clear r0 r1 r2
  unfold refS
  go_enter Try.func9, Try.ntmps9
  go_wp2_with fail
  clear hW b0 b1 a0 a1
  refine (refIn09_any A xs.length cap words a c xs W hsW rfl hx ha hb).mono ?_
  rintro e W1 ⟨G, cg, rfl, hown1, k1⟩
  have hgG := own_ge hown1
  have hlen := inL_len xs a c
  have hsG := Sl.of_own hown1
  obtain ⟨zs, hzs⟩ : ∃ zs, inL xs a c = zs := ⟨_, rfl⟩
  rw [hzs] at hsG hlen ⊢
  have HZ := Lib.hid hzs
  have kW1 := kW.trans k1
  have hs1 := hs.kept kW1
  have rB1 := rB.kept k1 (by simp)
  have rR1 := rR.kept k1 (by simp)
  have hW1 := k1.size
  have hWW : w.heap.size + 3 ≤ W1.heap.size := by omega
  have HWW := Lib.hid hWW
  clear hzs hown1 k1 kW rB rR hs hsW hb hWz hWW hW1 rA hgG
  have own0 := own_empty W1 3 1 W1.heap.size (Nat.le_refl _)
  have k0 := (Kept.refl [] W1).alloc (.cells #[] 3)
  go_wp2_with fail
  generalize W1.alloc (.cells #[] 3) = W2 at own0 k0 ⊢
  go_loopw [7, 8] (fun o i wr => ∃ (j g' cp : Nat), j ≤ xs.length ∧ o = .slice (some ⟨g', 0, none⟩) (stayB zs (xs.take j)).length cp ∧ i = .int .i64 j ∧
      wr.ownsRow W1.heap.size 3 1 (.slice (some ⟨g', 0, none⟩) (stayB zs (xs.take j)).length cp) (stayB zs (xs.take j)).length ((stayB zs (xs.take j)).map (Value.int .i64)) ∧ Kept [] W1 wr) (fun _ i _ => xs.length - (intOf i).toNat)
  case atStart => exact ⟨0, W1.heap.size, 0, Nat.zero_le _, by simp [stayB], rfl, by simpa [stayB] using own0, k0⟩
  case round =>
    obtain ⟨j, g', cp, hj, rfl, rfl, hor, hkr⟩ := hrel
    clear own0 k0
    have hgl := own_ge hor
    have hlj : (stayB zs (xs.take j)).length ≤ xs.length := Nat.le_trans (stayB_len _ _) (by simp; omega)
    have rBr := rB1.kept hkr (by simp)
    have c0 : wr.cell? ⟨w.heap.size, 0, none⟩ = some (.slice A xs.length cap) := by simpa using rBr.cell 0
    by_cases hlt : j < xs.length
    · obtain ⟨b, off, rfl, cG⟩ := (hs1.kept hkr).cell hlt
      have HS := Lib.hid (stayB_take (zs := zs) hlt)
      obtain ⟨y, hy⟩ : ∃ y, xs[j]?.getD 0 = y := ⟨_, rfl⟩
      rw [hy] at cG HS
      have HY := Lib.hid hy
      clear hy
      obtain ⟨ls, hls⟩ : ∃ ls, stayB zs (xs.take j) = ls := ⟨_, rfl⟩
      rw [hls] at hor hlj HS ⊢
      clear hls
      have hsGr := hsG.kept hkr
      go_wp2
      go_loopw [9, 10] (fun v k wx => ∃ d : Nat, d ≤ zs.length ∧ v = .bool (decide (y ∈ zs.take d)) ∧ k = .int .i64 d ∧ Kept [] wr wx) (fun _ k _ => zs.length - (intOf k).toNat)
      case atStart => exact ⟨0, Nat.zero_le _, by simp, rfl, Kept.refl _ _⟩
      case round =>
        obtain ⟨d, hd, rfl, rfl, hkx⟩ := hrel
        have rBx := rBr.kept hkx (by simp)
        have cx0 : wr.cell? ⟨w.heap.size, 0, none⟩ = some (.slice (some ⟨b, off, none⟩) xs.length cap) := by simpa using rBx.cell 0
        have cxG : wr.cell? ⟨b, off + j, none⟩ = some (.int .i64 y) := (World.cell?_of_block (a := ⟨b, off + j, none⟩) (hkx.block b (lt_of_cellA cG) (by simp))).trans cG
        by_cases hltd : d < zs.length
        · obtain ⟨b2, off2, he, cZ⟩ := (hsGr.kept hkx).cell hltd
          cases he
          rw [Nat.zero_add] at cZ
          have HM := Lib.hid (mem_take_step hltd y)
          obtain ⟨z, hz⟩ : ∃ z, zs[d]?.getD 0 = z := ⟨_, rfl⟩
          rw [hz] at cZ HM
          clear hz
          cases hv : decide (y ∈ zs.take d) with
          | true =>
            have HV := Lib.hid hv
            clear hv
            go_wp2_with fail
            go_quiet (fail)
            go_wp2
            go_roundw
            case rel => exact ⟨d + 1, by omega, by rw [HM.out, HV.out]; rfl, by go_num, hkx.drewN _⟩
            case measure => simp [intOf]; omega
          | false =>
            have HV := Lib.hid hv
            clear hv
            go_wp2_with fail
            go_quiet (fail)
            go_wp2
            go_roundw
            case rel => exact ⟨d + 1, by omega, by rw [HM.out, HV.out, Bool.false_or]; rfl, by go_num, hkx.drewN _⟩
            case measure => simp [intOf]; omega
        · obtain rfl : d = zs.length := by omega
          have horx := own_kept hor hkx (by simp)
          rw [List.take_length]
          by_cases hin : y ∈ zs
          · have HI := Lib.hid hin
            rw [decide_eq_true hin]
            clear hin
            go_wp2
            go_roundw
            case rel =>
              have e1 := HS.out
              rw [if_pos HI.out, List.append_nil] at e1
              exact ⟨j + 1, g', cp, by omega, by rw [e1], by go_num, by rw [e1]; exact horx, hkr.trans hkx⟩
            case measure => simp [intOf]; omega
          · have HI := Lib.hid hin
            rw [decide_eq_false hin]
            clear hin
            have hkq := hkr.trans hkx
            have hszq := hkq.size
            obtain ⟨L, hL⟩ : ∃ L, ls.length = L := ⟨_, rfl⟩
            have HL := Lib.hid hL
            rw [hL] at horx hlj ⊢
            clear hL
            go_wp2_with (at_builtin; refine wpList_append_one _ rfl _ _ 28 rfl W1.heap.size 3 i0 (.int .i64 0) 8 Try.underlying28 hi hz0 hz1 hz2 rfl wr (.int .i64 y) (.slice (some ⟨g', 0, none⟩) L cp) L (ls.map (Value.int .i64)) rfl rfl rfl horx hszq rfl (by omega) (by omega) ?_; intro g2 cp2 w3 hown3 hk3 hg3)
            go_roundw
            case rel =>
              have e1 := HS.out
              rw [if_neg HI.out] at e1
              have e2 : (stayB zs (xs.take (j + 1))).length = L + 1 := by rw [e1]; simp [HL.out]
              exact ⟨j + 1, g2, cp2, by omega, by rw [e2], by go_num, by rw [e2, e1, List.map_append]; exact hown3, hkq.chain hk3 (by simp) (by intro i hi hl; simp [Value.ownBlock] at hi; omega)⟩
            case measure => simp [intOf]; omega
    · obtain rfl : j = xs.length := by omega
      have c1 : wr.cell? ⟨w.heap.size, 1, none⟩ = some (.int .i64 words) := by simpa using rBr.cell 1
      have rRr := rR1.kept hkr (by simp)
      have d0 : wr.cell? ⟨w.heap.size + 1 + 1, 0, none⟩ = some (.slice none 0 0) := by simpa using rRr.cell 0
      have d1 : wr.cell? ⟨w.heap.size + 1 + 1, 1, none⟩ = some (.int .i64 0) := by simpa using rRr.cell 1
      have e0 := rBr.free 0
      have f0 := rRr.free 0
      have f1 := rRr.free 1
      rw [List.take_length] at hor hlj ⊢
      obtain ⟨ls, hls⟩ : ∃ ls, stayB zs xs = ls := ⟨_, rfl⟩
      rw [hls] at hor hlj ⊢
      have HLS := Lib.hid hls
      clear hls
      have hz2' := HWW.out
      obtain ⟨V, hV⟩ : ∃ V, Value.slice (some ⟨g', 0, none⟩) ls.length cp = V := ⟨_, rfl⟩
      have hR := (rRr.other ⟨w.heap.size, 0, none⟩ V (by simp; omega)).set2 V (.int .i64 words)
      have hK := (((Kept.refl [w.heap.size, w.heap.size + 1 + 1] wr).set (p := ⟨w.heap.size, 0, none⟩) (.inl (by simp)) V).set2 (g := w.heap.size + 1 + 1) (.inl (by simp)) V (.int .i64 words))
      subst hV
      go_wp2
      (try simp only [Exit.inBlock, Exit.then])
      refine bodyPost_ret (results_cell2 rfl rfl (refS_load hR rfl)) rfl ?_
      have hkk : Kept [] w _ := (kW1.trans hkr).chain hK (by simp) (by simp; omega)
      have hown := own_kept hor hK (by simp; omega)
      exact ⟨some ⟨g', 0, none⟩, cp, by rw [HZ.out, HLS.out]; rfl, by rw [HZ.out, HLS.out]; exact RefL.of_own hown, .inr ⟨g', rfl, by omega⟩, hkk⟩
end Go.Proofs.Ytkfdkmdjdghdkaa
