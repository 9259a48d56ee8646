/- Package kraalref09: Put. -/
import Derived.Test.YtkfdkmdjdghdkaaStartsRefDrop
namespace Go.Proofs.Ytkfdkmdjdghdkaa
open Go.RowKit

theorem Sl.drop {w : World} {k : IntKind} {b off : Nat} {zs : List Int} (h : Sl w k (some ⟨b, off, none⟩) zs) (j : Nat) : Sl w k (some ⟨b, off + j, none⟩) (zs.drop j) := by
  rcases h with h | ⟨b', off', e, hb, hc⟩
  · subst h; exact .inl (by simp)
  · cases e
    refine .inr ⟨b, off + j, rfl, hb, fun i hi => ?_⟩
    rw [List.length_drop] at hi
    have := hc (j + i) (by omega)
    rw [List.getElem?_drop, show off + j + i = off + (j + i) by omega]
    exact this
/-- Where the new one goes: behind the first j. -/
theorem insL_at {l : List Int} {z : Int} {j : Nat} (hj : j ≤ l.length) (h1 : ∀ i, i < j → l[i]?.getD 0 < z) (h2 : j = l.length ∨ ¬ l[j]?.getD 0 < z) : insL l z = l.take j ++ [z] ++ l.drop j := by
  have ha : ∀ r ∈ l.take j, (fun y => decide (y < z)) r = true := fun r hr => by
    obtain ⟨i, hi, e⟩ := List.getElem_of_mem hr
    rw [List.length_take] at hi
    have := h1 i (by omega)
    rw [List.getElem?_eq_getElem (by omega), Option.getD_some] at this
    rw [List.getElem_take] at e
    rw [← e]; simpa using this
  have hd : (l.drop j).takeWhile (fun y => decide (y < z)) = [] ∧ (l.drop j).dropWhile (fun y => decide (y < z)) = l.drop j := by
    by_cases e : j = l.length
    · subst e; simp
    · have hlt : j < l.length := by omega
      have h3 : ¬ l[j] < z := by
        rcases h2 with h | h
        · omega
        · rwa [List.getElem?_eq_getElem hlt, Option.getD_some] at h
      rw [List.drop_eq_getElem_cons hlt]
      exact ⟨List.takeWhile_cons_of_neg (by simpa using h3), List.dropWhile_cons_of_neg (by simpa using h3)⟩
  have e : l = l.take j ++ l.drop j := (List.take_append_drop j l).symm
  rw [insL_eq]
  conv => lhs; rw [e]
  rw [List.takeWhile_append_of_pos ha, List.dropWhile_append_of_pos ha, hd.1, hd.2, List.append_nil]

/-- The document's Put. -/
def refPutE (words : Int) (l : List Int) (z : Int) : Int := if z < 1 ∨ words ≤ z then 8 else if z ∈ l then 6 else 0
def refPutB (words : Int) (l : List Int) (z : Int) : List Int := if refPutE words l z = 0 then insL l z else l

/-- Two new blocks. -/
theorem two_new (w : World) (o0 o1 : Obj) : ∃ W, ((w.alloc o0).alloc o1) = W ∧ W.heap.size = w.heap.size + 1 + 1 ∧ Kept [] w W ∧ W.heap[w.heap.size]? = some o0 ∧ W.heap[w.heap.size + 1]? = some o1 := by
  have n0 := heap_alloc_new w o0
  have n1 := heap_alloc_new (w.alloc o0) o1
  simp only [World.size_alloc] at n1
  have up : ∀ (W : World) (o : Obj) {k : Nat} {v : Obj}, W.heap[k]? = some v → (W.alloc o).heap[k]? = some v := fun W o k v h => (Below.heap_alloc W o k (Array.getElem?_eq_some_iff.1 h).1).trans h
  exact ⟨_, rfl, by simp, ((Kept.refl [] w).alloc _).alloc _, up _ _ n0, n1⟩

set_option maxRecDepth 100000 in
set_option maxHeartbeats 4000000 in
theorem refPut09_any (A : Option Addr) (n cap : Nat) (words z : Int) (xs : List Int) (w : World) (hs : RefL w A cap xs) (hn : xs.length = n) (hx : n ≤ 1048576) :
    Calls Try.prog 11 #[refS A n cap words, .int .i64 z] w (RefSPost A (refPutB words xs z) words (refPutE words xs z) w) := by
  subst hn
  obtain ⟨i0, hi, hz0, hz1, hz2⟩ := info_parts infoI
  obtain ⟨W, hW, hWz, kW, r0, r1⟩ := two_new w (.cells #[.slice A xs.length cap, .int .i64 words] 30) (.cells #[.slice none 0 0, .int .i64 0] 30)
  have rB : Row W w.heap.size 30 [.slice A xs.length cap, .int .i64 words] := r0
  have rR : Row W (w.heap.size + 1) 30 [.slice none 0 0, .int .i64 0] := r1
  have hsW := hs.kept kW
  have b0 : W.cell? ⟨w.heap.size, 0, none⟩ = some (.slice A xs.length cap) := by simpa using rB.cell 0
  have b1 : W.cell? ⟨w.heap.size, 1, none⟩ = some (.int .i64 words) := by simpa using rB.cell 1
  have d0 : W.cell? ⟨w.heap.size + 1, 0, none⟩ = some (.slice none 0 0) := by simpa using rR.cell 0
  have d1 : W.cell? ⟨w.heap.size + 1, 1, none⟩ = some (.int .i64 0) := by simpa using rR.cell 1
  have f0 := rR.free 0
  have f1 := rR.free 1
  clear r0 r1
  by_cases hr : z < 1 ∨ words ≤ z
  · have HE : Hid (refPutE words xs z = 8) := by show _ = _; unfold refPutE; rw [if_pos hr]
    have HB : Hid (refPutB words xs z = xs) := by show _ = _; unfold refPutB; rw [HE.out]; rfl
    have hR := rR.set2 (.slice A xs.length cap) (.int .i64 words)
    have hK := (Kept.refl [w.heap.size + 1] W).set2 (g := w.heap.size + 1) (.inl (by simp)) (.slice A xs.length cap) (.int .i64 words)
    unfold refS
    rcases (show z < 1 ∨ (¬ z < 1 ∧ words ≤ z) by omega) with h1 | ⟨h1, h2⟩
    · have h1' : decide (z < 1) = true := by simpa using h1
      go_enter Try.func11, Try.ntmps11
      go_wp2
      (try simp only [Exit.inBlock, Exit.then])
      refine bodyPost_ret (results_cell2 rfl rfl (refS_load hR rfl)) rfl ?_
      have hkk : Kept [] w _ := kW.chain hK (by simp) (by simp)
      exact ⟨A, cap, by rw [HB.out, HE.out]; rfl, by rw [HB.out]; exact hs.kept hkk, .inl rfl, hkk⟩
    · have h1' : decide (z < 1) = false := by simpa using h1
      go_enter Try.func11, Try.ntmps11
      go_wp2
      (try simp only [Exit.inBlock, Exit.then])
      refine bodyPost_ret (results_cell2 rfl rfl (refS_load hR rfl)) rfl ?_
      have hkk : Kept [] w _ := kW.chain hK (by simp) (by simp)
      exact ⟨A, cap, by rw [HB.out, HE.out]; rfl, by rw [HB.out]; exact hs.kept hkk, .inl rfl, hkk⟩
  · have h1' : decide (z < 1) = false := by simp; omega
    have h2' : decide (words ≤ z) = false := by simp; omega
    unfold refS
    go_enter Try.func11, Try.ntmps11
    go_wp2_with fail
    clear hW b0 b1 d0 d1 f0 f1
    refine (refIs09_any A xs.length cap words z xs W hsW.1 rfl (by omega)).mono ?_
    rintro e W1 ⟨rfl, k1⟩
    have kW1 := kW.trans k1
    have hs1 := hs.kept kW1
    have rB1 := rB.kept k1 (by simp)
    have rR1 := rR.kept k1 (by simp)
    have hW1 := k1.size
    have HWW : Hid (w.heap.size + 2 ≤ W1.heap.size) := by show _ ≤ _; omega
    have c0 : W1.cell? ⟨w.heap.size, 0, none⟩ = some (.slice A xs.length cap) := by simpa using rB1.cell 0
    clear k1 kW rB rR hsW hWz hW1
    by_cases hin : z ∈ xs
    · have HE : Hid (refPutE words xs z = 6) := by show _ = _; unfold refPutE; rw [if_neg hr, if_pos hin]
      have HB : Hid (refPutB words xs z = xs) := by show _ = _; unfold refPutB; rw [HE.out]; rfl
      rw [decide_eq_true hin]
      clear hin
      have c1 : W1.cell? ⟨w.heap.size, 1, none⟩ = some (.int .i64 words) := by simpa using rB1.cell 1
      have d0 : W1.cell? ⟨w.heap.size + 1, 0, none⟩ = some (.slice none 0 0) := by simpa using rR1.cell 0
      have d1 : W1.cell? ⟨w.heap.size + 1, 1, none⟩ = some (.int .i64 0) := by simpa using rR1.cell 1
      have f0 := rR1.free 0
      have f1 := rR1.free 1
      have hR := rR1.set2 (.slice A xs.length cap) (.int .i64 words)
      have hK := (Kept.refl [w.heap.size + 1] W1).set2 (g := w.heap.size + 1) (.inl (by simp)) (.slice A xs.length cap) (.int .i64 words)
      go_wp2
      (try simp only [Exit.inBlock, Exit.then])
      refine bodyPost_ret (results_cell2 rfl rfl (refS_load hR rfl)) rfl ?_
      have hkk : Kept [] w _ := kW1.chain hK (by simp) (by simp)
      exact ⟨A, cap, by rw [HB.out, HE.out]; rfl, by rw [HB.out]; exact hs.kept hkk, .inl rfl, hkk⟩
    · have HE : Hid (refPutE words xs z = 0) := by show _ = _; unfold refPutE; rw [if_neg hr, if_neg hin]
      have HB : Hid (refPutB words xs z = insL xs z) := by show _ = _; unfold refPutB; rw [if_pos HE.out]
      rw [decide_eq_false hin]
      clear hin
      have own0 := own_empty W1 3 1 W1.heap.size (Nat.le_refl _)
      have k0 := (Kept.refl [] W1).alloc (.cells #[] 3)
      go_wp2_with fail
      generalize W1.alloc (.cells #[] 3) = W2 at own0 k0 ⊢
      go_loopw [6, 7] (fun o i wr => ∃ (j g' cp : Nat), j ≤ xs.length ∧ o = .slice (some ⟨g', 0, none⟩) j cp ∧ i = .int .i64 j ∧
          wr.ownsRow W1.heap.size 3 1 (.slice (some ⟨g', 0, none⟩) j cp) j ((xs.take j).map (Value.int .i64)) ∧ Hid (∀ i, i < j → xs[i]?.getD 0 < z) ∧ Kept [] W1 wr) (fun _ i _ => xs.length - (intOf i).toNat)
      case atStart => exact ⟨0, W1.heap.size, 0, Nat.zero_le _, rfl, rfl, by simpa using own0, fun i hi => by omega, k0⟩
      case round =>
        obtain ⟨j, g', cp, hj, rfl, rfl, hor, HA, hkr⟩ := hrel
        clear own0 k0
        have hgl := own_ge hor
        have hsr := hs1.kept hkr
        have rBr := rB1.kept hkr (by simp)
        have rRr := rR1.kept hkr (by simp)
        have c0 : wr.cell? ⟨w.heap.size, 0, none⟩ = some (.slice A xs.length cap) := by simpa using rBr.cell 0
        have c1 : wr.cell? ⟨w.heap.size, 1, none⟩ = some (.int .i64 words) := by simpa using rBr.cell 1
        by_cases hlt : j < xs.length
        · obtain ⟨b, off, rfl, cG⟩ := hsr.1.cell hlt
          obtain ⟨y, hy⟩ : ∃ y, xs[j]?.getD 0 = y := ⟨_, rfl⟩
          rw [hy] at cG
          have HY := Lib.hid hy
          clear hy
          by_cases hv : y < z
          · have HV := Lib.hid hv
            have hszq := hkr.size
            go_wp2_with (at_builtin; refine wpList_append_one _ rfl _ _ 28 rfl W1.heap.size 3 i0 (.int .i64 0) 8 Try.underlying28 hi hz0 hz1 hz2 rfl wr (.int .i64 y) (.slice (some ⟨g', 0, none⟩) j cp) j ((xs.take j).map (Value.int .i64)) rfl rfl rfl hor hszq rfl (by omega) (by omega) ?_; intro g2 cp2 w3 hown3 hk3 hg3)
            go_roundw
            case rel =>
              refine ⟨j + 1, g2, cp2, by omega, rfl, by go_num, ?_, fun i hi => ?_, hkr.chain hk3 (by simp) (by intro i hi hl; simp [Value.ownBlock] at hi; omega)⟩
              · have hx := HY.out
                rw [List.getElem?_eq_getElem hlt, Option.getD_some] at hx
                rw [List.take_succ_eq_append_getElem hlt, hx, List.map_append]
                exact hown3
              · by_cases e : i = j
                · subst e; rw [HY.out]; exact HV.out
                · exact HA.out i (by omega)
            case measure => simp [intOf]; omega
          · have hv' : decide (y < z) = false := by simpa using hv
            have HV := Lib.hid hv
            clear hv
            have HT := Lib.hid (insL_at hj HA.out (.inr (by rw [HY.out]; exact HV.out)))
            have hszq := hkr.size
            have hcap := hsr.2.1
            have hcm : cap ≤ 9223372036854775807 := by have := hcap.2; unfold maxLen at this; omega
            have hcl := hcap.1
            clear hcap
            go_wp2_with (first
              | (at_builtin; refine wpList_append_one _ rfl _ _ 28 rfl W1.heap.size 3 i0 (.int .i64 0) 8 Try.underlying28 hi hz0 hz1 hz2 rfl wr (.int .i64 z) (.slice (some ⟨g', 0, none⟩) j cp) j ((xs.take j).map (Value.int .i64)) rfl rfl rfl hor hszq rfl (by omega) (by omega) ?_; intro g2 cp2 w3 hown3 hk3 hg3; have hkA : Kept [] W1 w3 := (hkr.chain hk3 (by simp) (by intro i hi hl; simp [Value.ownBlock] at hi; omega)); have sD := ((hs1.kept hkA).1.drop j).toV; have hdl : (xs.drop j).length = xs.length - j := List.length_drop; have c03 : w3.cell? ⟨w.heap.size, 0, none⟩ = some (.slice (some ⟨b, off, none⟩) xs.length cap) := (by simpa using (rB1.kept hkA (by simp)).cell 0))
              | (at_builtin; refine wpList_append_on _ rfl _ _ 28 rfl W1.heap.size 3 i0 (.int .i64 0) 1 8 Try.underlying28 hi hz0 hz1 hz2 rfl (by omega) g2 (j + 1) cp2 _ rfl hown3 _ (xs.length - j) _ _ rfl (by rw [← hdl]; exact sD) int_oneCell (by unfold maxLen; omega) (by omega) hkA.size ?_; intro g3 cp3 w4 hown4 hk4 hg4; have hkB : Kept [] W1 w4 := (hkA.chain hk4 (by simp) (by have := own_ge hown3; simp; omega)); have rB4 := rB1.kept hkB (by simp); have rR4 := rR1.kept hkB (by simp); have c04 : w4.cell? ⟨w.heap.size, 0, none⟩ = some (.slice (some ⟨b, off, none⟩) xs.length cap) := (by simpa using rB4.cell 0); have c14 : w4.cell? ⟨w.heap.size, 1, none⟩ = some (.int .i64 words) := (by simpa using rB4.cell 1); have d04 : w4.cell? ⟨w.heap.size + 1, 0, none⟩ = some (.slice none 0 0) := (by simpa using rR4.cell 0); have d14 : w4.cell? ⟨w.heap.size + 1, 1, none⟩ = some (.int .i64 0) := (by simpa using rR4.cell 1); have e04 := rB4.free 0; have f04 := rR4.free 0; have f14 := rR4.free 1))
            (try simp only [Exit.inBlock, Exit.then])
            have hlen : j + 1 + (xs.length - j) = (insL xs z).length := by rw [insL_len]; omega
            have hww := HWW.out
            have hgl4 := own_ge hown4
            rw [hlen] at hown4 ⊢
            have hR := (rR4.other ⟨w.heap.size, 0, none⟩ (.slice (some ⟨g3, 0, none⟩) (insL xs z).length cp3) (by simp)).set2 (.slice (some ⟨g3, 0, none⟩) (insL xs z).length cp3) (.int .i64 words)
            have hK := (((Kept.refl [w.heap.size, w.heap.size + 1] w4).set (p := ⟨w.heap.size, 0, none⟩) (.inl (by simp)) (.slice (some ⟨g3, 0, none⟩) (insL xs z).length cp3)).set2 (g := w.heap.size + 1) (.inl (by simp)) (.slice (some ⟨g3, 0, none⟩) (insL xs z).length cp3) (.int .i64 words))
            refine bodyPost_ret (results_cell2 rfl rfl (refS_load hR rfl)) rfl ?_
            have hkk : Kept [] w _ := (kW1.trans hkB).chain hK (by simp) (by simp)
            have hown : w4.ownsRow W1.heap.size 3 1 (.slice (some ⟨g3, 0, none⟩) (insL xs z).length cp3) (insL xs z).length ((insL xs z).map (Value.int .i64)) := by
              rw [HT.out] at hown4 ⊢
              rw [List.map_append, List.map_append]
              exact hown4
            have hown5 := own_kept hown hK (by simp; omega)
            exact ⟨some ⟨g3, 0, none⟩, cp3, by rw [HB.out, HE.out]; rfl, by rw [HB.out]; exact RefL.of_own hown5, .inr ⟨g3, rfl, by omega⟩, hkk⟩
        · obtain rfl : j = xs.length := by omega
          have HT := Lib.hid (insL_at (z := z) hj HA.out (.inl rfl))
          have hszq := hkr.size
          have hcap := hsr.2.1
          have hcm : cap ≤ 9223372036854775807 := by have := hcap.2; unfold maxLen at this; omega
          have hcl := hcap.1
          clear hcap
          rcases hsr.2.2 with ⟨rfl, rfl⟩ | ⟨b, off, rfl⟩
          · go_wp2_with (first
              | (at_builtin; refine wpList_append_one _ rfl _ _ 28 rfl W1.heap.size 3 i0 (.int .i64 0) 8 Try.underlying28 hi hz0 hz1 hz2 rfl wr (.int .i64 z) (.slice (some ⟨g', 0, none⟩) xs.length cp) xs.length ((xs.take xs.length).map (Value.int .i64)) rfl rfl rfl hor hszq rfl (by omega) (by omega) ?_; intro g2 cp2 w3 hown3 hk3 hg3; have hkA : Kept [] W1 w3 := (hkr.chain hk3 (by simp) (by intro i hi hl; simp [Value.ownBlock] at hi; omega)); have sD : ∀ a, SlV w3 1 a 0 [] := (fun a => ⟨rfl, .inl rfl⟩); have c03 : w3.cell? ⟨w.heap.size, 0, none⟩ = some (.slice none xs.length 0) := (by simpa using (rB1.kept hkA (by simp)).cell 0))
              | (at_builtin; refine wpList_append_on _ rfl _ _ 28 rfl W1.heap.size 3 i0 (.int .i64 0) 1 8 Try.underlying28 hi hz0 hz1 hz2 rfl (by omega) g2 (xs.length + 1) cp2 _ rfl hown3 _ 0 _ [] rfl (sD _) (fun u hu => by cases hu) (by unfold maxLen; omega) (by omega) hkA.size ?_; intro g3 cp3 w4 hown4 hk4 hg4; have hkB : Kept [] W1 w4 := (hkA.chain hk4 (by simp) (by have := own_ge hown3; simp; omega)); have rB4 := rB1.kept hkB (by simp); have rR4 := rR1.kept hkB (by simp); have c04 : w4.cell? ⟨w.heap.size, 0, none⟩ = some (.slice none xs.length 0) := (by simpa using rB4.cell 0); have c14 : w4.cell? ⟨w.heap.size, 1, none⟩ = some (.int .i64 words) := (by simpa using rB4.cell 1); have d04 : w4.cell? ⟨w.heap.size + 1, 0, none⟩ = some (.slice none 0 0) := (by simpa using rR4.cell 0); have d14 : w4.cell? ⟨w.heap.size + 1, 1, none⟩ = some (.int .i64 0) := (by simpa using rR4.cell 1); have e04 := rB4.free 0; have f04 := rR4.free 0; have f14 := rR4.free 1))
            all_goals
              (try simp only [Exit.inBlock, Exit.then])
              have hlen : xs.length + 1 = (insL xs z).length := by rw [insL_len]
              have hww := HWW.out
              have hgl4 := own_ge hown4
              simp only [Nat.add_zero] at hown4 ⊢
              rw [hlen] at hown4 ⊢
              have hR := (rR4.other ⟨w.heap.size, 0, none⟩ (.slice (some ⟨g3, 0, none⟩) (insL xs z).length cp3) (by simp)).set2 (.slice (some ⟨g3, 0, none⟩) (insL xs z).length cp3) (.int .i64 words)
              have hK := (((Kept.refl [w.heap.size, w.heap.size + 1] w4).set (p := ⟨w.heap.size, 0, none⟩) (.inl (by simp)) (.slice (some ⟨g3, 0, none⟩) (insL xs z).length cp3)).set2 (g := w.heap.size + 1) (.inl (by simp)) (.slice (some ⟨g3, 0, none⟩) (insL xs z).length cp3) (.int .i64 words))
              refine bodyPost_ret (results_cell2 rfl rfl (refS_load hR rfl)) rfl ?_
              have hkk : Kept [] w _ := (kW1.trans hkB).chain hK (by simp) (by simp)
              have hown : w4.ownsRow W1.heap.size 3 1 (.slice (some ⟨g3, 0, none⟩) (insL xs z).length cp3) (insL xs z).length ((insL xs z).map (Value.int .i64)) := by
                rw [HT.out, List.drop_length, List.append_nil] at hown4 ⊢
                rw [List.map_append]
                rw [List.append_nil] at hown4
                exact hown4
              have hown5 := own_kept hown hK (by simp; omega)
              exact ⟨some ⟨g3, 0, none⟩, cp3, by rw [HB.out, HE.out]; rfl, by rw [HB.out]; exact RefL.of_own hown5, .inr ⟨g3, rfl, by omega⟩, hkk⟩
          · go_wp2_with (first
              | (at_builtin; refine wpList_append_one _ rfl _ _ 28 rfl W1.heap.size 3 i0 (.int .i64 0) 8 Try.underlying28 hi hz0 hz1 hz2 rfl wr (.int .i64 z) (.slice (some ⟨g', 0, none⟩) xs.length cp) xs.length ((xs.take xs.length).map (Value.int .i64)) rfl rfl rfl hor hszq rfl (by omega) (by omega) ?_; intro g2 cp2 w3 hown3 hk3 hg3; have hkA : Kept [] W1 w3 := (hkr.chain hk3 (by simp) (by intro i hi hl; simp [Value.ownBlock] at hi; omega)); have sD : ∀ a, SlV w3 1 a 0 [] := (fun a => ⟨rfl, .inl rfl⟩); have c03 : w3.cell? ⟨w.heap.size, 0, none⟩ = some (.slice (some ⟨b, off, none⟩) xs.length cap) := (by simpa using (rB1.kept hkA (by simp)).cell 0))
              | (at_builtin; refine wpList_append_on _ rfl _ _ 28 rfl W1.heap.size 3 i0 (.int .i64 0) 1 8 Try.underlying28 hi hz0 hz1 hz2 rfl (by omega) g2 (xs.length + 1) cp2 _ rfl hown3 _ 0 _ [] rfl (sD _) (fun u hu => by cases hu) (by unfold maxLen; omega) (by omega) hkA.size ?_; intro g3 cp3 w4 hown4 hk4 hg4; have hkB : Kept [] W1 w4 := (hkA.chain hk4 (by simp) (by have := own_ge hown3; simp; omega)); have rB4 := rB1.kept hkB (by simp); have rR4 := rR1.kept hkB (by simp); have c04 : w4.cell? ⟨w.heap.size, 0, none⟩ = some (.slice (some ⟨b, off, none⟩) xs.length cap) := (by simpa using rB4.cell 0); have c14 : w4.cell? ⟨w.heap.size, 1, none⟩ = some (.int .i64 words) := (by simpa using rB4.cell 1); have d04 : w4.cell? ⟨w.heap.size + 1, 0, none⟩ = some (.slice none 0 0) := (by simpa using rR4.cell 0); have d14 : w4.cell? ⟨w.heap.size + 1, 1, none⟩ = some (.int .i64 0) := (by simpa using rR4.cell 1); have e04 := rB4.free 0; have f04 := rR4.free 0; have f14 := rR4.free 1))
            all_goals
              (try simp only [Exit.inBlock, Exit.then])
              have hlen : xs.length + 1 = (insL xs z).length := by rw [insL_len]
              have hww := HWW.out
              have hgl4 := own_ge hown4
              simp only [Nat.add_zero] at hown4 ⊢
              rw [hlen] at hown4 ⊢
              have hR := (rR4.other ⟨w.heap.size, 0, none⟩ (.slice (some ⟨g3, 0, none⟩) (insL xs z).length cp3) (by simp)).set2 (.slice (some ⟨g3, 0, none⟩) (insL xs z).length cp3) (.int .i64 words)
              have hK := (((Kept.refl [w.heap.size, w.heap.size + 1] w4).set (p := ⟨w.heap.size, 0, none⟩) (.inl (by simp)) (.slice (some ⟨g3, 0, none⟩) (insL xs z).length cp3)).set2 (g := w.heap.size + 1) (.inl (by simp)) (.slice (some ⟨g3, 0, none⟩) (insL xs z).length cp3) (.int .i64 words))
              refine bodyPost_ret (results_cell2 rfl rfl (refS_load hR rfl)) rfl ?_
              have hkk : Kept [] w _ := (kW1.trans hkB).chain hK (by simp) (by simp)
              have hown : w4.ownsRow W1.heap.size 3 1 (.slice (some ⟨g3, 0, none⟩) (insL xs z).length cp3) (insL xs z).length ((insL xs z).map (Value.int .i64)) := by
                rw [HT.out, List.drop_length, List.append_nil] at hown4 ⊢
                rw [List.map_append]
                rw [List.append_nil] at hown4
                exact hown4
              have hown5 := own_kept hown hK (by simp; omega)
              exact ⟨some ⟨g3, 0, none⟩, cp3, by rw [HB.out, HE.out]; rfl, by rw [HB.out]; exact RefL.of_own hown5, .inr ⟨g3, rfl, by omega⟩, hkk⟩
end Go.Proofs.Ytkfdkmdjdghdkaa
