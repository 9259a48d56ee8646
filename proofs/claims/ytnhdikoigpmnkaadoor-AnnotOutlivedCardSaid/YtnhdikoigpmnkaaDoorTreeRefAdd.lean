/- Package kraalref05: Add, Remove. -/
import Derived.Test.YtnhdikoigpmnkaaDoorTreeRef
namespace Go.Proofs.YtnhdikoigpmnkaaDoor
open Go.RowKit

/-- The cells of rows. -/
def cellsT (rs : List Rw) : List Value := rs.flatMap fun r => [.int .i64 r.1, .int .i64 r.2]
theorem cellsT_nil : cellsT [] = [] := rfl
theorem cellsT_append (a b : List Rw) : cellsT (a ++ b) = cellsT a ++ cellsT b := List.flatMap_append
theorem cellsT_one (x : Rw) : cellsT [x] = [.int .i64 x.1, .int .i64 x.2] := rfl
theorem cellsT_length : ∀ rs : List Rw, (cellsT rs).length = rs.length * 2
  | [] => rfl
  | r :: rs => by
    have := cellsT_length rs
    unfold cellsT at this ⊢
    rw [List.flatMap_cons, List.length_append, this]; simp; omega
theorem cellsT_get : ∀ (rs : List Rw) (j : Nat), j < rs.length → (cellsT rs)[j * 2]? = some (.int .i64 (rs[j]?.getD (0, 0)).1) ∧ (cellsT rs)[j * 2 + 1]? = some (.int .i64 (rs[j]?.getD (0, 0)).2)
  | r :: rs, 0, _ => by simp [cellsT]
  | r :: rs, j + 1, h => by
    have ih := cellsT_get rs j (by simpa using h)
    have e : cellsT (r :: rs) = .int .i64 r.1 :: .int .i64 r.2 :: cellsT rs := rfl
    rw [e, show (j + 1) * 2 = j * 2 + 1 + 1 by omega]
    simpa using ih
theorem cells_one {rs : List Rw} : ∀ u ∈ cellsT rs, u.oneCell' = true := by
  intro u hu
  obtain ⟨r, _, h⟩ := List.mem_flatMap.1 hu
  simp at h
  rcases h with rfl | rfl <;> rfl
theorem cellsT_inv {rs : List Rw} {j : Nat} {u : Value} (h : (cellsT rs)[j]? = some u) : j / 2 < rs.length := by
  have := (List.getElem?_eq_some_iff.1 h).1
  rw [cellsT_length] at this; omega
theorem SlT.toV {w : World} {a : Option Addr} {rs : List Rw} (h : SlT w a rs) : SlV w 2 a rs.length (cellsT rs) := by
  refine ⟨cellsT_length rs, ?_⟩
  rcases h with rfl | ⟨b, off, rfl, hb, hc⟩
  · exact .inl rfl
  · refine .inr ⟨b, off, rfl, hb, fun j u hu => ?_⟩
    have hj := cellsT_inv hu
    obtain ⟨h0, h1⟩ := cellsT_get rs _ hj
    obtain ⟨c0, c1⟩ := hc _ hj
    rcases Nat.mod_two_eq_zero_or_one j with hm | hm
    · have e : j / 2 * 2 = j := by omega
      rw [e] at h0 c0
      rw [h0] at hu; cases hu; exact c0
    · have e : j / 2 * 2 + 1 = j := by omega
      rw [e] at h1
      rw [show off + j / 2 * 2 + 1 = off + j by omega] at c1
      rw [h1] at hu; cases hu; exact c1
theorem SlT.of_own {w : World} {B : Nat} {e : TypeId} {g n c : Nat} {rs : List Rw} (h : w.ownsRow B e 2 (.slice (some ⟨g, 0, none⟩) n c) n (cellsT rs)) : SlT w (some ⟨g, 0, none⟩) rs := by
  have hc := h.cells (g := g) rfl
  refine .inr ⟨g, 0, rfl, own_lt h, fun j hj => ?_⟩
  obtain ⟨h0, h1⟩ := cellsT_get rs j hj
  have c0 := hc _ _ h0
  have c1 := hc _ _ h1
  rw [add_none] at c0 c1
  exact ⟨c0, by rw [Nat.add_assoc]; exact c1⟩
theorem SlT.drop {w : World} {b off : Nat} {rs : List Rw} {j : Nat} (h : SlT w (some ⟨b, off, none⟩) rs) : SlT w (some ⟨b, off + j * 2, none⟩) (rs.drop j) := by
  rcases h with rfl | ⟨b', off', e, hb, hc⟩
  · exact .inl (by simp)
  · cases e
    refine .inr ⟨b, off + j * 2, rfl, hb, fun i hi => ?_⟩
    rw [List.length_drop] at hi
    have := hc (j + i) (by omega)
    rw [List.getElem?_drop]
    rw [show off + j * 2 + i * 2 = off + (j + i) * 2 by omega]
    exact this

theorem sl_of_row2 {w : World} {g : Nat} {t : TypeId} {x p : Int} (h : Row w g t [.int .i64 x, .int .i64 p]) : SlV w 2 (some ⟨g, 0, none⟩) 1 [.int .i64 x, .int .i64 p] :=
  ⟨rfl, .inr ⟨g, 0, rfl, h.lt, fun j u hu => by rw [Nat.zero_add, h.cell j]; exact hu⟩⟩

/-- What Add and Remove leave: rows, and an error's number. -/
def RefPostT (rs' : List Rw) (n : Int) (w : World) (e : Ending) (w' : World) : Prop :=
  ∃ b off c, e = .returned (.tuple #[.slice (some ⟨b, off, none⟩) rs'.length c, .int .i64 n]) ∧ SlT w' (some ⟨b, off, none⟩) rs' ∧ (rs'.length ≤ c ∧ c ≤ maxLen) ∧ Kept [] w w'
theorem own_cap {w : World} {B : Nat} {e : TypeId} {size g n c : Nat} {vs : List Value} (h : w.ownsRow B e size (.slice (some ⟨g, 0, none⟩) n c) n vs) : n ≤ c ∧ c ≤ maxLen := by
  rcases h.2 with ⟨h, _⟩ | ⟨g', cap', cur, h, _, _, h1, h2, _⟩
  · cases h
  · simp only [Value.slice.injEq, Option.some.injEq, Addr.mk.injEq, and_true, true_and] at h
    obtain ⟨rfl, rfl⟩ := h
    exact ⟨h1, h2⟩

theorem info_row : (Tryd.prog.info? 60).map (fun i => (i.zero, i.size, i.bytes)) = some (some (.agg #[.int .i64 0, .int .i64 0]), 2, 16) := by kernel_rfl
theorem del_take_succ {rs : List Rw} {z : Int} {j : Nat} (hj : j < rs.length) {x p : Int} (h : rs[j]?.getD (0, 0) = (x, p)) : delB (rs.take (j + 1)) z = delB (rs.take j) z ++ (if x = z then [] else [(x, p)]) := by
  rw [List.getElem?_eq_getElem hj] at h
  simp only [Option.getD_some] at h
  unfold delB
  rw [List.take_succ_eq_append_getElem hj, h, List.filter_append]
  by_cases e : x = z <;> simp [e]

set_option maxRecDepth 100000 in
set_option maxHeartbeats 4000000 in
theorem refRemove05_any (ab ao cap : Nat) (rs : List Rw) (z : Int) (w : World) (hs : SlT w (some ⟨ab, ao, none⟩) rs) (hn : rs.length < 1099511627776) (hc : rs.length ≤ cap ∧ cap ≤ maxLen) :
    Calls Tryd.prog 20 #[.slice (some ⟨ab, ao, none⟩) rs.length cap, .int .i64 z] w (RefPostT (remB rs z).1 (remB rs z).2 w) := by
  obtain ⟨i0, hi, hz0, hz1, hz2⟩ := info_parts info_row
  go_enter Tryd.func20, Tryd.ntmps20
  go_wp2_with fail
  refine (refHas05_any _ cap rs z w hs hn).mono ?_
  rintro e w1 ⟨rfl, rfl⟩
  by_cases h1 : z ∈ idsT rs
  · have HI := Lib.hid h1
    rw [decide_eq_true h1]
    clear h1
    go_wp2_with fail
    refine (refKids05_any _ cap rs z w hs hn).mono ?_
    rintro e w1 ⟨gk, c, rfl, _, _, kw1⟩
    have hs1 := hs.kept kw1
    have hkl := kids_len rs z
    by_cases h2 : kidsB rs z = []
    · have HK := Lib.hid h2
      rw [h2]
      clear h2
      have own0 := own_empty w1 60 2 w1.heap.size (Nat.le_refl _)
      have k0 := (Kept.refl [] w1).alloc (.cells #[] 60)
      go_wp2_with fail
      generalize w1.alloc (.cells #[] 60) = W2 at own0 k0 ⊢
      go_loopw [6, 7] (fun o i wr => ∃ (j g' cp : Nat), j ≤ rs.length ∧ o = .slice (some ⟨g', 0, none⟩) (delB (rs.take j) z).length cp ∧ i = .int .i64 j ∧
          wr.ownsRow w1.heap.size 60 2 (.slice (some ⟨g', 0, none⟩) (delB (rs.take j) z).length cp) (delB (rs.take j) z).length (cellsT (delB (rs.take j) z)) ∧ Kept [] w1 wr) (fun _ i _ => rs.length - (intOf i).toNat)
      case atStart => exact ⟨0, w1.heap.size, 0, Nat.zero_le _, by simp [delB], rfl, by simpa [delB, cellsT] using own0, k0⟩
      case round =>
        obtain ⟨j, g', cp, hj, rfl, rfl, hor, hkr⟩ := hrel
        clear own0 k0
        have hgl := own_ge hor
        have hlj : (delB (rs.take j) z).length ≤ j := Nat.le_trans (List.length_filter_le _ _) (by simp; omega)
        by_cases hlt : j < rs.length
        · obtain ⟨b, off, he, cG, cH⟩ := (hs1.kept hkr).cell hlt
          cases he
          obtain ⟨⟨x, p⟩, hxp⟩ : ∃ xp, rs[j]?.getD (0, 0) = xp := ⟨_, rfl⟩
          have HS := Lib.hid (del_take_succ (z := z) hlt hxp)
          rw [hxp] at cG cH
          simp only at cG cH
          clear hxp
          by_cases hv : x = z
          · subst hv
            go_wp2
            go_roundw
            case rel =>
              have e1 := HS.out
              rw [if_pos rfl, List.append_nil] at e1
              exact ⟨j + 1, g', cp, by omega, by rw [e1], by go_num, by rw [e1]; exact hor, hkr⟩
            case measure => simp [intOf]; omega
          · have hv' : (x != z) = true := by simpa using hv
            have hv'' : (x == z) = false := by simpa using hv
            have HV := Lib.hid hv
            clear hv
            have rE := Row.new wr 60 [.int .i64 x, .int .i64 p]
            have kE := (Kept.refl [] wr).alloc (.cells #[.int .i64 x, .int .i64 p] 60)
            have rowE := own_kept hor kE (by simp)
            have sE : SlV _ 2 (some ⟨wr.heap.size, 0, none⟩) 1 [.int .i64 x, .int .i64 p] := sl_of_row2 rE
            have hsz := hkr.size
            generalize (delB (rs.take j) z).length = L at hor hlj rowE ⊢
            go_wp2_with (at_builtin; refine wpList_append_on _ rfl _ _ 26 rfl w1.heap.size 60 i0 (.agg #[.int .i64 0, .int .i64 0]) 2 16 Tryd.underlying26 hi hz0 hz1 hz2 rfl (by omega) g' L cp _ rfl rowE _ 1 1 _ rfl sE (cells_one (rs := [(x, p)])) (by unfold maxLen; omega) (by omega) (by simp; omega) ?_; intro g2 cp2 w3 hown3 hk3 hg3)
            go_roundw
            case rel =>
              have e1 := HS.out
              rw [if_neg HV.out] at e1
              have e2 : (delB (rs.take (j + 1)) z).length = L + 1 := by
                have := hown3.1
                rw [List.length_append, cellsT_length] at this
                rw [e1]; simp at this ⊢; omega
              exact ⟨j + 1, g2, cp2, by omega, by rw [e2], by go_num, by rw [e2, e1, cellsT_append, cellsT_one]; exact hown3, (hkr.alloc _).chain hk3 (by simp) (by simp; omega)⟩
            case measure => simp [intOf]; omega
        · obtain rfl : j = rs.length := by omega
          rw [List.take_length] at hor ⊢
          go_wp2
          go_ret2
          rw [remB_ok HI.out HK.out]
          exact ⟨g', 0, cp, rfl, SlT.of_own hor, own_cap hor, kw1.trans hkr⟩
    · have HK := Lib.hid h2
      have hpos : 0 < (kidsB rs z).length := List.length_pos_iff.2 h2
      clear h2
      go_wp2_with fail
      go_ret2
      rw [remB_busy HI.out HK.out]
      exact ⟨ab, ao, cap, rfl, hs1, hc, kw1⟩
  · have HI := Lib.hid h1
    rw [decide_eq_false h1]
    clear h1
    go_wp2_with fail
    go_ret2
    rw [remB_none HI.out]
    exact ⟨ab, ao, cap, rfl, hs, hc, Kept.refl _ _⟩
end Go.Proofs.YtnhdikoigpmnkaaDoor
