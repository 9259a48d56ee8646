/- Package kraalref05: Walk. -/
import Derived.Test.YtnooamkbejbalaaTreeRef
import Derived.Test.YtnooamkbejbalaaTreeWalk
import Derived.Deep.RegionLaw
namespace Go.Proofs.Ytnooamkbejbalaa
open Go.RowKit Go.Shelf

/-- A call as one step of a region that draws its order. -/
theorem step_call {P : Program} {w : World} {ops : Array Oper} {o : Oper} {a : Act} {K : Act → World → Prop} {Q : Exit → Act → World → Prop} {E : Prop} (hgd : o.guard = none) (f : FuncId) (xs : Array Operand) (ts : Array TypeId)
    (ho : o.op = .call { callee := .value (.func f), args := xs, argTypes := ts }) (he : ∀ args w, (callFunc f args).run P w = .ok (.enter f args) w) (args : Array Value) (hx : xs.map a.eval = args) {R : Ending → World → Prop} (hc : Calls P f args w R)
    (h : ∀ e w', R e w' → ∃ v, e = .returned v ∧ K (a.put o.dst v) w') : if Region.wanted o (yielded ops a.tmps) = true then Oper.wp P o a w K Q else E := by
  have hw : Region.wanted o (yielded ops a.tmps) = true := by simp [Region.wanted, hgd]
  rw [if_pos hw]
  unfold Oper.wp
  simp only [execOp, ho]
  have hrun : (resolve a.eval { callee := Callee.value (Operand.func f), args := xs, argTypes := ts } o.type >>= fun d => invoke d.target d.args).run P w = .ok (.enter f args) w := by
    simp [resolve, invoke, go_sem, hx, he]
  rw [hrun, Oper.upon_enter]
  refine hc.mono (fun e w' hr => ?_)
  obtain ⟨v, rfl, hk⟩ := h e w' hr
  exact hk

/-- The same, the world told by an equation of its own (that an arm which does not fit fails at once). -/
theorem step_callE {P : Program} {w w0 : World} {ops : Array Oper} {o : Oper} {a : Act} {K : Act → World → Prop} {Q : Exit → Act → World → Prop} {E : Prop} (hw : w = w0) (hgd : o.guard = none) (f : FuncId) (x y : Operand) (ts : Array TypeId)
    (ho : o.op = .call { callee := .value (.func f), args := #[x, y], argTypes := ts }) (he : ∀ args w, (callFunc f args).run P w = .ok (.enter f args) w) (u v : Value) (hx : a.eval x = u) (hy : a.eval y = v) {R : Ending → World → Prop} (hc : Calls P f #[u, v] w0 R)
    (h : ∀ e w', R e w' → ∃ v, e = .returned v ∧ K (a.put o.dst v) w') : if Region.wanted o (yielded ops a.tmps) = true then Oper.wp P o a w K Q else E := by
  subst hw
  exact step_call hgd f _ ts ho he _ (by simp [hx, hy]) hc h
theorem Fine.walk_le {k : Nat} {rs : List Rw} (hf : Fine k rs) (hk : k < 1000) (z : Int) : (walkB rs z).length ≤ rs.length := by
  by_cases h : z ∈ idsT rs
  · obtain ⟨A, C, e⟩ := hf.stands hk ((hf.walk_all hk).2 h)
    have := hf.walk_len hk
    rw [e] at this
    simp [subT] at this; omega
  · by_cases h0 : z = 0
    · subst h0; rw [hf.walk_len hk]; exact Nat.le_refl _
    · rw [hf.walk hk z]
      have : kidsB rs z = [] := List.eq_nil_iff_forall_not_mem.2 (fun x hx => by
        have := hf.up _ (mem_kids.1 hx)
        simp only at this
        rcases this with e | e
        · exact h0 e
        · exact h e)
      simp [this]

set_option maxRecDepth 100000 in
set_option maxHeartbeats 1000000 in
theorem refWalk05_any {k : Nat} (rs : List Rw) (hf : Fine k rs) (hk : k < 1000) (z : Int) :
    ∀ (ab ao cap : Nat) (w : World), SlT w (some ⟨ab, ao, none⟩) rs → Calls Try.prog 12 #[.slice (some ⟨ab, ao, none⟩) rs.length cap, .int .i64 z] w (NewList (walkB rs z) w) := by
  refine hf.ind (P := fun z => ∀ (ab ao cap : Nat) (w : World), SlT w (some ⟨ab, ao, none⟩) rs → Calls Try.prog 12 #[.slice (some ⟨ab, ao, none⟩) rs.length cap, .int .i64 z] w (NewList (walkB rs z) w)) ?_ z
  intro z ih ab ao cap w hs
  obtain ⟨i0, hi, hz0, hz1, hz2⟩ := info_parts info_int
  have hrl := hf.len
  have own0 := own_empty w 3 1 w.heap.size (Nat.le_refl _)
  have k0 := (Kept.refl [] w).alloc (.cells #[] 3)
  have hW1 : (w.alloc (.cells #[] 3)).heap.size = w.heap.size + 1 := by simp
  have hent := enters_of Try.func12 (by kernel_rfl) rfl
  go_enter Try.func12, Try.ntmps12
  go_wp2_with fail
  generalize w.alloc (.cells #[] 3) = W1 at own0 k0 hW1 ⊢
  refine (refKids05_any _ cap rs z W1 (hs.kept k0) (by omega)).mono ?_
  rintro e W2 ⟨gk, ck, rfl, hgk, hok, kK⟩
  have hsk := Sl.of_own hok
  have hgk2 := own_lt hok
  have own2 := own_kept own0 kK (by simp)
  have k2 := k0.trans kK
  clear own0 k0 kK hok
  go_wp2_with fail
  go_loopw [5, 7] (fun o i wr => ∃ (j g' cp : Nat), j ≤ (kidsB rs z).length ∧ o = .slice (some ⟨g', 0, none⟩) (firstB rs z j).length cp ∧ i = .int .i64 j ∧ (g' = w.heap.size ∨ W2.heap.size ≤ g') ∧
      wr.ownsRow w.heap.size 3 1 (.slice (some ⟨g', 0, none⟩) (firstB rs z j).length cp) (firstB rs z j).length ((firstB rs z j).map (Value.int .i64)) ∧ Kept [w.heap.size] W2 wr) (fun _ i _ => (kidsB rs z).length - (intOf i).toNat)
  case atStart => exact ⟨0, w.heap.size, 0, Nat.zero_le _, by simp [firstB], rfl, .inl rfl, by simpa [firstB] using own2, Kept.refl _ _⟩
  case round =>
    obtain ⟨j, g', cp, hj, rfl, rfl, hgr, hor, hkr⟩ := hrel
    clear own2
    have hgl := own_ge hor
    have hgl2 := own_lt hor
    have hkl := kids_len rs z
    by_cases hlt : j < (kidsB rs z).length
    · obtain ⟨x, hx⟩ : ∃ x, (kidsB rs z)[j] = x := ⟨_, rfl⟩
      have hxm : x ∈ kidsB rs z := hx ▸ List.getElem_mem _
      have HS := Lib.hid (firstB_succ (rs := rs) (z := z) hlt)
      have hlen := firstB_len hf hk hlt
      have hwl := hf.walk_le hk z
      rw [hx] at HS hlen
      obtain ⟨bk, okk, he, hck⟩ := (hsk.keptS hkr (by simp; omega)).cell hlt
      obtain ⟨rfl, rfl⟩ : gk = bk ∧ 0 = okk := by simpa using he
      rw [Nat.zero_add, List.getElem?_eq_getElem hlt, hx, Option.getD_some] at hck
      have HL := Lib.hid hlen
      have hbk := lt_of_cell hck
      have hcall := ih x hxm
      have kwr : Kept [] w wr := k2.chain hkr (by simp) (by simp)
      have hsw := hs.kept kwr
      obtain ⟨L, hL⟩ : ∃ L, (firstB rs z j).length = L := ⟨_, rfl⟩
      rw [hL] at hor hlen ⊢
      have HLe := Lib.hid hL
      have hab : ab < w.heap.size := by
        rcases hs with h | ⟨b, off, he, hb, _⟩
        · have h0 : rs.length = 0 := by rw [h]; rfl
          omega
        · cases he; exact hb
      clear hx ih hs hL
      -- what the region asks of the worlds that it comes through
      have E1 : ∀ o, Kept [] wr (wr.alloc o).drew := fun o => ((Kept.refl _ _).alloc o).drew
      have E0 : Kept [] wr wr.drew := (Kept.refl [] wr).drew
      have cA : ∀ o, (wr.alloc o).cell? ⟨gk, j, none⟩ = some (.int .i64 x) := fun o => (World.cell?_of_block (w := wr) (a := ⟨gk, j, none⟩) (Below.heap_alloc wr o gk hbk)).trans hck
      have ownA : (wr.alloc (.cells #[.int .i64 x] 3)).drew.ownsRow w.heap.size 3 1 (.slice (some ⟨g', 0, none⟩) L cp) L ((firstB rs z j).map (Value.int .i64)) := own_kept hor (E1 _) (by simp)
      have rEA : Row (wr.alloc (.cells #[.int .i64 x] 3)).drew wr.heap.size 3 [.int .i64 x] := (Row.new wr 3 [.int .i64 x]).drew
      have own0 : wr.drew.ownsRow w.heap.size 3 1 (.slice (some ⟨g', 0, none⟩) L cp) L ((firstB rs z j).map (Value.int .i64)) := own_kept hor E0 (by simp)
      have hszw : w.heap.size ≤ wr.heap.size := Nat.le_trans k2.size hkr.size
      go_wp2_with fail
      go_region_law (first
        | (refine step_append_on (by rfl) _ _ _ (by rfl) w.heap.size 3 i0 (.int .i64 0) 1 8 Try.underlying35 hi hz0 hz1 hz2 rfl (by omega) g' L cp _ (by rfl) ownA _ 1 1 _ (by rfl) (Sl.of_row (k := .i64) (xs := [x]) rEA).toV int_oneCell (by unfold maxLen; omega) (by omega) (Nat.le_trans hszw (E1 _).size) ?_; intro g1 p1 w1 hown1 hk1 hg1; have kA1 : Kept [g'] wr w1 := (E1 _).any.trans hk1; have hG : g1 = g' ∨ wr.heap.size ≤ g1 := hg1.imp id (fun h => by rw [h]; exact (E1 _).size); have d1 : w1.cell? ⟨gk, j, none⟩ = some (.int .i64 x) := (World.cell?_of_block (w := wr) (a := ⟨gk, j, none⟩) (kA1.block gk hbk (by simp; omega))).trans hck; have hsA1 : SlT w1 (some ⟨ab, ao, none⟩) rs := hsw.keptS kA1 (by simp; omega))
        | (refine step_callE (by with_reducible rfl) (by rfl) 12 _ _ _ (by rfl) hent _ _ (by rfl) (by rfl) (hcall ab ao cap wr.drew (hsw.kept E0)) ?_; rintro e wc ⟨gW, cW, rfl, hgW, ownW, kW⟩; refine ⟨_, rfl, ?_⟩; have kC : Kept [] wr wc := E0.trans kW; have dC : wc.cell? ⟨gk, j, none⟩ = some (.int .i64 x) := (World.cell?_of_block (w := wr) (a := ⟨gk, j, none⟩) (kC.block gk hbk (by simp))).trans hck; have ownC := own_kept own0 kW (by simp); have ownCA := own_kept ownC ((Kept.refl [] wc).alloc (.cells #[.int .i64 x] 3)) (by simp); have rCA := Row.new wc 3 [.int .i64 x]; have kCA : Kept [] wr (wc.alloc (.cells #[.int .i64 x] 3)) := kC.alloc _; have sCA := (Sl.of_own ownW).kept ((Kept.refl [] wc).alloc (.cells #[.int .i64 x] 3)); have hgW' : wr.heap.size ≤ gW := hgW)
        | (refine step_callE (by with_reducible rfl) (by rfl) 12 _ _ _ (by rfl) hent _ _ (by rfl) (by rfl) (hcall ab ao cap (wr.alloc (.cells #[.int .i64 x] 3)).drew (hsw.kept (E1 _))) ?_; rintro e wc ⟨gW, cW, rfl, hgW, ownW, kW⟩; refine ⟨_, rfl, ?_⟩; have kC2 : Kept [] wr wc := (E1 _).trans kW; have dC : wc.cell? ⟨gk, j, none⟩ = some (.int .i64 x) := (World.cell?_of_block (w := wr) (a := ⟨gk, j, none⟩) (kC2.block gk hbk (by simp))).trans hck; have ownC2 := own_kept ownA kW (by simp); have rC2 := rEA.kept kW (by simp); have sC2 := Sl.of_own ownW; have hgW' : wr.heap.size ≤ gW := Nat.le_trans (E1 (.cells #[.int .i64 x] 3)).size hgW)
        | (refine step_callE (by with_reducible rfl) (by rfl) 12 _ _ _ (by rfl) hent _ _ (by rfl) (by rfl) (hcall ab ao cap w1 hsA1) ?_; rintro e wX ⟨gW, cW, rfl, hgW, ownW, kW⟩; refine ⟨_, rfl, ?_⟩; have kX : Kept [g'] wr wX := kA1.trans kW.any; have hownX := own_kept hown1 kW (by simp); have sX := (Sl.of_own ownW).toV)
        | (refine step_append_on (by rfl) _ _ _ (by rfl) w.heap.size 3 i0 (.int .i64 0) 1 8 Try.underlying35 hi hz0 hz1 hz2 rfl (by omega) g' L cp _ (by rfl) ownC2 _ 1 1 _ (by rfl) (Sl.of_row (k := .i64) (xs := [x]) rC2).toV int_oneCell (by unfold maxLen; omega) (by omega) (Nat.le_trans hszw kC2.size) ?_; intro g1 p1 wX hownX hkX hgX; have kX : Kept [g'] wr wX := kC2.any.trans hkX; have hG : g1 = g' ∨ wr.heap.size ≤ g1 := hgX.imp id (fun h => by rw [h]; exact kC2.size); have sX := (sC2.keptS hkX (by simp; omega)).toV)
        | (refine step_append_on (by rfl) _ _ _ (by rfl) w.heap.size 3 i0 (.int .i64 0) 1 8 Try.underlying35 hi hz0 hz1 hz2 rfl (by omega) g' L cp _ (by rfl) ownCA _ 1 1 _ (by rfl) (Sl.of_row (k := .i64) (xs := [x]) rCA).toV int_oneCell (by unfold maxLen; omega) (by omega) (Nat.le_trans hszw kCA.size) ?_; intro g1 p1 wX hownX hkX hgX; have kX : Kept [g'] wr wX := kCA.any.trans hkX; have hG : g1 = g' ∨ wr.heap.size ≤ g1 := hgX.imp id (fun h => by rw [h]; exact kCA.size); have sX := (sCA.keptS hkX (by simp; omega)).toV)
        | (refine step_append_on (by rfl) _ _ _ (by rfl) w.heap.size 3 i0 (.int .i64 0) 1 8 Try.underlying35 hi hz0 hz1 hz2 rfl (by omega) g1 (L + 1) p1 _ (by rfl) hownX _ (walkB rs x).length _ _ (by rfl) (by simpa using sX) int_oneCell (by unfold maxLen; omega) (by omega) (Nat.le_trans hszw kX.size) ?_; intro g3 p3 w3 hown3 hk3 hg3))
      all_goals
        have hkrs := hkr.size
        have hkXs := kX.size
        have hG3 : g3 = w.heap.size ∨ W2.heap.size ≤ g3 := by
          rcases hg3 with h | h
          · rcases hG with h' | h' <;> omega
          · omega
        have kF1 : Kept [w.heap.size] W2 wX := hkr.chain kX (by simp) (by simp; omega)
        have kF : Kept [w.heap.size] W2 w3 := kF1.chain hk3 (by simp) (by simp; omega)
        have e1 := HS.out
        have e2 : (firstB rs z (j + 1)).length = L + 1 + (walkB rs x).length := by
          rw [e1, List.length_append, HLe.out]; simp; omega
        have e3 : (firstB rs z (j + 1)).map (Value.int .i64) = (firstB rs z j).map (Value.int .i64) ++ [.int .i64 x] ++ (walkB rs x).map (Value.int .i64) := by
          rw [e1]; simp
        have HE2 := Lib.hid e2
        have HE3 := Lib.hid e3
        clear e1 e2 e3
        go_wp2
        go_roundw
        case rel =>
          exact ⟨j + 1, g3, p3, by omega, by rw [HE2.out], by go_num, hG3, by rw [HE2.out, HE3.out]; exact hown3, kF⟩
        case measure => simp [intOf]; omega
    · obtain rfl : j = (kidsB rs z).length := by omega
      rw [firstB_all hf hk] at hor ⊢
      go_wp2
      go_ret
      exact ⟨g', cp, rfl, hgl, hor, k2.chain hkr (by simp) (by simp)⟩
end Go.Proofs.Ytnooamkbejbalaa
