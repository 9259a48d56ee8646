/- kraalref21's Put. -/
import Derived.Test.YtpeekhlccjoioaaOpsRef
namespace Go.Proofs.Ytpeekhlccjoioaa
open Go.RowKit

section
variable {P : Program} {md : Region.Mode} {ops : Array Oper} {Q : Exit → Act → World → Prop} {S : World → Prop} {listed : Array Bool} {a : Act}
theorem pick_far4 {i : Nat} {o : Oper} {v : Value} {x0 x1 x2 x3 : Nat × Oper} {r : List (Nat × Oper)} (_hp : plainOp o = true) (hB : mayTake md ops listed i = true) (hQ : ∀ c a w, Q (.panic c) (a.put o.dst v) w → Q (.panic c) a w) {w : World}
    (hw : Region.wanted o (yielded ops a.tmps) = true) (hy : ∀ w, S w → (execOp a.eval o).run P w = .ok (.value v) w) (h : wpPick P md ops Q S (x0 :: x1 :: x2 :: x3 :: r) (listed.setIfInBounds i true) (a.put o.dst v) w) : wpPick P md ops Q S (x0 :: x1 :: x2 :: x3 :: (i, o) :: r) listed a w :=
  pick_any (by simp) (fun _ hp => mem_behind (pre := [x0, x1, x2, x3]) hp) rfl hB hQ (.inl ⟨hw, hy⟩) h
theorem pick_far5 {i : Nat} {o : Oper} {v : Value} {x0 x1 x2 x3 x4 : Nat × Oper} {r : List (Nat × Oper)} (_hp : plainOp o = true) (hB : mayTake md ops listed i = true) (hQ : ∀ c a w, Q (.panic c) (a.put o.dst v) w → Q (.panic c) a w) {w : World}
    (hw : Region.wanted o (yielded ops a.tmps) = true) (hy : ∀ w, S w → (execOp a.eval o).run P w = .ok (.value v) w) (h : wpPick P md ops Q S (x0 :: x1 :: x2 :: x3 :: x4 :: r) (listed.setIfInBounds i true) (a.put o.dst v) w) : wpPick P md ops Q S (x0 :: x1 :: x2 :: x3 :: x4 :: (i, o) :: r) listed a w :=
  pick_any (by simp) (fun _ hp => mem_behind (pre := [x0, x1, x2, x3, x4]) hp) rfl hB hQ (.inl ⟨hw, hy⟩) h
theorem pick_far6 {i : Nat} {o : Oper} {v : Value} {x0 x1 x2 x3 x4 x5 : Nat × Oper} {r : List (Nat × Oper)} (_hp : plainOp o = true) (hB : mayTake md ops listed i = true) (hQ : ∀ c a w, Q (.panic c) (a.put o.dst v) w → Q (.panic c) a w) {w : World}
    (hw : Region.wanted o (yielded ops a.tmps) = true) (hy : ∀ w, S w → (execOp a.eval o).run P w = .ok (.value v) w) (h : wpPick P md ops Q S (x0 :: x1 :: x2 :: x3 :: x4 :: x5 :: r) (listed.setIfInBounds i true) (a.put o.dst v) w) : wpPick P md ops Q S (x0 :: x1 :: x2 :: x3 :: x4 :: x5 :: (i, o) :: r) listed a w :=
  pick_any (by simp) (fun _ hp => mem_behind (pre := [x0, x1, x2, x3, x4, x5]) hp) rfl hB hQ (.inl ⟨hw, hy⟩) h
theorem pick_far7 {i : Nat} {o : Oper} {v : Value} {x0 x1 x2 x3 x4 x5 x6 : Nat × Oper} {r : List (Nat × Oper)} (_hp : plainOp o = true) (hB : mayTake md ops listed i = true) (hQ : ∀ c a w, Q (.panic c) (a.put o.dst v) w → Q (.panic c) a w) {w : World}
    (hw : Region.wanted o (yielded ops a.tmps) = true) (hy : ∀ w, S w → (execOp a.eval o).run P w = .ok (.value v) w) (h : wpPick P md ops Q S (x0 :: x1 :: x2 :: x3 :: x4 :: x5 :: x6 :: r) (listed.setIfInBounds i true) (a.put o.dst v) w) : wpPick P md ops Q S (x0 :: x1 :: x2 :: x3 :: x4 :: x5 :: x6 :: (i, o) :: r) listed a w :=
  pick_any (by simp) (fun _ hp => mem_behind (pre := [x0, x1, x2, x3, x4, x5, x6]) hp) rfl hB hQ (.inl ⟨hw, hy⟩) h
theorem pick_far8 {i : Nat} {o : Oper} {v : Value} {x0 x1 x2 x3 x4 x5 x6 x7 : Nat × Oper} {r : List (Nat × Oper)} (_hp : plainOp o = true) (hB : mayTake md ops listed i = true) (hQ : ∀ c a w, Q (.panic c) (a.put o.dst v) w → Q (.panic c) a w) {w : World}
    (hw : Region.wanted o (yielded ops a.tmps) = true) (hy : ∀ w, S w → (execOp a.eval o).run P w = .ok (.value v) w) (h : wpPick P md ops Q S (x0 :: x1 :: x2 :: x3 :: x4 :: x5 :: x6 :: x7 :: r) (listed.setIfInBounds i true) (a.put o.dst v) w) : wpPick P md ops Q S (x0 :: x1 :: x2 :: x3 :: x4 :: x5 :: x6 :: x7 :: (i, o) :: r) listed a w :=
  pick_any (by simp) (fun _ hp => mem_behind (pre := [x0, x1, x2, x3, x4, x5, x6, x7]) hp) rfl hB hQ (.inl ⟨hw, hy⟩) h
end

/-- What the document's Put answers. -/
def RefPut21 (xs : List OpN) (w : World) (e : Ending) (w' : World) : Prop :=
  Kept [] w w' ∧ ((xs.any OpN.bad = true ∧ e = .returned (.tuple #[.string (strOfNums []), .int .i64 1])) ∨ (xs.any OpN.bad = false ∧ e = .returned (.tuple #[.string (strOfNums (opsB xs)), .int .i64 0])))

set_option maxRecDepth 100000 in
set_option maxHeartbeats 8000000 in
theorem refPut21_any (A : Option Addr) (n cap : Nat) (xs : List OpN) (w : World) (hs : SlS opC 4 w A xs) (hn : xs.length = n) (hx : n ≤ 100) (hf : ∀ x ∈ xs, x.Fit) :
    Calls Try.prog 7 #[.slice A n cap] w (RefPut21 xs w) := by
  go_enter Try.func7, Try.ntmps7
  go_wp2
  go_loopw [4, 5] (fun s i wr => ∃ j : Nat, j ≤ n ∧ i = .int .i64 j ∧ s = .string (strOfNums (opsB (xs.take j))) ∧ Hid ((xs.take j).any OpN.bad = false) ∧ Kept [] w wr) (fun s i _ => n - (intOf i).toNat)
  case atStart => exact ⟨0, Nat.zero_le _, rfl, rfl, by simp [Hid], Kept.refl _ _⟩
  case round =>
    obtain ⟨j, hj, rfl, rfl, HA, hkr⟩ := hrel
    by_cases hlt : j < n
    · obtain ⟨b, off, rfl, hbl, hc⟩ := (hs.kept hkr).cell (show j < xs.length by omega)
      have HT : Hid (xs.take (j + 1) = xs.take j ++ [xs[j]'(by omega)]) := (List.take_append_getElem (by omega)).symm
      have HM : Hid (xs[j]'(by omega) ∈ xs) := List.getElem_mem (by omega)
      have hfit := hf _ HM.out
      generalize xs[j]'(by omega) = y at hc HT HM hfit
      obtain ⟨yk, ya, yb, yc⟩ := y
      have c0 : wr.cell? ⟨b, off + j * 4, none⟩ = some (.int .i64 yk) := hc 0 (by omega)
      have c1 : wr.cell? ⟨b, off + j * 4 + 1, none⟩ = some (.int .u64 ya) := hc 1 (by omega)
      have c2 : wr.cell? ⟨b, off + j * 4 + 2, none⟩ = some (.int .u64 yb) := hc 2 (by omega)
      have c3 : wr.cell? ⟨b, off + j * 4 + 3, none⟩ = some (.int .u64 yc) := hc 3 (by omega)
      clear hc
      by_cases h1 : yk < 0
      · have e1 : decide (yk < 0) = true := decide_eq_true h1
        have HB : Hid ((OpN.mk yk ya yb yc).bad = true) := by show _ = _; unfold OpN.bad; simp [h1]
        clear h1
        go_wp2
        go_ret2
        exact ⟨hkr, .inl ⟨List.any_eq_true.2 ⟨_, HM.out, HB.out⟩, rfl⟩⟩
      · have e1 : decide (yk < 0) = false := decide_eq_false h1
        by_cases h2 : 255 < yk
        · have e2 : decide (255 < yk) = true := decide_eq_true h2
          have HB : Hid ((OpN.mk yk ya yb yc).bad = true) := by show _ = _; unfold OpN.bad; simp [h2]
          clear h1 h2
          go_wp2
          go_ret2
          exact ⟨hkr, .inl ⟨List.any_eq_true.2 ⟨_, HM.out, HB.out⟩, rfl⟩⟩
        · have e2 : decide (255 < yk) = false := decide_eq_false h2
          have HB : Hid ((OpN.mk yk ya yb yc).bad = false) := by show _ = _; unfold OpN.bad; simp [h1, h2]
          have hwk : IntKind.u8.wrap yk = yk := by rw [IntKind.wrap_u8]; omega
          have HNya := Lib.hid (fun W => refNumber21_any ya W hfit.1)
          have HNyb := Lib.hid (fun W => refNumber21_any yb W hfit.2.1)
          have HNyc := Lib.hid (fun W => refNumber21_any yc W hfit.2.2)
          have hlen : (opsB (xs.take j)).length ≤ 2500 := by rw [opsB_len, List.length_take]; omega
          have l8 := fun v => numB_len 8 v
          obtain ⟨L0, h0⟩ : ∃ L, opsB (xs.take j) = L := ⟨_, rfl⟩
          obtain ⟨L1, h1'⟩ : ∃ L, L0 ++ [yk] = L := ⟨_, rfl⟩
          obtain ⟨L2, h2'⟩ : ∃ L, L1 ++ numB 8 ya = L := ⟨_, rfl⟩
          obtain ⟨L3, h3'⟩ : ∃ L, L2 ++ numB 8 yb = L := ⟨_, rfl⟩
          obtain ⟨L4, h4'⟩ : ∃ L, L3 ++ numB 8 yc = L := ⟨_, rfl⟩
          have k1 : L1.length = L0.length + 1 := by rw [← h1']; simp
          have k2 : L2.length = L1.length + 8 := by rw [← h2']; simp [l8]
          have k3 : L3.length = L2.length + 8 := by rw [← h3']; simp [l8]
          have k4 : L4.length = L3.length + 8 := by rw [← h4']; simp [l8]
          rw [h0] at hlen ⊢
          have ha1 : ∀ W, (Op.stringOp .add (strOfNums L0) (strOfNums [yk])).run Try.prog W = .ok (.string (strOfNums L1)) W := fun W => by rw [run_str_add (P := Try.prog) W L0 [yk] (by simp; omega), h1']
          have ha2 : ∀ W, (Op.stringOp .add (strOfNums L1) (strOfNums (numB 8 ya))).run Try.prog W = .ok (.string (strOfNums L2)) W := fun W => by rw [run_str_add (P := Try.prog) W L1 _ (by rw [l8]; omega), h2']
          have ha3 : ∀ W, (Op.stringOp .add (strOfNums L2) (strOfNums (numB 8 yb))).run Try.prog W = .ok (.string (strOfNums L3)) W := fun W => by rw [run_str_add (P := Try.prog) W L2 _ (by rw [l8]; omega), h3']
          have ha4 : ∀ W, (Op.stringOp .add (strOfNums L3) (strOfNums (numB 8 yc))).run Try.prog W = .ok (.string (strOfNums L4)) W := fun W => by rw [run_str_add (P := Try.prog) W L3 _ (by rw [l8]; omega), h4']
          have HEQ : Hid (L4 = opsB (xs.take j) ++ opB ⟨yk, ya, yb, yc⟩) := by show _ = _; rw [← h4', ← h3', ← h2', ← h1', ← h0]; unfold opB; simp
          clear k1 k2 k3 k4 h4' h3' h2' h1' h0
          have HOLD : Hid (∀ W', Kept [] wr W' → (W'.cell? ⟨b, off + j * 4, none⟩ = some (.int .i64 yk) ∧ W'.cell? ⟨b, off + j * 4 + 1, none⟩ = some (.int .u64 ya) ∧ W'.cell? ⟨b, off + j * 4 + 2, none⟩ = some (.int .u64 yb) ∧ W'.cell? ⟨b, off + j * 4 + 3, none⟩ = some (.int .u64 yc))) := by
            intro W' hk
            have hm := hk.block b hbl (by simp)
            exact ⟨(World.cell?_of_block (w := wr) (a := ⟨b, off + j * 4, none⟩) hm).trans c0, (World.cell?_of_block (w := wr) (a := ⟨b, off + j * 4 + 1, none⟩) hm).trans c1, (World.cell?_of_block (w := wr) (a := ⟨b, off + j * 4 + 2, none⟩) hm).trans c2, (World.cell?_of_block (w := wr) (a := ⟨b, off + j * 4 + 3, none⟩) hm).trans c3⟩
          clear h1 h2 hlen l8 hfit
          generalize numB 8 ya = na at ha2 HNya
          generalize numB 8 yb = nb at ha3 HNyb
          generalize numB 8 yc = nc at ha4 HNyc
          go_wp2_with fail
          refine Code.wp_mono (Q := Exit.then (fun a Z => ∃ (u6 u7 u8 u9 u10 u11 u12 u13 u14 u15 u16 u17 u18 u19 u20 u21 u22 u23 u24 u25 u26 u27 u28 u29 u30 u31 u32 u33 u34 u35 u36 u37 u38 u39 u40 u41 u42 u43 u44 u45 u46 u47 u48 u49 u50 u51 u52 u53 u54 u55 u56 : Value), a = { tmps := ((.slice (some ⟨b, off, none⟩) n cap) :: undef :: u2 :: u3 :: (.string (strOfNums L4)) :: (.int .i64 j) :: u6 :: u7 :: u8 :: u9 :: u10 :: u11 :: u12 :: u13 :: u14 :: u15 :: u16 :: u17 :: u18 :: u19 :: u20 :: u21 :: u22 :: u23 :: u24 :: u25 :: u26 :: u27 :: u28 :: u29 :: u30 :: u31 :: u32 :: u33 :: u34 :: u35 :: u36 :: u37 :: u38 :: u39 :: u40 :: u41 :: u42 :: u43 :: u44 :: u45 :: u46 :: u47 :: u48 :: u49 :: u50 :: u51 :: u52 :: u53 :: u54 :: u55 :: u56 :: undef :: []).toArray, defers := [] } ∧ Kept [] wr Z) (fun _ _ _ => False)) ?mono ?reg
          case reg =>
            have kc := (Kept.refl [] wr).drew
            refine wp_region_pick (fun W => (W.cell? ⟨b, off + j * 4, none⟩ = some (.int .i64 yk) ∧ W.cell? ⟨b, off + j * 4 + 1, none⟩ = some (.int .u64 ya) ∧ W.cell? ⟨b, off + j * 4 + 2, none⟩ = some (.int .u64 yb) ∧ W.cell? ⟨b, off + j * 4 + 3, none⟩ = some (.int .u64 yc))) (by kernel_rfl) (HOLD.out _ kc) ?_
            simp only [numbered, List.length_cons, List.length_nil, Nat.reduceAdd]
            generalize wr.drew = wd at kc ⊢
            refine pick_take0 (v := ?_) rfl (by decide +kernel) (fun _ _ _ h => h) (by rfl) ?_ ?_; rotate_left; (intro w hSw; (try dsimp only at hSw); go_simp; try with_reducible rfl); go_frame
            refine pick_take0 (v := ?_) rfl (by decide +kernel) (fun _ _ _ h => h) (by rfl) ?_ ?_; rotate_left; (intro w hSw; (try dsimp only at hSw); go_simp; try with_reducible rfl); go_frame
            refine pick_take0 (v := ?_) rfl (by decide +kernel) (fun _ _ _ h => h) (by rfl) ?_ ?_; rotate_left; (intro w hSw; (try dsimp only at hSw); go_simp; try with_reducible rfl); go_frame
            refine pick_take0 (v := ?_) rfl (by decide +kernel) (fun _ _ _ h => h) (by rfl) ?_ ?_; rotate_left; (intro w hSw; (try dsimp only at hSw); go_simp; try with_reducible rfl); go_frame
            refine pick_take0 (v := ?_) rfl (by decide +kernel) (fun _ _ _ h => h) (by rfl) ?_ ?_; rotate_left; (intro w hSw; (try dsimp only at hSw); go_simp; try with_reducible rfl); go_frame
            refine pick_take0 (v := ?_) rfl (by decide +kernel) (fun _ _ _ h => h) (by rfl) ?_ ?_; rotate_left; (intro w hSw; (try dsimp only at hSw); go_simp; try with_reducible rfl); go_frame
            refine pick_take0 (v := ?_) rfl (by decide +kernel) (fun _ _ _ h => h) (by rfl) ?_ ?_; rotate_left; (intro w hSw; (try dsimp only at hSw); go_simp; try with_reducible rfl); go_frame
            refine pick_take3 (v := ?_) rfl (by decide +kernel) (fun _ _ _ h => h) (by rfl) ?_ ?_; rotate_left; (intro w hSw; (try dsimp only at hSw); go_simp; try with_reducible rfl); go_frame
            refine pick_take3 (v := ?_) rfl (by decide +kernel) (fun _ _ _ h => h) (by rfl) ?_ ?_; rotate_left; (intro w hSw; (try dsimp only at hSw); go_simp; try with_reducible rfl); go_frame
            refine pick_take3 (v := ?_) rfl (by decide +kernel) (fun _ _ _ h => h) (by rfl) ?_ ?_; rotate_left; (intro w hSw; (try dsimp only at hSw); go_simp; try with_reducible rfl); go_frame
            refine pick_take3 (v := ?_) rfl (by decide +kernel) (fun _ _ _ h => h) (by rfl) ?_ ?_; rotate_left; (intro w hSw; (try dsimp only at hSw); go_simp; try with_reducible rfl); go_frame
            refine pick_take3 (v := ?_) rfl (by decide +kernel) (fun _ _ _ h => h) (by rfl) ?_ ?_; rotate_left; (intro w hSw; (try dsimp only at hSw); go_simp; try with_reducible rfl); go_frame
            refine pick_far5 (v := ?_) rfl (by decide +kernel) (fun _ _ _ h => h) (by rfl) ?_ ?_; rotate_left; (intro w hSw; (try dsimp only at hSw); go_simp; try with_reducible rfl); go_frame
            refine pick_far5 (v := ?_) rfl (by decide +kernel) (fun _ _ _ h => h) (by rfl) ?_ ?_; rotate_left; (intro w hSw; (try dsimp only at hSw); go_simp; try with_reducible rfl); go_frame
            refine pick_far5 (v := ?_) rfl (by decide +kernel) (fun _ _ _ h => h) (by rfl) ?_ ?_; rotate_left; (intro w hSw; (try dsimp only at hSw); go_simp; try with_reducible rfl); go_frame
            refine pick_far5 (v := ?_) rfl (by decide +kernel) (fun _ _ _ h => h) (by rfl) ?_ ?_; rotate_left; (intro w hSw; (try dsimp only at hSw); go_simp; try with_reducible rfl); go_frame
            refine pick_far5 (v := ?_) rfl (by decide +kernel) (fun _ _ _ h => h) (by rfl) ?_ ?_; rotate_left; (intro w hSw; (try dsimp only at hSw); go_simp; try with_reducible rfl); go_frame
            refine pick_far7 (v := ?_) rfl (by decide +kernel) (fun _ _ _ h => h) (by rfl) ?_ ?_; rotate_left; (intro w hSw; (try dsimp only at hSw); go_simp; try with_reducible rfl); go_frame
            refine pick_far7 (v := ?_) rfl (by decide +kernel) (fun _ _ _ h => h) (by rfl) ?_ ?_; rotate_left; (intro w hSw; (try dsimp only at hSw); go_simp; try with_reducible rfl); go_frame
            refine pick_far7 (v := ?_) rfl (by decide +kernel) (fun _ _ _ h => h) (by rfl) ?_ ?_; rotate_left; (intro w hSw; (try dsimp only at hSw); go_simp; try with_reducible rfl); go_frame
            refine pick_far7 (v := ?_) rfl (by decide +kernel) (fun _ _ _ h => h) (by rfl) ?_ ?_; rotate_left; (intro w hSw; (try dsimp only at hSw); go_simp; try with_reducible rfl); go_frame
            refine pick_far7 (v := ?_) rfl (by decide +kernel) (fun _ _ _ h => h) (by rfl) ?_ ?_; rotate_left; (intro w hSw; (try dsimp only at hSw); go_simp; try with_reducible rfl); go_frame
            refine pick_two 2 rfl (by decide +kernel) (by rfl) (by rfl) (fun K hK => ?_) (fun K hK => ?_)
            · go_simp
              have r7 := Row.new wd 5 [.int .u8 yk]
              have kn := (Kept.refl [] wd).alloc (.cells #[.int .u8 yk] 5)
              have kc := kc.trans kn
              obtain ⟨E, hEE⟩ : ∃ E, wd.heap.size = E := ⟨_, rfl⟩
              rw [hEE] at r7 ⊢
              refine hK _ _ (HOLD.out _ kc) ?_
              clear hK K hEE
              generalize wd.alloc (.cells #[.int .u8 yk] 5) = v7 at *
              clear kn
              refine pick_two 1 rfl (by decide +kernel) (by rfl) (by rfl) (fun K hK => ?_) (fun K hK => ?_)
              · have hcv := run_str_of (Sl.of_row (xs := [yk]) r7) 1 1 rfl
                go_simp
                refine hK _ _ (HOLD.out _ kc) ?_
                clear hK K hcv
                refine pick_take0 (v := ?_) rfl (by decide +kernel) (fun _ _ _ h => h) (by rfl) ?_ ?_; rotate_left; (intro w hSw; (try dsimp only at hSw); go_simp; try with_reducible rfl); go_frame
                refine pick_call (by decide +kernel) (by rfl) (fun K hK => ?_)
                go_simp
                go_at_call 14
                refine (HNya.out v7).mono ?_
                rintro e v15 ⟨rfl, kn⟩
                have r7 := r7.kept kn (by simp)
                have kc := kc.trans kn
                refine hK _ _ (HOLD.out _ kc) ?_
                clear hK K kn
                refine pick_take0 (v := ?_) rfl (by decide +kernel) (fun _ _ _ h => h) (by rfl) ?_ ?_; rotate_left; (intro w hSw; (try dsimp only at hSw); go_simp; try with_reducible rfl); go_frame
                refine pick_call (by decide +kernel) (by rfl) (fun K hK => ?_)
                go_simp
                go_at_call 14
                refine (HNyb.out v15).mono ?_
                rintro e v22 ⟨rfl, kn⟩
                have r7 := r7.kept kn (by simp)
                have kc := kc.trans kn
                refine hK _ _ (HOLD.out _ kc) ?_
                clear hK K kn
                refine pick_take0 (v := ?_) rfl (by decide +kernel) (fun _ _ _ h => h) (by rfl) ?_ ?_; rotate_left; (intro w hSw; (try dsimp only at hSw); go_simp; try with_reducible rfl); go_frame
                refine pick_call (by decide +kernel) (by rfl) (fun K hK => ?_)
                go_simp
                go_at_call 14
                refine (HNyc.out v22).mono ?_
                rintro e v29 ⟨rfl, kn⟩
                have r7 := r7.kept kn (by simp)
                have kc := kc.trans kn
                refine hK _ _ (HOLD.out _ kc) ?_
                clear hK K kn
                refine pick_take0 (v := ?_) rfl (by decide +kernel) (fun _ _ _ h => h) (by rfl) ?_ ?_; rotate_left; (intro w hSw; (try dsimp only at hSw); go_simp; try with_reducible rfl); go_frame
                refine pick_take0 (v := ?_) rfl (by decide +kernel) (fun _ _ _ h => h) (by rfl) ?_ ?_; rotate_left; (intro w hSw; (try dsimp only at hSw); go_simp; try with_reducible rfl); try go_frame
                refine pick_done (by decide +kernel) ?_
                exact ⟨_, _, _, _, _, _, _, _, _, _, _, _, _, _, _, _, _, _, _, _, _, _, _, _, _, _, _, _, _, _, _, _, _, _, _, _, _, _, _, _, _, _, _, _, _, _, _, _, _, _, _, rfl, kc⟩
              · go_simp
                go_at_call 14
                refine (HNya.out v7).mono ?_
                rintro e v15 ⟨rfl, kn⟩
                have r7 := r7.kept kn (by simp)
                have kc := kc.trans kn
                refine hK _ _ (HOLD.out _ kc) ?_
                clear hK K kn
                refine pick_two 2 rfl (by decide +kernel) (by rfl) (by rfl) (fun K hK => ?_) (fun K hK => ?_)
                · have hcv := run_str_of (Sl.of_row (xs := [yk]) r7) 1 1 rfl
                  go_simp
                  refine hK _ _ (HOLD.out _ kc) ?_
                  clear hK K hcv
                  refine pick_take0 (v := ?_) rfl (by decide +kernel) (fun _ _ _ h => h) (by rfl) ?_ ?_; rotate_left; (intro w hSw; (try dsimp only at hSw); go_simp; try with_reducible rfl); go_frame
                  refine pick_take0 (v := ?_) rfl (by decide +kernel) (fun _ _ _ h => h) (by rfl) ?_ ?_; rotate_left; (intro w hSw; (try dsimp only at hSw); go_simp; try with_reducible rfl); go_frame
                  refine pick_call (by decide +kernel) (by rfl) (fun K hK => ?_)
                  go_simp
                  go_at_call 14
                  refine (HNyb.out v15).mono ?_
                  rintro e v22 ⟨rfl, kn⟩
                  have r7 := r7.kept kn (by simp)
                  have kc := kc.trans kn
                  refine hK _ _ (HOLD.out _ kc) ?_
                  clear hK K kn
                  refine pick_take0 (v := ?_) rfl (by decide +kernel) (fun _ _ _ h => h) (by rfl) ?_ ?_; rotate_left; (intro w hSw; (try dsimp only at hSw); go_simp; try with_reducible rfl); go_frame
                  refine pick_call (by decide +kernel) (by rfl) (fun K hK => ?_)
                  go_simp
                  go_at_call 14
                  refine (HNyc.out v22).mono ?_
                  rintro e v29 ⟨rfl, kn⟩
                  have r7 := r7.kept kn (by simp)
                  have kc := kc.trans kn
                  refine hK _ _ (HOLD.out _ kc) ?_
                  clear hK K kn
                  refine pick_take0 (v := ?_) rfl (by decide +kernel) (fun _ _ _ h => h) (by rfl) ?_ ?_; rotate_left; (intro w hSw; (try dsimp only at hSw); go_simp; try with_reducible rfl); go_frame
                  refine pick_take0 (v := ?_) rfl (by decide +kernel) (fun _ _ _ h => h) (by rfl) ?_ ?_; rotate_left; (intro w hSw; (try dsimp only at hSw); go_simp; try with_reducible rfl); try go_frame
                  refine pick_done (by decide +kernel) ?_
                  exact ⟨_, _, _, _, _, _, _, _, _, _, _, _, _, _, _, _, _, _, _, _, _, _, _, _, _, _, _, _, _, _, _, _, _, _, _, _, _, _, _, _, _, _, _, _, _, _, _, _, _, _, _, rfl, kc⟩
                · go_simp
                  go_at_call 14
                  refine (HNyb.out v15).mono ?_
                  rintro e v22 ⟨rfl, kn⟩
                  have r7 := r7.kept kn (by simp)
                  have kc := kc.trans kn
                  refine hK _ _ (HOLD.out _ kc) ?_
                  clear hK K kn
                  refine pick_two 3 rfl (by decide +kernel) (by rfl) (by rfl) (fun K hK => ?_) (fun K hK => ?_)
                  · have hcv := run_str_of (Sl.of_row (xs := [yk]) r7) 1 1 rfl
                    go_simp
                    refine hK _ _ (HOLD.out _ kc) ?_
                    clear hK K hcv
                    refine pick_take0 (v := ?_) rfl (by decide +kernel) (fun _ _ _ h => h) (by rfl) ?_ ?_; rotate_left; (intro w hSw; (try dsimp only at hSw); go_simp; try with_reducible rfl); go_frame
                    refine pick_take0 (v := ?_) rfl (by decide +kernel) (fun _ _ _ h => h) (by rfl) ?_ ?_; rotate_left; (intro w hSw; (try dsimp only at hSw); go_simp; try with_reducible rfl); go_frame
                    refine pick_take0 (v := ?_) rfl (by decide +kernel) (fun _ _ _ h => h) (by rfl) ?_ ?_; rotate_left; (intro w hSw; (try dsimp only at hSw); go_simp; try with_reducible rfl); go_frame
                    refine pick_call (by decide +kernel) (by rfl) (fun K hK => ?_)
                    go_simp
                    go_at_call 14
                    refine (HNyc.out v22).mono ?_
                    rintro e v29 ⟨rfl, kn⟩
                    have r7 := r7.kept kn (by simp)
                    have kc := kc.trans kn
                    refine hK _ _ (HOLD.out _ kc) ?_
                    clear hK K kn
                    refine pick_take0 (v := ?_) rfl (by decide +kernel) (fun _ _ _ h => h) (by rfl) ?_ ?_; rotate_left; (intro w hSw; (try dsimp only at hSw); go_simp; try with_reducible rfl); go_frame
                    refine pick_take0 (v := ?_) rfl (by decide +kernel) (fun _ _ _ h => h) (by rfl) ?_ ?_; rotate_left; (intro w hSw; (try dsimp only at hSw); go_simp; try with_reducible rfl); try go_frame
                    refine pick_done (by decide +kernel) ?_
                    exact ⟨_, _, _, _, _, _, _, _, _, _, _, _, _, _, _, _, _, _, _, _, _, _, _, _, _, _, _, _, _, _, _, _, _, _, _, _, _, _, _, _, _, _, _, _, _, _, _, _, _, _, _, rfl, kc⟩
                  · go_simp
                    go_at_call 14
                    refine (HNyc.out v22).mono ?_
                    rintro e v29 ⟨rfl, kn⟩
                    have r7 := r7.kept kn (by simp)
                    have kc := kc.trans kn
                    refine hK _ _ (HOLD.out _ kc) ?_
                    clear hK K kn
                    refine pick_call (by decide +kernel) (by rfl) (fun K hK => ?_)
                    have hcv := run_str_of (Sl.of_row (xs := [yk]) r7) 1 1 rfl
                    go_simp
                    refine hK _ _ (HOLD.out _ kc) ?_
                    clear hK K hcv
                    refine pick_take0 (v := ?_) rfl (by decide +kernel) (fun _ _ _ h => h) (by rfl) ?_ ?_; rotate_left; (intro w hSw; (try dsimp only at hSw); go_simp; try with_reducible rfl); go_frame
                    refine pick_take0 (v := ?_) rfl (by decide +kernel) (fun _ _ _ h => h) (by rfl) ?_ ?_; rotate_left; (intro w hSw; (try dsimp only at hSw); go_simp; try with_reducible rfl); go_frame
                    refine pick_take0 (v := ?_) rfl (by decide +kernel) (fun _ _ _ h => h) (by rfl) ?_ ?_; rotate_left; (intro w hSw; (try dsimp only at hSw); go_simp; try with_reducible rfl); go_frame
                    refine pick_take0 (v := ?_) rfl (by decide +kernel) (fun _ _ _ h => h) (by rfl) ?_ ?_; rotate_left; (intro w hSw; (try dsimp only at hSw); go_simp; try with_reducible rfl); go_frame
                    refine pick_take0 (v := ?_) rfl (by decide +kernel) (fun _ _ _ h => h) (by rfl) ?_ ?_; rotate_left; (intro w hSw; (try dsimp only at hSw); go_simp; try with_reducible rfl); try go_frame
                    refine pick_done (by decide +kernel) ?_
                    exact ⟨_, _, _, _, _, _, _, _, _, _, _, _, _, _, _, _, _, _, _, _, _, _, _, _, _, _, _, _, _, _, _, _, _, _, _, _, _, _, _, _, _, _, _, _, _, _, _, _, _, _, _, rfl, kc⟩
            · go_simp
              go_at_call 14
              refine (HNya.out wd).mono ?_
              rintro e v15 ⟨rfl, kn⟩
              have kc := kc.trans kn
              refine hK _ _ (HOLD.out _ kc) ?_
              clear hK K kn
              refine pick_two 3 rfl (by decide +kernel) (by rfl) (by rfl) (fun K hK => ?_) (fun K hK => ?_)
              · go_simp
                have r7 := Row.new v15 5 [.int .u8 yk]
                have kn := (Kept.refl [] v15).alloc (.cells #[.int .u8 yk] 5)
                have kc := kc.trans kn
                obtain ⟨E, hEE⟩ : ∃ E, v15.heap.size = E := ⟨_, rfl⟩
                rw [hEE] at r7 ⊢
                refine hK _ _ (HOLD.out _ kc) ?_
                clear hK K hEE
                generalize v15.alloc (.cells #[.int .u8 yk] 5) = v7 at *
                clear kn
                refine pick_two 2 rfl (by decide +kernel) (by rfl) (by rfl) (fun K hK => ?_) (fun K hK => ?_)
                · have hcv := run_str_of (Sl.of_row (xs := [yk]) r7) 1 1 rfl
                  go_simp
                  refine hK _ _ (HOLD.out _ kc) ?_
                  clear hK K hcv
                  refine pick_take0 (v := ?_) rfl (by decide +kernel) (fun _ _ _ h => h) (by rfl) ?_ ?_; rotate_left; (intro w hSw; (try dsimp only at hSw); go_simp; try with_reducible rfl); go_frame
                  refine pick_take0 (v := ?_) rfl (by decide +kernel) (fun _ _ _ h => h) (by rfl) ?_ ?_; rotate_left; (intro w hSw; (try dsimp only at hSw); go_simp; try with_reducible rfl); go_frame
                  refine pick_call (by decide +kernel) (by rfl) (fun K hK => ?_)
                  go_simp
                  go_at_call 14
                  refine (HNyb.out v7).mono ?_
                  rintro e v22 ⟨rfl, kn⟩
                  have r7 := r7.kept kn (by simp)
                  have kc := kc.trans kn
                  refine hK _ _ (HOLD.out _ kc) ?_
                  clear hK K kn
                  refine pick_take0 (v := ?_) rfl (by decide +kernel) (fun _ _ _ h => h) (by rfl) ?_ ?_; rotate_left; (intro w hSw; (try dsimp only at hSw); go_simp; try with_reducible rfl); go_frame
                  refine pick_call (by decide +kernel) (by rfl) (fun K hK => ?_)
                  go_simp
                  go_at_call 14
                  refine (HNyc.out v22).mono ?_
                  rintro e v29 ⟨rfl, kn⟩
                  have r7 := r7.kept kn (by simp)
                  have kc := kc.trans kn
                  refine hK _ _ (HOLD.out _ kc) ?_
                  clear hK K kn
                  refine pick_take0 (v := ?_) rfl (by decide +kernel) (fun _ _ _ h => h) (by rfl) ?_ ?_; rotate_left; (intro w hSw; (try dsimp only at hSw); go_simp; try with_reducible rfl); go_frame
                  refine pick_take0 (v := ?_) rfl (by decide +kernel) (fun _ _ _ h => h) (by rfl) ?_ ?_; rotate_left; (intro w hSw; (try dsimp only at hSw); go_simp; try with_reducible rfl); try go_frame
                  refine pick_done (by decide +kernel) ?_
                  exact ⟨_, _, _, _, _, _, _, _, _, _, _, _, _, _, _, _, _, _, _, _, _, _, _, _, _, _, _, _, _, _, _, _, _, _, _, _, _, _, _, _, _, _, _, _, _, _, _, _, _, _, _, rfl, kc⟩
                · go_simp
                  go_at_call 14
                  refine (HNyb.out v7).mono ?_
                  rintro e v22 ⟨rfl, kn⟩
                  have r7 := r7.kept kn (by simp)
                  have kc := kc.trans kn
                  refine hK _ _ (HOLD.out _ kc) ?_
                  clear hK K kn
                  refine pick_two 3 rfl (by decide +kernel) (by rfl) (by rfl) (fun K hK => ?_) (fun K hK => ?_)
                  · have hcv := run_str_of (Sl.of_row (xs := [yk]) r7) 1 1 rfl
                    go_simp
                    refine hK _ _ (HOLD.out _ kc) ?_
                    clear hK K hcv
                    refine pick_take0 (v := ?_) rfl (by decide +kernel) (fun _ _ _ h => h) (by rfl) ?_ ?_; rotate_left; (intro w hSw; (try dsimp only at hSw); go_simp; try with_reducible rfl); go_frame
                    refine pick_take0 (v := ?_) rfl (by decide +kernel) (fun _ _ _ h => h) (by rfl) ?_ ?_; rotate_left; (intro w hSw; (try dsimp only at hSw); go_simp; try with_reducible rfl); go_frame
                    refine pick_take0 (v := ?_) rfl (by decide +kernel) (fun _ _ _ h => h) (by rfl) ?_ ?_; rotate_left; (intro w hSw; (try dsimp only at hSw); go_simp; try with_reducible rfl); go_frame
                    refine pick_call (by decide +kernel) (by rfl) (fun K hK => ?_)
                    go_simp
                    go_at_call 14
                    refine (HNyc.out v22).mono ?_
                    rintro e v29 ⟨rfl, kn⟩
                    have r7 := r7.kept kn (by simp)
                    have kc := kc.trans kn
                    refine hK _ _ (HOLD.out _ kc) ?_
                    clear hK K kn
                    refine pick_take0 (v := ?_) rfl (by decide +kernel) (fun _ _ _ h => h) (by rfl) ?_ ?_; rotate_left; (intro w hSw; (try dsimp only at hSw); go_simp; try with_reducible rfl); go_frame
                    refine pick_take0 (v := ?_) rfl (by decide +kernel) (fun _ _ _ h => h) (by rfl) ?_ ?_; rotate_left; (intro w hSw; (try dsimp only at hSw); go_simp; try with_reducible rfl); try go_frame
                    refine pick_done (by decide +kernel) ?_
                    exact ⟨_, _, _, _, _, _, _, _, _, _, _, _, _, _, _, _, _, _, _, _, _, _, _, _, _, _, _, _, _, _, _, _, _, _, _, _, _, _, _, _, _, _, _, _, _, _, _, _, _, _, _, rfl, kc⟩
                  · go_simp
                    go_at_call 14
                    refine (HNyc.out v22).mono ?_
                    rintro e v29 ⟨rfl, kn⟩
                    have r7 := r7.kept kn (by simp)
                    have kc := kc.trans kn
                    refine hK _ _ (HOLD.out _ kc) ?_
                    clear hK K kn
                    refine pick_call (by decide +kernel) (by rfl) (fun K hK => ?_)
                    have hcv := run_str_of (Sl.of_row (xs := [yk]) r7) 1 1 rfl
                    go_simp
                    refine hK _ _ (HOLD.out _ kc) ?_
                    clear hK K hcv
                    refine pick_take0 (v := ?_) rfl (by decide +kernel) (fun _ _ _ h => h) (by rfl) ?_ ?_; rotate_left; (intro w hSw; (try dsimp only at hSw); go_simp; try with_reducible rfl); go_frame
                    refine pick_take0 (v := ?_) rfl (by decide +kernel) (fun _ _ _ h => h) (by rfl) ?_ ?_; rotate_left; (intro w hSw; (try dsimp only at hSw); go_simp; try with_reducible rfl); go_frame
                    refine pick_take0 (v := ?_) rfl (by decide +kernel) (fun _ _ _ h => h) (by rfl) ?_ ?_; rotate_left; (intro w hSw; (try dsimp only at hSw); go_simp; try with_reducible rfl); go_frame
                    refine pick_take0 (v := ?_) rfl (by decide +kernel) (fun _ _ _ h => h) (by rfl) ?_ ?_; rotate_left; (intro w hSw; (try dsimp only at hSw); go_simp; try with_reducible rfl); go_frame
                    refine pick_take0 (v := ?_) rfl (by decide +kernel) (fun _ _ _ h => h) (by rfl) ?_ ?_; rotate_left; (intro w hSw; (try dsimp only at hSw); go_simp; try with_reducible rfl); try go_frame
                    refine pick_done (by decide +kernel) ?_
                    exact ⟨_, _, _, _, _, _, _, _, _, _, _, _, _, _, _, _, _, _, _, _, _, _, _, _, _, _, _, _, _, _, _, _, _, _, _, _, _, _, _, _, _, _, _, _, _, _, _, _, _, _, _, rfl, kc⟩
              · go_simp
                go_at_call 14
                refine (HNyb.out v15).mono ?_
                rintro e v22 ⟨rfl, kn⟩
                have kc := kc.trans kn
                refine hK _ _ (HOLD.out _ kc) ?_
                clear hK K kn
                refine pick_two 4 rfl (by decide +kernel) (by rfl) (by rfl) (fun K hK => ?_) (fun K hK => ?_)
                · go_simp
                  have r7 := Row.new v22 5 [.int .u8 yk]
                  have kn := (Kept.refl [] v22).alloc (.cells #[.int .u8 yk] 5)
                  have kc := kc.trans kn
                  obtain ⟨E, hEE⟩ : ∃ E, v22.heap.size = E := ⟨_, rfl⟩
                  rw [hEE] at r7 ⊢
                  refine hK _ _ (HOLD.out _ kc) ?_
                  clear hK K hEE
                  generalize v22.alloc (.cells #[.int .u8 yk] 5) = v7 at *
                  clear kn
                  refine pick_two 3 rfl (by decide +kernel) (by rfl) (by rfl) (fun K hK => ?_) (fun K hK => ?_)
                  · have hcv := run_str_of (Sl.of_row (xs := [yk]) r7) 1 1 rfl
                    go_simp
                    refine hK _ _ (HOLD.out _ kc) ?_
                    clear hK K hcv
                    refine pick_take0 (v := ?_) rfl (by decide +kernel) (fun _ _ _ h => h) (by rfl) ?_ ?_; rotate_left; (intro w hSw; (try dsimp only at hSw); go_simp; try with_reducible rfl); go_frame
                    refine pick_take0 (v := ?_) rfl (by decide +kernel) (fun _ _ _ h => h) (by rfl) ?_ ?_; rotate_left; (intro w hSw; (try dsimp only at hSw); go_simp; try with_reducible rfl); go_frame
                    refine pick_take0 (v := ?_) rfl (by decide +kernel) (fun _ _ _ h => h) (by rfl) ?_ ?_; rotate_left; (intro w hSw; (try dsimp only at hSw); go_simp; try with_reducible rfl); go_frame
                    refine pick_call (by decide +kernel) (by rfl) (fun K hK => ?_)
                    go_simp
                    go_at_call 14
                    refine (HNyc.out v7).mono ?_
                    rintro e v29 ⟨rfl, kn⟩
                    have r7 := r7.kept kn (by simp)
                    have kc := kc.trans kn
                    refine hK _ _ (HOLD.out _ kc) ?_
                    clear hK K kn
                    refine pick_take0 (v := ?_) rfl (by decide +kernel) (fun _ _ _ h => h) (by rfl) ?_ ?_; rotate_left; (intro w hSw; (try dsimp only at hSw); go_simp; try with_reducible rfl); go_frame
                    refine pick_take0 (v := ?_) rfl (by decide +kernel) (fun _ _ _ h => h) (by rfl) ?_ ?_; rotate_left; (intro w hSw; (try dsimp only at hSw); go_simp; try with_reducible rfl); try go_frame
                    refine pick_done (by decide +kernel) ?_
                    exact ⟨_, _, _, _, _, _, _, _, _, _, _, _, _, _, _, _, _, _, _, _, _, _, _, _, _, _, _, _, _, _, _, _, _, _, _, _, _, _, _, _, _, _, _, _, _, _, _, _, _, _, _, rfl, kc⟩
                  · go_simp
                    go_at_call 14
                    refine (HNyc.out v7).mono ?_
                    rintro e v29 ⟨rfl, kn⟩
                    have r7 := r7.kept kn (by simp)
                    have kc := kc.trans kn
                    refine hK _ _ (HOLD.out _ kc) ?_
                    clear hK K kn
                    refine pick_call (by decide +kernel) (by rfl) (fun K hK => ?_)
                    have hcv := run_str_of (Sl.of_row (xs := [yk]) r7) 1 1 rfl
                    go_simp
                    refine hK _ _ (HOLD.out _ kc) ?_
                    clear hK K hcv
                    refine pick_take0 (v := ?_) rfl (by decide +kernel) (fun _ _ _ h => h) (by rfl) ?_ ?_; rotate_left; (intro w hSw; (try dsimp only at hSw); go_simp; try with_reducible rfl); go_frame
                    refine pick_take0 (v := ?_) rfl (by decide +kernel) (fun _ _ _ h => h) (by rfl) ?_ ?_; rotate_left; (intro w hSw; (try dsimp only at hSw); go_simp; try with_reducible rfl); go_frame
                    refine pick_take0 (v := ?_) rfl (by decide +kernel) (fun _ _ _ h => h) (by rfl) ?_ ?_; rotate_left; (intro w hSw; (try dsimp only at hSw); go_simp; try with_reducible rfl); go_frame
                    refine pick_take0 (v := ?_) rfl (by decide +kernel) (fun _ _ _ h => h) (by rfl) ?_ ?_; rotate_left; (intro w hSw; (try dsimp only at hSw); go_simp; try with_reducible rfl); go_frame
                    refine pick_take0 (v := ?_) rfl (by decide +kernel) (fun _ _ _ h => h) (by rfl) ?_ ?_; rotate_left; (intro w hSw; (try dsimp only at hSw); go_simp; try with_reducible rfl); try go_frame
                    refine pick_done (by decide +kernel) ?_
                    exact ⟨_, _, _, _, _, _, _, _, _, _, _, _, _, _, _, _, _, _, _, _, _, _, _, _, _, _, _, _, _, _, _, _, _, _, _, _, _, _, _, _, _, _, _, _, _, _, _, _, _, _, _, rfl, kc⟩
                · go_simp
                  go_at_call 14
                  refine (HNyc.out v22).mono ?_
                  rintro e v29 ⟨rfl, kn⟩
                  have kc := kc.trans kn
                  refine hK _ _ (HOLD.out _ kc) ?_
                  clear hK K kn
                  refine pick_call (by decide +kernel) (by rfl) (fun K hK => ?_)
                  go_simp
                  have r7 := Row.new v29 5 [.int .u8 yk]
                  have kn := (Kept.refl [] v29).alloc (.cells #[.int .u8 yk] 5)
                  have kc := kc.trans kn
                  obtain ⟨E, hEE⟩ : ∃ E, v29.heap.size = E := ⟨_, rfl⟩
                  rw [hEE] at r7 ⊢
                  refine hK _ _ (HOLD.out _ kc) ?_
                  clear hK K hEE
                  generalize v29.alloc (.cells #[.int .u8 yk] 5) = v7 at *
                  clear kn
                  refine pick_call (by decide +kernel) (by rfl) (fun K hK => ?_)
                  have hcv := run_str_of (Sl.of_row (xs := [yk]) r7) 1 1 rfl
                  go_simp
                  refine hK _ _ (HOLD.out _ kc) ?_
                  clear hK K hcv
                  refine pick_take0 (v := ?_) rfl (by decide +kernel) (fun _ _ _ h => h) (by rfl) ?_ ?_; rotate_left; (intro w hSw; (try dsimp only at hSw); go_simp; try with_reducible rfl); go_frame
                  refine pick_take0 (v := ?_) rfl (by decide +kernel) (fun _ _ _ h => h) (by rfl) ?_ ?_; rotate_left; (intro w hSw; (try dsimp only at hSw); go_simp; try with_reducible rfl); go_frame
                  refine pick_take0 (v := ?_) rfl (by decide +kernel) (fun _ _ _ h => h) (by rfl) ?_ ?_; rotate_left; (intro w hSw; (try dsimp only at hSw); go_simp; try with_reducible rfl); go_frame
                  refine pick_take0 (v := ?_) rfl (by decide +kernel) (fun _ _ _ h => h) (by rfl) ?_ ?_; rotate_left; (intro w hSw; (try dsimp only at hSw); go_simp; try with_reducible rfl); go_frame
                  refine pick_take0 (v := ?_) rfl (by decide +kernel) (fun _ _ _ h => h) (by rfl) ?_ ?_; rotate_left; (intro w hSw; (try dsimp only at hSw); go_simp; try with_reducible rfl); try go_frame
                  refine pick_done (by decide +kernel) ?_
                  exact ⟨_, _, _, _, _, _, _, _, _, _, _, _, _, _, _, _, _, _, _, _, _, _, _, _, _, _, _, _, _, _, _, _, _, _, _, _, _, _, _, _, _, _, _, _, _, _, _, _, _, _, _, rfl, kc⟩
          case mono =>
            rintro e a w1 h
            cases e <;> first | exact h.elim | skip
            obtain ⟨u6, u7, u8, u9, u10, u11, u12, u13, u14, u15, u16, u17, u18, u19, u20, u21, u22, u23, u24, u25, u26, u27, u28, u29, u30, u31, u32, u33, u34, u35, u36, u37, u38, u39, u40, u41, u42, u43, u44, u45, u46, u47, u48, u49, u50, u51, u52, u53, u54, u55, u56, rfl, hk⟩ := h
            rw [HEQ.out, ← opsB_snoc, ← HT.out]
            go_wp2
            go_roundw
            case rel => exact ⟨j + 1, by omega, by go_num, rfl, by show _ = _; rw [HT.out, List.any_append, HA.out]; simp [HB.out], hkr.trans hk⟩
            case measure => simp [intOf]; omega
    · obtain rfl : j = n := by omega
      go_wp2
      go_ret2
      rw [List.take_of_length_le (by omega)] at HA ⊢
      exact ⟨hkr, .inr ⟨HA.out, rfl⟩⟩
end Go.Proofs.Ytpeekhlccjoioaa
