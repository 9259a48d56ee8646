/- The law WalkBack: its walk. -/
import Derived.Test.YthnoohghjcfghaaWalkBackPlain
import Derived.Test.YthnoohghjcfghaaWalkLaid
import Derived.Test.YthnoohghjcfghaaWalkObjects
import Derived.Test.YthnoohghjcfghaaHeaderRef
import Derived.BigQuiet
namespace Go.Proofs.Ythnoohghjcfghaa
open Go.RowKit Go.Shelf

set_option maxRecDepth 100000 in
set_option maxHeartbeats 2000000 in
theorem walkBack_big (a0 : Option Addr) (len ca : Nat) (gap : Int) (w : World) (h : 20 < len) (hm : len ≤ maxLen) :
    Calls Try.prog 5 #[.slice a0 len ca, .int .u8 gap] w (FixedPost w) := by
  unfold maxLen at hm
  have h1' : decide ((20 : Int) < (len : Int)) = true := by simp; omega
  go_enter Try.func5, Try.ntmps5
  go_wp2_with fail
  refine (fixed12_any _).mono ?_
  rintro e w5 ⟨rfl, kw5⟩
  go_wp2
  go_ret
  exact ⟨rfl, kw5⟩

theorem info_head12 : (Try.prog.info? 32).map (fun i => (i.zero, i.size, i.bytes)) = some (some (.agg #[.bool false, .int .i64 0, .int .i64 0, .int .i64 0]), 4, 32) := by kernel_rfl
theorem info_run12 : (Try.prog.info? 30).map (fun i => (i.zero, i.size, i.bytes)) = some (some (.agg #[.int .i64 0, .int .i64 0]), 2, 16) := by kernel_rfl

/-- 'append(v, y)' as one step of a region: y lies in a block of its own. -/
theorem wp_append_y {α : Type} {c : α → List Value} {k : Nat} {e : TypeId} {P : Program} {w : World} {o : Oper} {a : Act} {K : Act → World → Prop} {Q : Exit → Act → World → Prop} (s x : Operand) (t : TypeId)
    (ho : o.op = .call { callee := .builtin .append, args := #[s, x], argTypes := #[t, t] }) (B : Nat) (i : TypeInfo) (z : Value) (bytes : Nat) (ht : P.underlying t = some (.slice e)) (hi : P.info? e = some i) (hz : i.zero = some z)
    (hsize : i.size = k) (hby : i.bytes = bytes) (hzs : z.cells.size = k) (hk0 : 0 < k) (hb : bytes ≤ 96) (v : Value) (xs : List α) (y : α) (hc : (c y).length = k) (h1 : ∀ u ∈ c y, u.oneCell' = true)
    (hs : a.eval s = v) (E : Nat) (hx : a.eval x = .slice (some ⟨E, 0, none⟩) 1 1) (rE : Row w E e (c y)) (hown : OwnS e c k w B v xs) (hB : B ≤ w.heap.size) (hl : xs.length ≤ 1099511627776)
    (h : ∀ g' c' w', OwnS e c k w' B (.slice (some ⟨g', 0, none⟩) (xs.length + 1) c') (xs ++ [y]) → Kept (v.ownBlock.toList) w w' → (v.ownBlock = some g' ∨ w.heap.size ≤ g') → K (a.put o.dst (.slice (some ⟨g', 0, none⟩) (xs.length + 1) c')) w') : o.wp P a w K Q := by
  have hbytes : (xs.length + 1) * bytes ≤ 140737488355328 := Nat.le_trans (Nat.mul_le_mul (show xs.length + 1 ≤ 1099511627777 by omega) hb) (by omega)
  obtain ⟨v', w', hr, hown', hg, _, hat⟩ := run_append_own_at (P := P) w B t o.type e i z k bytes ht hi hz hsize hby hzs hk0 v xs.length (flatS c xs) hown
    ⟨E, 0, none⟩ 1 1 (c y) (by rw [hc, Nat.one_mul]) (fun j u hu => by rw [add_none, Nat.zero_add]; exact (rE.cell j).trans hu) h1 (by unfold maxLen; omega) hbytes hB
  unfold Oper.wp execOp
  simp only [ho, resolve, invoke, builtin, Sem.run_bind, Sem.run_pure, Result.andThen_ok, List.map_toArray, List.map_cons, List.map_nil, hs, hx, hr]
  rcases hown'.2 with ⟨_, h0⟩ | ⟨g', cap', cur, rfl, _⟩
  · omega
  · refine h g' cap' w' (by unfold OwnS; rw [flatS_snoc]; simpa using hown') (Kept.of_own hg) ?_
    rcases hat with h' | h'
    · exact .inl h'.symm
    · right
      have : g' = w.heap.size := by simpa [Value.ownBlock] using h'
      rw [this]; exact Nat.le_refl _

section
variable {P : Program} {md : Region.Mode} {ops : Array Oper} {Q : Exit → Act → World → Prop} {S : World → Prop} {listed : Array Bool} {a : Act} {w : World}
theorem pick_take4 {i : Nat} {o : Oper} {v : Value} {x y z u : Nat × Oper} {r : List (Nat × Oper)} (_hp : plainOp o = true) (hB : mayTake md ops listed i = true) (hQ : ∀ c a w, Q (.panic c) (a.put o.dst v) w → Q (.panic c) a w)
    (hw : Region.wanted o (yielded ops a.tmps) = true) (hy : ∀ w, S w → (execOp a.eval o).run P w = .ok (.value v) w) (h : wpPick P md ops Q S (x :: y :: z :: u :: r) (listed.setIfInBounds i true) (a.put o.dst v) w) : wpPick P md ops Q S (x :: y :: z :: u :: (i, o) :: r) listed a w :=
  pick_any (by simp) (fun _ hp => mem_behind (pre := [x, y, z, u]) hp) rfl hB hQ (.inl ⟨hw, hy⟩) h
theorem pick_take5 {i : Nat} {o : Oper} {v : Value} {x y z u t : Nat × Oper} {r : List (Nat × Oper)} (_hp : plainOp o = true) (hB : mayTake md ops listed i = true) (hQ : ∀ c a w, Q (.panic c) (a.put o.dst v) w → Q (.panic c) a w)
    (hw : Region.wanted o (yielded ops a.tmps) = true) (hy : ∀ w, S w → (execOp a.eval o).run P w = .ok (.value v) w) (h : wpPick P md ops Q S (x :: y :: z :: u :: t :: r) (listed.setIfInBounds i true) (a.put o.dst v) w) : wpPick P md ops Q S (x :: y :: z :: u :: t :: (i, o) :: r) listed a w :=
  pick_any (by simp) (fun _ hp => mem_behind (pre := [x, y, z, u, t]) hp) rfl hB hQ (.inl ⟨hw, hy⟩) h
end

/-- What stands of the law's first loop: where things stand, and heads. -/
def BackI (B A : Nat) (gs : List Hd) (V6 V7 : Value) (W : World) : Prop :=
  OwnS 30 cellsZ 2 W B V6 (thingsB A gs) ∧ OwnS 32 Hd.cells 4 W B V7 gs ∧ ∀ b, V6.ownBlock = some b → V7.ownBlock ≠ some b

set_option maxRecDepth 100000 in
set_option maxHeartbeats 8000000 in
theorem walkBack_law (a0 : Option Addr) (ca : Nat) (hs : List Hd) (A : Nat) (w : World) (hh : SlS Hd.cells 4 w a0 hs) (hl : hs.length ≤ 20) (hA : A < 256) :
    Calls Try.prog 5 #[.slice a0 hs.length ca, .int .u8 A] w (FixedPost w) := by
  have h1' : decide ((20 : Int) < (hs.length : Int)) = false := by simp; omega
  obtain ⟨i1, hi1, hz10, hz11, hz12⟩ := info_parts info_run12
  obtain ⟨i2, hi2, hz20, hz21, hz22⟩ := info_parts info_head12
  have hcv : (IntKind.i64.wrap (A : Int)) = (A : Int) := IntWalk.i64_in _ (by omega)
  go_enter Try.func5, Try.ntmps5
  go_wp2_with fail
  go_loopw [5, 6, 7, 28] (fun at_ v6 v7 i wr => ∃ (j : Nat), j ≤ hs.length ∧ i = .int .i64 j ∧ at_ = .int .i64 ((A + sumN (goodH (hs.take j)) : Nat) : Int) ∧ BackI w.heap.size A (goodH (hs.take j)) v6 v7 wr ∧ Kept [] w wr) (fun _ _ _ i _ => hs.length - (intOf i).toNat)
  case atStart => exact ⟨0, Nat.zero_le _, rfl, rfl, ⟨OwnS.nil, OwnS.nil, by simp [Value.ownBlock]⟩, Kept.refl _ _⟩
  case round =>
    obtain ⟨j, hj, rfl, rfl, ⟨ho6, ho7, hap⟩, hkr⟩ := hrel
    by_cases hlt : j < hs.length
    · obtain ⟨rb, ro, rfl, hrb, hrc⟩ := (hh.kept hkr).cell hlt
      have cr0 := hrc 0 (by omega)
      have cr1 := hrc 1 (by omega)
      have cr2 := hrc 2 (by omega)
      have cr3 := hrc 3 (by omega)
      have HTK := Lib.hid (List.take_append_getElem hlt)
      obtain ⟨⟨ar, kd, ty, nn⟩, hrj⟩ : ∃ r, hs[j] = r := ⟨_, rfl⟩
      rw [hrj] at cr0 cr1 cr2 cr3 HTK
      simp only [Hd.cells, List.getElem?_cons_zero, List.getElem?_cons_succ, Nat.add_zero] at cr0 cr1 cr2 cr3
      have hjr : (j : Int) < (hs.length : Int) := by omega
      obtain ⟨gs, hgs⟩ : ∃ gs, goodH (hs.take j) = gs := ⟨_, rfl⟩
      rw [hgs] at ho6 ho7 ⊢
      have HGS := Lib.hid hgs
      obtain ⟨P, hP⟩ : ∃ P, A + sumN gs = P := ⟨_, rfl⟩
      rw [hP]
      have HPP := Lib.hid hP
      clear hrc hrj hgs hP
      cases ar
      · skip
        have HN := Lib.hid (show normH ⟨false, kd, ty, nn⟩ = ⟨false, kd, 0, 2⟩ from rfl)
        have rX := Row.new wr 32 [.bool false, .int .i64 kd, .int .i64 0, .int .i64 2]
        have kX := (Kept.refl [] wr).alloc (.cells #[.bool false, .int .i64 kd, .int .i64 0, .int .i64 2] 32)
        go_wp2_with fail
        obtain ⟨X, hX⟩ : ∃ X, wr.heap.size = X := ⟨_, rfl⟩
        rw [hX] at rX ⊢
        generalize wr.alloc (.cells #[.bool false, .int .i64 kd, .int .i64 0, .int .i64 2] 32) = W1 at rX kX ⊢
        clear cr0 cr1 cr2 cr3 hrb
        refine (refMay08_any false kd 0 2 W1).mono ?_
        rintro e w2 ⟨rfl, k2⟩
        have rX2 := rX.kept k2 (by simp)
        have kX2 := kX.trans k2
        have x0 : w2.cell? ⟨X, 0, none⟩ = some (.bool false) := by simpa using rX2.cell 0
        have x1 : w2.cell? ⟨X, 1, none⟩ = some (.int .i64 kd) := by simpa using rX2.cell 1
        have x2 : w2.cell? ⟨X, 2, none⟩ = some (.int .i64 0) := by simpa using rX2.cell 2
        have x3 : w2.cell? ⟨X, 3, none⟩ = some (.int .i64 2) := by simpa using rX2.cell 3
        have o6 := ho6.keptS kX2 (by simp)
        have o7 := ho7.keptS kX2 (by simp)
        have hXl : ∀ b, u6.ownBlock = some b ∨ u7.ownBlock = some b → b < X := by
          intro b hb
          rw [← hX]
          rcases hb with hb | hb
          · exact ho6.lt b hb
          · exact ho7.lt b hb
        have hOg : ∀ b, u6.ownBlock = some b ∨ u7.ownBlock = some b → w.heap.size ≤ b := by
          intro b hb
          rcases hb with hb | hb
          · exact ho6.ge b hb
          · exact ho7.ge b hb
        clear ho6 ho7 rX kX k2
        cases hmay : mayH ⟨false, kd, 0, 2⟩ with
        | false =>
          have HG2 := Lib.hid (show goodH (hs.take (j + 1)) = gs by rw [← HTK.out, goodH_no _ _ (by rw [HN.out]; simp [takeH, hmay]), HGS.out])
          go_wp2
          go_roundw
          case rel => exact ⟨j + 1, by omega, by go_num, by rw [HG2.out, HPP.out], by rw [HG2.out]; exact ⟨o6, o7, hap⟩, hkr.trans kX2⟩
          case measure => simp [intOf]; omega
        | true =>
          have h40' : decide ((40 : Int) < 2) = false := by decide
          have hfair : takeH ⟨false, kd, 0, 2⟩ = true := by simp [takeH, hmay]; try omega
          have HG2 := Lib.hid (show goodH (hs.take (j + 1)) = gs ++ [⟨false, kd, 0, 2⟩] by rw [← HTK.out, goodH_yes _ _ (by rw [HN.out]; exact hfair), HGS.out, HN.out])
          have hfg : ∀ g ∈ gs ++ [⟨false, kd, 0, 2⟩], Fair g := by rw [← HG2.out]; exact goodH_fair _
          have hgl : gs.length ≤ 20 := by
            have := goodH_len (hs.take j)
            rw [HGS.out, List.length_take] at this; omega
          have hPl : P ≤ 2000 := by
            have h1 := sumN_le (gs := gs) (fun g hg => hfg g (by simp [hg]))
            have := HPP.out; omega
          obtain ⟨z1, z2, z3, _, _⟩ := sizeN_eq (hfg ⟨false, kd, 0, 2⟩ (by simp))
          obtain ⟨Z, hZ⟩ : ∃ Z, sizeN ⟨false, kd, 0, 2⟩ = Z := ⟨_, rfl⟩
          rw [hZ] at z1 z2 z3
          have hszc := fun W => refSize08_any false kd 0 2 W
          simp only [z1] at hszc
          have HSZ := Lib.hid hszc
          have HZ := Lib.hid hZ
          have HS1 := Lib.hid z1
          have hl6 : (thingsB A gs).length ≤ 1099511627776 := by rw [thingsB_length]; omega
          have hl7 : gs.length ≤ 1099511627776 := by omega
          have hw2 : w.heap.size ≤ w2.heap.size := Nat.le_trans hkr.size kX2.size
          have hXw : X < w2.heap.size := rX2.lt
          have HOLD := Lib.hid (show ∀ (T : List Nat) (W' : World), Kept T w2 W' → X ∉ T → (fun w' => w'.cell? ⟨X, 0, none⟩ = some (.bool false) ∧ w'.cell? ⟨X, 1, none⟩ = some (.int .i64 kd) ∧ w'.cell? ⟨X, 2, none⟩ = some (.int .i64 0) ∧ w'.cell? ⟨X, 3, none⟩ = some (.int .i64 2)) W' from fun T W' hk hT => ⟨by simpa using (rX2.kept hk hT).cell 0, by simpa using (rX2.kept hk hT).cell 1, by simpa using (rX2.kept hk hT).cell 2, by simpa using (rX2.kept hk hT).cell 3⟩)
          clear hfair hfg hszc hZ z1 z2 hmay
          go_wp2_with fail
          have kc : Kept [] w2 w2.drew := (Kept.refl _ _).drew
          refine wp_region_pick (fun w' => w'.cell? ⟨X, 0, none⟩ = some (.bool false) ∧ w'.cell? ⟨X, 1, none⟩ = some (.int .i64 kd) ∧ w'.cell? ⟨X, 2, none⟩ = some (.int .i64 0) ∧ w'.cell? ⟨X, 3, none⟩ = some (.int .i64 2)) (by kernel_rfl) (HOLD.out [] _ kc (by simp)) ?_
          have o6 := o6.keptS kc (by simp)
          have o7 := o7.keptS kc (by simp)
          generalize w2.drew = v0 at kc o6 o7 ⊢
          clear x0 x1 x2 x3
          simp only [numbered, List.length_cons, List.length_nil, Nat.reduceAdd]
          repeat (first
            | (refine pick_take0 (v := ?_) rfl (by decide +kernel) (fun _ _ _ h => h) (by rfl) ?_ ?_; rotate_left; (intro w hSw; (try dsimp only at hSw); go_simp; try with_reducible rfl); go_frame)
            | (refine pick_take1 (v := ?_) rfl (by decide +kernel) (fun _ _ _ h => h) (by rfl) ?_ ?_; rotate_left; (intro w hSw; (try dsimp only at hSw); go_simp; try with_reducible rfl); go_frame)
            | (refine pick_take2 (v := ?_) rfl (by decide +kernel) (fun _ _ _ h => h) (by rfl) ?_ ?_; rotate_left; (intro w hSw; (try dsimp only at hSw); go_simp; try with_reducible rfl); go_frame)
            | (refine pick_take3 (v := ?_) rfl (by decide +kernel) (fun _ _ _ h => h) (by rfl) ?_ ?_; rotate_left; (intro w hSw; (try dsimp only at hSw); go_simp; try with_reducible rfl); go_frame)
            | (refine pick_take4 (v := ?_) rfl (by decide +kernel) (fun _ _ _ h => h) (by rfl) ?_ ?_; rotate_left; (intro w hSw; (try dsimp only at hSw); go_simp; try with_reducible rfl); go_frame)
            | (refine pick_take5 (v := ?_) rfl (by decide +kernel) (fun _ _ _ h => h) (by rfl) ?_ ?_; rotate_left; (intro w hSw; (try dsimp only at hSw); go_simp; try with_reducible rfl); go_frame))
          refine pick_two 3 rfl (by decide +kernel) (by rfl) (by rfl) (fun K hK => ?_) (fun K hK => ?_)
          · go_simp
            go_at_call 20
            refine (HSZ.out _).mono ?_
            rintro e v3 ⟨rfl, kn⟩
            have kc := kc.trans kn
            have o6 := o6.keptS kn (by simp)
            have o7 := o7.keptS kn (by simp)
            refine hK _ _ (HOLD.out [] _ kc (by simp)) ?_
            clear hK K kn
            repeat (first
              | (refine pick_take0 (v := ?_) rfl (by decide +kernel) (fun _ _ _ h => h) (by rfl) ?_ ?_; rotate_left; (intro w hSw; (try dsimp only at hSw); go_simp; try with_reducible rfl); go_frame)
              | (refine pick_take1 (v := ?_) rfl (by decide +kernel) (fun _ _ _ h => h) (by rfl) ?_ ?_; rotate_left; (intro w hSw; (try dsimp only at hSw); go_simp; try with_reducible rfl); go_frame)
              | (refine pick_take2 (v := ?_) rfl (by decide +kernel) (fun _ _ _ h => h) (by rfl) ?_ ?_; rotate_left; (intro w hSw; (try dsimp only at hSw); go_simp; try with_reducible rfl); go_frame)
              | (refine pick_take3 (v := ?_) rfl (by decide +kernel) (fun _ _ _ h => h) (by rfl) ?_ ?_; rotate_left; (intro w hSw; (try dsimp only at hSw); go_simp; try with_reducible rfl); go_frame)
              | (refine pick_take4 (v := ?_) rfl (by decide +kernel) (fun _ _ _ h => h) (by rfl) ?_ ?_; rotate_left; (intro w hSw; (try dsimp only at hSw); go_simp; try with_reducible rfl); go_frame)
              | (refine pick_take5 (v := ?_) rfl (by decide +kernel) (fun _ _ _ h => h) (by rfl) ?_ ?_; rotate_left; (intro w hSw; (try dsimp only at hSw); go_simp; try with_reducible rfl); go_frame))
            refine pick_two 1 rfl (by decide +kernel) (by rfl) (by rfl) (fun K hK => ?_) (fun K hK => ?_)
            · go_simp
              have kb := kc
              have kn := (Kept.refl [] v3).alloc (.cells #[.int .i64 (P : Int), .int .i64 (Z : Int)] 30)
              have r5 := Row.new v3 30 [.int .i64 (P : Int), .int .i64 (Z : Int)]
              have kc := kc.trans kn
              have o6 := o6.keptS kn (by simp)
              have o7 := o7.keptS kn (by simp)
              have hE5 := kc.size
              obtain ⟨E5, hEE⟩ : ∃ E, v3.heap.size = E := ⟨_, rfl⟩
              have hEl5 : w2.heap.size ≤ E5 := by rw [← hEE]; exact kb.size
              rw [hEE] at r5 ⊢
              refine hK _ _ (HOLD.out _ _ kc (by simp)) ?_
              clear hK K hEE kb hE5
              generalize v3.alloc (.cells #[.int .i64 (P : Int), .int .i64 (Z : Int)] 30) = v5 at *
              clear kn
              repeat (first
                | (refine pick_take0 (v := ?_) rfl (by decide +kernel) (fun _ _ _ h => h) (by rfl) ?_ ?_; rotate_left; (intro w hSw; (try dsimp only at hSw); go_simp; try with_reducible rfl); go_frame)
                | (refine pick_take1 (v := ?_) rfl (by decide +kernel) (fun _ _ _ h => h) (by rfl) ?_ ?_; rotate_left; (intro w hSw; (try dsimp only at hSw); go_simp; try with_reducible rfl); go_frame)
                | (refine pick_take2 (v := ?_) rfl (by decide +kernel) (fun _ _ _ h => h) (by rfl) ?_ ?_; rotate_left; (intro w hSw; (try dsimp only at hSw); go_simp; try with_reducible rfl); go_frame)
                | (refine pick_take3 (v := ?_) rfl (by decide +kernel) (fun _ _ _ h => h) (by rfl) ?_ ?_; rotate_left; (intro w hSw; (try dsimp only at hSw); go_simp; try with_reducible rfl); go_frame)
                | (refine pick_take4 (v := ?_) rfl (by decide +kernel) (fun _ _ _ h => h) (by rfl) ?_ ?_; rotate_left; (intro w hSw; (try dsimp only at hSw); go_simp; try with_reducible rfl); go_frame)
                | (refine pick_take5 (v := ?_) rfl (by decide +kernel) (fun _ _ _ h => h) (by rfl) ?_ ?_; rotate_left; (intro w hSw; (try dsimp only at hSw); go_simp; try with_reducible rfl); go_frame))
              refine pick_two 0 rfl (by decide +kernel) (by rfl) (by rfl) (fun K hK => ?_) (fun K hK => ?_)
              · refine wp_append_y _ _ 24 rfl w.heap.size i1 _ 16 Try.underlying24 hi1 hz10 hz11 hz12 rfl (by decide) (by decide) u6 _ ((P : Int), (Z : Int)) (cellsZ_length _) (cellsZ_one _) rfl E5 rfl r5 o6 (Nat.le_trans hw2 kc.size) hl6 ?_
                intro g6 c6 v6 o6 kn hat6
                have hx6 : X ∉ u6.ownBlock.toList := fun hm => by rw [Option.mem_toList] at hm; exact absurd (hXl X (.inl hm)) (Nat.lt_irrefl X)
                have hsz6 := kc.size
                have hg67 : u7.ownBlock ≠ some g6 := fun e7 => by
                  rcases hat6 with h' | h'
                  · exact hap _ h' e7
                  · have := o7.lt _ e7; omega
                have o7 := o7.keptS kn (fun jj h7 hm => by rw [Option.mem_toList] at hm; exact hap _ hm h7)
                have kc : Kept u6.ownBlock.toList w2 v6 := (kc.any).trans kn
                refine hK _ _ (HOLD.out _ _ kc hx6) ?_
                clear hK K hat6 kn hsz6
                repeat (first
                  | (refine pick_take0 (v := ?_) rfl (by decide +kernel) (fun _ _ _ h => h) (by rfl) ?_ ?_; rotate_left; (intro w hSw; (try dsimp only at hSw); go_simp; try with_reducible rfl); go_frame)
                  | (refine pick_take1 (v := ?_) rfl (by decide +kernel) (fun _ _ _ h => h) (by rfl) ?_ ?_; rotate_left; (intro w hSw; (try dsimp only at hSw); go_simp; try with_reducible rfl); go_frame)
                  | (refine pick_take2 (v := ?_) rfl (by decide +kernel) (fun _ _ _ h => h) (by rfl) ?_ ?_; rotate_left; (intro w hSw; (try dsimp only at hSw); go_simp; try with_reducible rfl); go_frame)
                  | (refine pick_take3 (v := ?_) rfl (by decide +kernel) (fun _ _ _ h => h) (by rfl) ?_ ?_; rotate_left; (intro w hSw; (try dsimp only at hSw); go_simp; try with_reducible rfl); go_frame)
                  | (refine pick_take4 (v := ?_) rfl (by decide +kernel) (fun _ _ _ h => h) (by rfl) ?_ ?_; rotate_left; (intro w hSw; (try dsimp only at hSw); go_simp; try with_reducible rfl); go_frame)
                  | (refine pick_take5 (v := ?_) rfl (by decide +kernel) (fun _ _ _ h => h) (by rfl) ?_ ?_; rotate_left; (intro w hSw; (try dsimp only at hSw); go_simp; try with_reducible rfl); go_frame))
                refine pick_call (by decide +kernel) (by rfl) (fun K hK => ?_)
                go_simp
                have kb := kc
                have kn := (Kept.refl [] v6).alloc (.cells #[.bool false, .int .i64 kd, .int .i64 0, .int .i64 2] 32)
                have r9 := Row.new v6 32 [.bool false, .int .i64 kd, .int .i64 0, .int .i64 2]
                have kc := kc.trans kn.any
                have o6 := o6.keptS kn (by simp)
                have o7 := o7.keptS kn (by simp)
                have hE9 := kc.size
                obtain ⟨E9, hEE⟩ : ∃ E, v6.heap.size = E := ⟨_, rfl⟩
                have hEl9 : w2.heap.size ≤ E9 := by rw [← hEE]; exact kb.size
                rw [hEE] at r9 ⊢
                refine hK _ _ (HOLD.out _ _ kc hx6) ?_
                clear hK K hEE kb hE9
                generalize v6.alloc (.cells #[.bool false, .int .i64 kd, .int .i64 0, .int .i64 2] 32) = v9 at *
                clear kn
                repeat (first
                  | (refine pick_take0 (v := ?_) rfl (by decide +kernel) (fun _ _ _ h => h) (by rfl) ?_ ?_; rotate_left; (intro w hSw; (try dsimp only at hSw); go_simp; try with_reducible rfl); go_frame)
                  | (refine pick_take1 (v := ?_) rfl (by decide +kernel) (fun _ _ _ h => h) (by rfl) ?_ ?_; rotate_left; (intro w hSw; (try dsimp only at hSw); go_simp; try with_reducible rfl); go_frame)
                  | (refine pick_take2 (v := ?_) rfl (by decide +kernel) (fun _ _ _ h => h) (by rfl) ?_ ?_; rotate_left; (intro w hSw; (try dsimp only at hSw); go_simp; try with_reducible rfl); go_frame)
                  | (refine pick_take3 (v := ?_) rfl (by decide +kernel) (fun _ _ _ h => h) (by rfl) ?_ ?_; rotate_left; (intro w hSw; (try dsimp only at hSw); go_simp; try with_reducible rfl); go_frame)
                  | (refine pick_take4 (v := ?_) rfl (by decide +kernel) (fun _ _ _ h => h) (by rfl) ?_ ?_; rotate_left; (intro w hSw; (try dsimp only at hSw); go_simp; try with_reducible rfl); go_frame)
                  | (refine pick_take5 (v := ?_) rfl (by decide +kernel) (fun _ _ _ h => h) (by rfl) ?_ ?_; rotate_left; (intro w hSw; (try dsimp only at hSw); go_simp; try with_reducible rfl); go_frame))
                refine pick_call (by decide +kernel) (by rfl) (fun K hK => ?_)
                refine wp_append_y _ _ 55 rfl w.heap.size i2 _ 32 Try.underlying55 hi2 hz20 hz21 hz22 rfl (by decide) (by decide) u7 _ (Hd.mk false kd 0 2) (Hd.cells_length _) (Hd.cells_one _) rfl E9 rfl r9 o7 (Nat.le_trans hw2 kc.size) hl7 ?_
                intro g7 c7 v10 o7 kn hat7
                have hx7 : X ∉ u7.ownBlock.toList := fun hm => by rw [Option.mem_toList] at hm; exact absurd (hXl X (.inr hm)) (Nat.lt_irrefl X)
                have hgg : g6 ≠ g7 := fun e7 => by
                  rcases hat7 with h' | h'
                  · exact hg67 (by rw [e7]; exact h')
                  · have := o6.lt g6 rfl; omega
                have o6 := o6.keptS kn (fun jj h6 hm => by rw [Option.mem_toList] at hm; cases h6; exact hg67 hm)
                have kc : Kept (u6.ownBlock.toList ++ u7.ownBlock.toList) w2 v10 := kc.chain kn (fun i hi _ => List.mem_append_left _ hi) (fun i hi _ => List.mem_append_right _ hi)
                refine hK _ _ (HOLD.out _ _ kc (fun hm => (List.mem_append.1 hm).elim hx6 hx7)) ?_
                clear hK K kn hat7
                repeat (first
                  | (refine pick_take0 (v := ?_) rfl (by decide +kernel) (fun _ _ _ h => h) (by rfl) ?_ ?_; rotate_left; (intro w hSw; (try dsimp only at hSw); go_simp; try with_reducible rfl); go_frame)
                  | (refine pick_take1 (v := ?_) rfl (by decide +kernel) (fun _ _ _ h => h) (by rfl) ?_ ?_; rotate_left; (intro w hSw; (try dsimp only at hSw); go_simp; try with_reducible rfl); go_frame)
                  | (refine pick_take2 (v := ?_) rfl (by decide +kernel) (fun _ _ _ h => h) (by rfl) ?_ ?_; rotate_left; (intro w hSw; (try dsimp only at hSw); go_simp; try with_reducible rfl); go_frame)
                  | (refine pick_take3 (v := ?_) rfl (by decide +kernel) (fun _ _ _ h => h) (by rfl) ?_ ?_; rotate_left; (intro w hSw; (try dsimp only at hSw); go_simp; try with_reducible rfl); go_frame)
                  | (refine pick_take4 (v := ?_) rfl (by decide +kernel) (fun _ _ _ h => h) (by rfl) ?_ ?_; rotate_left; (intro w hSw; (try dsimp only at hSw); go_simp; try with_reducible rfl); go_frame)
                  | (refine pick_take5 (v := ?_) rfl (by decide +kernel) (fun _ _ _ h => h) (by rfl) ?_ ?_; rotate_left; (intro w hSw; (try dsimp only at hSw); go_simp; try with_reducible rfl); go_frame))
                refine pick_done (by decide +kernel) ?_
                obtain ⟨x0, x1, x2, x3⟩ := HOLD.out _ _ kc (fun hm => (List.mem_append.1 hm).elim hx6 hx7)
                clear HOLD hap hg67
                go_wp2_with fail
                refine (HSZ.out _).mono ?_
                rintro e w9 ⟨rfl, k9⟩
                have hwz : IntKind.i64.wrap ((P : Int) + (Z : Int)) = (P : Int) + (Z : Int) := IntWalk.i64_in _ (by omega)
                go_wp2
                go_roundw
                case rel =>
                  refine ⟨j + 1, by omega, by go_num, ?_, ?_, ?_⟩
                  · rw [HG2.out, sumN_snoc, HZ.out]
                    have := HPP.out
                    congr 1
                    omega
                  · rw [HG2.out]
                    refine ⟨?_, o7.keptS k9 (by simp), ?_⟩
                    · rw [thingsB_snoc, HPP.out, HS1.out]
                      exact o6.keptS k9 (by simp)
                    · intro b h6 h7
                      cases h6
                      cases h7
                      exact hgg rfl
                  · exact (hkr.trans kX2).chain (kc.trans k9.any) (by simp) (fun i hi hl => by
                      have : w.heap.size ≤ i := by
                        rcases List.mem_append.1 hi with hi | hi
                        · rw [Option.mem_toList] at hi; exact hOg i (.inl hi)
                        · rw [Option.mem_toList] at hi; exact hOg i (.inr hi)
                      omega)
                case measure => simp [intOf]; omega
              · go_simp
                have kb := kc
                have kn := (Kept.refl [] v5).alloc (.cells #[.bool false, .int .i64 kd, .int .i64 0, .int .i64 2] 32)
                have r5 := r5.kept kn (by simp)
                have r9 := Row.new v5 32 [.bool false, .int .i64 kd, .int .i64 0, .int .i64 2]
                have kc := kc.trans kn
                have o6 := o6.keptS kn (by simp)
                have o7 := o7.keptS kn (by simp)
                have hE9 := kc.size
                obtain ⟨E9, hEE⟩ : ∃ E, v5.heap.size = E := ⟨_, rfl⟩
                have hEl9 : w2.heap.size ≤ E9 := by rw [← hEE]; exact kb.size
                rw [hEE] at r9 ⊢
                refine hK _ _ (HOLD.out _ _ kc (by simp)) ?_
                clear hK K hEE kb hE9
                generalize v5.alloc (.cells #[.bool false, .int .i64 kd, .int .i64 0, .int .i64 2] 32) = v9 at *
                clear kn
                repeat (first
                  | (refine pick_take0 (v := ?_) rfl (by decide +kernel) (fun _ _ _ h => h) (by rfl) ?_ ?_; rotate_left; (intro w hSw; (try dsimp only at hSw); go_simp; try with_reducible rfl); go_frame)
                  | (refine pick_take1 (v := ?_) rfl (by decide +kernel) (fun _ _ _ h => h) (by rfl) ?_ ?_; rotate_left; (intro w hSw; (try dsimp only at hSw); go_simp; try with_reducible rfl); go_frame)
                  | (refine pick_take2 (v := ?_) rfl (by decide +kernel) (fun _ _ _ h => h) (by rfl) ?_ ?_; rotate_left; (intro w hSw; (try dsimp only at hSw); go_simp; try with_reducible rfl); go_frame)
                  | (refine pick_take3 (v := ?_) rfl (by decide +kernel) (fun _ _ _ h => h) (by rfl) ?_ ?_; rotate_left; (intro w hSw; (try dsimp only at hSw); go_simp; try with_reducible rfl); go_frame)
                  | (refine pick_take4 (v := ?_) rfl (by decide +kernel) (fun _ _ _ h => h) (by rfl) ?_ ?_; rotate_left; (intro w hSw; (try dsimp only at hSw); go_simp; try with_reducible rfl); go_frame)
                  | (refine pick_take5 (v := ?_) rfl (by decide +kernel) (fun _ _ _ h => h) (by rfl) ?_ ?_; rotate_left; (intro w hSw; (try dsimp only at hSw); go_simp; try with_reducible rfl); go_frame))
                refine pick_call (by decide +kernel) (by rfl) (fun K hK => ?_)
                refine wp_append_y _ _ 24 rfl w.heap.size i1 _ 16 Try.underlying24 hi1 hz10 hz11 hz12 rfl (by decide) (by decide) u6 _ ((P : Int), (Z : Int)) (cellsZ_length _) (cellsZ_one _) rfl E5 rfl r5 o6 (Nat.le_trans hw2 kc.size) hl6 ?_
                intro g6 c6 v6 o6 kn hat6
                have hx6 : X ∉ u6.ownBlock.toList := fun hm => by rw [Option.mem_toList] at hm; exact absurd (hXl X (.inl hm)) (Nat.lt_irrefl X)
                have r9 := r9.kept kn (fun hm => by rw [Option.mem_toList] at hm; have := hXl _ (.inl hm); omega)
                have hsz6 := kc.size
                have hg67 : u7.ownBlock ≠ some g6 := fun e7 => by
                  rcases hat6 with h' | h'
                  · exact hap _ h' e7
                  · have := o7.lt _ e7; omega
                have o7 := o7.keptS kn (fun jj h7 hm => by rw [Option.mem_toList] at hm; exact hap _ hm h7)
                have kc : Kept u6.ownBlock.toList w2 v6 := (kc.any).trans kn
                refine hK _ _ (HOLD.out _ _ kc hx6) ?_
                clear hK K hat6 kn hsz6
                repeat (first
                  | (refine pick_take0 (v := ?_) rfl (by decide +kernel) (fun _ _ _ h => h) (by rfl) ?_ ?_; rotate_left; (intro w hSw; (try dsimp only at hSw); go_simp; try with_reducible rfl); go_frame)
                  | (refine pick_take1 (v := ?_) rfl (by decide +kernel) (fun _ _ _ h => h) (by rfl) ?_ ?_; rotate_left; (intro w hSw; (try dsimp only at hSw); go_simp; try with_reducible rfl); go_frame)
                  | (refine pick_take2 (v := ?_) rfl (by decide +kernel) (fun _ _ _ h => h) (by rfl) ?_ ?_; rotate_left; (intro w hSw; (try dsimp only at hSw); go_simp; try with_reducible rfl); go_frame)
                  | (refine pick_take3 (v := ?_) rfl (by decide +kernel) (fun _ _ _ h => h) (by rfl) ?_ ?_; rotate_left; (intro w hSw; (try dsimp only at hSw); go_simp; try with_reducible rfl); go_frame)
                  | (refine pick_take4 (v := ?_) rfl (by decide +kernel) (fun _ _ _ h => h) (by rfl) ?_ ?_; rotate_left; (intro w hSw; (try dsimp only at hSw); go_simp; try with_reducible rfl); go_frame)
                  | (refine pick_take5 (v := ?_) rfl (by decide +kernel) (fun _ _ _ h => h) (by rfl) ?_ ?_; rotate_left; (intro w hSw; (try dsimp only at hSw); go_simp; try with_reducible rfl); go_frame))
                refine pick_call (by decide +kernel) (by rfl) (fun K hK => ?_)
                refine wp_append_y _ _ 55 rfl w.heap.size i2 _ 32 Try.underlying55 hi2 hz20 hz21 hz22 rfl (by decide) (by decide) u7 _ (Hd.mk false kd 0 2) (Hd.cells_length _) (Hd.cells_one _) rfl E9 rfl r9 o7 (Nat.le_trans hw2 kc.size) hl7 ?_
                intro g7 c7 v10 o7 kn hat7
                have hx7 : X ∉ u7.ownBlock.toList := fun hm => by rw [Option.mem_toList] at hm; exact absurd (hXl X (.inr hm)) (Nat.lt_irrefl X)
                have hgg : g6 ≠ g7 := fun e7 => by
                  rcases hat7 with h' | h'
                  · exact hg67 (by rw [e7]; exact h')
                  · have := o6.lt g6 rfl; omega
                have o6 := o6.keptS kn (fun jj h6 hm => by rw [Option.mem_toList] at hm; cases h6; exact hg67 hm)
                have kc : Kept (u6.ownBlock.toList ++ u7.ownBlock.toList) w2 v10 := kc.chain kn (fun i hi _ => List.mem_append_left _ hi) (fun i hi _ => List.mem_append_right _ hi)
                refine hK _ _ (HOLD.out _ _ kc (fun hm => (List.mem_append.1 hm).elim hx6 hx7)) ?_
                clear hK K kn hat7
                repeat (first
                  | (refine pick_take0 (v := ?_) rfl (by decide +kernel) (fun _ _ _ h => h) (by rfl) ?_ ?_; rotate_left; (intro w hSw; (try dsimp only at hSw); go_simp; try with_reducible rfl); go_frame)
                  | (refine pick_take1 (v := ?_) rfl (by decide +kernel) (fun _ _ _ h => h) (by rfl) ?_ ?_; rotate_left; (intro w hSw; (try dsimp only at hSw); go_simp; try with_reducible rfl); go_frame)
                  | (refine pick_take2 (v := ?_) rfl (by decide +kernel) (fun _ _ _ h => h) (by rfl) ?_ ?_; rotate_left; (intro w hSw; (try dsimp only at hSw); go_simp; try with_reducible rfl); go_frame)
                  | (refine pick_take3 (v := ?_) rfl (by decide +kernel) (fun _ _ _ h => h) (by rfl) ?_ ?_; rotate_left; (intro w hSw; (try dsimp only at hSw); go_simp; try with_reducible rfl); go_frame)
                  | (refine pick_take4 (v := ?_) rfl (by decide +kernel) (fun _ _ _ h => h) (by rfl) ?_ ?_; rotate_left; (intro w hSw; (try dsimp only at hSw); go_simp; try with_reducible rfl); go_frame)
                  | (refine pick_take5 (v := ?_) rfl (by decide +kernel) (fun _ _ _ h => h) (by rfl) ?_ ?_; rotate_left; (intro w hSw; (try dsimp only at hSw); go_simp; try with_reducible rfl); go_frame))
                refine pick_done (by decide +kernel) ?_
                obtain ⟨x0, x1, x2, x3⟩ := HOLD.out _ _ kc (fun hm => (List.mem_append.1 hm).elim hx6 hx7)
                clear HOLD hap hg67
                go_wp2_with fail
                refine (HSZ.out _).mono ?_
                rintro e w9 ⟨rfl, k9⟩
                have hwz : IntKind.i64.wrap ((P : Int) + (Z : Int)) = (P : Int) + (Z : Int) := IntWalk.i64_in _ (by omega)
                go_wp2
                go_roundw
                case rel =>
                  refine ⟨j + 1, by omega, by go_num, ?_, ?_, ?_⟩
                  · rw [HG2.out, sumN_snoc, HZ.out]
                    have := HPP.out
                    congr 1
                    omega
                  · rw [HG2.out]
                    refine ⟨?_, o7.keptS k9 (by simp), ?_⟩
                    · rw [thingsB_snoc, HPP.out, HS1.out]
                      exact o6.keptS k9 (by simp)
                    · intro b h6 h7
                      cases h6
                      cases h7
                      exact hgg rfl
                  · exact (hkr.trans kX2).chain (kc.trans k9.any) (by simp) (fun i hi hl => by
                      have : w.heap.size ≤ i := by
                        rcases List.mem_append.1 hi with hi | hi
                        · rw [Option.mem_toList] at hi; exact hOg i (.inl hi)
                        · rw [Option.mem_toList] at hi; exact hOg i (.inr hi)
                      omega)
                case measure => simp [intOf]; omega
            · go_simp
              have kb := kc
              have kn := (Kept.refl [] v3).alloc (.cells #[.bool false, .int .i64 kd, .int .i64 0, .int .i64 2] 32)
              have r9 := Row.new v3 32 [.bool false, .int .i64 kd, .int .i64 0, .int .i64 2]
              have kc := kc.trans kn
              have o6 := o6.keptS kn (by simp)
              have o7 := o7.keptS kn (by simp)
              have hE9 := kc.size
              obtain ⟨E9, hEE⟩ : ∃ E, v3.heap.size = E := ⟨_, rfl⟩
              have hEl9 : w2.heap.size ≤ E9 := by rw [← hEE]; exact kb.size
              rw [hEE] at r9 ⊢
              refine hK _ _ (HOLD.out _ _ kc (by simp)) ?_
              clear hK K hEE kb hE9
              generalize v3.alloc (.cells #[.bool false, .int .i64 kd, .int .i64 0, .int .i64 2] 32) = v9 at *
              clear kn
              repeat (first
                | (refine pick_take0 (v := ?_) rfl (by decide +kernel) (fun _ _ _ h => h) (by rfl) ?_ ?_; rotate_left; (intro w hSw; (try dsimp only at hSw); go_simp; try with_reducible rfl); go_frame)
                | (refine pick_take1 (v := ?_) rfl (by decide +kernel) (fun _ _ _ h => h) (by rfl) ?_ ?_; rotate_left; (intro w hSw; (try dsimp only at hSw); go_simp; try with_reducible rfl); go_frame)
                | (refine pick_take2 (v := ?_) rfl (by decide +kernel) (fun _ _ _ h => h) (by rfl) ?_ ?_; rotate_left; (intro w hSw; (try dsimp only at hSw); go_simp; try with_reducible rfl); go_frame)
                | (refine pick_take3 (v := ?_) rfl (by decide +kernel) (fun _ _ _ h => h) (by rfl) ?_ ?_; rotate_left; (intro w hSw; (try dsimp only at hSw); go_simp; try with_reducible rfl); go_frame)
                | (refine pick_take4 (v := ?_) rfl (by decide +kernel) (fun _ _ _ h => h) (by rfl) ?_ ?_; rotate_left; (intro w hSw; (try dsimp only at hSw); go_simp; try with_reducible rfl); go_frame)
                | (refine pick_take5 (v := ?_) rfl (by decide +kernel) (fun _ _ _ h => h) (by rfl) ?_ ?_; rotate_left; (intro w hSw; (try dsimp only at hSw); go_simp; try with_reducible rfl); go_frame))
              refine pick_call (by decide +kernel) (by rfl) (fun K hK => ?_)
              go_simp
              have kb := kc
              have kn := (Kept.refl [] v9).alloc (.cells #[.int .i64 (P : Int), .int .i64 (Z : Int)] 30)
              have r9 := r9.kept kn (by simp)
              have r5 := Row.new v9 30 [.int .i64 (P : Int), .int .i64 (Z : Int)]
              have kc := kc.trans kn
              have o6 := o6.keptS kn (by simp)
              have o7 := o7.keptS kn (by simp)
              have hE5 := kc.size
              obtain ⟨E5, hEE⟩ : ∃ E, v9.heap.size = E := ⟨_, rfl⟩
              have hEl5 : w2.heap.size ≤ E5 := by rw [← hEE]; exact kb.size
              rw [hEE] at r5 ⊢
              refine hK _ _ (HOLD.out _ _ kc (by simp)) ?_
              clear hK K hEE kb hE5
              generalize v9.alloc (.cells #[.int .i64 (P : Int), .int .i64 (Z : Int)] 30) = v5 at *
              clear kn
              repeat (first
                | (refine pick_take0 (v := ?_) rfl (by decide +kernel) (fun _ _ _ h => h) (by rfl) ?_ ?_; rotate_left; (intro w hSw; (try dsimp only at hSw); go_simp; try with_reducible rfl); go_frame)
                | (refine pick_take1 (v := ?_) rfl (by decide +kernel) (fun _ _ _ h => h) (by rfl) ?_ ?_; rotate_left; (intro w hSw; (try dsimp only at hSw); go_simp; try with_reducible rfl); go_frame)
                | (refine pick_take2 (v := ?_) rfl (by decide +kernel) (fun _ _ _ h => h) (by rfl) ?_ ?_; rotate_left; (intro w hSw; (try dsimp only at hSw); go_simp; try with_reducible rfl); go_frame)
                | (refine pick_take3 (v := ?_) rfl (by decide +kernel) (fun _ _ _ h => h) (by rfl) ?_ ?_; rotate_left; (intro w hSw; (try dsimp only at hSw); go_simp; try with_reducible rfl); go_frame)
                | (refine pick_take4 (v := ?_) rfl (by decide +kernel) (fun _ _ _ h => h) (by rfl) ?_ ?_; rotate_left; (intro w hSw; (try dsimp only at hSw); go_simp; try with_reducible rfl); go_frame)
                | (refine pick_take5 (v := ?_) rfl (by decide +kernel) (fun _ _ _ h => h) (by rfl) ?_ ?_; rotate_left; (intro w hSw; (try dsimp only at hSw); go_simp; try with_reducible rfl); go_frame))
              refine pick_call (by decide +kernel) (by rfl) (fun K hK => ?_)
              refine wp_append_y _ _ 24 rfl w.heap.size i1 _ 16 Try.underlying24 hi1 hz10 hz11 hz12 rfl (by decide) (by decide) u6 _ ((P : Int), (Z : Int)) (cellsZ_length _) (cellsZ_one _) rfl E5 rfl r5 o6 (Nat.le_trans hw2 kc.size) hl6 ?_
              intro g6 c6 v6 o6 kn hat6
              have hx6 : X ∉ u6.ownBlock.toList := fun hm => by rw [Option.mem_toList] at hm; exact absurd (hXl X (.inl hm)) (Nat.lt_irrefl X)
              have r9 := r9.kept kn (fun hm => by rw [Option.mem_toList] at hm; have := hXl _ (.inl hm); omega)
              have hsz6 := kc.size
              have hg67 : u7.ownBlock ≠ some g6 := fun e7 => by
                rcases hat6 with h' | h'
                · exact hap _ h' e7
                · have := o7.lt _ e7; omega
              have o7 := o7.keptS kn (fun jj h7 hm => by rw [Option.mem_toList] at hm; exact hap _ hm h7)
              have kc : Kept u6.ownBlock.toList w2 v6 := (kc.any).trans kn
              refine hK _ _ (HOLD.out _ _ kc hx6) ?_
              clear hK K hat6 kn hsz6
              repeat (first
                | (refine pick_take0 (v := ?_) rfl (by decide +kernel) (fun _ _ _ h => h) (by rfl) ?_ ?_; rotate_left; (intro w hSw; (try dsimp only at hSw); go_simp; try with_reducible rfl); go_frame)
                | (refine pick_take1 (v := ?_) rfl (by decide +kernel) (fun _ _ _ h => h) (by rfl) ?_ ?_; rotate_left; (intro w hSw; (try dsimp only at hSw); go_simp; try with_reducible rfl); go_frame)
                | (refine pick_take2 (v := ?_) rfl (by decide +kernel) (fun _ _ _ h => h) (by rfl) ?_ ?_; rotate_left; (intro w hSw; (try dsimp only at hSw); go_simp; try with_reducible rfl); go_frame)
                | (refine pick_take3 (v := ?_) rfl (by decide +kernel) (fun _ _ _ h => h) (by rfl) ?_ ?_; rotate_left; (intro w hSw; (try dsimp only at hSw); go_simp; try with_reducible rfl); go_frame)
                | (refine pick_take4 (v := ?_) rfl (by decide +kernel) (fun _ _ _ h => h) (by rfl) ?_ ?_; rotate_left; (intro w hSw; (try dsimp only at hSw); go_simp; try with_reducible rfl); go_frame)
                | (refine pick_take5 (v := ?_) rfl (by decide +kernel) (fun _ _ _ h => h) (by rfl) ?_ ?_; rotate_left; (intro w hSw; (try dsimp only at hSw); go_simp; try with_reducible rfl); go_frame))
              refine pick_call (by decide +kernel) (by rfl) (fun K hK => ?_)
              refine wp_append_y _ _ 55 rfl w.heap.size i2 _ 32 Try.underlying55 hi2 hz20 hz21 hz22 rfl (by decide) (by decide) u7 _ (Hd.mk false kd 0 2) (Hd.cells_length _) (Hd.cells_one _) rfl E9 rfl r9 o7 (Nat.le_trans hw2 kc.size) hl7 ?_
              intro g7 c7 v10 o7 kn hat7
              have hx7 : X ∉ u7.ownBlock.toList := fun hm => by rw [Option.mem_toList] at hm; exact absurd (hXl X (.inr hm)) (Nat.lt_irrefl X)
              have hgg : g6 ≠ g7 := fun e7 => by
                rcases hat7 with h' | h'
                · exact hg67 (by rw [e7]; exact h')
                · have := o6.lt g6 rfl; omega
              have o6 := o6.keptS kn (fun jj h6 hm => by rw [Option.mem_toList] at hm; cases h6; exact hg67 hm)
              have kc : Kept (u6.ownBlock.toList ++ u7.ownBlock.toList) w2 v10 := kc.chain kn (fun i hi _ => List.mem_append_left _ hi) (fun i hi _ => List.mem_append_right _ hi)
              refine hK _ _ (HOLD.out _ _ kc (fun hm => (List.mem_append.1 hm).elim hx6 hx7)) ?_
              clear hK K kn hat7
              repeat (first
                | (refine pick_take0 (v := ?_) rfl (by decide +kernel) (fun _ _ _ h => h) (by rfl) ?_ ?_; rotate_left; (intro w hSw; (try dsimp only at hSw); go_simp; try with_reducible rfl); go_frame)
                | (refine pick_take1 (v := ?_) rfl (by decide +kernel) (fun _ _ _ h => h) (by rfl) ?_ ?_; rotate_left; (intro w hSw; (try dsimp only at hSw); go_simp; try with_reducible rfl); go_frame)
                | (refine pick_take2 (v := ?_) rfl (by decide +kernel) (fun _ _ _ h => h) (by rfl) ?_ ?_; rotate_left; (intro w hSw; (try dsimp only at hSw); go_simp; try with_reducible rfl); go_frame)
                | (refine pick_take3 (v := ?_) rfl (by decide +kernel) (fun _ _ _ h => h) (by rfl) ?_ ?_; rotate_left; (intro w hSw; (try dsimp only at hSw); go_simp; try with_reducible rfl); go_frame)
                | (refine pick_take4 (v := ?_) rfl (by decide +kernel) (fun _ _ _ h => h) (by rfl) ?_ ?_; rotate_left; (intro w hSw; (try dsimp only at hSw); go_simp; try with_reducible rfl); go_frame)
                | (refine pick_take5 (v := ?_) rfl (by decide +kernel) (fun _ _ _ h => h) (by rfl) ?_ ?_; rotate_left; (intro w hSw; (try dsimp only at hSw); go_simp; try with_reducible rfl); go_frame))
              refine pick_done (by decide +kernel) ?_
              obtain ⟨x0, x1, x2, x3⟩ := HOLD.out _ _ kc (fun hm => (List.mem_append.1 hm).elim hx6 hx7)
              clear HOLD hap hg67
              go_wp2_with fail
              refine (HSZ.out _).mono ?_
              rintro e w9 ⟨rfl, k9⟩
              have hwz : IntKind.i64.wrap ((P : Int) + (Z : Int)) = (P : Int) + (Z : Int) := IntWalk.i64_in _ (by omega)
              go_wp2
              go_roundw
              case rel =>
                refine ⟨j + 1, by omega, by go_num, ?_, ?_, ?_⟩
                · rw [HG2.out, sumN_snoc, HZ.out]
                  have := HPP.out
                  congr 1
                  omega
                · rw [HG2.out]
                  refine ⟨?_, o7.keptS k9 (by simp), ?_⟩
                  · rw [thingsB_snoc, HPP.out, HS1.out]
                    exact o6.keptS k9 (by simp)
                  · intro b h6 h7
                    cases h6
                    cases h7
                    exact hgg rfl
                · exact (hkr.trans kX2).chain (kc.trans k9.any) (by simp) (fun i hi hl => by
                    have : w.heap.size ≤ i := by
                      rcases List.mem_append.1 hi with hi | hi
                      · rw [Option.mem_toList] at hi; exact hOg i (.inl hi)
                      · rw [Option.mem_toList] at hi; exact hOg i (.inr hi)
                    omega)
              case measure => simp [intOf]; omega
          · go_simp
            have kb := kc
            have kn := (Kept.refl [] v0).alloc (.cells #[.bool false, .int .i64 kd, .int .i64 0, .int .i64 2] 32)
            have r9 := Row.new v0 32 [.bool false, .int .i64 kd, .int .i64 0, .int .i64 2]
            have kc := kc.trans kn
            have o6 := o6.keptS kn (by simp)
            have o7 := o7.keptS kn (by simp)
            have hE9 := kc.size
            obtain ⟨E9, hEE⟩ : ∃ E, v0.heap.size = E := ⟨_, rfl⟩
            have hEl9 : w2.heap.size ≤ E9 := by rw [← hEE]; exact kb.size
            rw [hEE] at r9 ⊢
            refine hK _ _ (HOLD.out _ _ kc (by simp)) ?_
            clear hK K hEE kb hE9
            generalize v0.alloc (.cells #[.bool false, .int .i64 kd, .int .i64 0, .int .i64 2] 32) = v9 at *
            clear kn
            repeat (first
              | (refine pick_take0 (v := ?_) rfl (by decide +kernel) (fun _ _ _ h => h) (by rfl) ?_ ?_; rotate_left; (intro w hSw; (try dsimp only at hSw); go_simp; try with_reducible rfl); go_frame)
              | (refine pick_take1 (v := ?_) rfl (by decide +kernel) (fun _ _ _ h => h) (by rfl) ?_ ?_; rotate_left; (intro w hSw; (try dsimp only at hSw); go_simp; try with_reducible rfl); go_frame)
              | (refine pick_take2 (v := ?_) rfl (by decide +kernel) (fun _ _ _ h => h) (by rfl) ?_ ?_; rotate_left; (intro w hSw; (try dsimp only at hSw); go_simp; try with_reducible rfl); go_frame)
              | (refine pick_take3 (v := ?_) rfl (by decide +kernel) (fun _ _ _ h => h) (by rfl) ?_ ?_; rotate_left; (intro w hSw; (try dsimp only at hSw); go_simp; try with_reducible rfl); go_frame)
              | (refine pick_take4 (v := ?_) rfl (by decide +kernel) (fun _ _ _ h => h) (by rfl) ?_ ?_; rotate_left; (intro w hSw; (try dsimp only at hSw); go_simp; try with_reducible rfl); go_frame)
              | (refine pick_take5 (v := ?_) rfl (by decide +kernel) (fun _ _ _ h => h) (by rfl) ?_ ?_; rotate_left; (intro w hSw; (try dsimp only at hSw); go_simp; try with_reducible rfl); go_frame))
            refine pick_call (by decide +kernel) (by rfl) (fun K hK => ?_)
            go_simp
            go_at_call 20
            refine (HSZ.out _).mono ?_
            rintro e v3 ⟨rfl, kn⟩
            have r9 := r9.kept kn (by simp)
            have kc := kc.trans kn
            have o6 := o6.keptS kn (by simp)
            have o7 := o7.keptS kn (by simp)
            refine hK _ _ (HOLD.out [] _ kc (by simp)) ?_
            clear hK K kn
            repeat (first
              | (refine pick_take0 (v := ?_) rfl (by decide +kernel) (fun _ _ _ h => h) (by rfl) ?_ ?_; rotate_left; (intro w hSw; (try dsimp only at hSw); go_simp; try with_reducible rfl); go_frame)
              | (refine pick_take1 (v := ?_) rfl (by decide +kernel) (fun _ _ _ h => h) (by rfl) ?_ ?_; rotate_left; (intro w hSw; (try dsimp only at hSw); go_simp; try with_reducible rfl); go_frame)
              | (refine pick_take2 (v := ?_) rfl (by decide +kernel) (fun _ _ _ h => h) (by rfl) ?_ ?_; rotate_left; (intro w hSw; (try dsimp only at hSw); go_simp; try with_reducible rfl); go_frame)
              | (refine pick_take3 (v := ?_) rfl (by decide +kernel) (fun _ _ _ h => h) (by rfl) ?_ ?_; rotate_left; (intro w hSw; (try dsimp only at hSw); go_simp; try with_reducible rfl); go_frame)
              | (refine pick_take4 (v := ?_) rfl (by decide +kernel) (fun _ _ _ h => h) (by rfl) ?_ ?_; rotate_left; (intro w hSw; (try dsimp only at hSw); go_simp; try with_reducible rfl); go_frame)
              | (refine pick_take5 (v := ?_) rfl (by decide +kernel) (fun _ _ _ h => h) (by rfl) ?_ ?_; rotate_left; (intro w hSw; (try dsimp only at hSw); go_simp; try with_reducible rfl); go_frame))
            refine pick_call (by decide +kernel) (by rfl) (fun K hK => ?_)
            go_simp
            have kb := kc
            have kn := (Kept.refl [] v3).alloc (.cells #[.int .i64 (P : Int), .int .i64 (Z : Int)] 30)
            have r9 := r9.kept kn (by simp)
            have r5 := Row.new v3 30 [.int .i64 (P : Int), .int .i64 (Z : Int)]
            have kc := kc.trans kn
            have o6 := o6.keptS kn (by simp)
            have o7 := o7.keptS kn (by simp)
            have hE5 := kc.size
            obtain ⟨E5, hEE⟩ : ∃ E, v3.heap.size = E := ⟨_, rfl⟩
            have hEl5 : w2.heap.size ≤ E5 := by rw [← hEE]; exact kb.size
            rw [hEE] at r5 ⊢
            refine hK _ _ (HOLD.out _ _ kc (by simp)) ?_
            clear hK K hEE kb hE5
            generalize v3.alloc (.cells #[.int .i64 (P : Int), .int .i64 (Z : Int)] 30) = v5 at *
            clear kn
            repeat (first
              | (refine pick_take0 (v := ?_) rfl (by decide +kernel) (fun _ _ _ h => h) (by rfl) ?_ ?_; rotate_left; (intro w hSw; (try dsimp only at hSw); go_simp; try with_reducible rfl); go_frame)
              | (refine pick_take1 (v := ?_) rfl (by decide +kernel) (fun _ _ _ h => h) (by rfl) ?_ ?_; rotate_left; (intro w hSw; (try dsimp only at hSw); go_simp; try with_reducible rfl); go_frame)
              | (refine pick_take2 (v := ?_) rfl (by decide +kernel) (fun _ _ _ h => h) (by rfl) ?_ ?_; rotate_left; (intro w hSw; (try dsimp only at hSw); go_simp; try with_reducible rfl); go_frame)
              | (refine pick_take3 (v := ?_) rfl (by decide +kernel) (fun _ _ _ h => h) (by rfl) ?_ ?_; rotate_left; (intro w hSw; (try dsimp only at hSw); go_simp; try with_reducible rfl); go_frame)
              | (refine pick_take4 (v := ?_) rfl (by decide +kernel) (fun _ _ _ h => h) (by rfl) ?_ ?_; rotate_left; (intro w hSw; (try dsimp only at hSw); go_simp; try with_reducible rfl); go_frame)
              | (refine pick_take5 (v := ?_) rfl (by decide +kernel) (fun _ _ _ h => h) (by rfl) ?_ ?_; rotate_left; (intro w hSw; (try dsimp only at hSw); go_simp; try with_reducible rfl); go_frame))
            refine pick_call (by decide +kernel) (by rfl) (fun K hK => ?_)
            refine wp_append_y _ _ 24 rfl w.heap.size i1 _ 16 Try.underlying24 hi1 hz10 hz11 hz12 rfl (by decide) (by decide) u6 _ ((P : Int), (Z : Int)) (cellsZ_length _) (cellsZ_one _) rfl E5 rfl r5 o6 (Nat.le_trans hw2 kc.size) hl6 ?_
            intro g6 c6 v6 o6 kn hat6
            have hx6 : X ∉ u6.ownBlock.toList := fun hm => by rw [Option.mem_toList] at hm; exact absurd (hXl X (.inl hm)) (Nat.lt_irrefl X)
            have r9 := r9.kept kn (fun hm => by rw [Option.mem_toList] at hm; have := hXl _ (.inl hm); omega)
            have hsz6 := kc.size
            have hg67 : u7.ownBlock ≠ some g6 := fun e7 => by
              rcases hat6 with h' | h'
              · exact hap _ h' e7
              · have := o7.lt _ e7; omega
            have o7 := o7.keptS kn (fun jj h7 hm => by rw [Option.mem_toList] at hm; exact hap _ hm h7)
            have kc : Kept u6.ownBlock.toList w2 v6 := (kc.any).trans kn
            refine hK _ _ (HOLD.out _ _ kc hx6) ?_
            clear hK K hat6 kn hsz6
            repeat (first
              | (refine pick_take0 (v := ?_) rfl (by decide +kernel) (fun _ _ _ h => h) (by rfl) ?_ ?_; rotate_left; (intro w hSw; (try dsimp only at hSw); go_simp; try with_reducible rfl); go_frame)
              | (refine pick_take1 (v := ?_) rfl (by decide +kernel) (fun _ _ _ h => h) (by rfl) ?_ ?_; rotate_left; (intro w hSw; (try dsimp only at hSw); go_simp; try with_reducible rfl); go_frame)
              | (refine pick_take2 (v := ?_) rfl (by decide +kernel) (fun _ _ _ h => h) (by rfl) ?_ ?_; rotate_left; (intro w hSw; (try dsimp only at hSw); go_simp; try with_reducible rfl); go_frame)
              | (refine pick_take3 (v := ?_) rfl (by decide +kernel) (fun _ _ _ h => h) (by rfl) ?_ ?_; rotate_left; (intro w hSw; (try dsimp only at hSw); go_simp; try with_reducible rfl); go_frame)
              | (refine pick_take4 (v := ?_) rfl (by decide +kernel) (fun _ _ _ h => h) (by rfl) ?_ ?_; rotate_left; (intro w hSw; (try dsimp only at hSw); go_simp; try with_reducible rfl); go_frame)
              | (refine pick_take5 (v := ?_) rfl (by decide +kernel) (fun _ _ _ h => h) (by rfl) ?_ ?_; rotate_left; (intro w hSw; (try dsimp only at hSw); go_simp; try with_reducible rfl); go_frame))
            refine pick_call (by decide +kernel) (by rfl) (fun K hK => ?_)
            refine wp_append_y _ _ 55 rfl w.heap.size i2 _ 32 Try.underlying55 hi2 hz20 hz21 hz22 rfl (by decide) (by decide) u7 _ (Hd.mk false kd 0 2) (Hd.cells_length _) (Hd.cells_one _) rfl E9 rfl r9 o7 (Nat.le_trans hw2 kc.size) hl7 ?_
            intro g7 c7 v10 o7 kn hat7
            have hx7 : X ∉ u7.ownBlock.toList := fun hm => by rw [Option.mem_toList] at hm; exact absurd (hXl X (.inr hm)) (Nat.lt_irrefl X)
            have hgg : g6 ≠ g7 := fun e7 => by
              rcases hat7 with h' | h'
              · exact hg67 (by rw [e7]; exact h')
              · have := o6.lt g6 rfl; omega
            have o6 := o6.keptS kn (fun jj h6 hm => by rw [Option.mem_toList] at hm; cases h6; exact hg67 hm)
            have kc : Kept (u6.ownBlock.toList ++ u7.ownBlock.toList) w2 v10 := kc.chain kn (fun i hi _ => List.mem_append_left _ hi) (fun i hi _ => List.mem_append_right _ hi)
            refine hK _ _ (HOLD.out _ _ kc (fun hm => (List.mem_append.1 hm).elim hx6 hx7)) ?_
            clear hK K kn hat7
            repeat (first
              | (refine pick_take0 (v := ?_) rfl (by decide +kernel) (fun _ _ _ h => h) (by rfl) ?_ ?_; rotate_left; (intro w hSw; (try dsimp only at hSw); go_simp; try with_reducible rfl); go_frame)
              | (refine pick_take1 (v := ?_) rfl (by decide +kernel) (fun _ _ _ h => h) (by rfl) ?_ ?_; rotate_left; (intro w hSw; (try dsimp only at hSw); go_simp; try with_reducible rfl); go_frame)
              | (refine pick_take2 (v := ?_) rfl (by decide +kernel) (fun _ _ _ h => h) (by rfl) ?_ ?_; rotate_left; (intro w hSw; (try dsimp only at hSw); go_simp; try with_reducible rfl); go_frame)
              | (refine pick_take3 (v := ?_) rfl (by decide +kernel) (fun _ _ _ h => h) (by rfl) ?_ ?_; rotate_left; (intro w hSw; (try dsimp only at hSw); go_simp; try with_reducible rfl); go_frame)
              | (refine pick_take4 (v := ?_) rfl (by decide +kernel) (fun _ _ _ h => h) (by rfl) ?_ ?_; rotate_left; (intro w hSw; (try dsimp only at hSw); go_simp; try with_reducible rfl); go_frame)
              | (refine pick_take5 (v := ?_) rfl (by decide +kernel) (fun _ _ _ h => h) (by rfl) ?_ ?_; rotate_left; (intro w hSw; (try dsimp only at hSw); go_simp; try with_reducible rfl); go_frame))
            refine pick_done (by decide +kernel) ?_
            obtain ⟨x0, x1, x2, x3⟩ := HOLD.out _ _ kc (fun hm => (List.mem_append.1 hm).elim hx6 hx7)
            clear HOLD hap hg67
            go_wp2_with fail
            refine (HSZ.out _).mono ?_
            rintro e w9 ⟨rfl, k9⟩
            have hwz : IntKind.i64.wrap ((P : Int) + (Z : Int)) = (P : Int) + (Z : Int) := IntWalk.i64_in _ (by omega)
            go_wp2
            go_roundw
            case rel =>
              refine ⟨j + 1, by omega, by go_num, ?_, ?_, ?_⟩
              · rw [HG2.out, sumN_snoc, HZ.out]
                have := HPP.out
                congr 1
                omega
              · rw [HG2.out]
                refine ⟨?_, o7.keptS k9 (by simp), ?_⟩
                · rw [thingsB_snoc, HPP.out, HS1.out]
                  exact o6.keptS k9 (by simp)
                · intro b h6 h7
                  cases h6
                  cases h7
                  exact hgg rfl
              · exact (hkr.trans kX2).chain (kc.trans k9.any) (by simp) (fun i hi hl => by
                  have : w.heap.size ≤ i := by
                    rcases List.mem_append.1 hi with hi | hi
                    · rw [Option.mem_toList] at hi; exact hOg i (.inl hi)
                    · rw [Option.mem_toList] at hi; exact hOg i (.inr hi)
                  omega)
            case measure => simp [intOf]; omega
      · skip
        have HN := Lib.hid (show normH ⟨true, kd, ty, nn⟩ = ⟨true, kd, 0, nn⟩ from rfl)
        have rX := Row.new wr 32 [.bool true, .int .i64 kd, .int .i64 0, .int .i64 nn]
        have kX := (Kept.refl [] wr).alloc (.cells #[.bool true, .int .i64 kd, .int .i64 0, .int .i64 nn] 32)
        go_wp2_with fail
        obtain ⟨X, hX⟩ : ∃ X, wr.heap.size = X := ⟨_, rfl⟩
        rw [hX] at rX ⊢
        generalize wr.alloc (.cells #[.bool true, .int .i64 kd, .int .i64 0, .int .i64 nn] 32) = W1 at rX kX ⊢
        clear cr0 cr1 cr2 cr3 hrb
        refine (refMay08_any true kd 0 nn W1).mono ?_
        rintro e w2 ⟨rfl, k2⟩
        have rX2 := rX.kept k2 (by simp)
        have kX2 := kX.trans k2
        have x0 : w2.cell? ⟨X, 0, none⟩ = some (.bool true) := by simpa using rX2.cell 0
        have x1 : w2.cell? ⟨X, 1, none⟩ = some (.int .i64 kd) := by simpa using rX2.cell 1
        have x2 : w2.cell? ⟨X, 2, none⟩ = some (.int .i64 0) := by simpa using rX2.cell 2
        have x3 : w2.cell? ⟨X, 3, none⟩ = some (.int .i64 nn) := by simpa using rX2.cell 3
        have o6 := ho6.keptS kX2 (by simp)
        have o7 := ho7.keptS kX2 (by simp)
        have hXl : ∀ b, u6.ownBlock = some b ∨ u7.ownBlock = some b → b < X := by
          intro b hb
          rw [← hX]
          rcases hb with hb | hb
          · exact ho6.lt b hb
          · exact ho7.lt b hb
        have hOg : ∀ b, u6.ownBlock = some b ∨ u7.ownBlock = some b → w.heap.size ≤ b := by
          intro b hb
          rcases hb with hb | hb
          · exact ho6.ge b hb
          · exact ho7.ge b hb
        clear ho6 ho7 rX kX k2
        cases hmay : mayH ⟨true, kd, 0, nn⟩ with
        | false =>
          have HG2 := Lib.hid (show goodH (hs.take (j + 1)) = gs by rw [← HTK.out, goodH_no _ _ (by rw [HN.out]; simp [takeH, hmay]), HGS.out])
          go_wp2
          go_roundw
          case rel => exact ⟨j + 1, by omega, by go_num, by rw [HG2.out, HPP.out], by rw [HG2.out]; exact ⟨o6, o7, hap⟩, hkr.trans kX2⟩
          case measure => simp [intOf]; omega
        | true =>
          by_cases h40 : (40 : Int) < nn
          · have HG2 := Lib.hid (show goodH (hs.take (j + 1)) = gs by rw [← HTK.out, goodH_no _ _ (by rw [HN.out]; simp [takeH, hmay]; omega), HGS.out])
            have h40' : decide ((40 : Int) < nn) = true := by simpa using h40
            go_wp2
            go_roundw
            case rel => exact ⟨j + 1, by omega, by go_num, by rw [HG2.out, HPP.out], by rw [HG2.out]; exact ⟨o6, o7, hap⟩, hkr.trans kX2⟩
            case measure => simp [intOf]; omega
          · have h40' : decide ((40 : Int) < nn) = false := by simpa using h40
            have hfair : takeH ⟨true, kd, 0, nn⟩ = true := by simp [takeH, hmay]; try omega
            have HG2 := Lib.hid (show goodH (hs.take (j + 1)) = gs ++ [⟨true, kd, 0, nn⟩] by rw [← HTK.out, goodH_yes _ _ (by rw [HN.out]; exact hfair), HGS.out, HN.out])
            have hfg : ∀ g ∈ gs ++ [⟨true, kd, 0, nn⟩], Fair g := by rw [← HG2.out]; exact goodH_fair _
            have hgl : gs.length ≤ 20 := by
              have := goodH_len (hs.take j)
              rw [HGS.out, List.length_take] at this; omega
            have hPl : P ≤ 2000 := by
              have h1 := sumN_le (gs := gs) (fun g hg => hfg g (by simp [hg]))
              have := HPP.out; omega
            obtain ⟨z1, z2, z3, _, _⟩ := sizeN_eq (hfg ⟨true, kd, 0, nn⟩ (by simp))
            obtain ⟨Z, hZ⟩ : ∃ Z, sizeN ⟨true, kd, 0, nn⟩ = Z := ⟨_, rfl⟩
            rw [hZ] at z1 z2 z3
            have hszc := fun W => refSize08_any true kd 0 nn W
            simp only [z1] at hszc
            have HSZ := Lib.hid hszc
            have HZ := Lib.hid hZ
            have HS1 := Lib.hid z1
            have hl6 : (thingsB A gs).length ≤ 1099511627776 := by rw [thingsB_length]; omega
            have hl7 : gs.length ≤ 1099511627776 := by omega
            have hw2 : w.heap.size ≤ w2.heap.size := Nat.le_trans hkr.size kX2.size
            have hXw : X < w2.heap.size := rX2.lt
            have HOLD := Lib.hid (show ∀ (T : List Nat) (W' : World), Kept T w2 W' → X ∉ T → (fun w' => w'.cell? ⟨X, 0, none⟩ = some (.bool true) ∧ w'.cell? ⟨X, 1, none⟩ = some (.int .i64 kd) ∧ w'.cell? ⟨X, 2, none⟩ = some (.int .i64 0) ∧ w'.cell? ⟨X, 3, none⟩ = some (.int .i64 nn)) W' from fun T W' hk hT => ⟨by simpa using (rX2.kept hk hT).cell 0, by simpa using (rX2.kept hk hT).cell 1, by simpa using (rX2.kept hk hT).cell 2, by simpa using (rX2.kept hk hT).cell 3⟩)
            clear hfair hfg hszc hZ z1 z2 hmay
            go_wp2_with fail
            have kc : Kept [] w2 w2.drew := (Kept.refl _ _).drew
            refine wp_region_pick (fun w' => w'.cell? ⟨X, 0, none⟩ = some (.bool true) ∧ w'.cell? ⟨X, 1, none⟩ = some (.int .i64 kd) ∧ w'.cell? ⟨X, 2, none⟩ = some (.int .i64 0) ∧ w'.cell? ⟨X, 3, none⟩ = some (.int .i64 nn)) (by kernel_rfl) (HOLD.out [] _ kc (by simp)) ?_
            have o6 := o6.keptS kc (by simp)
            have o7 := o7.keptS kc (by simp)
            generalize w2.drew = v0 at kc o6 o7 ⊢
            clear x0 x1 x2 x3
            simp only [numbered, List.length_cons, List.length_nil, Nat.reduceAdd]
            repeat (first
              | (refine pick_take0 (v := ?_) rfl (by decide +kernel) (fun _ _ _ h => h) (by rfl) ?_ ?_; rotate_left; (intro w hSw; (try dsimp only at hSw); go_simp; try with_reducible rfl); go_frame)
              | (refine pick_take1 (v := ?_) rfl (by decide +kernel) (fun _ _ _ h => h) (by rfl) ?_ ?_; rotate_left; (intro w hSw; (try dsimp only at hSw); go_simp; try with_reducible rfl); go_frame)
              | (refine pick_take2 (v := ?_) rfl (by decide +kernel) (fun _ _ _ h => h) (by rfl) ?_ ?_; rotate_left; (intro w hSw; (try dsimp only at hSw); go_simp; try with_reducible rfl); go_frame)
              | (refine pick_take3 (v := ?_) rfl (by decide +kernel) (fun _ _ _ h => h) (by rfl) ?_ ?_; rotate_left; (intro w hSw; (try dsimp only at hSw); go_simp; try with_reducible rfl); go_frame)
              | (refine pick_take4 (v := ?_) rfl (by decide +kernel) (fun _ _ _ h => h) (by rfl) ?_ ?_; rotate_left; (intro w hSw; (try dsimp only at hSw); go_simp; try with_reducible rfl); go_frame)
              | (refine pick_take5 (v := ?_) rfl (by decide +kernel) (fun _ _ _ h => h) (by rfl) ?_ ?_; rotate_left; (intro w hSw; (try dsimp only at hSw); go_simp; try with_reducible rfl); go_frame))
            refine pick_two 3 rfl (by decide +kernel) (by rfl) (by rfl) (fun K hK => ?_) (fun K hK => ?_)
            · go_simp
              go_at_call 20
              refine (HSZ.out _).mono ?_
              rintro e v3 ⟨rfl, kn⟩
              have kc := kc.trans kn
              have o6 := o6.keptS kn (by simp)
              have o7 := o7.keptS kn (by simp)
              refine hK _ _ (HOLD.out [] _ kc (by simp)) ?_
              clear hK K kn
              repeat (first
                | (refine pick_take0 (v := ?_) rfl (by decide +kernel) (fun _ _ _ h => h) (by rfl) ?_ ?_; rotate_left; (intro w hSw; (try dsimp only at hSw); go_simp; try with_reducible rfl); go_frame)
                | (refine pick_take1 (v := ?_) rfl (by decide +kernel) (fun _ _ _ h => h) (by rfl) ?_ ?_; rotate_left; (intro w hSw; (try dsimp only at hSw); go_simp; try with_reducible rfl); go_frame)
                | (refine pick_take2 (v := ?_) rfl (by decide +kernel) (fun _ _ _ h => h) (by rfl) ?_ ?_; rotate_left; (intro w hSw; (try dsimp only at hSw); go_simp; try with_reducible rfl); go_frame)
                | (refine pick_take3 (v := ?_) rfl (by decide +kernel) (fun _ _ _ h => h) (by rfl) ?_ ?_; rotate_left; (intro w hSw; (try dsimp only at hSw); go_simp; try with_reducible rfl); go_frame)
                | (refine pick_take4 (v := ?_) rfl (by decide +kernel) (fun _ _ _ h => h) (by rfl) ?_ ?_; rotate_left; (intro w hSw; (try dsimp only at hSw); go_simp; try with_reducible rfl); go_frame)
                | (refine pick_take5 (v := ?_) rfl (by decide +kernel) (fun _ _ _ h => h) (by rfl) ?_ ?_; rotate_left; (intro w hSw; (try dsimp only at hSw); go_simp; try with_reducible rfl); go_frame))
              refine pick_two 1 rfl (by decide +kernel) (by rfl) (by rfl) (fun K hK => ?_) (fun K hK => ?_)
              · go_simp
                have kb := kc
                have kn := (Kept.refl [] v3).alloc (.cells #[.int .i64 (P : Int), .int .i64 (Z : Int)] 30)
                have r5 := Row.new v3 30 [.int .i64 (P : Int), .int .i64 (Z : Int)]
                have kc := kc.trans kn
                have o6 := o6.keptS kn (by simp)
                have o7 := o7.keptS kn (by simp)
                have hE5 := kc.size
                obtain ⟨E5, hEE⟩ : ∃ E, v3.heap.size = E := ⟨_, rfl⟩
                have hEl5 : w2.heap.size ≤ E5 := by rw [← hEE]; exact kb.size
                rw [hEE] at r5 ⊢
                refine hK _ _ (HOLD.out _ _ kc (by simp)) ?_
                clear hK K hEE kb hE5
                generalize v3.alloc (.cells #[.int .i64 (P : Int), .int .i64 (Z : Int)] 30) = v5 at *
                clear kn
                repeat (first
                  | (refine pick_take0 (v := ?_) rfl (by decide +kernel) (fun _ _ _ h => h) (by rfl) ?_ ?_; rotate_left; (intro w hSw; (try dsimp only at hSw); go_simp; try with_reducible rfl); go_frame)
                  | (refine pick_take1 (v := ?_) rfl (by decide +kernel) (fun _ _ _ h => h) (by rfl) ?_ ?_; rotate_left; (intro w hSw; (try dsimp only at hSw); go_simp; try with_reducible rfl); go_frame)
                  | (refine pick_take2 (v := ?_) rfl (by decide +kernel) (fun _ _ _ h => h) (by rfl) ?_ ?_; rotate_left; (intro w hSw; (try dsimp only at hSw); go_simp; try with_reducible rfl); go_frame)
                  | (refine pick_take3 (v := ?_) rfl (by decide +kernel) (fun _ _ _ h => h) (by rfl) ?_ ?_; rotate_left; (intro w hSw; (try dsimp only at hSw); go_simp; try with_reducible rfl); go_frame)
                  | (refine pick_take4 (v := ?_) rfl (by decide +kernel) (fun _ _ _ h => h) (by rfl) ?_ ?_; rotate_left; (intro w hSw; (try dsimp only at hSw); go_simp; try with_reducible rfl); go_frame)
                  | (refine pick_take5 (v := ?_) rfl (by decide +kernel) (fun _ _ _ h => h) (by rfl) ?_ ?_; rotate_left; (intro w hSw; (try dsimp only at hSw); go_simp; try with_reducible rfl); go_frame))
                refine pick_two 0 rfl (by decide +kernel) (by rfl) (by rfl) (fun K hK => ?_) (fun K hK => ?_)
                · refine wp_append_y _ _ 24 rfl w.heap.size i1 _ 16 Try.underlying24 hi1 hz10 hz11 hz12 rfl (by decide) (by decide) u6 _ ((P : Int), (Z : Int)) (cellsZ_length _) (cellsZ_one _) rfl E5 rfl r5 o6 (Nat.le_trans hw2 kc.size) hl6 ?_
                  intro g6 c6 v6 o6 kn hat6
                  have hx6 : X ∉ u6.ownBlock.toList := fun hm => by rw [Option.mem_toList] at hm; exact absurd (hXl X (.inl hm)) (Nat.lt_irrefl X)
                  have hsz6 := kc.size
                  have hg67 : u7.ownBlock ≠ some g6 := fun e7 => by
                    rcases hat6 with h' | h'
                    · exact hap _ h' e7
                    · have := o7.lt _ e7; omega
                  have o7 := o7.keptS kn (fun jj h7 hm => by rw [Option.mem_toList] at hm; exact hap _ hm h7)
                  have kc : Kept u6.ownBlock.toList w2 v6 := (kc.any).trans kn
                  refine hK _ _ (HOLD.out _ _ kc hx6) ?_
                  clear hK K hat6 kn hsz6
                  repeat (first
                    | (refine pick_take0 (v := ?_) rfl (by decide +kernel) (fun _ _ _ h => h) (by rfl) ?_ ?_; rotate_left; (intro w hSw; (try dsimp only at hSw); go_simp; try with_reducible rfl); go_frame)
                    | (refine pick_take1 (v := ?_) rfl (by decide +kernel) (fun _ _ _ h => h) (by rfl) ?_ ?_; rotate_left; (intro w hSw; (try dsimp only at hSw); go_simp; try with_reducible rfl); go_frame)
                    | (refine pick_take2 (v := ?_) rfl (by decide +kernel) (fun _ _ _ h => h) (by rfl) ?_ ?_; rotate_left; (intro w hSw; (try dsimp only at hSw); go_simp; try with_reducible rfl); go_frame)
                    | (refine pick_take3 (v := ?_) rfl (by decide +kernel) (fun _ _ _ h => h) (by rfl) ?_ ?_; rotate_left; (intro w hSw; (try dsimp only at hSw); go_simp; try with_reducible rfl); go_frame)
                    | (refine pick_take4 (v := ?_) rfl (by decide +kernel) (fun _ _ _ h => h) (by rfl) ?_ ?_; rotate_left; (intro w hSw; (try dsimp only at hSw); go_simp; try with_reducible rfl); go_frame)
                    | (refine pick_take5 (v := ?_) rfl (by decide +kernel) (fun _ _ _ h => h) (by rfl) ?_ ?_; rotate_left; (intro w hSw; (try dsimp only at hSw); go_simp; try with_reducible rfl); go_frame))
                  refine pick_call (by decide +kernel) (by rfl) (fun K hK => ?_)
                  go_simp
                  have kb := kc
                  have kn := (Kept.refl [] v6).alloc (.cells #[.bool true, .int .i64 kd, .int .i64 0, .int .i64 nn] 32)
                  have r9 := Row.new v6 32 [.bool true, .int .i64 kd, .int .i64 0, .int .i64 nn]
                  have kc := kc.trans kn.any
                  have o6 := o6.keptS kn (by simp)
                  have o7 := o7.keptS kn (by simp)
                  have hE9 := kc.size
                  obtain ⟨E9, hEE⟩ : ∃ E, v6.heap.size = E := ⟨_, rfl⟩
                  have hEl9 : w2.heap.size ≤ E9 := by rw [← hEE]; exact kb.size
                  rw [hEE] at r9 ⊢
                  refine hK _ _ (HOLD.out _ _ kc hx6) ?_
                  clear hK K hEE kb hE9
                  generalize v6.alloc (.cells #[.bool true, .int .i64 kd, .int .i64 0, .int .i64 nn] 32) = v9 at *
                  clear kn
                  repeat (first
                    | (refine pick_take0 (v := ?_) rfl (by decide +kernel) (fun _ _ _ h => h) (by rfl) ?_ ?_; rotate_left; (intro w hSw; (try dsimp only at hSw); go_simp; try with_reducible rfl); go_frame)
                    | (refine pick_take1 (v := ?_) rfl (by decide +kernel) (fun _ _ _ h => h) (by rfl) ?_ ?_; rotate_left; (intro w hSw; (try dsimp only at hSw); go_simp; try with_reducible rfl); go_frame)
                    | (refine pick_take2 (v := ?_) rfl (by decide +kernel) (fun _ _ _ h => h) (by rfl) ?_ ?_; rotate_left; (intro w hSw; (try dsimp only at hSw); go_simp; try with_reducible rfl); go_frame)
                    | (refine pick_take3 (v := ?_) rfl (by decide +kernel) (fun _ _ _ h => h) (by rfl) ?_ ?_; rotate_left; (intro w hSw; (try dsimp only at hSw); go_simp; try with_reducible rfl); go_frame)
                    | (refine pick_take4 (v := ?_) rfl (by decide +kernel) (fun _ _ _ h => h) (by rfl) ?_ ?_; rotate_left; (intro w hSw; (try dsimp only at hSw); go_simp; try with_reducible rfl); go_frame)
                    | (refine pick_take5 (v := ?_) rfl (by decide +kernel) (fun _ _ _ h => h) (by rfl) ?_ ?_; rotate_left; (intro w hSw; (try dsimp only at hSw); go_simp; try with_reducible rfl); go_frame))
                  refine pick_call (by decide +kernel) (by rfl) (fun K hK => ?_)
                  refine wp_append_y _ _ 55 rfl w.heap.size i2 _ 32 Try.underlying55 hi2 hz20 hz21 hz22 rfl (by decide) (by decide) u7 _ (Hd.mk true kd 0 nn) (Hd.cells_length _) (Hd.cells_one _) rfl E9 rfl r9 o7 (Nat.le_trans hw2 kc.size) hl7 ?_
                  intro g7 c7 v10 o7 kn hat7
                  have hx7 : X ∉ u7.ownBlock.toList := fun hm => by rw [Option.mem_toList] at hm; exact absurd (hXl X (.inr hm)) (Nat.lt_irrefl X)
                  have hgg : g6 ≠ g7 := fun e7 => by
                    rcases hat7 with h' | h'
                    · exact hg67 (by rw [e7]; exact h')
                    · have := o6.lt g6 rfl; omega
                  have o6 := o6.keptS kn (fun jj h6 hm => by rw [Option.mem_toList] at hm; cases h6; exact hg67 hm)
                  have kc : Kept (u6.ownBlock.toList ++ u7.ownBlock.toList) w2 v10 := kc.chain kn (fun i hi _ => List.mem_append_left _ hi) (fun i hi _ => List.mem_append_right _ hi)
                  refine hK _ _ (HOLD.out _ _ kc (fun hm => (List.mem_append.1 hm).elim hx6 hx7)) ?_
                  clear hK K kn hat7
                  repeat (first
                    | (refine pick_take0 (v := ?_) rfl (by decide +kernel) (fun _ _ _ h => h) (by rfl) ?_ ?_; rotate_left; (intro w hSw; (try dsimp only at hSw); go_simp; try with_reducible rfl); go_frame)
                    | (refine pick_take1 (v := ?_) rfl (by decide +kernel) (fun _ _ _ h => h) (by rfl) ?_ ?_; rotate_left; (intro w hSw; (try dsimp only at hSw); go_simp; try with_reducible rfl); go_frame)
                    | (refine pick_take2 (v := ?_) rfl (by decide +kernel) (fun _ _ _ h => h) (by rfl) ?_ ?_; rotate_left; (intro w hSw; (try dsimp only at hSw); go_simp; try with_reducible rfl); go_frame)
                    | (refine pick_take3 (v := ?_) rfl (by decide +kernel) (fun _ _ _ h => h) (by rfl) ?_ ?_; rotate_left; (intro w hSw; (try dsimp only at hSw); go_simp; try with_reducible rfl); go_frame)
                    | (refine pick_take4 (v := ?_) rfl (by decide +kernel) (fun _ _ _ h => h) (by rfl) ?_ ?_; rotate_left; (intro w hSw; (try dsimp only at hSw); go_simp; try with_reducible rfl); go_frame)
                    | (refine pick_take5 (v := ?_) rfl (by decide +kernel) (fun _ _ _ h => h) (by rfl) ?_ ?_; rotate_left; (intro w hSw; (try dsimp only at hSw); go_simp; try with_reducible rfl); go_frame))
                  refine pick_done (by decide +kernel) ?_
                  obtain ⟨x0, x1, x2, x3⟩ := HOLD.out _ _ kc (fun hm => (List.mem_append.1 hm).elim hx6 hx7)
                  clear HOLD hap hg67
                  go_wp2_with fail
                  refine (HSZ.out _).mono ?_
                  rintro e w9 ⟨rfl, k9⟩
                  have hwz : IntKind.i64.wrap ((P : Int) + (Z : Int)) = (P : Int) + (Z : Int) := IntWalk.i64_in _ (by omega)
                  go_wp2
                  go_roundw
                  case rel =>
                    refine ⟨j + 1, by omega, by go_num, ?_, ?_, ?_⟩
                    · rw [HG2.out, sumN_snoc, HZ.out]
                      have := HPP.out
                      congr 1
                      omega
                    · rw [HG2.out]
                      refine ⟨?_, o7.keptS k9 (by simp), ?_⟩
                      · rw [thingsB_snoc, HPP.out, HS1.out]
                        exact o6.keptS k9 (by simp)
                      · intro b h6 h7
                        cases h6
                        cases h7
                        exact hgg rfl
                    · exact (hkr.trans kX2).chain (kc.trans k9.any) (by simp) (fun i hi hl => by
                        have : w.heap.size ≤ i := by
                          rcases List.mem_append.1 hi with hi | hi
                          · rw [Option.mem_toList] at hi; exact hOg i (.inl hi)
                          · rw [Option.mem_toList] at hi; exact hOg i (.inr hi)
                        omega)
                  case measure => simp [intOf]; omega
                · go_simp
                  have kb := kc
                  have kn := (Kept.refl [] v5).alloc (.cells #[.bool true, .int .i64 kd, .int .i64 0, .int .i64 nn] 32)
                  have r5 := r5.kept kn (by simp)
                  have r9 := Row.new v5 32 [.bool true, .int .i64 kd, .int .i64 0, .int .i64 nn]
                  have kc := kc.trans kn
                  have o6 := o6.keptS kn (by simp)
                  have o7 := o7.keptS kn (by simp)
                  have hE9 := kc.size
                  obtain ⟨E9, hEE⟩ : ∃ E, v5.heap.size = E := ⟨_, rfl⟩
                  have hEl9 : w2.heap.size ≤ E9 := by rw [← hEE]; exact kb.size
                  rw [hEE] at r9 ⊢
                  refine hK _ _ (HOLD.out _ _ kc (by simp)) ?_
                  clear hK K hEE kb hE9
                  generalize v5.alloc (.cells #[.bool true, .int .i64 kd, .int .i64 0, .int .i64 nn] 32) = v9 at *
                  clear kn
                  repeat (first
                    | (refine pick_take0 (v := ?_) rfl (by decide +kernel) (fun _ _ _ h => h) (by rfl) ?_ ?_; rotate_left; (intro w hSw; (try dsimp only at hSw); go_simp; try with_reducible rfl); go_frame)
                    | (refine pick_take1 (v := ?_) rfl (by decide +kernel) (fun _ _ _ h => h) (by rfl) ?_ ?_; rotate_left; (intro w hSw; (try dsimp only at hSw); go_simp; try with_reducible rfl); go_frame)
                    | (refine pick_take2 (v := ?_) rfl (by decide +kernel) (fun _ _ _ h => h) (by rfl) ?_ ?_; rotate_left; (intro w hSw; (try dsimp only at hSw); go_simp; try with_reducible rfl); go_frame)
                    | (refine pick_take3 (v := ?_) rfl (by decide +kernel) (fun _ _ _ h => h) (by rfl) ?_ ?_; rotate_left; (intro w hSw; (try dsimp only at hSw); go_simp; try with_reducible rfl); go_frame)
                    | (refine pick_take4 (v := ?_) rfl (by decide +kernel) (fun _ _ _ h => h) (by rfl) ?_ ?_; rotate_left; (intro w hSw; (try dsimp only at hSw); go_simp; try with_reducible rfl); go_frame)
                    | (refine pick_take5 (v := ?_) rfl (by decide +kernel) (fun _ _ _ h => h) (by rfl) ?_ ?_; rotate_left; (intro w hSw; (try dsimp only at hSw); go_simp; try with_reducible rfl); go_frame))
                  refine pick_call (by decide +kernel) (by rfl) (fun K hK => ?_)
                  refine wp_append_y _ _ 24 rfl w.heap.size i1 _ 16 Try.underlying24 hi1 hz10 hz11 hz12 rfl (by decide) (by decide) u6 _ ((P : Int), (Z : Int)) (cellsZ_length _) (cellsZ_one _) rfl E5 rfl r5 o6 (Nat.le_trans hw2 kc.size) hl6 ?_
                  intro g6 c6 v6 o6 kn hat6
                  have hx6 : X ∉ u6.ownBlock.toList := fun hm => by rw [Option.mem_toList] at hm; exact absurd (hXl X (.inl hm)) (Nat.lt_irrefl X)
                  have r9 := r9.kept kn (fun hm => by rw [Option.mem_toList] at hm; have := hXl _ (.inl hm); omega)
                  have hsz6 := kc.size
                  have hg67 : u7.ownBlock ≠ some g6 := fun e7 => by
                    rcases hat6 with h' | h'
                    · exact hap _ h' e7
                    · have := o7.lt _ e7; omega
                  have o7 := o7.keptS kn (fun jj h7 hm => by rw [Option.mem_toList] at hm; exact hap _ hm h7)
                  have kc : Kept u6.ownBlock.toList w2 v6 := (kc.any).trans kn
                  refine hK _ _ (HOLD.out _ _ kc hx6) ?_
                  clear hK K hat6 kn hsz6
                  repeat (first
                    | (refine pick_take0 (v := ?_) rfl (by decide +kernel) (fun _ _ _ h => h) (by rfl) ?_ ?_; rotate_left; (intro w hSw; (try dsimp only at hSw); go_simp; try with_reducible rfl); go_frame)
                    | (refine pick_take1 (v := ?_) rfl (by decide +kernel) (fun _ _ _ h => h) (by rfl) ?_ ?_; rotate_left; (intro w hSw; (try dsimp only at hSw); go_simp; try with_reducible rfl); go_frame)
                    | (refine pick_take2 (v := ?_) rfl (by decide +kernel) (fun _ _ _ h => h) (by rfl) ?_ ?_; rotate_left; (intro w hSw; (try dsimp only at hSw); go_simp; try with_reducible rfl); go_frame)
                    | (refine pick_take3 (v := ?_) rfl (by decide +kernel) (fun _ _ _ h => h) (by rfl) ?_ ?_; rotate_left; (intro w hSw; (try dsimp only at hSw); go_simp; try with_reducible rfl); go_frame)
                    | (refine pick_take4 (v := ?_) rfl (by decide +kernel) (fun _ _ _ h => h) (by rfl) ?_ ?_; rotate_left; (intro w hSw; (try dsimp only at hSw); go_simp; try with_reducible rfl); go_frame)
                    | (refine pick_take5 (v := ?_) rfl (by decide +kernel) (fun _ _ _ h => h) (by rfl) ?_ ?_; rotate_left; (intro w hSw; (try dsimp only at hSw); go_simp; try with_reducible rfl); go_frame))
                  refine pick_call (by decide +kernel) (by rfl) (fun K hK => ?_)
                  refine wp_append_y _ _ 55 rfl w.heap.size i2 _ 32 Try.underlying55 hi2 hz20 hz21 hz22 rfl (by decide) (by decide) u7 _ (Hd.mk true kd 0 nn) (Hd.cells_length _) (Hd.cells_one _) rfl E9 rfl r9 o7 (Nat.le_trans hw2 kc.size) hl7 ?_
                  intro g7 c7 v10 o7 kn hat7
                  have hx7 : X ∉ u7.ownBlock.toList := fun hm => by rw [Option.mem_toList] at hm; exact absurd (hXl X (.inr hm)) (Nat.lt_irrefl X)
                  have hgg : g6 ≠ g7 := fun e7 => by
                    rcases hat7 with h' | h'
                    · exact hg67 (by rw [e7]; exact h')
                    · have := o6.lt g6 rfl; omega
                  have o6 := o6.keptS kn (fun jj h6 hm => by rw [Option.mem_toList] at hm; cases h6; exact hg67 hm)
                  have kc : Kept (u6.ownBlock.toList ++ u7.ownBlock.toList) w2 v10 := kc.chain kn (fun i hi _ => List.mem_append_left _ hi) (fun i hi _ => List.mem_append_right _ hi)
                  refine hK _ _ (HOLD.out _ _ kc (fun hm => (List.mem_append.1 hm).elim hx6 hx7)) ?_
                  clear hK K kn hat7
                  repeat (first
                    | (refine pick_take0 (v := ?_) rfl (by decide +kernel) (fun _ _ _ h => h) (by rfl) ?_ ?_; rotate_left; (intro w hSw; (try dsimp only at hSw); go_simp; try with_reducible rfl); go_frame)
                    | (refine pick_take1 (v := ?_) rfl (by decide +kernel) (fun _ _ _ h => h) (by rfl) ?_ ?_; rotate_left; (intro w hSw; (try dsimp only at hSw); go_simp; try with_reducible rfl); go_frame)
                    | (refine pick_take2 (v := ?_) rfl (by decide +kernel) (fun _ _ _ h => h) (by rfl) ?_ ?_; rotate_left; (intro w hSw; (try dsimp only at hSw); go_simp; try with_reducible rfl); go_frame)
                    | (refine pick_take3 (v := ?_) rfl (by decide +kernel) (fun _ _ _ h => h) (by rfl) ?_ ?_; rotate_left; (intro w hSw; (try dsimp only at hSw); go_simp; try with_reducible rfl); go_frame)
                    | (refine pick_take4 (v := ?_) rfl (by decide +kernel) (fun _ _ _ h => h) (by rfl) ?_ ?_; rotate_left; (intro w hSw; (try dsimp only at hSw); go_simp; try with_reducible rfl); go_frame)
                    | (refine pick_take5 (v := ?_) rfl (by decide +kernel) (fun _ _ _ h => h) (by rfl) ?_ ?_; rotate_left; (intro w hSw; (try dsimp only at hSw); go_simp; try with_reducible rfl); go_frame))
                  refine pick_done (by decide +kernel) ?_
                  obtain ⟨x0, x1, x2, x3⟩ := HOLD.out _ _ kc (fun hm => (List.mem_append.1 hm).elim hx6 hx7)
                  clear HOLD hap hg67
                  go_wp2_with fail
                  refine (HSZ.out _).mono ?_
                  rintro e w9 ⟨rfl, k9⟩
                  have hwz : IntKind.i64.wrap ((P : Int) + (Z : Int)) = (P : Int) + (Z : Int) := IntWalk.i64_in _ (by omega)
                  go_wp2
                  go_roundw
                  case rel =>
                    refine ⟨j + 1, by omega, by go_num, ?_, ?_, ?_⟩
                    · rw [HG2.out, sumN_snoc, HZ.out]
                      have := HPP.out
                      congr 1
                      omega
                    · rw [HG2.out]
                      refine ⟨?_, o7.keptS k9 (by simp), ?_⟩
                      · rw [thingsB_snoc, HPP.out, HS1.out]
                        exact o6.keptS k9 (by simp)
                      · intro b h6 h7
                        cases h6
                        cases h7
                        exact hgg rfl
                    · exact (hkr.trans kX2).chain (kc.trans k9.any) (by simp) (fun i hi hl => by
                        have : w.heap.size ≤ i := by
                          rcases List.mem_append.1 hi with hi | hi
                          · rw [Option.mem_toList] at hi; exact hOg i (.inl hi)
                          · rw [Option.mem_toList] at hi; exact hOg i (.inr hi)
                        omega)
                  case measure => simp [intOf]; omega
              · go_simp
                have kb := kc
                have kn := (Kept.refl [] v3).alloc (.cells #[.bool true, .int .i64 kd, .int .i64 0, .int .i64 nn] 32)
                have r9 := Row.new v3 32 [.bool true, .int .i64 kd, .int .i64 0, .int .i64 nn]
                have kc := kc.trans kn
                have o6 := o6.keptS kn (by simp)
                have o7 := o7.keptS kn (by simp)
                have hE9 := kc.size
                obtain ⟨E9, hEE⟩ : ∃ E, v3.heap.size = E := ⟨_, rfl⟩
                have hEl9 : w2.heap.size ≤ E9 := by rw [← hEE]; exact kb.size
                rw [hEE] at r9 ⊢
                refine hK _ _ (HOLD.out _ _ kc (by simp)) ?_
                clear hK K hEE kb hE9
                generalize v3.alloc (.cells #[.bool true, .int .i64 kd, .int .i64 0, .int .i64 nn] 32) = v9 at *
                clear kn
                repeat (first
                  | (refine pick_take0 (v := ?_) rfl (by decide +kernel) (fun _ _ _ h => h) (by rfl) ?_ ?_; rotate_left; (intro w hSw; (try dsimp only at hSw); go_simp; try with_reducible rfl); go_frame)
                  | (refine pick_take1 (v := ?_) rfl (by decide +kernel) (fun _ _ _ h => h) (by rfl) ?_ ?_; rotate_left; (intro w hSw; (try dsimp only at hSw); go_simp; try with_reducible rfl); go_frame)
                  | (refine pick_take2 (v := ?_) rfl (by decide +kernel) (fun _ _ _ h => h) (by rfl) ?_ ?_; rotate_left; (intro w hSw; (try dsimp only at hSw); go_simp; try with_reducible rfl); go_frame)
                  | (refine pick_take3 (v := ?_) rfl (by decide +kernel) (fun _ _ _ h => h) (by rfl) ?_ ?_; rotate_left; (intro w hSw; (try dsimp only at hSw); go_simp; try with_reducible rfl); go_frame)
                  | (refine pick_take4 (v := ?_) rfl (by decide +kernel) (fun _ _ _ h => h) (by rfl) ?_ ?_; rotate_left; (intro w hSw; (try dsimp only at hSw); go_simp; try with_reducible rfl); go_frame)
                  | (refine pick_take5 (v := ?_) rfl (by decide +kernel) (fun _ _ _ h => h) (by rfl) ?_ ?_; rotate_left; (intro w hSw; (try dsimp only at hSw); go_simp; try with_reducible rfl); go_frame))
                refine pick_call (by decide +kernel) (by rfl) (fun K hK => ?_)
                go_simp
                have kb := kc
                have kn := (Kept.refl [] v9).alloc (.cells #[.int .i64 (P : Int), .int .i64 (Z : Int)] 30)
                have r9 := r9.kept kn (by simp)
                have r5 := Row.new v9 30 [.int .i64 (P : Int), .int .i64 (Z : Int)]
                have kc := kc.trans kn
                have o6 := o6.keptS kn (by simp)
                have o7 := o7.keptS kn (by simp)
                have hE5 := kc.size
                obtain ⟨E5, hEE⟩ : ∃ E, v9.heap.size = E := ⟨_, rfl⟩
                have hEl5 : w2.heap.size ≤ E5 := by rw [← hEE]; exact kb.size
                rw [hEE] at r5 ⊢
                refine hK _ _ (HOLD.out _ _ kc (by simp)) ?_
                clear hK K hEE kb hE5
                generalize v9.alloc (.cells #[.int .i64 (P : Int), .int .i64 (Z : Int)] 30) = v5 at *
                clear kn
                repeat (first
                  | (refine pick_take0 (v := ?_) rfl (by decide +kernel) (fun _ _ _ h => h) (by rfl) ?_ ?_; rotate_left; (intro w hSw; (try dsimp only at hSw); go_simp; try with_reducible rfl); go_frame)
                  | (refine pick_take1 (v := ?_) rfl (by decide +kernel) (fun _ _ _ h => h) (by rfl) ?_ ?_; rotate_left; (intro w hSw; (try dsimp only at hSw); go_simp; try with_reducible rfl); go_frame)
                  | (refine pick_take2 (v := ?_) rfl (by decide +kernel) (fun _ _ _ h => h) (by rfl) ?_ ?_; rotate_left; (intro w hSw; (try dsimp only at hSw); go_simp; try with_reducible rfl); go_frame)
                  | (refine pick_take3 (v := ?_) rfl (by decide +kernel) (fun _ _ _ h => h) (by rfl) ?_ ?_; rotate_left; (intro w hSw; (try dsimp only at hSw); go_simp; try with_reducible rfl); go_frame)
                  | (refine pick_take4 (v := ?_) rfl (by decide +kernel) (fun _ _ _ h => h) (by rfl) ?_ ?_; rotate_left; (intro w hSw; (try dsimp only at hSw); go_simp; try with_reducible rfl); go_frame)
                  | (refine pick_take5 (v := ?_) rfl (by decide +kernel) (fun _ _ _ h => h) (by rfl) ?_ ?_; rotate_left; (intro w hSw; (try dsimp only at hSw); go_simp; try with_reducible rfl); go_frame))
                refine pick_call (by decide +kernel) (by rfl) (fun K hK => ?_)
                refine wp_append_y _ _ 24 rfl w.heap.size i1 _ 16 Try.underlying24 hi1 hz10 hz11 hz12 rfl (by decide) (by decide) u6 _ ((P : Int), (Z : Int)) (cellsZ_length _) (cellsZ_one _) rfl E5 rfl r5 o6 (Nat.le_trans hw2 kc.size) hl6 ?_
                intro g6 c6 v6 o6 kn hat6
                have hx6 : X ∉ u6.ownBlock.toList := fun hm => by rw [Option.mem_toList] at hm; exact absurd (hXl X (.inl hm)) (Nat.lt_irrefl X)
                have r9 := r9.kept kn (fun hm => by rw [Option.mem_toList] at hm; have := hXl _ (.inl hm); omega)
                have hsz6 := kc.size
                have hg67 : u7.ownBlock ≠ some g6 := fun e7 => by
                  rcases hat6 with h' | h'
                  · exact hap _ h' e7
                  · have := o7.lt _ e7; omega
                have o7 := o7.keptS kn (fun jj h7 hm => by rw [Option.mem_toList] at hm; exact hap _ hm h7)
                have kc : Kept u6.ownBlock.toList w2 v6 := (kc.any).trans kn
                refine hK _ _ (HOLD.out _ _ kc hx6) ?_
                clear hK K hat6 kn hsz6
                repeat (first
                  | (refine pick_take0 (v := ?_) rfl (by decide +kernel) (fun _ _ _ h => h) (by rfl) ?_ ?_; rotate_left; (intro w hSw; (try dsimp only at hSw); go_simp; try with_reducible rfl); go_frame)
                  | (refine pick_take1 (v := ?_) rfl (by decide +kernel) (fun _ _ _ h => h) (by rfl) ?_ ?_; rotate_left; (intro w hSw; (try dsimp only at hSw); go_simp; try with_reducible rfl); go_frame)
                  | (refine pick_take2 (v := ?_) rfl (by decide +kernel) (fun _ _ _ h => h) (by rfl) ?_ ?_; rotate_left; (intro w hSw; (try dsimp only at hSw); go_simp; try with_reducible rfl); go_frame)
                  | (refine pick_take3 (v := ?_) rfl (by decide +kernel) (fun _ _ _ h => h) (by rfl) ?_ ?_; rotate_left; (intro w hSw; (try dsimp only at hSw); go_simp; try with_reducible rfl); go_frame)
                  | (refine pick_take4 (v := ?_) rfl (by decide +kernel) (fun _ _ _ h => h) (by rfl) ?_ ?_; rotate_left; (intro w hSw; (try dsimp only at hSw); go_simp; try with_reducible rfl); go_frame)
                  | (refine pick_take5 (v := ?_) rfl (by decide +kernel) (fun _ _ _ h => h) (by rfl) ?_ ?_; rotate_left; (intro w hSw; (try dsimp only at hSw); go_simp; try with_reducible rfl); go_frame))
                refine pick_call (by decide +kernel) (by rfl) (fun K hK => ?_)
                refine wp_append_y _ _ 55 rfl w.heap.size i2 _ 32 Try.underlying55 hi2 hz20 hz21 hz22 rfl (by decide) (by decide) u7 _ (Hd.mk true kd 0 nn) (Hd.cells_length _) (Hd.cells_one _) rfl E9 rfl r9 o7 (Nat.le_trans hw2 kc.size) hl7 ?_
                intro g7 c7 v10 o7 kn hat7
                have hx7 : X ∉ u7.ownBlock.toList := fun hm => by rw [Option.mem_toList] at hm; exact absurd (hXl X (.inr hm)) (Nat.lt_irrefl X)
                have hgg : g6 ≠ g7 := fun e7 => by
                  rcases hat7 with h' | h'
                  · exact hg67 (by rw [e7]; exact h')
                  · have := o6.lt g6 rfl; omega
                have o6 := o6.keptS kn (fun jj h6 hm => by rw [Option.mem_toList] at hm; cases h6; exact hg67 hm)
                have kc : Kept (u6.ownBlock.toList ++ u7.ownBlock.toList) w2 v10 := kc.chain kn (fun i hi _ => List.mem_append_left _ hi) (fun i hi _ => List.mem_append_right _ hi)
                refine hK _ _ (HOLD.out _ _ kc (fun hm => (List.mem_append.1 hm).elim hx6 hx7)) ?_
                clear hK K kn hat7
                repeat (first
                  | (refine pick_take0 (v := ?_) rfl (by decide +kernel) (fun _ _ _ h => h) (by rfl) ?_ ?_; rotate_left; (intro w hSw; (try dsimp only at hSw); go_simp; try with_reducible rfl); go_frame)
                  | (refine pick_take1 (v := ?_) rfl (by decide +kernel) (fun _ _ _ h => h) (by rfl) ?_ ?_; rotate_left; (intro w hSw; (try dsimp only at hSw); go_simp; try with_reducible rfl); go_frame)
                  | (refine pick_take2 (v := ?_) rfl (by decide +kernel) (fun _ _ _ h => h) (by rfl) ?_ ?_; rotate_left; (intro w hSw; (try dsimp only at hSw); go_simp; try with_reducible rfl); go_frame)
                  | (refine pick_take3 (v := ?_) rfl (by decide +kernel) (fun _ _ _ h => h) (by rfl) ?_ ?_; rotate_left; (intro w hSw; (try dsimp only at hSw); go_simp; try with_reducible rfl); go_frame)
                  | (refine pick_take4 (v := ?_) rfl (by decide +kernel) (fun _ _ _ h => h) (by rfl) ?_ ?_; rotate_left; (intro w hSw; (try dsimp only at hSw); go_simp; try with_reducible rfl); go_frame)
                  | (refine pick_take5 (v := ?_) rfl (by decide +kernel) (fun _ _ _ h => h) (by rfl) ?_ ?_; rotate_left; (intro w hSw; (try dsimp only at hSw); go_simp; try with_reducible rfl); go_frame))
                refine pick_done (by decide +kernel) ?_
                obtain ⟨x0, x1, x2, x3⟩ := HOLD.out _ _ kc (fun hm => (List.mem_append.1 hm).elim hx6 hx7)
                clear HOLD hap hg67
                go_wp2_with fail
                refine (HSZ.out _).mono ?_
                rintro e w9 ⟨rfl, k9⟩
                have hwz : IntKind.i64.wrap ((P : Int) + (Z : Int)) = (P : Int) + (Z : Int) := IntWalk.i64_in _ (by omega)
                go_wp2
                go_roundw
                case rel =>
                  refine ⟨j + 1, by omega, by go_num, ?_, ?_, ?_⟩
                  · rw [HG2.out, sumN_snoc, HZ.out]
                    have := HPP.out
                    congr 1
                    omega
                  · rw [HG2.out]
                    refine ⟨?_, o7.keptS k9 (by simp), ?_⟩
                    · rw [thingsB_snoc, HPP.out, HS1.out]
                      exact o6.keptS k9 (by simp)
                    · intro b h6 h7
                      cases h6
                      cases h7
                      exact hgg rfl
                  · exact (hkr.trans kX2).chain (kc.trans k9.any) (by simp) (fun i hi hl => by
                      have : w.heap.size ≤ i := by
                        rcases List.mem_append.1 hi with hi | hi
                        · rw [Option.mem_toList] at hi; exact hOg i (.inl hi)
                        · rw [Option.mem_toList] at hi; exact hOg i (.inr hi)
                      omega)
                case measure => simp [intOf]; omega
            · go_simp
              have kb := kc
              have kn := (Kept.refl [] v0).alloc (.cells #[.bool true, .int .i64 kd, .int .i64 0, .int .i64 nn] 32)
              have r9 := Row.new v0 32 [.bool true, .int .i64 kd, .int .i64 0, .int .i64 nn]
              have kc := kc.trans kn
              have o6 := o6.keptS kn (by simp)
              have o7 := o7.keptS kn (by simp)
              have hE9 := kc.size
              obtain ⟨E9, hEE⟩ : ∃ E, v0.heap.size = E := ⟨_, rfl⟩
              have hEl9 : w2.heap.size ≤ E9 := by rw [← hEE]; exact kb.size
              rw [hEE] at r9 ⊢
              refine hK _ _ (HOLD.out _ _ kc (by simp)) ?_
              clear hK K hEE kb hE9
              generalize v0.alloc (.cells #[.bool true, .int .i64 kd, .int .i64 0, .int .i64 nn] 32) = v9 at *
              clear kn
              repeat (first
                | (refine pick_take0 (v := ?_) rfl (by decide +kernel) (fun _ _ _ h => h) (by rfl) ?_ ?_; rotate_left; (intro w hSw; (try dsimp only at hSw); go_simp; try with_reducible rfl); go_frame)
                | (refine pick_take1 (v := ?_) rfl (by decide +kernel) (fun _ _ _ h => h) (by rfl) ?_ ?_; rotate_left; (intro w hSw; (try dsimp only at hSw); go_simp; try with_reducible rfl); go_frame)
                | (refine pick_take2 (v := ?_) rfl (by decide +kernel) (fun _ _ _ h => h) (by rfl) ?_ ?_; rotate_left; (intro w hSw; (try dsimp only at hSw); go_simp; try with_reducible rfl); go_frame)
                | (refine pick_take3 (v := ?_) rfl (by decide +kernel) (fun _ _ _ h => h) (by rfl) ?_ ?_; rotate_left; (intro w hSw; (try dsimp only at hSw); go_simp; try with_reducible rfl); go_frame)
                | (refine pick_take4 (v := ?_) rfl (by decide +kernel) (fun _ _ _ h => h) (by rfl) ?_ ?_; rotate_left; (intro w hSw; (try dsimp only at hSw); go_simp; try with_reducible rfl); go_frame)
                | (refine pick_take5 (v := ?_) rfl (by decide +kernel) (fun _ _ _ h => h) (by rfl) ?_ ?_; rotate_left; (intro w hSw; (try dsimp only at hSw); go_simp; try with_reducible rfl); go_frame))
              refine pick_call (by decide +kernel) (by rfl) (fun K hK => ?_)
              go_simp
              go_at_call 20
              refine (HSZ.out _).mono ?_
              rintro e v3 ⟨rfl, kn⟩
              have r9 := r9.kept kn (by simp)
              have kc := kc.trans kn
              have o6 := o6.keptS kn (by simp)
              have o7 := o7.keptS kn (by simp)
              refine hK _ _ (HOLD.out [] _ kc (by simp)) ?_
              clear hK K kn
              repeat (first
                | (refine pick_take0 (v := ?_) rfl (by decide +kernel) (fun _ _ _ h => h) (by rfl) ?_ ?_; rotate_left; (intro w hSw; (try dsimp only at hSw); go_simp; try with_reducible rfl); go_frame)
                | (refine pick_take1 (v := ?_) rfl (by decide +kernel) (fun _ _ _ h => h) (by rfl) ?_ ?_; rotate_left; (intro w hSw; (try dsimp only at hSw); go_simp; try with_reducible rfl); go_frame)
                | (refine pick_take2 (v := ?_) rfl (by decide +kernel) (fun _ _ _ h => h) (by rfl) ?_ ?_; rotate_left; (intro w hSw; (try dsimp only at hSw); go_simp; try with_reducible rfl); go_frame)
                | (refine pick_take3 (v := ?_) rfl (by decide +kernel) (fun _ _ _ h => h) (by rfl) ?_ ?_; rotate_left; (intro w hSw; (try dsimp only at hSw); go_simp; try with_reducible rfl); go_frame)
                | (refine pick_take4 (v := ?_) rfl (by decide +kernel) (fun _ _ _ h => h) (by rfl) ?_ ?_; rotate_left; (intro w hSw; (try dsimp only at hSw); go_simp; try with_reducible rfl); go_frame)
                | (refine pick_take5 (v := ?_) rfl (by decide +kernel) (fun _ _ _ h => h) (by rfl) ?_ ?_; rotate_left; (intro w hSw; (try dsimp only at hSw); go_simp; try with_reducible rfl); go_frame))
              refine pick_call (by decide +kernel) (by rfl) (fun K hK => ?_)
              go_simp
              have kb := kc
              have kn := (Kept.refl [] v3).alloc (.cells #[.int .i64 (P : Int), .int .i64 (Z : Int)] 30)
              have r9 := r9.kept kn (by simp)
              have r5 := Row.new v3 30 [.int .i64 (P : Int), .int .i64 (Z : Int)]
              have kc := kc.trans kn
              have o6 := o6.keptS kn (by simp)
              have o7 := o7.keptS kn (by simp)
              have hE5 := kc.size
              obtain ⟨E5, hEE⟩ : ∃ E, v3.heap.size = E := ⟨_, rfl⟩
              have hEl5 : w2.heap.size ≤ E5 := by rw [← hEE]; exact kb.size
              rw [hEE] at r5 ⊢
              refine hK _ _ (HOLD.out _ _ kc (by simp)) ?_
              clear hK K hEE kb hE5
              generalize v3.alloc (.cells #[.int .i64 (P : Int), .int .i64 (Z : Int)] 30) = v5 at *
              clear kn
              repeat (first
                | (refine pick_take0 (v := ?_) rfl (by decide +kernel) (fun _ _ _ h => h) (by rfl) ?_ ?_; rotate_left; (intro w hSw; (try dsimp only at hSw); go_simp; try with_reducible rfl); go_frame)
                | (refine pick_take1 (v := ?_) rfl (by decide +kernel) (fun _ _ _ h => h) (by rfl) ?_ ?_; rotate_left; (intro w hSw; (try dsimp only at hSw); go_simp; try with_reducible rfl); go_frame)
                | (refine pick_take2 (v := ?_) rfl (by decide +kernel) (fun _ _ _ h => h) (by rfl) ?_ ?_; rotate_left; (intro w hSw; (try dsimp only at hSw); go_simp; try with_reducible rfl); go_frame)
                | (refine pick_take3 (v := ?_) rfl (by decide +kernel) (fun _ _ _ h => h) (by rfl) ?_ ?_; rotate_left; (intro w hSw; (try dsimp only at hSw); go_simp; try with_reducible rfl); go_frame)
                | (refine pick_take4 (v := ?_) rfl (by decide +kernel) (fun _ _ _ h => h) (by rfl) ?_ ?_; rotate_left; (intro w hSw; (try dsimp only at hSw); go_simp; try with_reducible rfl); go_frame)
                | (refine pick_take5 (v := ?_) rfl (by decide +kernel) (fun _ _ _ h => h) (by rfl) ?_ ?_; rotate_left; (intro w hSw; (try dsimp only at hSw); go_simp; try with_reducible rfl); go_frame))
              refine pick_call (by decide +kernel) (by rfl) (fun K hK => ?_)
              refine wp_append_y _ _ 24 rfl w.heap.size i1 _ 16 Try.underlying24 hi1 hz10 hz11 hz12 rfl (by decide) (by decide) u6 _ ((P : Int), (Z : Int)) (cellsZ_length _) (cellsZ_one _) rfl E5 rfl r5 o6 (Nat.le_trans hw2 kc.size) hl6 ?_
              intro g6 c6 v6 o6 kn hat6
              have hx6 : X ∉ u6.ownBlock.toList := fun hm => by rw [Option.mem_toList] at hm; exact absurd (hXl X (.inl hm)) (Nat.lt_irrefl X)
              have r9 := r9.kept kn (fun hm => by rw [Option.mem_toList] at hm; have := hXl _ (.inl hm); omega)
              have hsz6 := kc.size
              have hg67 : u7.ownBlock ≠ some g6 := fun e7 => by
                rcases hat6 with h' | h'
                · exact hap _ h' e7
                · have := o7.lt _ e7; omega
              have o7 := o7.keptS kn (fun jj h7 hm => by rw [Option.mem_toList] at hm; exact hap _ hm h7)
              have kc : Kept u6.ownBlock.toList w2 v6 := (kc.any).trans kn
              refine hK _ _ (HOLD.out _ _ kc hx6) ?_
              clear hK K hat6 kn hsz6
              repeat (first
                | (refine pick_take0 (v := ?_) rfl (by decide +kernel) (fun _ _ _ h => h) (by rfl) ?_ ?_; rotate_left; (intro w hSw; (try dsimp only at hSw); go_simp; try with_reducible rfl); go_frame)
                | (refine pick_take1 (v := ?_) rfl (by decide +kernel) (fun _ _ _ h => h) (by rfl) ?_ ?_; rotate_left; (intro w hSw; (try dsimp only at hSw); go_simp; try with_reducible rfl); go_frame)
                | (refine pick_take2 (v := ?_) rfl (by decide +kernel) (fun _ _ _ h => h) (by rfl) ?_ ?_; rotate_left; (intro w hSw; (try dsimp only at hSw); go_simp; try with_reducible rfl); go_frame)
                | (refine pick_take3 (v := ?_) rfl (by decide +kernel) (fun _ _ _ h => h) (by rfl) ?_ ?_; rotate_left; (intro w hSw; (try dsimp only at hSw); go_simp; try with_reducible rfl); go_frame)
                | (refine pick_take4 (v := ?_) rfl (by decide +kernel) (fun _ _ _ h => h) (by rfl) ?_ ?_; rotate_left; (intro w hSw; (try dsimp only at hSw); go_simp; try with_reducible rfl); go_frame)
                | (refine pick_take5 (v := ?_) rfl (by decide +kernel) (fun _ _ _ h => h) (by rfl) ?_ ?_; rotate_left; (intro w hSw; (try dsimp only at hSw); go_simp; try with_reducible rfl); go_frame))
              refine pick_call (by decide +kernel) (by rfl) (fun K hK => ?_)
              refine wp_append_y _ _ 55 rfl w.heap.size i2 _ 32 Try.underlying55 hi2 hz20 hz21 hz22 rfl (by decide) (by decide) u7 _ (Hd.mk true kd 0 nn) (Hd.cells_length _) (Hd.cells_one _) rfl E9 rfl r9 o7 (Nat.le_trans hw2 kc.size) hl7 ?_
              intro g7 c7 v10 o7 kn hat7
              have hx7 : X ∉ u7.ownBlock.toList := fun hm => by rw [Option.mem_toList] at hm; exact absurd (hXl X (.inr hm)) (Nat.lt_irrefl X)
              have hgg : g6 ≠ g7 := fun e7 => by
                rcases hat7 with h' | h'
                · exact hg67 (by rw [e7]; exact h')
                · have := o6.lt g6 rfl; omega
              have o6 := o6.keptS kn (fun jj h6 hm => by rw [Option.mem_toList] at hm; cases h6; exact hg67 hm)
              have kc : Kept (u6.ownBlock.toList ++ u7.ownBlock.toList) w2 v10 := kc.chain kn (fun i hi _ => List.mem_append_left _ hi) (fun i hi _ => List.mem_append_right _ hi)
              refine hK _ _ (HOLD.out _ _ kc (fun hm => (List.mem_append.1 hm).elim hx6 hx7)) ?_
              clear hK K kn hat7
              repeat (first
                | (refine pick_take0 (v := ?_) rfl (by decide +kernel) (fun _ _ _ h => h) (by rfl) ?_ ?_; rotate_left; (intro w hSw; (try dsimp only at hSw); go_simp; try with_reducible rfl); go_frame)
                | (refine pick_take1 (v := ?_) rfl (by decide +kernel) (fun _ _ _ h => h) (by rfl) ?_ ?_; rotate_left; (intro w hSw; (try dsimp only at hSw); go_simp; try with_reducible rfl); go_frame)
                | (refine pick_take2 (v := ?_) rfl (by decide +kernel) (fun _ _ _ h => h) (by rfl) ?_ ?_; rotate_left; (intro w hSw; (try dsimp only at hSw); go_simp; try with_reducible rfl); go_frame)
                | (refine pick_take3 (v := ?_) rfl (by decide +kernel) (fun _ _ _ h => h) (by rfl) ?_ ?_; rotate_left; (intro w hSw; (try dsimp only at hSw); go_simp; try with_reducible rfl); go_frame)
                | (refine pick_take4 (v := ?_) rfl (by decide +kernel) (fun _ _ _ h => h) (by rfl) ?_ ?_; rotate_left; (intro w hSw; (try dsimp only at hSw); go_simp; try with_reducible rfl); go_frame)
                | (refine pick_take5 (v := ?_) rfl (by decide +kernel) (fun _ _ _ h => h) (by rfl) ?_ ?_; rotate_left; (intro w hSw; (try dsimp only at hSw); go_simp; try with_reducible rfl); go_frame))
              refine pick_done (by decide +kernel) ?_
              obtain ⟨x0, x1, x2, x3⟩ := HOLD.out _ _ kc (fun hm => (List.mem_append.1 hm).elim hx6 hx7)
              clear HOLD hap hg67
              go_wp2_with fail
              refine (HSZ.out _).mono ?_
              rintro e w9 ⟨rfl, k9⟩
              have hwz : IntKind.i64.wrap ((P : Int) + (Z : Int)) = (P : Int) + (Z : Int) := IntWalk.i64_in _ (by omega)
              go_wp2
              go_roundw
              case rel =>
                refine ⟨j + 1, by omega, by go_num, ?_, ?_, ?_⟩
                · rw [HG2.out, sumN_snoc, HZ.out]
                  have := HPP.out
                  congr 1
                  omega
                · rw [HG2.out]
                  refine ⟨?_, o7.keptS k9 (by simp), ?_⟩
                  · rw [thingsB_snoc, HPP.out, HS1.out]
                    exact o6.keptS k9 (by simp)
                  · intro b h6 h7
                    cases h6
                    cases h7
                    exact hgg rfl
                · exact (hkr.trans kX2).chain (kc.trans k9.any) (by simp) (fun i hi hl => by
                    have : w.heap.size ≤ i := by
                      rcases List.mem_append.1 hi with hi | hi
                      · rw [Option.mem_toList] at hi; exact hOg i (.inl hi)
                      · rw [Option.mem_toList] at hi; exact hOg i (.inr hi)
                    omega)
              case measure => simp [intOf]; omega
    · obtain rfl : j = hs.length := by omega
      rw [List.take_length] at ho6 ho7 ⊢
      have hf := goodH_fair hs
      have hgl := goodH_len hs
      obtain ⟨gs, hgs⟩ : ∃ gs, goodH hs = gs := ⟨_, rfl⟩
      rw [hgs] at ho6 ho7 hf hgl ⊢
      have hsum := sumN_le hf
      obtain ⟨a6, c6, rfl, s6, b6⟩ := ho6.slice cellsZ_length
      obtain ⟨a7, c7, rfl, s7, b7⟩ := ho7.slice Hd.cells_length
      have hb6 : ∀ b off, a6 = some ⟨b, off, none⟩ → b < wr.heap.size := fun b off e => ho6.lt b (b6 b off e).2
      have hb7 : ∀ b off, a7 = some ⟨b, off, none⟩ → b < wr.heap.size := fun b off e => ho7.lt b (b7 b off e).2
      obtain ⟨T, hT⟩ : ∃ T, A + sumN gs = T := ⟨_, rfl⟩
      have hTl : T ≤ 2000 := by omega
      have HT := Lib.hid hT
      have HB0 := Lib.hid (show laidB A gs 0 = List.replicate T 9 by rw [laidB_zero, hT])
      rw [hT, thingsB_length]
      have HF := Lib.hid hf
      have hgl2 : gs.length ≤ 20 := by omega
      clear ho6 ho7 hap hT hsum hgs hgl hf b6 b7
      go_wp2_with fail
      refine (new_yes T wr (by omega)).mono ?_
      rintro e w1 ⟨mb, mg, rfl, hmb, hmg, hm1, k1⟩
      go_wp2_with fail
      have hfill := fill_any mb mg (List.replicate T 0) 0 T 9 w1 hm1 (by decide)
      refine hfill.mono ?_
      rintro e w2 ⟨rfl, hm2, k2⟩
      rw [flB_all, ← HB0.out] at hm2
      have hho : holdsB (List.replicate T (0 : Int)).length 0 T = true := by simp [holdsB]
      rw [hho, show errB true = 0 from rfl]
      have hmz : mb < w2.heap.size ∧ mg < w2.heap.size := ⟨hm2.1.lt, hm2.2.1.lt⟩
      have hm6 : ∀ b off, a6 = some ⟨b, off, none⟩ → b ∉ [mg] := by intro b off e hm; have := hb6 b off e; simp at hm; omega
      have hm7 : ∀ b off, a7 = some ⟨b, off, none⟩ → b ∉ [mg] := by intro b off e hm; have := hb7 b off e; simp at hm; omega
      have hgw : w.heap.size ≤ mg := Nat.le_trans hkr.size hmg
      have kk2 : Kept [] w w2 := (hkr.trans k1).chain k2 (by simp) (by simp; omega)
      have t6 := (s6.kept k1).keptS k2 hm6
      have t7 := (s7.kept k1).keptS k2 hm7
      clear hfill hm1 k1 k2 hho s6 s7 hkr hb6 hb7 hmb hmg HB0
      go_wp2_with fail
      go_loopw [81] (fun i wr => ∃ (j : Nat), j ≤ gs.length ∧ i = .int .i64 j ∧ IsMem wr mb mg (laidB A gs j) ∧ Kept [mg] w2 wr) (fun i _ => gs.length - (intOf i).toNat)
      case atStart => exact ⟨0, Nat.zero_le _, rfl, hm2, Kept.refl _ _⟩
      case round =>
        obtain ⟨j, hj, rfl, hmq, hkq⟩ := hrel
        by_cases hlt : j < gs.length
        · have hj6 : j < (thingsB A gs).length := by rw [thingsB_length]; exact hlt
          obtain ⟨b6, o6, rfl, hb6, hc6⟩ := (t6.keptS hkq hm6).cell hj6
          obtain ⟨b7, o7, rfl, hb7, hc7⟩ := (t7.keptS hkq hm7).cell hlt
          have hgj : gs[j]? = some gs[j] := List.getElem?_eq_getElem hlt
          have htj := thingsB_get gs A j _ hgj
          rw [List.getElem?_eq_getElem hj6] at htj
          have htk := Option.some.inj htj
          have hput := laid_put HF.out A j _ hgj
          have hfg := HF.out _ (List.getElem_mem hlt)
          rw [htk] at hc6
          obtain ⟨⟨ar, kd, ty, nn⟩, hgg⟩ : ∃ g, gs[j] = g := ⟨_, rfl⟩
          rw [hgg] at hc6 hc7 hput hfg
          obtain ⟨z1, z2, z3, z4, z5⟩ := sizeN_eq hfg
          obtain ⟨Z, hZ⟩ : ∃ Z, sizeN ⟨ar, kd, ty, nn⟩ = Z := ⟨_, rfl⟩
          rw [hZ] at z1 z2 z3
          rw [z1] at hc6 hput
          have hsp := sumN_split gs j
          obtain ⟨P, hP⟩ : ∃ P, A + sumN (gs.take j) = P := ⟨_, rfl⟩
          have hPT : P ≤ 2000 := by have := HT.out; omega
          rw [hP] at hc6 hput
          have HPUT := Lib.hid hput
          have cr0 := hc6 0 (by omega)
          have cr1 := hc6 1 (by omega)
          simp only [cellsZ, List.getElem?_cons_zero, List.getElem?_cons_succ, Nat.add_zero] at cr0 cr1
          have hjg : (j : Int) < (gs.length : Int) := by omega
          have rR := Row.new wr 30 [.int .i64 P, .int .i64 Z]
          have kR := (Kept.refl [] wr).alloc (.cells #[.int .i64 P, .int .i64 Z] 30)
          clear hc6 htk htj hput hfg hgg hZ hsp hP z1 z4 z5 hj6
          go_wp2_with fail
          obtain ⟨X, hX⟩ : ∃ X, wr.heap.size = X := ⟨_, rfl⟩
          rw [hX] at rR ⊢
          generalize wr.alloc (.cells #[.int .i64 P, .int .i64 Z] 30) = W1 at rR kR ⊢
          have hcg := fun i hi => (World.cell?_of_block (w := wr) (a := ⟨b7, o7 + j * 4 + i, none⟩) (kR.block b7 hb7 (by simp))).trans (hc7 i hi)
          have cg0 := hcg 0 (by omega)
          have cg1 := hcg 1 (by omega)
          have cg2 := hcg 2 (by omega)
          have cg3 := hcg 3 (by omega)
          simp only [Hd.cells, List.getElem?_cons_zero, List.getElem?_cons_succ, Nat.add_zero] at cg0 cg1 cg2 cg3
          have x0 : W1.cell? ⟨X, 0, none⟩ = some (.int .i64 P) := by simpa using rR.cell 0
          have x1 : W1.cell? ⟨X, 1, none⟩ = some (.int .i64 Z) := by simpa using rR.cell 1
          have hm1 := (hmq.kept kR (by simp) (by simp)).kept (Kept.refl [] W1).drew (by simp) (by simp)
          have k1 : Kept [mg] w2 W1.drew := hkq.trans ((kR.drew).any)
          clear cr0 cr1 hc7 hcg hX rR kR hmq hkq
          go_still_tail 6, (by kernel_rfl)
          change wpList _ _ _ _ _ W1.drew
          generalize W1.drew = W2 at hm1 k1 ⊢
          clear cg0 cg1 cg2 cg3 x0 x1
          go_wp2_with fail
          refine (walkPut_any mb mg (laidB A gs j) P Z ar kd ty nn W2 hm1 (by omega)).mono ?_
          rintro e w3 ⟨rfl, hm3, k3⟩
          rw [HPUT.out] at hm3 ⊢
          go_wp2
          go_roundw
          case rel => exact ⟨j + 1, by omega, by go_num, hm3, k1.trans k3⟩
          case measure => simp [intOf]; omega
        · obtain rfl : j = gs.length := by omega
          have r0 := Row.new wr 3 [.int .i64 1, .int .i64 0]
          have k0 := (Kept.refl [] wr).alloc (.cells #[.int .i64 1, .int .i64 0] 3)
          have s0 : Sl (wr.alloc (.cells #[.int .i64 1, .int .i64 0] 3)) .i64 (some ⟨wr.heap.size, 0, none⟩) [1, 0] := Sl.of_row r0
          have h1 : (wr.alloc (.cells #[.int .i64 1, .int .i64 0] 3)).heap.size = wr.heap.size + 1 := by simp
          have r1 := Row.new (wr.alloc (.cells #[.int .i64 1, .int .i64 0] 3)) 63 [.slice (some ⟨wr.heap.size, 0, none⟩) 2 2]
          have k2 := (Kept.refl [] (wr.alloc (.cells #[.int .i64 1, .int .i64 0] 3))).alloc (.cells #[.slice (some ⟨wr.heap.size, 0, none⟩) 2 2] 63)
          rw [h1] at r1
          have sD : SlD ((wr.alloc (.cells #[.int .i64 1, .int .i64 0] 3)).alloc (.cells #[.slice (some ⟨wr.heap.size, 0, none⟩) 2 2] 63)) (some ⟨wr.heap.size + 1, 0, none⟩) [⟨some ⟨wr.heap.size, 0, none⟩, 2, [1, 0]⟩] :=
            ⟨SlG.of_row r1, by intro t ht; obtain rfl := List.mem_singleton.1 ht; exact s0.kept k2⟩
          have kk := hkq.trans ((k0.trans k2).any)
          have hm4 := (hmq.kept k0 (by simp) (by simp)).kept k2 (by simp) (by simp)
          clear r0 k0 s0 h1 r1 k2 hmq hkq
          go_wp2_with fail
          obtain ⟨Z, hZ⟩ : ∃ Z, wr.heap.size = Z := ⟨_, rfl⟩
          rw [hZ] at sD kk hm4 ⊢
          generalize (wr.alloc (.cells #[.int .i64 1, .int .i64 0] 3)).alloc (.cells #[.slice (some ⟨Z, 0, none⟩) 2 2] 63) = W4 at sD kk hm4 ⊢
          clear hZ
          have t6' := t6.keptS kk hm6
          have t7' := t7.keptS kk hm7
          have kw4 : Kept [] w W4 := kk2.chain kk (by simp) (by simp; omega)
          have hobj := walkObjects_any mb mg (laidB A gs gs.length) a6 c6 (thingsB A gs) (some ⟨Z + 1, 0, none⟩) 1 [⟨some ⟨Z, 0, none⟩, 2, [1, 0]⟩] W4 hm4 (laidB_range HF.out A _) t6'
            (fun r hr => by have := thingsB_range gs A r hr; have := HT.out; omega) (by rw [thingsB_length]; omega) sD (by intro t ht; obtain rfl := List.mem_singleton.1 ht; simp)
          obtain ⟨os, hos, hol, hog⟩ := objs_fair HF.out A
          rw [show List.map Ty.ks [⟨some ⟨Z, 0, none⟩, 2, [1, 0]⟩] = ks2 from rfl, hos, thingsB_length] at hobj
          have HOG := Lib.hid hog
          clear t6 t7 hm2 hos hog sD kk hm4
          refine hobj.mono ?_
          clear hobj
          rintro e w5 ⟨aa, cc, ol, hom, rfl, hsl, hli, k5⟩
          simp only at hom ⊢
          have hll : ol.length = gs.length := by rw [← hol, ← hom, List.length_map]
          have HOM := Lib.hid hom
          rw [hll]
          have u6' := t6'.kept k5
          have u7' := t7'.kept k5
          have kw5 := kw4.trans k5
          have HLL := Lib.hid hll
          have hne : ((gs.length : Int) != (gs.length : Int)) = false := by simp
          clear hom hol hll t6' t7' kw4 k5 kk2
          go_wp2_with fail
          go_loopw [115] (fun i wr => ∃ (j : Nat), j ≤ gs.length ∧ i = .int .i64 j ∧ Kept [] w5 wr) (fun i _ => gs.length - (intOf i).toNat)
          case atStart => exact ⟨0, Nat.zero_le _, rfl, Kept.refl _ _⟩
          case round =>
            obtain ⟨j, hj, rfl, hkq⟩ := hrel
            by_cases hlt : j < gs.length
            · have hj6 : j < (thingsB A gs).length := by rw [thingsB_length]; exact hlt
              have hjo : j < ol.length := by rw [HLL.out]; exact hlt
              obtain ⟨bo, oo, rfl, hbo, hco⟩ := (hsl.kept hkq).cell hjo
              obtain ⟨b6, o6, rfl, hb6, hc6⟩ := (u6'.kept hkq).cell hj6
              obtain ⟨b7, o7, rfl, hb7, hc7⟩ := (u7'.kept hkq).cell hlt
              have hgj : gs[j]? = some gs[j] := List.getElem?_eq_getElem hlt
              have htj := thingsB_get gs A j _ hgj
              rw [List.getElem?_eq_getElem hj6] at htj
              have htk := Option.some.inj htj
              have hfg := HF.out _ (List.getElem_mem hlt)
              have hob : (ol[j]).o = obH A gs j gs[j] := by
                have h1 := HOG.out j _ hgj
                rw [← HOM.out, List.getElem?_map, List.getElem?_eq_getElem hjo] at h1
                simpa using h1
              have hlj := (hli _ (List.getElem_mem hjo)).kept (S := []) hkq (by simp)
              have hsp := sumN_split gs j
              rw [htk] at hc6
              obtain ⟨⟨ar, kd, ty, nn⟩, hgg⟩ : ∃ g, gs[j] = g := ⟨_, rfl⟩
              rw [hgg] at hc6 hc7 hfg hob
              obtain ⟨z1, z2, z3, z4, z5⟩ := sizeN_eq hfg
              have hkl := (kinds_fair hfg).2
              have hn40 := hfg.2.1
              simp only at z4 hkl hn40
              obtain ⟨N, rfl⟩ : ∃ N : Nat, nn = N := ⟨nn.toNat, by omega⟩
              obtain ⟨P, hP⟩ : ∃ P, A + sumN (gs.take j) = P := ⟨_, rfl⟩
              have hPT : P ≤ 2000 := by have := HT.out; omega
              unfold obH at hob
              rw [hP] at hc6 hob
              obtain ⟨⟨⟨oat, oh, oks, ovs⟩, ka, kc, va, vc⟩, hlo⟩ : ∃ l, ol[j] = l := ⟨_, rfl⟩
              rw [hlo] at hco hob hlj
              simp only [Ob.mk.injEq] at hob
              obtain ⟨rfl, rfl, hks, rfl⟩ := hob
              have hkn : oks.length = N := by rw [hks]; omega
              have hvn : (List.replicate (N : Int).toNat (0 : Int)).length = N := by simp
              simp only [ObL.cells, hkn, hvn] at hco
              have co0 := hco 0 (by omega)
              have co1 := hco 1 (by omega)
              have co2 := hco 2 (by omega)
              have co3 := hco 3 (by omega)
              have co4 := hco 4 (by omega)
              have co5 := hco 5 (by omega)
              have co6 := hco 6 (by omega)
              have co7 := hco 7 (by omega)
              simp only [List.getElem?_cons_zero, List.getElem?_cons_succ, Nat.add_zero] at co0 co1 co2 co3 co4 co5 co6 co7
              have hjg : (j : Int) < (gs.length : Int) := by omega
              have kO := (Kept.refl [] wr).alloc (.cells #[.int .i64 ((P : Int) + 1), .int .i64 0, .bool ar, .int .i64 kd, .int .i64 ty, .int .i64 N, .slice ka N kc, .slice va N vc] 35)
              have rO := Row.new wr 35 [.int .i64 ((P : Int) + 1), .int .i64 0, .bool ar, .int .i64 kd, .int .i64 ty, .int .i64 N, .slice ka N kc, .slice va N vc]
              have hvl := hlj.2.sl.kept kO
              clear hco htk htj hfg hgg hsp hP z1 z2 z3 z4 z5 hj6 hjo hlo hks hkn hvn hkl hlj
              go_wp2_with fail
              obtain ⟨X, hX⟩ : ∃ X, wr.heap.size = X := ⟨_, rfl⟩
              rw [hX] at rO ⊢
              generalize wr.alloc (.cells #[.int .i64 ((P : Int) + 1), .int .i64 0, .bool ar, .int .i64 kd, .int .i64 ty, .int .i64 N, .slice ka N kc, .slice va N vc] 35) = W1 at rO kO hvl ⊢
              have hcg := fun i hi => (World.cell?_of_block (w := wr) (a := ⟨b7, o7 + j * 4 + i, none⟩) (kO.block b7 hb7 (by simp))).trans (hc7 i hi)
              have cg0 := hcg 0 (by omega)
              have cg1 := hcg 1 (by omega)
              have cg2 := hcg 2 (by omega)
              have cg3 := hcg 3 (by omega)
              have ct0 := (World.cell?_of_block (w := wr) (a := ⟨b6, o6 + j * 2 + 0, none⟩) (kO.block b6 hb6 (by simp))).trans (hc6 0 (by omega))
              simp only [cellsZ, Hd.cells, List.getElem?_cons_zero, List.getElem?_cons_succ, Nat.add_zero] at cg0 cg1 cg2 cg3 ct0
              have x0 : W1.cell? ⟨X, 0, none⟩ = some (.int .i64 ((P : Int) + 1)) := by simpa using rO.cell 0
              have x2 : W1.cell? ⟨X, 2, none⟩ = some (.bool ar) := by simpa using rO.cell 2
              have x3 : W1.cell? ⟨X, 3, none⟩ = some (.int .i64 kd) := by simpa using rO.cell 3
              have x4 : W1.cell? ⟨X, 4, none⟩ = some (.int .i64 ty) := by simpa using rO.cell 4
              have x5 : W1.cell? ⟨X, 5, none⟩ = some (.int .i64 N) := by simpa using rO.cell 5
              have x6 : W1.cell? ⟨X, 6, none⟩ = some (.slice ka N kc) := by simpa using rO.cell 6
              have x7 : W1.cell? ⟨X, 7, none⟩ = some (.slice va N vc) := by simpa using rO.cell 7
              have hgu := fun op x y => run_guard_head op x y ar ar kd ty N kd ty N
              have heq := fun w => run_neq_head ⟨ar, kd, ty, N⟩ ⟨ar, kd, ty, N⟩ w
              rw [show eqH ⟨ar, kd, ty, (N : Int)⟩ ⟨ar, kd, ty, (N : Int)⟩ = true by simp [eqH_iff]] at heq
              simp only [Bool.not_true] at heq
              have hnp : ((P : Int) + 1 != (P : Int) + 1) = false := by simp
              have hnn : ((N : Int) != (N : Int)) = false := by simp
              clear hcg hc6 hc7 co0 co1 co2 co3 co4 co5 co6 co7 hX
              go_quiet (fail)
              go_wp2_with fail
              clear hnp hnn heq hgu x0 x2 x3 x4 x5 x6 x7 cg0 cg1 cg2 cg3 ct0
              go_loopw [163] (fun i wr => ∃ (q : Nat), q ≤ N ∧ i = .int .i64 q ∧ Kept [] W1 wr) (fun i _ => N - (intOf i).toNat)
              case atStart => exact ⟨0, Nat.zero_le _, rfl, (Kept.refl _ _).drewN _⟩
              case round =>
                obtain ⟨q, hq, rfl, hkv⟩ := hrel
                by_cases hlq : q < N
                · obtain ⟨bv, ov, rfl, hqv⟩ := (hvl.kept hkv).cell (j := q) (by simpa using hlq)
                  have hq0 : wr.cell? ⟨bv, ov + q, none⟩ = some (.int .u64 0) := by simpa [hlq] using hqv
                  have hqn : (q : Int) < (N : Int) := by omega
                  clear hqv
                  go_wp2
                  go_roundw
                  case rel => exact ⟨q + 1, by omega, by go_num, hkv⟩
                  case measure => simp [intOf]; omega
                · obtain rfl : q = N := by omega
                  have hqn : decide ((q : Int) < (q : Int)) = false := by simp
                  go_wp2
                  go_roundw
                  case rel => exact ⟨j + 1, by omega, by go_num, hkq.trans (kO.trans hkv)⟩
                  case measure => simp [intOf]; omega
            · obtain rfl : j = gs.length := by omega
              go_wp2_with fail
              refine (fixed12_any wr).mono ?_
              rintro e w6 ⟨rfl, k6⟩
              go_wp2
              go_ret
              exact ⟨rfl, (kw5.trans hkq).trans k6⟩
end Go.Proofs.Ythnoohghjcfghaa
