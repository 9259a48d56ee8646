/- Package tree: Interval. -/
import Derived.Test.YtnooamkbejbalaaTreeStops
import Derived.Test.YtnooamkbejbalaaTreeIn
import Derived.Test.YtnooamkbejbalaaTreePlain2
import Derived.Test.YtnooamkbejbalaaRange
import Derived.Test.YtnooamkbejbalaaRegion
import Derived.Test.YtnooamkbejbalaaRet
import Derived.Maps.OwnIn
import Derived.Sort.QuietIn
namespace Go.Proofs.Ytnooamkbejbalaa
open Go.RowKit Go.Shelf Go.Maps

attribute [local go_sem] Oper.semAt_some

/-- What Interval answers. -/
def IntervalPost (rs : List Rw) (z : Int) (w : World) (e : Ending) (w' : World) : Prop :=
  e = .returned (.tuple (if z ∈ idsT rs then #[.agg #[.int .i64 (fromB rs z), .int .i64 (manyB rs z)], .bool true] else #[.agg #[.int .i64 0, .int .i64 0], .bool false])) ∧ Kept [] w w'

theorem ownFrom_B {β : Type} {B b : Nat} (m : β → Nat) (f : β → Int → Bool) (hb : b < B) : OwnFrom B (fun (s : β) W => OwnB W b (m s) (f s)) := by
  intro s W W' row hs hg hr
  obtain ⟨D, hD, h2⟩ := hs
  exact ⟨D, hD.kept hg (fun e => by have := (hr b e.symm).1; omega), h2⟩
theorem ownFrom_ix {β : Type} {B g : Nat} {t : TypeId} {S : List Nat} {w₀ : World} {A : β → Prop} (f : β → List Int → Int → Prop) {v : List Int → List Value} (hB : w₀.heap.size ≤ B) :
    OwnFrom B (fun (s : β) W => A s ∧ (∃ l x, f s l x ∧ Row W g t (v l)) ∧ Kept S w₀ W) := by
  rintro s W W' row ⟨hA, ⟨l, x, h1, h2⟩, hk⟩ hg hr
  exact ⟨hA, ⟨l, x, h1, Own.from (own_row (fun _ : Unit => v l)) B () W W' row h2 hg hr⟩, ownFrom_kept hB () W W' row hk hg hr⟩
theorem KeepsFrom.of_kept {B : Nat} {S : List Nat} {W W' : World} (h : Kept S W W') (hS : ∀ s ∈ S, s < B) : KeepsFrom B W W' :=
  ⟨h.size, fun k _ hB hk _ => (h.block k (Array.getElem?_eq_some_iff.1 hk).1 (fun hs => by have := hS k hs; omega)).trans hk⟩
/-- 'm[k] = v', inside a fence. -/
theorem wpListIn_mapUpdate_B {F : Fence} {nF : Nat} (w : World) {ops : Array Oper} {rest : List Oper} {o : Oper} {a : Act} {Q : Exit → Act → World → Prop}
    (hg : o.guard = none) (m x v : Operand) (hop : o.op = Op.mapUpdate 57 m x v) (b n : Nat) (f : Int → Bool)
    (hm : a.eval m = .map (some b)) (hown : OwnB w b n f) (hn : n < maxLen) (z : Int) (hz : Fit64 z) (u : Bool) (hx : a.eval x = .int .i64 z) (hv : a.eval v = .bool u)
    (hK : ∀ w', OwnB w' b (n + 1) (fun y => if y = z then u else f y) → Kept [b] w w' → wpListIn F nF Try.prog ops Q rest (a.put o.dst undef) w') :
    wpListIn F nF Try.prog ops Q (o :: rest) a w := by
  obtain ⟨D, hD, hM, hat⟩ := hown
  refine wpListIn_mapUpdate_own w hg m x v _ hop 3 4 keyed_int Try.underlying57 (plainElem Try.prog 4) b n D hm hD hn _ _ (.int .i64 z) hx hv (keyOf_int_mk Try.underlying3 hz.wf) (.lit (.bool u)) [] (plainElem_bool Try.underlying4 u) ?_
  intro w' h1 h2
  refine hK w' ⟨_, h1, hM.put _ _, fun y hy => ?_⟩ (Kept.of_grown h2)
  show _ = DataW.lit (Lit.bool (if y = z then u else f y))
  by_cases e : y = z
  · subst e
    rw [if_pos rfl]
    exact atKey_put_same (k := .int .i64 y) hM trivial _ _
  · rw [if_neg e, atKey_put_other (by simpa using e)]
    exact hat y hy
/-- Six new blocks, the fifth a map. -/
theorem six_new (w : World) (o0 o1 o2 o3 o5 : Obj) : ∃ W, ((((((w.alloc o0).alloc o1).alloc o2).alloc o3).alloc (.map #[] 0)).alloc o5) = W ∧ W.heap.size = w.heap.size + 6 ∧ Kept [] w W ∧
    W.heap[w.heap.size]? = some o0 ∧ W.heap[w.heap.size + 1]? = some o1 ∧ W.heap[w.heap.size + 2]? = some o2 ∧ W.heap[w.heap.size + 3]? = some o3 ∧ OwnB W (w.heap.size + 4) 0 (fun _ => false) ∧ W.heap[w.heap.size + 5]? = some o5 := by
  have hB := (OwnB.made ((((w.alloc o0).alloc o1).alloc o2).alloc o3)).kept ((Kept.refl [] _).alloc o5) (by simp)
  have hz : ((((w.alloc o0).alloc o1).alloc o2).alloc o3).heap.size = w.heap.size + 4 := by simp
  rw [hz] at hB
  have n0 := heap_alloc_new w o0
  have n1 := heap_alloc_new (w.alloc o0) o1
  have n2 := heap_alloc_new ((w.alloc o0).alloc o1) o2
  have n3 := heap_alloc_new (((w.alloc o0).alloc o1).alloc o2) o3
  have n5 := heap_alloc_new (((((w.alloc o0).alloc o1).alloc o2).alloc o3).alloc (.map #[] 0)) o5
  simp only [World.size_alloc, Nat.add_assoc, Nat.reduceAdd] at n1 n2 n3 n5
  have up : ∀ (W : World) (o : Obj) {k : Nat} {v : Obj}, W.heap[k]? = some v → (W.alloc o).heap[k]? = some v := fun W o k v h => (Below.heap_alloc W o k (Array.getElem?_eq_some_iff.1 h).1).trans h
  exact ⟨_, rfl, by simp, ((((((Kept.refl [] w).alloc _).alloc _).alloc _).alloc _).alloc _).alloc _, up _ _ (up _ _ (up _ _ (up _ _ (up _ _ n0)))), up _ _ (up _ _ (up _ _ (up _ _ n1))), up _ _ (up _ _ (up _ _ n2)), up _ _ (up _ _ n3), hB, n5⟩

set_option maxRecDepth 100000 in
set_option maxHeartbeats 4000000 in
theorem treeInterval_in {k : Nat} (n : Nat) (hn : 3 ≤ n) (p g : Nat) (rs : List Rw) (z : Int) (w : World) (h : IsTree w p g rs) (hf : Fine k rs) (hk : k < 1000) (hz : Fit64 z) :
    CallsIn Fence.wide n Try.prog 13 #[.pointer (some ⟨p, 0, none⟩), .int .i64 z] w (IntervalPost rs z w) := by
  have h1 : 1 ≤ n := by omega
  have hmm := @run_makeMap Try.prog
  have hrl := hf.len
  have k3 : Kept [] w _ := ((((Kept.refl [] w).alloc (.cells #[.pointer (some ⟨p, 0, none⟩)] 24)).alloc (.cells #[.int .i64 z] 3)).alloc (.cells #[.int .i64 0, .int .i64 0] 38))
  have hT3 := h.kept k3
  refine callsIn_of_wp_marks Try.func13 rfl trivial ?_ rfl
  simp only [Try.ntmps13, List.size_toArray, List.length_cons, List.length_nil, Nat.reduceAdd, Nat.reduceSub, Array.replicate_succ, Array.replicate_zero, List.push_toArray, List.append_toArray, List.nil_append, List.cons_append]
  gi_wp2
  refine ⟨trivial, (callsIn_wide.2 (treeHas_any p g rs z _ hT3 hz)).mono ?_⟩
  rintro e w1 ⟨rfl, rfl⟩
  by_cases hzi : z ∈ idsT rs
  · have HI := Lib.hid hzi
    rw [decide_eq_true hzi]
    clear hzi
    gi_wp2
    simp only [Nat.add_assoc, Nat.reduceAdd]
    obtain ⟨W6, hW6, hz6, k6, r0, r1, r2, r3, hB6, r5⟩ := six_new w (.cells #[.pointer (some ⟨p, 0, none⟩)] 24) (.cells #[.int .i64 z] 3) (.cells #[.int .i64 0, .int .i64 0] 38) (.cells #[.int .i64 0, .int .i64 0] 38) (.cells #[.map (some (w.heap.size + 4))] 57)
    have hT6 := h.kept k6
    rw [hW6]
    refine ⟨trivial, (callsIn_wide.2 (treeWalk_any p g rs W6 hT6 hf.rise (by omega))).mono ?_⟩
    rintro e W0 ⟨K, b, rfl, rK, hkids, hz, k0⟩
    have hT0 := hT6.kept k0
    have kw0 : Kept [] w W0 := k6.trans k0
    have q0 := Row.kept (t := 24) (vs := [.pointer (some ⟨p, 0, none⟩)]) r0 k0 (by simp)
    have q1 := Row.kept (t := 3) (vs := [.int .i64 z]) r1 k0 (by simp)
    have q2 := Row.kept (t := 38) (vs := [.int .i64 0, .int .i64 0]) r2 k0 (by simp)
    have q3 := Row.kept (t := 38) (vs := [.int .i64 0, .int .i64 0]) r3 k0 (by simp)
    have q5 := Row.kept (t := 57) (vs := [.map (some (w.heap.size + 4))]) r5 k0 (by simp)
    have hB0 := hB6.kept k0 (by simp)
    have hlo := hkids.above
    have hhi := hkids.under
    rw [hz6] at hkids hlo
    have hwl := hf.walk_len hk
    obtain ⟨P, hP⟩ : ∃ P, w.heap.size = P := ⟨_, rfl⟩
    have hpg := h.lt
    rw [hP] at hkids hlo q0 q1 q2 q3 q5 hB0 hpg ⊢
    have hiv0 : ivB rs z [] = (0, 0, fun _ => false) := rfl
    clear r0 r1 r2 r3 r5 hB6 k6 k0 hT6 hW6 hz6
    gi_wp2
    refine wpIn_range_some 8 rfl h1 rfl trivial (enters_of Try.func27 (by kernel_rfl) rfl) (walk1_stops hf hk h.fit [P + 3, P + 4] K (P + 6) K b (n - 1) W0 (by simp <;> omega) (by simp <;> omega) (by simp <;> omega) rK hkids) KeptC.trans (KeptC.put (Nat.le_refl _))
      (fun pre W => Row W (P + 3) 38 [.int .i64 (ivB rs z (raw pre)).1, .int .i64 (ivB rs z (raw pre)).2.1] ∧ OwnB W (P + 4) pre.length (ivB rs z (raw pre)).2.2 ∧ Kept [P + 3, P + 4] W0 W)
      (fun c pre W => c = .exit 0 ∧ (∃ l x, (raw pre = l ++ [x] ∧ ¬ (x = z ∨ (ivB rs z l).2.2 (parB rs x) = true) ∧ (ivB rs z l).2.1 ≠ 0) ∧ Row W (P + 3) 38 [.int .i64 (ivB rs z l).1, .int .i64 (ivB rs z l).2.1]) ∧ Kept [P + 3, P + 4] W0 W)
      (OwnFrom.and (Own.from (own_row _) _) (OwnFrom.and (ownFrom_B _ _ (by omega)) (ownFrom_kept (Nat.le_refl _))))
      (fun c => ownFrom_ix (A := fun _ => c = .exit 0) (v := fun l => [.int .i64 (ivB rs z l).1, .int .i64 (ivB rs z l).2.1]) (fun pre l x => raw pre = l ++ [x] ∧ ¬ (x = z ∨ (ivB rs z l).2.2 (parB rs x) = true) ∧ (ivB rs z l).2.1 ≠ 0) (Nat.le_refl _)) ⟨q3, hB0, Kept.refl _ _⟩ ?assign ?body ?done ?stop
    case assign =>
      intro l x W K hK
      simp only [List.setIfInBounds_toArray, List.set_cons_succ, List.set_cons_zero] at hK ⊢
      gi_wp2
      exact hK
    case body =>
      rintro l pre ⟨x, hxf⟩ W ⟨hr, hb, hkk⟩ hlt
      have hle := ivB_le rs z (raw pre)
      have hrl2 : (raw pre).length = pre.length := by simp [raw]
      have hTW := hT0.keptS hkk (by simp; omega) (by simp; omega)
      have w0 := q0.kept hkk (by simp)
      have w1 := q1.kept hkk (by simp)
      have w5 := q5.kept hkk (by simp)
      have c0 : W.cell? ⟨P, 0, none⟩ = some (.pointer (some ⟨p, 0, none⟩)) := by rw [w0.cell 0]; rfl
      have c1 : W.cell? ⟨P + 1, 0, none⟩ = some (.int .i64 z) := by rw [w1.cell 0]; rfl
      have c5 : W.cell? ⟨P + 5, 0, none⟩ = some (.map (some (P + 4))) := by rw [w5.cell 0]; rfl
      have cp := hTW.cell
      have hlook := fun j => (hTW.drewN j).own.look hxf
      have hin := fun j => (hb.kept ((Kept.refl [] W).drewN j) (by simp)).look (parB_fit hTW.fit x)
      have hsn : ivB rs z (raw (pre ++ [⟨x, hxf⟩])) = ivStep rs z (ivB rs z (raw pre)) x := by rw [raw_append, raw_one, ivB_snoc]
      have hrn : raw (pre ++ [⟨x, hxf⟩]) = raw pre ++ [x] := by rw [raw_append, raw_one]
      have HS := Lib.hid hsn
      have HR := Lib.hid hrn
      have hkn := hf.len
      obtain ⟨l0, hl0⟩ : ∃ l0, raw pre = l0 := ⟨_, rfl⟩
      rw [hl0] at hr hb hle hrl2 hin HS HR
      have HL := Lib.hid hl0
      obtain ⟨st, hst⟩ : ∃ st, ivB rs z l0 = st := ⟨_, rfl⟩
      have HST := Lib.hid hst
      rw [hst] at hr hb hle hin HS
      obtain ⟨fr, m, f⟩ := st
      simp only at hr hb hle hin
      clear hsn hrn hl0 hst
      have hPs0 : P + 6 ≤ W0.heap.size := by omega
      clear hmm hkids rK q0 q1 q2 q3 q5 hlo hhi hB0 k3 hT3 kw0 hT0
      have hbD := hb.kept (Kept.refl [] W).drew (by simp)
      have hrD := hr.drew
      have kD : Kept [] W W.drew := (Kept.refl [] W).drew
      have hPs : P + 6 ≤ W0.heap.size := hPs0
      simp only [List.setIfInBounds_toArray, List.set_cons_succ, List.set_cons_zero]
      by_cases e : x = z
      · subst e
        gi_wp2
        refine wpIn_region_still_tail 12 (by kernel_rfl) (by kernel_rfl) (by kernel_rfl) ?_
        simp only [List.take_succ_cons, List.take_zero, List.drop_succ_cons, List.drop_zero]
        iterate 4 (with_reducible refine wpStill_want (by kernel_rfl) (fun K hK => ?_); go_simp; refine hK _ ?_; clear hK K)
        iterate 8 (with_reducible refine wpStill_skip (by kernel_rfl) ?_; go_frame)
        refine wpStill_nil ?_
        gi_wp2_with (gi_at_mapUpdate; refine wpListIn_mapUpdate_B _ rfl _ _ _ rfl (P + 4) pre.length f rfl hbD (by unfold maxLen; omega) x hxf true rfl rfl ?_; intro W2 hb2 hk2; have r2 := hrD.kept hk2 (by simp); have c31 : W2.cell? ⟨P + 3, 1, none⟩ = some (.int .i64 m) := (by rw [r2.cell 1]; rfl); have f31 := r2.free 1)
        have kS := (Kept.refl [P + 3] W2).set (p := ⟨P + 3, 1, none⟩) (.inl (by simp)) (.int .i64 ((m : Int) + 1))
        have kA1 : Kept [P + 4] W W2 := kD.chain hk2 (by simp) (by simp)
        have kA : Kept [P + 3, P + 4] W (W2.setCell ⟨P + 3, 1, none⟩ (.int .i64 ((m : Int) + 1))) := kA1.chain kS (by simp) (by simp)
        refine ⟨KeepsFrom.of_kept kA (by simp; omega), KeptC.of_kept kA, ?_, ?_, hkk.trans kA⟩
        · rw [HS.out, ivStep_in (.inl rfl)]
          simpa using r2.set 1 (.int .i64 ((m : Int) + 1))
        · rw [HS.out, ivStep_in (.inl rfl)]
          simpa using hb2.kept kS (by simp)
      · have e' : (x == z) = false := by simpa using e
        have HE := Lib.hid e
        have c0d : W.drew.cell? ⟨P, 0, none⟩ = some (.pointer (some ⟨p, 0, none⟩)) := c0
        have hlookd : (Instr.lookup 52 (.map (some g)) (.int .i64 x) false).run Try.prog W.drew = .ok (.int .i64 (parB rs x)) W.drew := (hTW.kept (Kept.refl [] W).drew).own.look hxf
        have hind := (hb.kept (Kept.refl [] W).drew (by simp)).look (parB_fit hTW.fit x)
        by_cases hfx : f (parB rs x) = true
        · have HF := Lib.hid hfx
          rw [hfx] at hind
          clear hfx
          gi_wp2
          refine wpIn_region_still_tail 12 (by kernel_rfl) (by kernel_rfl) (by kernel_rfl) ?_
          simp only [List.take_succ_cons, List.take_zero, List.drop_succ_cons, List.drop_zero]
          iterate 12 (with_reducible refine wpStill_want (by kernel_rfl) (fun K hK => ?_); go_simp; refine hK _ ?_; clear hK K)
          refine wpStill_nil ?_
          gi_wp2_with (gi_at_mapUpdate; refine wpListIn_mapUpdate_B _ rfl _ _ _ rfl (P + 4) pre.length f rfl hbD (by unfold maxLen; omega) x hxf true rfl rfl ?_; intro W2 hb2 hk2; have r2 := hrD.kept hk2 (by simp); have c31 : W2.cell? ⟨P + 3, 1, none⟩ = some (.int .i64 m) := (by rw [r2.cell 1]; rfl); have f31 := r2.free 1)
          have kS := (Kept.refl [P + 3] W2).set (p := ⟨P + 3, 1, none⟩) (.inl (by simp)) (.int .i64 ((m : Int) + 1))
          have kA1 : Kept [P + 4] W W2 := kD.chain hk2 (by simp) (by simp)
          have kA : Kept [P + 3, P + 4] W (W2.setCell ⟨P + 3, 1, none⟩ (.int .i64 ((m : Int) + 1))) := kA1.chain kS (by simp) (by simp)
          refine ⟨KeepsFrom.of_kept kA (by simp; omega), KeptC.of_kept kA, ?_, ?_, hkk.trans kA⟩
          · rw [HS.out, ivStep_in (.inr HF.out)]
            simpa using r2.set 1 (.int .i64 ((m : Int) + 1))
          · rw [HS.out, ivStep_in (.inr HF.out)]
            simpa using hb2.kept kS (by simp)
        · have hfx' : f (parB rs x) = false := by simpa using hfx
          have HF := Lib.hid (show ¬ (x = z ∨ f (parB rs x) = true) from fun h => h.elim e hfx)
          rw [hfx'] at hind
          clear hfx hfx'
          by_cases hm0 : m = 0
          · subst hm0
            have c31 : W.cell? ⟨P + 3, 1, none⟩ = some (.int .i64 0) := by rw [hr.cell 1]; rfl
            have c30 : W.cell? ⟨P + 3, 0, none⟩ = some (.int .i64 fr) := by rw [hr.cell 0]; rfl
            have f30 := hr.free 0
            gi_wp2
            refine wpIn_region_still_tail 12 (by kernel_rfl) (by kernel_rfl) (by kernel_rfl) ?_
            simp only [List.take_succ_cons, List.take_zero, List.drop_succ_cons, List.drop_zero]
            iterate 12 (with_reducible refine wpStill_want (by kernel_rfl) (fun K hK => ?_); go_simp; refine hK _ ?_; clear hK K)
            refine wpStill_nil ?_
            gi_wp2
            have kS := (Kept.refl [P + 3] W.drew).set (p := ⟨P + 3, 0, none⟩) (.inl (by simp)) (.int .i64 ((fr : Int) + 1))
            have kA1 : Kept [P + 3] W _ := kD.chain kS (by simp) (by simp)
            have kA : Kept [P + 3, P + 4] W (W.drew.setCell ⟨P + 3, 0, none⟩ (.int .i64 ((fr : Int) + 1))) := kA1.mono (by simp)
            refine ⟨KeepsFrom.of_kept kA (by simp; omega), KeptC.of_kept kA, ?_, ?_, hkk.trans kA⟩
            · rw [HS.out, ivStep_ahead HF.out rfl]
              have h' := hrD.set 0 (.int .i64 ((fr : Int) + 1))
              simp at h' ⊢; exact h'
            · rw [HS.out, ivStep_ahead HF.out rfl]
              have h' := (hbD.kept kS (by simp)).mono (Nat.le_succ _)
              simp; exact h'
          · have HM := Lib.hid hm0
            have c31 : W.cell? ⟨P + 3, 1, none⟩ = some (.int .i64 m) := by rw [hr.cell 1]; rfl
            have hm1 : ((m : Int) == 0) = false := by simp; exact hm0
            have hm2 : decide ((m : Int) = 0) = false := by simp; exact hm0
            clear hm0
            gi_wp2
            refine wpIn_region_still_tail 12 (by kernel_rfl) (by kernel_rfl) (by kernel_rfl) ?_
            simp only [List.take_succ_cons, List.take_zero, List.drop_succ_cons, List.drop_zero]
            iterate 12 (with_reducible refine wpStill_want (by kernel_rfl) (fun K hK => ?_); go_simp; refine hK _ ?_; clear hK K)
            refine wpStill_nil ?_
            gi_wp2
            exact ⟨KeepsFrom.of_kept kD (by simp), rfl, ⟨l0, x, ⟨HR.out, by rw [HST.out]; exact HF.out, by rw [HST.out]; exact HM.out⟩, by rw [HST.out]; exact hrD⟩, hkk.trans (kD.mono (by simp))⟩
    case done =>
      rintro D ys W hD hys ⟨hr, hb, hkk⟩ hK
      obtain ⟨hv1, hv2⟩ := hf.iv_all hk HI.out
      rw [hys, hv1, hv2] at hr
      clear hv1 hv2
      have cA : W.cell? ⟨P + 3, 0, none⟩ = some (.int .i64 (fromB rs z)) := by rw [hr.cell 0]; rfl
      have cB : W.cell? ⟨P + 3, 1, none⟩ = some (.int .i64 (manyB rs z)) := by rw [hr.cell 1]; rfl
      have rR := q2.kept hkk (by simp)
      have cC : W.cell? ⟨P + 2, 0, none⟩ = some (.int .i64 0) := by rw [rR.cell 0]; rfl
      have cD : W.cell? ⟨P + 2, 1, none⟩ = some (.int .i64 0) := by rw [rR.cell 1]; rfl
      have fC := rR.free 0
      have fD := rR.free 1
      have hPs : P + 6 ≤ W0.heap.size := by omega
      have hiw := HI.out
      gi_wp2
      have rR2 : Row _ (P + 2) 38 [.int .i64 (fromB rs z), .int .i64 (manyB rs z)] := (rR.set 0 (.int .i64 (fromB rs z))).set 1 (.int .i64 (manyB rs z))
      have kS : Kept [P + 2] W _ := ((Kept.refl [P + 2] W).set (p := ⟨P + 2, 0, none⟩) (.inl (by simp)) (.int .i64 (fromB rs z))).set (p := ⟨P + 2, 1, none⟩) (.inl (by simp)) (.int .i64 (manyB rs z))
      have hK2 := (kS.block D (Array.getElem?_eq_some_iff.1 hK).1 (by simp; omega)).trans hK
      refine ⟨by simp, .inl ⟨_, _, rfl, run_takeDeferred hK2, ?_⟩⟩
      have rR3 := rR2.putD hK2 (.deferred none)
      refine ⟨_, results_cell2 rfl rfl (Row.load rR3 Try.underlying38 rfl rfl), by rw [if_pos hiw]; rfl, ?_⟩
      have kW0 : Kept [P + 3, P + 4, P + 2] W0 _ := hkk.chain kS (by simp <;> omega) (by simp)
      have kW1 : Kept [P + 3, P + 4, P + 2, D] W0 _ := kW0.chain ((Kept.refl [D] _).put (r := D) (.inl (by simp)) (.deferred none)) (by simp <;> omega) (by simp)
      exact kw0.chain kW1 (by simp) (by simp; omega)
    case stop =>
      rintro D c pre W hD ⟨t, ht⟩ ⟨rfl, ⟨l, x, ⟨hp, hno, hne⟩, hr⟩, hkk⟩ hK
      obtain ⟨hv1, hv2⟩ := hf.iv_stop hk HI.out (l := l) (t := t) (x := x) (by rw [← ht, hp]; simp) hno hne
      rw [hv1, hv2] at hr
      clear hv1 hv2 hno hne
      have cA : W.cell? ⟨P + 3, 0, none⟩ = some (.int .i64 (fromB rs z)) := by rw [hr.cell 0]; rfl
      have cB : W.cell? ⟨P + 3, 1, none⟩ = some (.int .i64 (manyB rs z)) := by rw [hr.cell 1]; rfl
      have rR := q2.kept hkk (by simp)
      have cC : W.cell? ⟨P + 2, 0, none⟩ = some (.int .i64 0) := by rw [rR.cell 0]; rfl
      have cD : W.cell? ⟨P + 2, 1, none⟩ = some (.int .i64 0) := by rw [rR.cell 1]; rfl
      have fC := rR.free 0
      have fD := rR.free 1
      have hPs : P + 6 ≤ W0.heap.size := by omega
      have hiw := HI.out
      gi_wp2
      have rR2 : Row _ (P + 2) 38 [.int .i64 (fromB rs z), .int .i64 (manyB rs z)] := (rR.set 0 (.int .i64 (fromB rs z))).set 1 (.int .i64 (manyB rs z))
      have kS : Kept [P + 2] W _ := ((Kept.refl [P + 2] W).set (p := ⟨P + 2, 0, none⟩) (.inl (by simp)) (.int .i64 (fromB rs z))).set (p := ⟨P + 2, 1, none⟩) (.inl (by simp)) (.int .i64 (manyB rs z))
      have hK2 := (kS.block D (Array.getElem?_eq_some_iff.1 hK).1 (by simp; omega)).trans hK
      refine ⟨by simp, .inl ⟨_, _, rfl, run_takeDeferred hK2, ?_⟩⟩
      have rR3 := rR2.putD hK2 (.deferred none)
      refine ⟨_, results_cell2 rfl rfl (Row.load rR3 Try.underlying38 rfl rfl), by rw [if_pos hiw]; rfl, ?_⟩
      have kW0 : Kept [P + 3, P + 4, P + 2] W0 _ := hkk.chain kS (by simp <;> omega) (by simp)
      have kW1 : Kept [P + 3, P + 4, P + 2, D] W0 _ := kW0.chain ((Kept.refl [D] _).put (r := D) (.inl (by simp)) (.deferred none)) (by simp <;> omega) (by simp)
      exact kw0.chain kW1 (by simp) (by simp; omega)
  · have HI := Lib.hid hzi
    rw [decide_eq_false hzi]
    clear hzi
    have rR := Row.new ((w.alloc (.cells #[.pointer (some ⟨p, 0, none⟩)] 24)).alloc (.cells #[.int .i64 z] 3)) 38 [.int .i64 0, .int .i64 0]
    have hsz : ((w.alloc (.cells #[.pointer (some ⟨p, 0, none⟩)] 24)).alloc (.cells #[.int .i64 z] 3)).heap.size = w.heap.size + 1 + 1 := by simp
    rw [hsz] at rR
    gi_wp2
    exact ⟨_, results_cell2 rfl rfl (Row.load rR Try.underlying38 rfl rfl), by rw [if_neg HI.out]; rfl, k3⟩

theorem treeInterval_any {k : Nat} (p g : Nat) (rs : List Rw) (z : Int) (w : World) (h : IsTree w p g rs) (hf : Fine k rs) (hk : k < 1000) (hz : Fit64 z) :
    Calls Try.prog 13 #[.pointer (some ⟨p, 0, none⟩), .int .i64 z] w (IntervalPost rs z w) := (callsIn_wide (n := 3)).1 (treeInterval_in 3 (by omega) p g rs z w h hf hk hz)
end Go.Proofs.Ytnooamkbejbalaa
