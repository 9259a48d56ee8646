/- Package tree: allKids: a map of slices, each sorted. -/
import Derived.Test.YtnhdikoigpmnkaaDoorTreeKids
namespace Go.Proofs.YtnhdikoigpmnkaaDoor
open Go.RowKit Go.Maps Go.Sort

/-- A map's element, read as it stands. -/
def rawV (v : Value) : Option (DataW Value × List MemPlace) := some (.held v, [])
theorem rawV_inv {v : Value} {y : DataW Value × List MemPlace} (h : rawV v = some y) : y = (.held v, []) := (Option.some.inj h).symm
abbrev nilV : Value := .slice none 0 0
theorem zero_ints (w : World) : (zeroValue 34).run Tryd.prog w = .ok nilV w := by kernel_rfl
/-- Block b is a map of at most n keys whose element at z is hd z. -/
def OwnV (w : World) (b n : Nat) (hd : Int → Value) : Prop :=
  ∃ D : DataW Value, w.ownsMap Tryd.prog 3 rawV b n D ∧ IsMap D ∧ ∀ z, D.atKey (.int .i64 z) (.held nilV) = .held (hd z)
theorem OwnV.made (w : World) : OwnV (w.alloc (.map #[] 0)) w.heap.size 0 (fun _ => nilV) :=
  ⟨.map [], World.ownsMap_made w _ _ _, isMap_empty, fun _ => rfl⟩
section
variable {w w' : World} {b n : Nat} {hd : Int → Value}
theorem OwnV.lt (h : OwnV w b n hd) : b < w.heap.size := let ⟨_, h, _⟩ := h; h.lt
theorem OwnV.same (h : OwnV w b n hd) (hk : w'.heap[b]? = w.heap[b]?) : OwnV w' b n hd := by
  obtain ⟨D, ⟨es, clock, hb, h1⟩, h2⟩ := h
  exact ⟨D, ⟨es, clock, hk.trans hb, h1⟩, h2⟩
theorem OwnV.kept {S : List Nat} (h : OwnV w b n hd) (hk : Kept S w w') (hn : b ∉ S) : OwnV w' b n hd := h.same (hk.block b h.lt hn)
theorem OwnV.mono {m : Nat} (h : OwnV w b n hd) (hm : n ≤ m) : OwnV w b m hd :=
  let ⟨D, h1, h2⟩ := h
  ⟨D, h1.mono hm, h2⟩
/-- 'm[k]'. -/
theorem OwnV.look (h : OwnV w b n hd) {z : Int} (hz : Fit64 z) : (Instr.lookup 76 (.map (some b)) (.int .i64 z) false).run Tryd.prog w = .ok (hd z) w := by
  obtain ⟨D, hD, hM, hat⟩ := h
  obtain ⟨v, ps, hrun, hv⟩ := hD.lookup keyed_int Tryd.underlying76 (zero_ints w) (R := rawV) rfl (keyOf_int_mk Tryd.underlying3 hz.wf)
  have hv := rawV_inv hv
  rw [hat z] at hv
  simp only [Prod.mk.injEq, DataW.held.injEq] at hv
  rw [hrun, hv.1]
end
/-- 'm[k] = v'. -/
theorem wpList_mapUpdate_V (w : World) {ops : Array Oper} {rest : List Oper} {o : Oper} {a : Act} {Q : Exit → Act → World → Prop}
    (hg : o.guard = none) (m x v : Operand) (hop : o.op = Op.mapUpdate 76 m x v) (b n : Nat) (hd : Int → Value)
    (hm : a.eval m = .map (some b)) (hown : OwnV w b n hd) (hn : n < maxLen) (z : Int) (hz : Fit64 z) (u : Value) (hx : a.eval x = .int .i64 z) (hv : a.eval v = u)
    (hK : ∀ w', OwnV w' b (n + 1) (fun y => if y = z then u else hd y) → Kept [b] w w' → wpList Tryd.prog ops Q rest (a.put o.dst undef) w') :
    wpList Tryd.prog ops Q (o :: rest) a w := by
  obtain ⟨D, hD, hM, hat⟩ := hown
  refine wpList_mapUpdate_own w hg m x v _ hop 3 34 keyed_int Tryd.underlying76 rawV b n D hm hD hn _ _ (.int .i64 z) hx hv (keyOf_int_mk Tryd.underlying3 hz.wf) (.held u) [] rfl ?_
  intro w' h1 h2
  refine hK w' ⟨_, h1, hM.put _ _, fun y => ?_⟩ (Kept.of_grown h2)
  show _ = DataW.held (if y = z then u else hd y)
  by_cases e : y = z
  · subst e
    rw [if_pos rfl]
    exact atKey_put_same (k := .int .i64 y) hM trivial _ _
  · rw [if_neg e, atKey_put_other (by simpa using e)]
    exact hat y

/-- The element at z is a slice, within the blocks from lo to hi, that reads as the kids of z. -/
structure IsKids (w : World) (lo hi b : Nat) (rs : List Rw) : Prop where
  map : ∃ n hd, OwnV w b n hd ∧ ∀ z, ∃ a c, hd z = .slice a (kidsB rs z).length c ∧ (kidsB rs z = [] ∨ ∃ gg, a = some ⟨gg, 0, none⟩ ∧ lo ≤ gg ∧ gg < hi ∧ ∀ j, j < (kidsB rs z).length → w.cell? ⟨gg, j, none⟩ = some (.int .i64 ((kidsB rs z)[j]?.getD 0)))
  above : lo ≤ b
  under : b < hi
  size : hi ≤ w.heap.size
theorem IsKids.same {w w' : World} {lo hi b : Nat} {rs : List Rw} (h : IsKids w lo hi b rs) (hs : w.heap.size ≤ w'.heap.size) (hk : ∀ k, lo ≤ k → k < hi → w'.heap[k]? = w.heap[k]?) : IsKids w' lo hi b rs := by
  obtain ⟨⟨n, hd, hV, hz⟩, h1, h2, h3⟩ := h
  refine ⟨⟨n, hd, hV.same (hk b h1 h2), fun z => ?_⟩, h1, h2, by omega⟩
  obtain ⟨a, c, e, h⟩ := hz z
  refine ⟨a, c, e, h.imp id ?_⟩
  rintro ⟨gg, ha, hlo, hhi, hc⟩
  exact ⟨gg, ha, hlo, hhi, fun j hj => (World.cell?_of_block (w := w) (a := ⟨gg, j, none⟩) (hk gg hlo hhi)).trans (hc j hj)⟩

/-- What allKids leaves. -/
def AllKidsPost (rs : List Rw) (w : World) (e : Ending) (w' : World) : Prop :=
  ∃ b, e = .returned (.map (some b)) ∧ IsKids w' w.heap.size w'.heap.size b rs ∧ Kept [] w w'

theorem fit_wf {z : Int} (h : (Lit.int .i64 z).wf = true) : Fit64 z := by
  simpa [Lit.wf, IntKind.min, IntKind.max, IntKind.signed, IntKind.bits, Fit64] using h
theorem upd_self {β : Type} (f : Int → β) (z : Int) (u : β) : (fun y => if y = z then u else f y) z = u := by simp

set_option maxRecDepth 100000 in
set_option maxHeartbeats 4000000 in
theorem treeAllKids_any (p g : Nat) (rs : List Rw) (w : World) (h : IsTree w p g rs) (hr : rs.Pairwise (fun a b => a.1 < b.1)) (hn : rs.length < 1099511627776) :
    Calls Tryd.prog 38 #[.pointer (some ⟨p, 0, none⟩)] w (AllKidsPost rs w) := by
  obtain ⟨i0, hi, hz0, hz1, hz2⟩ := info_parts info_tint
  have hmm := @run_makeMap Tryd.prog
  have hTA := h.kept ((Kept.refl [] w).alloc (.map #[] 0))
  have hc := hTA.cell
  have hsz := Lib.hid (size_setT rs)
  go_enter Tryd.func38, Tryd.ntmps38
  go_wp2_with (first
    | (at_range; refine wpList_range_own _ rfl _ 61 rfl 3 3 keyed_int Tryd.underlying61 _ g rs.length (setT rs) rfl hTA.own ?_; intro w0 hrg0 hg0 hs0)
    | go_in)
  go_frame
  have k0 : Kept [] w w0 := ((Kept.refl [] w).alloc _).trans (Kept.of_grown0 hg0)
  have hV0 := (OwnV.made w).kept (Kept.of_grown0 hg0) (by simp)
  have hrl := hrg0.lt
  have hgl := h.lt
  obtain ⟨B, hB⟩ : ∃ B, w.heap.size = B := ⟨_, rfl⟩
  have HB := Lib.hid hB
  have hsA : (w.alloc (.map #[] 0)).heap.size = B + 1 := by simp [hB]
  rw [hsA] at hrg0 hrl ⊢
  rw [hB] at hV0 ⊢
  clear hg0 hs0 hB hTA hc hsA
  go_loopw [23] (fun _ wr => ∃ (left : Lit → Bool) (cnt : Nat) (ss : List Rw) (hd : Int → Value), wr.ranges Tryd.prog 3 (plainElem Tryd.prog 3) g (B + 1) rs.length (setT rs) left cnt ∧ ss.length + cnt ≤ rs.length ∧
      OwnV wr B ss.length hd ∧ (∀ z, OwnK wr (B + 2) (hd z) (kidO z ss)) ∧ (∀ y z, y ≠ z → (hd y).ownBlock = none ∨ (hd y).ownBlock ≠ (hd z).ownBlock) ∧ CollT rs left ss ∧ Kept [] w wr ∧ B + 2 ≤ wr.heap.size)
    (fun _ wr => wr.rangeLeft g (B + 1))
  case atStart => exact ⟨_, _, [], fun _ => nilV, hrg0, by simp [hsz.out], hV0, fun _ => .inl ⟨rfl, rfl⟩, fun _ _ _ => .inl rfl, CollT.start rs, k0, hrl⟩
  case round =>
    obtain ⟨left, cnt, ss, hd, hrg, hcs, hV, hrows, hap, hC, hkr, hBs⟩ := hrel
    clear hrg0 k0 hrl hV0
    go_wp2_with (first
      | (at_next; refine wpList_next_ranges_ii _ rfl _ rfl 3 3 .i64 .i64 keyed_int Tryd.underlying3 Tryd.underlying3 g (B + 1) rs.length _ _ _ rfl hrg ?_ ?_)
      | go_in)
    · intro hc0 hl0
      have hP := hC.perm hr hl0
      have hBe := HB.out
      obtain ⟨D, hD, hM, hat⟩ := hV
      have HN := Lib.hid hn
      clear hc0 hl0 hrg hcs hC
      go_wp2_with (first
        | (at_range; refine wpList_range_own _ rfl _ 76 rfl 3 34 keyed_int Tryd.underlying76 rawV B ss.length D rfl hD ?_; intro w0 hrg0 hg0 hs0)
        | go_in)
      go_frame
      have k0 := Kept.of_grown0 hg0
      have hrl := hrg0.lt
      have hrows0 : ∀ z, OwnK w0 (B + 2) (hd z) (kidO z ss) := fun z => (hrows z).kept k0 (by simp)
      have hlow : ∀ z j, (hd z).ownBlock = some j → B + 2 ≤ j ∧ j < wr.heap.size := fun z j hj => (hrows z).row.lt j hj
      have hkr0 : Kept [] w w0 := hkr.trans k0
      clear hg0 k0 hrows hkr hD
      obtain ⟨R, hR⟩ : ∃ R, wr.heap.size = R := ⟨_, rfl⟩
      rw [hR] at hrg0 hs0 hrl hBs hlow ⊢
      clear hR
      go_loopw [32] (fun _ wq => ∃ (left : Lit → Bool) (cnt : Nat) (ys : Int → List Int), wq.ranges Tryd.prog 3 rawV B R ss.length D left cnt ∧
          (∀ z, OwnK wq (B + 2) (hd z) (ys z)) ∧ (∀ z, (ys z).Perm (kidsB rs z)) ∧ (∀ z, left (.int .i64 z) = false → ys z = kidsB rs z) ∧ Kept [] w wq)
        (fun _ wq => wq.rangeLeft B R)
      case atStart =>
        refine ⟨_, _, fun z => kidO z ss, hrg0, hrows0, fun z => kidO_perm hP, fun z hz => ?_, hkr0⟩
        have := atKey_of_not_has hz (.held nilV)
        rw [hat z] at this
        simp only [DataW.held.injEq] at this
        have he : kidO z ss = [] := by
          rcases hrows0 z with ⟨_, h⟩ | ⟨_, _, h, _⟩
          · exact h
          · rw [this] at h; cases h
        have := kidO_perm (z := z) hP
        show kidO z ss = kidsB rs z
        rw [he] at this ⊢
        exact this.nil_eq
      case round =>
        obtain ⟨left, cnt, ys, hrg, hrows, hperm, hdone, hkq⟩ := hrel
        clear hrg0 hkr0 hrl hrows0
        go_wp2_with (first
          | (at_next; refine wpList_next_ranges _ rfl _ rfl 3 keyed_int rawV (Value.int .i64) (fun v : Value => v) (fun key kl hk => by obtain ⟨x, hx, _⟩ := Maps.keyOf_int_inv Tryd.underlying3 hk; exact ⟨x, hx⟩) (fun v y hv => ⟨v, rfl⟩) B R ss.length _ _ _ rfl hrg ?_ ?_)
          | go_in)
        · intro hc0 hl0
          have hs := hrg.owns
          clear hc0
          go_wp2_with fail
          go_ret
          refine ⟨B, rfl, ⟨⟨_, hd, ⟨D, hs, hM, hat⟩, fun z => ?_⟩, by omega, hs.lt, Nat.le_refl _⟩, hkq⟩
          have hd0 := hdone z (hl0 _)
          rcases hrows z with ⟨hv, he⟩ | ⟨gA, cp, hv, ho⟩
          · exact ⟨none, 0, by rw [hv, ← hd0, he]; rfl, .inl (by rw [← hd0, he])⟩
          · refine ⟨some ⟨gA, 0, none⟩, cp, by rw [hv, hd0], .inr ⟨gA, rfl, ?_, ?_, fun j hj => ?_⟩⟩
            · have := (hlow z gA (by rw [hv]; rfl)).1; omega
            · rw [hv] at ho; exact own_lt ho
            · rw [hv] at ho
              rw [← hd0] at hj ⊢
              rw [ho.cellAt j (by omega)]; simp [hj]
        · intro x v kl yd yp w2 cnt2 hkey hlk hv hatx hrg2 hlt hg2 hs2 hen
          obtain ⟨x', ex, rfl, _⟩ := Maps.keyOf_int_inv Tryd.underlying3 hkey
          cases ex
          have hyd := rawV_inv hv
          simp only [Prod.mk.injEq] at hyd
          obtain ⟨rfl, rfl⟩ := hyd
          have hvx := (hat x).symm.trans (hatx (.held nilV))
          simp only [DataW.held.injEq] at hvx
          subst hvx
          have kw2 := Kept.of_grown hg2
          have hrows2 : ∀ z, OwnK w2 (B + 2) (hd z) (ys z) := fun z => (hrows z).kept kw2 (fun j hj => by
            have := (hlow z j hj).2
            simp; omega)
          have hk2 : Kept [] w w2 := hkq.chain kw2 (by simp) (by simp; omega)
          clear hs2 hkey hv hatx
          rcases hrows2 x with ⟨hnil, he⟩ | ⟨gA, cp, hvg, ho⟩
          · have hpe := hperm x
            rw [he] at hpe
            have hke := hpe.nil_eq.symm
            rw [hnil] at hen ⊢
            go_wp2_with fail
            refine (sortNil_any w2).mono ?_
            rintro e w3 ⟨rfl, rfl⟩
            go_wp2_with fail
            go_roundw
            case rel =>
              refine ⟨_, cnt2, ys, hrg2, hrows2, hperm, fun z hz => ?_, hk2⟩
              by_cases e : z = x
              · subst e; rw [he, hke]
              · exact hdone z (by simpa [sameKey_int, e] using hz)
            case measure => rw [hrg2.left_eq, hrg.left_eq]; exact hlt
          · have hlx := hlow x gA (by rw [hvg]; rfl)
            have hpl := (hperm x).length_eq
            have hkl := kids_len rs x
            have HNo := HN.out
            rw [hvg] at hen ho ⊢
            have hlen := Lib.hid (show (ys x).length < 1099511627776 by omega)
            have HPL := Lib.hid hpl
            clear hpl hkl HNo
            go_wp2_with fail
            refine (sortOwn_any (B + 2) gA cp (ys x) (kidsB rs x) w2 ho (sorted_of_perm (hperm x) (kids_rise hr x)) hlen.out).mono ?_
            rintro e w3 ⟨rfl, hrow3, hk3⟩
            have hrg3 := hrg2.kept (Kept.grown hk3) (by simp; omega) (by simp; omega)
            go_wp2_with fail
            go_roundw
            case rel =>
              refine ⟨_, cnt2, fun y => if y = x then kidsB rs x else ys y, hrg3, fun y => ?_, fun y => ?_, fun z hz => ?_, ?_⟩
              · by_cases e : y = x
                · subst e
                  simp only [if_pos]
                  rw [hvg, HPL.out]
                  exact .inr ⟨gA, cp, rfl, hrow3⟩
                · simp only [if_neg e]
                  refine (hrows2 y).kept hk3 (fun j hj => ?_)
                  rcases hap y x e with h | h
                  · rw [h] at hj; cases hj
                  · rw [hj, hvg] at h; simpa [Value.ownBlock] using h
              · by_cases e : y = x
                · subst e; simp
                · simp only [if_neg e]; exact hperm y
              · by_cases e : z = x
                · subst e; simp
                · simp only [if_neg e]; exact hdone z (by simpa [sameKey_int, e] using hz)
              · exact hk2.chain hk3 (by simp) (by simp; omega)
            case measure => rw [hrg3.left_eq, hrg.left_eq]; exact hlt
    · intro x c w2 cnt2 hwx hwc hlk hat hrg2 hlt hg2 hs2 hen
      have hm := entry_mem hr hat
      have hC2 := hC.step hr hlk hm
      have kw2 := Kept.of_grown hg2
      have hBe := HB.out
      have hfc : Fit64 c := fit_wf hwc
      have hkr2 : Kept [] w w2 := hkr.chain kw2 (by simp) (by simp; omega)
      have hrows2 : ∀ z, OwnK w2 (B + 2) (hd z) (kidO z ss) := fun z => (hrows z).kept kw2 (fun j hj => by
        have := ((hrows z).row.lt j hj).1
        simp; omega)
      have hV2 := hV.kept kw2 (by simp)
      have hlook := hV2.look hfc
      have hB2 : B + 2 ≤ w2.heap.size := by omega
      have hrowA := (hrows2 c).row.alloc (.cells #[.int .i64 x] 3)
      have hVA := hV2.kept ((Kept.refl [] w2).alloc (.cells #[.int .i64 x] 3)) (by simp)
      have hl2 := kidO_len c ss
      clear hs2 hwx hwc hlk hat hV hrows
      go_wp2_with (first
        | (at_builtin; refine wpList_append_own_at _ rfl _ _ 34 rfl (B + 2) 3 i0 (.int .i64 0) 1 8 Tryd.underlying34 hi hz0 hz1 hz2 rfl (by decide) _ _ _ rfl hrowA ⟨w2.heap.size, 0, none⟩ 1 1 [.int .i64 x] rfl rfl (cell_one_new _ _ _) (by simp [Value.oneCell']) (by unfold maxLen; omega) (by omega) (by simp; omega) ?_; intro v' w3 hown3 hg3 hnil3 hat3; have hk3 := Kept.of_own hg3; have hV3 := hVA.kept hk3 (fun hi => by rw [Option.mem_toList] at hi; have := ((hrows2 c).row.lt _ hi).1; omega))
        | (at_mapUpdate; refine wpList_mapUpdate_V _ rfl _ _ _ rfl B ss.length hd rfl hV3 (by unfold maxLen; omega) c hfc v' rfl rfl ?_; intro w4 hV4 hk4; go_frame)
        | go_in)
      have hvb := fun (j : Nat) (hj : _ = some j) => (hrows2 c).row.lt j hj
      have hA : (w2.alloc (.cells #[.int .i64 x] 3)).heap.size = w2.heap.size + 1 := by simp
      have hrg4 := (((hrg2.alloc (.cells #[.int .i64 x] 3)).kept hg3 (fun e => by have := (hvb g e.symm).1; omega) (fun e => by have := (hvb (B + 1) e.symm).1; omega)).kept (Kept.grown hk4) (by simp; omega) (by simp))
      have hloc : ∀ j, v'.ownBlock = some j → (hd c).ownBlock = some j ∨ w2.heap.size < j := fun j hj => by
        rcases hat3 with h | h
        · exact .inl (h ▸ hj)
        · rw [hj] at h; simp at h; exact .inr (by omega)
      go_roundw
      case rel =>
        refine ⟨_, cnt2, ss ++ [(x, c)], fun y => if y = c then v' else hd y, hrg4, by simp; omega, by simpa using hV4, fun z => ?_, fun y z hyz => ?_, hC2, ?_, ?_⟩
        · by_cases e : z = c
          · subst e
            simp only [if_pos]
            rw [kidO_snoc, if_pos rfl]
            refine (OwnK.of_row (by simpa using hown3)).kept hk4 (fun j hj => ?_)
            rcases hloc j hj with h | h
            · have := (hvb j h).1; simp; omega
            · simp; omega
          · simp only [if_neg e]
            rw [kidO_snoc, if_neg (fun e' => e e'.symm)]
            refine (((hrows2 z).kept ((Kept.refl [] w2).alloc (.cells #[.int .i64 x] 3)) (by simp)).kept hk3 (fun j hj hi => ?_)).kept hk4 (fun j hj => ?_)
            · rw [Option.mem_toList] at hi
              rcases hap z c e with h | h
              · rw [h] at hj; cases hj
              · exact h (hj.trans hi.symm)
            · have := ((hrows2 z).row.lt j hj).1; simp; omega
        · have hold : ∀ y, y ≠ c → (hd y).ownBlock = none ∨ (hd y).ownBlock ≠ v'.ownBlock := fun y hy => by
            cases hj : (hd y).ownBlock with
            | none => exact .inl rfl
            | some j =>
              refine .inr (fun e => ?_)
              rcases hloc j e.symm with h | h
              · rcases hap y c hy with h' | h'
                · rw [h'] at hj; cases hj
                · exact h' (hj.trans h.symm)
              · have := ((hrows2 y).row.lt j hj).2; omega
          by_cases e : y = c
          · by_cases e2 : z = c
            · exact absurd (e.trans e2.symm) hyz
            · simp only [if_pos e, if_neg e2]
              rcases hold z e2 with h | h
              · cases hv : v'.ownBlock with
                | none => exact .inl rfl
                | some j => rw [h]; exact .inr (by simp)
              · exact .inr (fun e' => h e'.symm)
          · by_cases e2 : z = c
            · simp only [if_neg e, if_pos e2]; exact hold y e
            · simp only [if_neg e, if_neg e2]; exact hap y z hyz
        · have hkA : Kept [] w (w2.alloc (.cells #[.int .i64 x] 3)) := hkr2.alloc _
          have hkB : Kept [] w w3 := hkA.chain hk3 (by simp) (fun i hi hlt => by
            rw [Option.mem_toList] at hi
            have := (hvb i hi).1; omega)
          exact hkB.chain hk4 (by simp) (by simp; omega)
        · have := hk3.size; have := hk4.size; omega
      case measure => rw [hrg4.left_eq, hrg.left_eq]; exact hlt
end Go.Proofs.YtnhdikoigpmnkaaDoor
