/- The law SweepScalars: its walk. -/
import Derived.Test.YtionleocbjfgaaaDoorSweepFixed
import Derived.Test.YtionleocbjfgaaaDoorSweepMissing
import Derived.Test.YtionleocbjfgaaaDoorSweepMissingLaw
import Derived.Test.YtionleocbjfgaaaDoorRegionPick
import Derived.Test.YtionleocbjfgaaaDoorAppend
namespace Go.Proofs.YtionleocbjfgaaaDoor
open Go.RowKit

theorem info_word18 : (Tryd.prog.info? 36).map (fun i => (i.zero, i.size, i.bytes)) = some (some (.int .u64 0), 1, 8) := by kernel_rfl
/-- With other words in the scalars among the first m fields. -/
def othM (ks vs : List Int) (by_ : Int) (m : Nat) : List Int := (othL ks vs by_).take m ++ vs.drop m
theorem othM_zero (ks vs : List Int) (by_ : Int) : othM ks vs by_ 0 = vs := by simp [othM]
theorem othM_all (ks vs : List Int) (by_ : Int) : othM ks vs by_ vs.length = othL ks vs by_ := by
  unfold othM
  rw [List.drop_length, List.append_nil, List.take_of_length_le (by rw [othL_length]; omega)]
theorem othM_length {ks vs : List Int} {by_ : Int} {m : Nat} (h : m ≤ vs.length) : (othM ks vs by_ m).length = vs.length := by
  unfold othM
  rw [List.length_append, List.length_take, List.length_drop, othL_length]; omega
theorem othM_at {ks vs : List Int} {by_ : Int} {m : Nat} (h : m < vs.length) : (othM ks vs by_ m)[m]? = some vs[m] := by
  unfold othM
  rw [List.getElem?_append_right (by rw [List.length_take]; omega), List.length_take, othL_length, Nat.min_eq_left (by omega), Nat.sub_self, List.getElem?_drop, Nat.add_zero, List.getElem?_eq_getElem h]
theorem othM_set {ks vs : List Int} {by_ : Int} {m : Nat} (h : m < vs.length) : othM ks vs by_ (m + 1) = (othM ks vs by_ m).set m (othV ks by_ m vs[m]) := by
  unfold othM
  have hl : ((othL ks vs by_).take m).length = m := by rw [List.length_take, othL_length]; omega
  rw [List.set_append_right _ _ (by omega), hl, Nat.sub_self, List.drop_eq_getElem_cons h, List.set_cons_zero, List.take_succ_eq_append_getElem (by rw [othL_length]; exact h)]
  simp [othL]
theorem othM_same {ks vs : List Int} {by_ : Int} {m : Nat} (h : m < vs.length) (he : othV ks by_ m vs[m] = vs[m]) : othM ks vs by_ (m + 1) = othM ks vs by_ m := by
  rw [othM_set h, he]
  have := othM_at (ks := ks) (by_ := by_) h
  obtain ⟨hlt, hx⟩ := List.getElem?_eq_some_iff.1 this
  rw [← hx, List.set_getElem_self]
theorem othL_fit {ks vs : List Int} {by_ : Int} (h : ∀ v ∈ vs, FitU v) : ∀ v ∈ othL ks vs by_, FitU v := by
  intro v hv
  unfold othL at hv
  obtain ⟨i, hi, rfl⟩ := List.mem_mapIdx.1 hv
  unfold othV
  split
  · unfold FitU; rw [IntKind.wrap_u64]; omega
  · exact h _ (List.getElem_mem hi)

set_option maxRecDepth 100000 in
set_option maxHeartbeats 2000000 in
theorem sweepScalars_great (a R : Option Addr) (cap rc : Nat) (qs : List ObQ) (rl : Nat) (by_ : Int) (w : World) (hs : SlO w a qs) (hT : Tab w) (hl : qs.length ≤ maxLen) (hr : rl ≤ maxLen) (hg : greatQ qs = true ∨ 60 < rl) :
    Calls Tryd.prog 4 #[.slice a qs.length cap, .slice R rl rc, .int .u64 by_] w (FixedPost w) := by
  unfold maxLen at hr
  have HG := Lib.hid (great18_any a cap qs w hs hl)
  have HF := Lib.hid (fun W (hk : Kept [] w W) => fixed18_any W (hT.kept hk))
  cases hgq : greatQ qs with
  | true =>
    rw [hgq] at HG
    clear hg hgq
    go_enter Tryd.func4, Tryd.ntmps4
    go_wp2_with fail
    refine HG.out.mono ?_
    rintro e w1 ⟨rfl, k1⟩
    go_wp2_with fail
    refine (HF.out w1 k1).mono ?_
    rintro e w2 ⟨rfl, k2⟩
    go_wp2
    go_ret
    exact ⟨rfl, k1.trans k2⟩
  | false =>
    have h60 : decide ((60 : Int) < (rl : Int)) = true := by
      rcases hg with h | h
      · rw [h] at hgq; cases hgq
      · simp; omega
    rw [hgq] at HG
    clear hg hgq
    go_enter Tryd.func4, Tryd.ntmps4
    go_wp2_with fail
    refine HG.out.mono ?_
    rintro e w1 ⟨rfl, k1⟩
    go_wp2_with fail
    refine (HF.out w1 k1).mono ?_
    rintro e w2 ⟨rfl, k2⟩
    go_wp2
    go_ret
    exact ⟨rfl, k1.trans k2⟩

theorem SlX.old {w W : World} {k : IntKind} {X : Nat → Prop} {a : Option Addr} {zs : List Int} (h : SlX w k X a zs) (ho : OldB w W) : SlX W k X a zs := by
  rcases h with h | ⟨b, off, rfl, hb, hx, hc⟩
  · exact .inl h
  · exact .inr ⟨b, off, rfl, ho.lt hb, hx, fun j hj => (ho.cell hb).trans (hc j hj)⟩
/-- Objects with other words in their scalars, in a slice of the call's own; their words lie apart from it. -/
def OthI (B : Nat) (by_ : Int) (l : List ObP) (v : Value) (os : List ObQ) (w : World) : Prop :=
  OwnS 30 ObQ.cells 8 w B v os ∧ objs os = l.map (othO by_) ∧ ∀ q ∈ os, SlX w .i64 (fun b => v.ownBlock ≠ some b) q.ka q.o.ks ∧ SlX w .u64 (fun b => v.ownBlock ≠ some b) q.va q.o.vs
theorem oth_fit {by_ : Int} {l : List ObP} (h : ∀ o ∈ l, o.Fit) : ∀ o ∈ l.map (othO by_), o.Fit := by
  intro o ho
  obtain ⟨x, hx, rfl⟩ := List.mem_map.1 ho
  have := h x hx
  exact ⟨this.at_, this.reg, this.ks, othL_fit this.vs, this.kl, by show (othL x.ks x.vs by_).length ≤ _; rw [othL_length]; exact this.vl⟩

set_option maxRecDepth 100000 in
set_option maxHeartbeats 8000000 in
theorem sweepScalars_law (a : Option Addr) (cap : Nat) (qs : List ObQ) (R : Option Addr) (rc : Nat) (roots : List Int) (by_ : Int) (w : World) (hfit : ∀ q ∈ qs, q.o.Fit) (hrf : ∀ v ∈ roots, FitU v) (hs : SlO w a qs) (hsr : Sl w .u64 R roots) (hT : Tab w) (hg : greatQ qs = false) (hrl : roots.length ≤ 60) :
    Calls Tryd.prog 4 #[.slice a qs.length cap, .slice R roots.length rc, .int .u64 by_] w (FixedPost w) := by
  obtain ⟨hl, hkv⟩ := greatQ_no hg
  obtain ⟨i0, hi, hz0, hz1, hz2⟩ := info_parts info_object18
  obtain ⟨iu, hiu, hu0, hu1, hu2⟩ := info_parts info_word18
  have h60 : decide ((60 : Int) < (roots.length : Int)) = false := by simp; omega
  have HG := Lib.hid (great18_any a cap qs w hs (by unfold maxLen; omega))
  rw [hg] at HG
  have HF := Lib.hid (fun W (hk : Kept [] w W) => fixed18_any W (hT.kept hk))
  go_enter Tryd.func4, Tryd.ntmps4
  go_wp2_with fail
  refine HG.out.mono ?_
  rintro e w1 ⟨rfl, k1⟩
  have own1 : OthI w1.heap.size by_ [] (.slice none 0 0) [] w1 := ⟨OwnS.nil, rfl, by simp⟩
  clear hg
  go_wp2_with fail
  go_loopw [23, 7] (fun i v wr => ∃ (j : Nat) (os : List ObQ), j ≤ qs.length ∧ i = .int .i64 j ∧ OthI w1.heap.size by_ (objs (qs.take j)) v os wr ∧ Kept [] w1 wr) (fun i _ _ => qs.length - (intOf i).toNat)
  case atStart => exact ⟨0, [], Nat.zero_le _, rfl, own1, Kept.refl _ _⟩
  case round =>
    obtain ⟨j, os, hj, rfl, hoth, hkr⟩ := hrel
    clear own1
    have hk := k1.trans hkr
    by_cases hlt : j < qs.length
    · obtain ⟨b, off, rfl, _, c0, c1, c2, c3, c4, c5, c6, c7⟩ := (hs.kept hk).1.obj hlt
      have HT := Lib.hid (objs_take hlt)
      have hkvj := hkv qs[j] (List.getElem_mem hlt)
      have hsj := hs.2 qs[j] (List.getElem_mem hlt)
      obtain ⟨hown, hobj, hdat⟩ := hoth
      have hol : os.length ≤ 60 := by
        have := congrArg List.length hobj
        rw [objs_len, List.length_map, objs_len, List.length_take] at this; omega
      obtain ⟨⟨⟨oat, org, oks, ovs⟩, ⟨oar, okd, oty, onn⟩, ka, kc, va, vc⟩, hq⟩ : ∃ q, qs[j] = q := ⟨_, rfl⟩
      rw [hq] at c0 c1 c2 c3 c4 c5 c6 c7 HT hkvj hsj
      simp only at c0 c1 c2 c3 c4 c5 c6 c7 HT hkvj hsj
      obtain ⟨hksl, hvsl⟩ := hkvj
      obtain ⟨hsk, hsv⟩ := hsj
      have hsv := hsv.kept hk
      have hwsz := hk.size
      have HOBJ := Lib.hid hobj
      have h1 : (j : Int) < (qs.length : Int) := by omega
      have rO := Row.new wr 30 [.int .i64 oat, .int .i64 org, .bool oar, .int .i64 okd, .int .i64 oty, .int .i64 onn, .slice ka oks.length kc, .slice va ovs.length vc]
      have kA := (Kept.refl [] wr).alloc (.cells #[.int .i64 oat, .int .i64 org, .bool oar, .int .i64 okd, .int .i64 oty, .int .i64 onn, .slice ka oks.length kc, .slice va ovs.length vc] 30)
      have hge := hown.ge
      have hlo := hown.lt
      have hszr := hkr.size
      obtain ⟨B, hB⟩ : ∃ B, wr.heap.size = B := ⟨_, rfl⟩
      have HB := Lib.hid hB
      rw [hB] at rO
      have hBo : ∀ i, u7.ownBlock = some i → i < B := fun i hi => by have := hlo i hi; omega
      clear hq hobj hlo
      have own0 := (own_empty (wr.alloc (.cells #[.int .i64 oat, .int .i64 org, .bool oar, .int .i64 okd, .int .i64 oty, .int .i64 onn, .slice ka oks.length kc, .slice va ovs.length vc] 30)) 36 1 (B + 1) (by rw [World.size_alloc]; omega))
      have kE := kA.alloc (.cells #[] 36)
      have rE := rO.alloc (.cells #[] 36)
      have sE := (hsv.kept kE).toV
      rw [World.size_alloc, hB] at own0
      have e7 : ((wr.alloc (.cells #[.int .i64 oat, .int .i64 org, .bool oar, .int .i64 okd, .int .i64 oty, .int .i64 onn, .slice ka oks.length kc, .slice va ovs.length vc] 30)).alloc (.cells #[] 36)).cell? ⟨B, 7, none⟩ = some (.slice va ovs.length vc) := by simpa using rE.cell 7
      have f7 := rE.free 7
      go_wp2_with (first
        | (at_builtin; refine wpList_append_on _ rfl _ _ 23 rfl (B + 1) 36 iu (.int .u64 0) 1 8 Tryd.underlying23 hiu hu0 hu1 hu2 rfl (by omega) (B + 1) 0 0 [] rfl own0 va ovs.length vc _ rfl sE int_oneCell (by unfold maxLen; omega) (by omega) (by simp; omega) ?_; intro g' cp w2 hownV hkV hgV; rw [Nat.zero_add, List.nil_append] at hownV; rw [Nat.zero_add]; have r2 := rE.kept hkV (by simp); have f72 := r2.free 7; have c72 : w2.cell? ⟨B, 7, none⟩ = some (.slice va ovs.length vc) := (by simpa using r2.cell 7))
        | fail)
      have hgB : B < g' := by
        have h := HB.out
        simp only [World.size_alloc] at hgV
        omega
      have kS := (Kept.refl [B] w2).set (p := ⟨B, 7, none⟩) (.inl (by simp)) (.slice (some ⟨g', 0, none⟩) ovs.length cp)
      have rb : Row (w2.setCell ⟨B, 7, none⟩ (.slice (some ⟨g', 0, none⟩) ovs.length cp)) B 30 [.int .i64 oat, .int .i64 org, .bool oar, .int .i64 okd, .int .i64 oty, .int .i64 onn, .slice ka oks.length kc, .slice (some ⟨g', 0, none⟩) ovs.length cp] := by simpa using r2.set 7 (.slice (some ⟨g', 0, none⟩) ovs.length cp)
      have kb : Kept [] wr (w2.setCell ⟨B, 7, none⟩ (.slice (some ⟨g', 0, none⟩) ovs.length cp)) := (kE.chain hkV (by simp) (by simp; omega) : Kept [] wr w2).chain kS (by simp) (by simp; omega)
      have ownb := own_keptV hownV kS (by simp [Value.ownBlock]; omega)
      have kwb := hkr.trans kb
      have hownb := hown.keptS kb (by simp)
      have hdatb : ∀ q ∈ os, SlX (w2.setCell ⟨B, 7, none⟩ (.slice (some ⟨g', 0, none⟩) ovs.length cp)) .i64 (fun b => u7.ownBlock ≠ some b ∧ b < B) q.ka q.o.ks ∧ SlX (w2.setCell ⟨B, 7, none⟩ (.slice (some ⟨g', 0, none⟩) ovs.length cp)) .u64 (fun b => u7.ownBlock ≠ some b ∧ b < B) q.va q.o.vs := fun q hq => ⟨((hdat q hq).1.mono (Y := fun b => u7.ownBlock ≠ some b ∧ b < B) (fun b hb hx => ⟨hx, by have := HB.out; omega⟩)).kept (S := []) kb (by simp), ((hdat q hq).2.mono (Y := fun b => u7.ownBlock ≠ some b ∧ b < B) (fun b hb hx => ⟨hx, by have := HB.out; omega⟩)).kept (S := []) kb (by simp)⟩
      have hw1B : w1.heap.size ≤ B := by have := HB.out; omega
      have hwB : w.heap.size ≤ B := by have := HB.out; omega
      clear c0 c1 c2 c3 c4 c5 c6 c7 hown hdat hsv hwsz own0 sE e7 f7 f72 c72 hownV hkV hgV r2 rE kE kA rO kS
      generalize w2.setCell ⟨B, 7, none⟩ (.slice (some ⟨g', 0, none⟩) ovs.length cp) = wb at rb ownb kwb hownb hdatb ⊢
      clear kb hkr hk hszr
      go_loopw [35] (fun i wr => ∃ m : Nat, m ≤ ovs.length ∧ i = .int .i64 m ∧ wr.ownsRow (B + 1) 36 1 (.slice (some ⟨g', 0, none⟩) ovs.length cp) ovs.length ((othM oks ovs by_ m).map (Value.int .u64)) ∧ Kept [g'] wb wr) (fun i _ => ovs.length - (intOf i).toNat)
      case atStart => exact ⟨0, Nat.zero_le _, rfl, by rw [othM_zero]; exact ownb, Kept.refl _ _⟩
      case round =>
        obtain ⟨m, hm, rfl, hwn, hkq⟩ := hrel
        clear ownb
        have rq := rb.kept hkq (by simp; omega)
        have e6 : wr.cell? ⟨B, 6, none⟩ = some (.slice ka oks.length kc) := by simpa using rq.cell 6
        have e7 : wr.cell? ⟨B, 7, none⟩ = some (.slice (some ⟨g', 0, none⟩) ovs.length cp) := by simpa using rq.cell 7
        by_cases hlt2 : m < ovs.length
        · have h2 : (m : Int) < (ovs.length : Int) := by omega
          have cV := hwn.cellAt m (by omega)
          have fV := hwn.frozenAt m
          rw [List.getElem?_map, othM_at hlt2, Option.map_some] at cV
          have HST := Lib.hid (fun (x : Int) => (hwn.stored m (.int .u64 x)).1)
          have HSET := Lib.hid (othM_set (ks := oks) (by_ := by_) hlt2)
          have HSAME := Lib.hid (fun he => othM_same (ks := oks) (by_ := by_) hlt2 he)
          by_cases hk : oks.length ≤ m
          · have hk' : decide (oks.length ≤ m) = true := by simpa using hk
            have HV : Hid (othV oks by_ m ovs[m] = IntKind.u64.wrap (ovs[m] + by_)) := by show _ = _; unfold othV; rw [if_pos (.inl hk)]
            generalize ovs[m] = vv at cV HSET HV HSAME
            clear hk
            go_wp2_with fail
            have hst := HST.out (IntKind.u64.wrap (vv + by_))
            rw [← List.map_set, ← HV.out, ← HSET.out] at hst
            go_roundw
            case rel => exact ⟨m + 1, by omega, by go_num, by rw [HV.out] at hst; exact hst, hkq.set (.inl (by simp)) _⟩
            case measure => simp [intOf]; omega
          · have hk' : decide (oks.length ≤ m) = false := by simpa using hk
            obtain ⟨bk, offk, rfl, eK⟩ := (hsk.old ((OldB.of_kept (k1.trans kwb) (by simp)).kept hkq (by intro z hz; simp at hz; omega))).cell (show m < oks.length by omega)
            have hmk : (m : Int) < (oks.length : Int) := by omega
            by_cases hk0 : oks[m]?.getD 0 = 0
            · have HV : Hid (othV oks by_ m ovs[m] = IntKind.u64.wrap (ovs[m] + by_)) := by show _ = _; unfold othV; rw [if_pos (.inr hk0)]
              rw [hk0] at eK
              generalize ovs[m] = vv at cV HSET HV HSAME
              clear hk hk0
              go_wp2_with fail
              have hst := HST.out (IntKind.u64.wrap (vv + by_))
              rw [← List.map_set, ← HV.out, ← HSET.out] at hst
              go_roundw
              case rel => exact ⟨m + 1, by omega, by go_num, by rw [HV.out] at hst; exact hst, hkq.set (.inl (by simp)) _⟩
              case measure => simp [intOf]; omega
            · have HS : Hid (othM oks ovs by_ (m + 1) = othM oks ovs by_ m) := HSAME.out (by unfold othV; rw [if_neg (fun h => h.elim hk hk0)])
              have hk0' : decide (oks[m]?.getD 0 = 0) = false := by simpa using hk0
              have hk0'' : (oks[m]?.getD 0 == 0) = false := by simpa using hk0
              generalize oks[m]?.getD 0 = kk at eK hk0' hk0''
              clear hk hk0 HSAME HSET HST cV fV
              go_wp2_with fail
              go_roundw
              case rel => exact ⟨m + 1, by omega, by go_num, by rw [HS.out]; exact hwn, hkq⟩
              case measure => simp [intOf]; omega
        · obtain rfl : m = ovs.length := by omega
          rw [othM_all] at hwn
          have hzl := othL_length oks ovs by_
          obtain ⟨zs, hzs⟩ : ∃ zs, othL oks ovs by_ = zs := ⟨_, rfl⟩
          rw [hzs] at hwn hzl
          have HZS := Lib.hid hzs
          have e0 : wr.cell? ⟨B, 0, none⟩ = some (.int .i64 oat) := by simpa using rq.cell 0
          have e1 : wr.cell? ⟨B, 1, none⟩ = some (.int .i64 org) := by simpa using rq.cell 1
          have e2 : wr.cell? ⟨B, 2, none⟩ = some (.bool oar) := by simpa using rq.cell 2
          have e3 : wr.cell? ⟨B, 3, none⟩ = some (.int .i64 okd) := by simpa using rq.cell 3
          have e4 : wr.cell? ⟨B, 4, none⟩ = some (.int .i64 oty) := by simpa using rq.cell 4
          have e5 : wr.cell? ⟨B, 5, none⟩ = some (.int .i64 onn) := by simpa using rq.cell 5
          have d7 : wr.cell? ⟨B, 7, none⟩ = some (.slice (some ⟨g', 0, none⟩) zs.length cp) := by rw [hzl]; exact e7
          have HZL := Lib.hid hzl
          have hgn : ∀ i, u7.ownBlock = some i → i ∉ [g'] := fun i hi => by have := hBo i hi; simp; omega
          have hownq := hownb.keptS hkq hgn
          have hszq := (kwb.size)
          have hszq2 := hkq.size
          have hrql := rq.lt
          clear e7 hzl hzs
          go_wp2_with (first
            | (at_builtin; refine wpList_append_s _ rfl _ _ 22 rfl w1.heap.size i0 _ 96 Tryd.underlying22 hi hz0 hz1 hz2 rfl (by decide) (by decide) wr u7 os ⟨⟨oat, org, oks, zs⟩, ⟨oar, okd, oty, onn⟩, ka, kc, some ⟨g', 0, none⟩, cp⟩ (ObQ.cells_length _) (ObQ.cells_one _) rfl rfl rfl hownq (by omega) (by omega) ?_; intro g3 c3 w3 hown3 hk3 hat3; go_frame)
            | fail)
          have hk4 : Kept [] w1 wr := kwb.chain hkq (by simp) (by simp; omega)
          have hk5 : Kept [] w1 w3 := hk4.chain hk3 (by simp) (by intro i hi hlt; rw [Option.mem_toList] at hi; have := hge i hi; omega)
          have hg3 : u7.ownBlock = some g3 ∨ wr.heap.size ≤ g3 := hat3
          have hX : ∀ b, b < wr.heap.size → u7.ownBlock ≠ some b → (Value.slice (some ⟨g3, 0, none⟩) (os.length + 1) c3).ownBlock ≠ some b := fun b hb hx => by
            simp only [Value.ownBlock, ne_eq, Option.some.injEq]
            rcases hg3 with h | h
            · rintro rfl; exact hx h
            · omega
          have hOld : ∀ {kk : IntKind} {aa : Option Addr} {xs : List Int}, SlX wr kk (fun b => u7.ownBlock ≠ some b) aa xs → SlX w3 kk (fun b => (Value.slice (some ⟨g3, 0, none⟩) (os.length + 1) c3).ownBlock ≠ some b) aa xs := fun h =>
            (h.mono (Y := fun b => u7.ownBlock ≠ some b ∧ (Value.slice (some ⟨g3, 0, none⟩) (os.length + 1) c3).ownBlock ≠ some b) (fun b hb hx => ⟨hx, hX b hb hx⟩)).kept hk3 (fun b hb hx => by rw [Option.mem_toList] at hb; exact hx.1 hb) |>.mono (fun b _ hx => hx.2)
          have hobj3 : objs (os ++ [⟨⟨oat, org, oks, zs⟩, ⟨oar, okd, oty, onn⟩, ka, kc, some ⟨g', 0, none⟩, cp⟩]) = (objs (qs.take (j + 1))).map (othO by_) := by
            rw [HT.out, List.map_append, ← HOBJ.out, ← HZS.out]; simp [objs, othO]
          have hdat3 : ∀ q ∈ os ++ [(⟨⟨oat, org, oks, zs⟩, ⟨oar, okd, oty, onn⟩, ka, kc, some ⟨g', 0, none⟩, cp⟩ : ObQ)], SlX w3 .i64 (fun b => (Value.slice (some ⟨g3, 0, none⟩) (os.length + 1) c3).ownBlock ≠ some b) q.ka q.o.ks ∧ SlX w3 .u64 (fun b => (Value.slice (some ⟨g3, 0, none⟩) (os.length + 1) c3).ownBlock ≠ some b) q.va q.o.vs := by
            intro q hq
            rcases List.mem_append.1 hq with hq | hq
            · obtain ⟨h1, h2⟩ := hdatb q hq
              exact ⟨hOld ((h1.kept hkq (fun b hb hx => by simp at hb; omega)).mono (fun b _ hx => hx.1)), hOld ((h2.kept hkq (fun b hb hx => by simp at hb; omega)).mono (fun b _ hx => hx.1))⟩
            · rw [List.mem_singleton.1 hq]
              refine ⟨hOld ?_, hOld ?_⟩
              · have h1 := (SlX.of_sl hsk).old ((OldB.of_kept (k1.trans kwb) (by simp)).kept hkq (by intro z hz; simp at hz; omega))
                exact h1.mono (fun b _ hx h => by have := hge b h; have := k1.size; omega)
              · obtain ⟨a', c', he, hx⟩ := SlX.of_own hwn
                cases he
                exact hx.mono (fun b _ hx h => by have := hBo b h; omega)
          go_roundw
          case rel => exact ⟨j + 1, _, by omega, by go_num, ⟨by simpa using hown3, hobj3, hdat3⟩, hk5⟩
          case measure => simp [intOf]; omega
    · obtain rfl : j = qs.length := by omega
      rw [List.take_length] at hoth
      obtain ⟨hown, hobj, hdat⟩ := hoth
      obtain ⟨A2, cp2, rfl, hsl2, _⟩ := hown.slice ObQ.cells_length
      have hs2 : SlO wr A2 os := ⟨hsl2, fun q hq => ⟨(hdat q hq).1.sl, (hdat q hq).2.sl⟩⟩
      clear hown hdat hsl2
      have hol : os.length = qs.length := by
        have := congrArg List.length hobj
        rwa [objs_len, List.length_map, objs_len] at this
      have hfit1 : ∀ o ∈ objs qs, o.Fit := fun o ho => by obtain ⟨q, hq, rfl⟩ := List.mem_map.1 ho; exact hfit q hq
      have hfit2 : ∀ q ∈ os, q.o.Fit := fun q hq => oth_fit (by_ := by_) hfit1 _ (by rw [← hobj]; exact List.mem_map_of_mem (f := (·.o)) hq)
      have hkl : ∀ o ∈ objs qs, o.ks.length ≤ 40 := fun o ho => by obtain ⟨q, hq, rfl⟩ := List.mem_map.1 ho; exact (hkv q hq).1
      have hN := ptrP_len hkl
      rw [objs_len] at hN
      have hNm : qs.length * 40 ≤ 2400 := by omega
      have hN2 : (ptrP (objs os)).length ≤ 2400 := by rw [hobj, oth_ptr]; omega
      have HTO := Lib.hid (fun r => hitsP_tgt (begP_low (l := objs qs) (fun o ho => (hfit1 o ho).reg.2)) ((ptrP (objs qs)).filter fun x => decide (x.1 = r)))
      have HTC := Lib.hid (hitsP_tgt (begP_low (l := objs qs) (fun o ho => (hfit1 o ho).reg.2)) (ptrP (objs qs) ++ roots.map rootX))
      have hoL : ∀ r, (tlyP (outP (objs qs) r)).length ≤ 2400 := fun r => by
        have h1 : (outP (objs qs) r).length ≤ 2400 := Nat.le_trans (outX_len _ _ _) (by omega)
        have := (tlyP_good (ts := outP (objs qs) r) (HTO.out r) (by omega)).2.2
        omega
      have hcL : (tlyP (comP (objs qs) roots)).length ≤ 2460 := by
        have h1 : (comP (objs qs) roots).length ≤ 2460 := Nat.le_trans (comP_len _ _) (by omega)
        have := (tlyP_good (ts := comP (objs qs) roots) HTC.out (by omega)).2.2
        omega
      have HOUT := Lib.hid (fun r W (hk2 : Kept [] wr W) => outgoing18_any a cap qs r hfit W ((hs.kept hk).kept hk2) ((hT.kept hk).kept hk2) (by omega) (by omega))
      have HOUT2 := Lib.hid (fun r W (hk2 : Kept [] wr W) => outgoing18_any A2 cp2 os r hfit2 W (hs2.kept hk2) ((hT.kept hk).kept hk2) (by omega) (by omega))
      have HCN := Lib.hid (fun W (hk2 : Kept [] wr W) => counts18_any a cap qs R rc roots hfit hrf W ((hs.kept hk).kept hk2) (hsr.kept (hk.trans hk2)) ((hT.kept hk).kept hk2) (by omega) (by omega))
      have HCN2 := Lib.hid (fun W (hk2 : Kept [] wr W) => counts18_any A2 cp2 os R rc roots hfit2 hrf W (hs2.kept hk2) (hsr.kept (hk.trans hk2)) ((hT.kept hk).kept hk2) (by omega) (by omega))
      simp only [hobj, oth_out, oth_com] at HOUT2 HCN2
      obtain ⟨gF, hgF⟩ : ∃ g, (fun r => tlyP (outP (objs qs) r)) = g := ⟨_, rfl⟩
      have hgE : ∀ r, tlyP (outP (objs qs) r) = gF r := fun r => by rw [← hgF]
      simp only [hgE] at HOUT HOUT2 hoL
      generalize tlyP (comP (objs qs) roots) = gC at HCN HCN2 hcL
      have HOL := Lib.hid hol
      obtain ⟨N, hNl⟩ : ∃ N, os.length = N := ⟨_, rfl⟩
      rw [hNl] at HOUT2 HCN2 ⊢
      clear hobj hfit1 hfit2 hkl hN hNm hN2 HTO HTC hgF hgE hol hs2 hNl HOL hfit hkv HG
      go_wp2_with fail
      go_loopw [67] (fun i wq => ∃ j : Nat, j ≤ qs.length ∧ i = .int .i64 j ∧ Kept [] wr wq) (fun i _ => qs.length - (intOf i).toNat)
      case atStart => exact ⟨0, Nat.zero_le _, rfl, Kept.refl _ _⟩
      case round =>
        obtain ⟨j, hj, rfl, hkq⟩ := hrel
        by_cases hlt2 : j < qs.length
        · obtain ⟨b, off, rfl, _, c0, c1, c2, c3, c4, c5, c6, c7⟩ := (hs.kept (hk.trans hkq)).1.obj hlt2
          obtain ⟨⟨⟨oat, org, oks, ovs⟩, ⟨oar, okd, oty, onn⟩, ka, kc, va, vc⟩, hq⟩ : ∃ q, qs[j] = q := ⟨_, rfl⟩
          rw [hq] at c0 c1 c2 c3 c4 c5 c6 c7
          simp only at c0 c1 c2 c3 c4 c5 c6 c7
          have h1 : (j : Int) < (qs.length : Int) := by omega
          have rO := Row.new wr 30 [.int .i64 oat, .int .i64 org, .bool oar, .int .i64 okd, .int .i64 oty, .int .i64 onn, .slice ka oks.length kc, .slice va ovs.length vc]
          have kA := hkq.alloc (.cells #[.int .i64 oat, .int .i64 org, .bool oar, .int .i64 okd, .int .i64 oty, .int .i64 onn, .slice ka oks.length kc, .slice va ovs.length vc] 30)
          obtain ⟨B, hB⟩ : ∃ B, wr.heap.size = B := ⟨_, rfl⟩
          rw [hB] at rO
          clear hq
          go_wp2_with fail
          clear c0 c1 c2 c3 c4 c5 c6 c7
          generalize wr.alloc (.cells #[.int .i64 oat, .int .i64 org, .bool oar, .int .i64 okd, .int .i64 oty, .int .i64 onn, .slice ka oks.length kc, .slice va ovs.length vc] 30) = wa at rO kA ⊢
          clear hkq hB
          have hold := Lib.hid (show ∀ W', Kept [] wa W' → (fun w' => Kept [] wa w' ∧ w'.cell? ⟨B, 1, none⟩ = some (.int .i64 org)) W' from fun W' kq => ⟨kq, by simpa using (rO.kept kq (by simp)).cell 1⟩)
          have kq0 : Kept [] wa wa.drew := (Kept.refl _ _).drew
          have hO1 := Lib.hid (HOUT.out org)
          have hO2 := Lib.hid (HOUT2.out org)
          have hgl := hoL org
          generalize gF org = gs at hO1 hO2 hgl
          refine wp_region_pick (fun w' => Kept [] wa w' ∧ w'.cell? ⟨B, 1, none⟩ = some (.int .i64 org)) (by kernel_rfl) (hold.out _ kq0) ?_
          simp only [numbered, List.length_cons, List.length_nil, Nat.reduceAdd]
          repeat (first
            | (refine pick_take0 (v := ?_) rfl (by decide +kernel) (fun _ _ _ h => h) (by rfl) ?_ ?_; rotate_left; (intro w hSw; (try dsimp only at hSw); go_simp; try with_reducible rfl); go_frame)
            | (refine pick_skip0 (by decide +kernel) (fun _ _ _ h => h) (by rfl) ?_; go_frame)
            | (refine pick_take1 (v := ?_) rfl (by decide +kernel) (fun _ _ _ h => h) (by rfl) ?_ ?_; rotate_left; (intro w hSw; (try dsimp only at hSw); go_simp; try with_reducible rfl); go_frame)
            | (refine pick_take2 (v := ?_) rfl (by decide +kernel) (fun _ _ _ h => h) (by rfl) ?_ ?_; rotate_left; (intro w hSw; (try dsimp only at hSw); go_simp; try with_reducible rfl); go_frame))
          refine pick_call (by decide +kernel) (by rfl) (fun K hK => ?_)
          go_simp
          go_at_call 7
          refine (hO1.out _ (kA.trans kq0)).mono ?_
          rintro e q1 ⟨G1, cc1, rfl, _, hsl1, j1⟩
          have kq1 : Kept [] wa q1 := kq0.trans j1
          (try dsimp only)
          refine hK _ _ (hold.out _ kq1) ?_
          clear hK K
          repeat (first
            | (refine pick_take0 (v := ?_) rfl (by decide +kernel) (fun _ _ _ h => h) (by rfl) ?_ ?_; rotate_left; (intro w hSw; (try dsimp only at hSw); go_simp; try with_reducible rfl); go_frame)
            | (refine pick_skip0 (by decide +kernel) (fun _ _ _ h => h) (by rfl) ?_; go_frame)
            | (refine pick_take1 (v := ?_) rfl (by decide +kernel) (fun _ _ _ h => h) (by rfl) ?_ ?_; rotate_left; (intro w hSw; (try dsimp only at hSw); go_simp; try with_reducible rfl); go_frame)
            | (refine pick_take2 (v := ?_) rfl (by decide +kernel) (fun _ _ _ h => h) (by rfl) ?_ ?_; rotate_left; (intro w hSw; (try dsimp only at hSw); go_simp; try with_reducible rfl); go_frame))
          refine pick_call (by decide +kernel) (by rfl) (fun K hK => ?_)
          go_simp
          go_at_call 7
          refine (hO2.out _ (kA.trans kq1)).mono ?_
          rintro e q2 ⟨G2, cc2, rfl, _, hsl2, j2⟩
          have kq2 : Kept [] wa q2 := kq1.trans j2
          (try dsimp only)
          refine hK _ _ (hold.out _ kq2) ?_
          clear hK K
          repeat (first
            | (refine pick_take0 (v := ?_) rfl (by decide +kernel) (fun _ _ _ h => h) (by rfl) ?_ ?_; rotate_left; (intro w hSw; (try dsimp only at hSw); go_simp; try with_reducible rfl); go_frame)
            | (refine pick_skip0 (by decide +kernel) (fun _ _ _ h => h) (by rfl) ?_; go_frame)
            | (refine pick_take1 (v := ?_) rfl (by decide +kernel) (fun _ _ _ h => h) (by rfl) ?_ ?_; rotate_left; (intro w hSw; (try dsimp only at hSw); go_simp; try with_reducible rfl); go_frame)
            | (refine pick_take2 (v := ?_) rfl (by decide +kernel) (fun _ _ _ h => h) (by rfl) ?_ ?_; rotate_left; (intro w hSw; (try dsimp only at hSw); go_simp; try with_reducible rfl); go_frame))
          refine pick_call (by decide +kernel) (by rfl) (fun K hK => ?_)
          go_simp
          go_at_call 10
          refine (refSame06_z (some ⟨G1, 0, none⟩) (some ⟨G2, 0, none⟩) _ _ cc1 cc2 gs q2 (hsl1.kept j2) hsl2 rfl rfl (by omega)).mono ?_
          rintro e q3 ⟨rfl, j3⟩
          have kq3 : Kept [] wa q3 := kq2.trans j3
          (try dsimp only)
          refine hK _ _ (hold.out _ kq3) ?_
          clear hK K
          repeat (first
            | (refine pick_take0 (v := ?_) rfl (by decide +kernel) (fun _ _ _ h => h) (by rfl) ?_ ?_; rotate_left; (intro w hSw; (try dsimp only at hSw); go_simp; try with_reducible rfl); go_frame)
            | (refine pick_skip0 (by decide +kernel) (fun _ _ _ h => h) (by rfl) ?_; go_frame)
            | (refine pick_take1 (v := ?_) rfl (by decide +kernel) (fun _ _ _ h => h) (by rfl) ?_ ?_; rotate_left; (intro w hSw; (try dsimp only at hSw); go_simp; try with_reducible rfl); go_frame)
            | (refine pick_take2 (v := ?_) rfl (by decide +kernel) (fun _ _ _ h => h) (by rfl) ?_ ?_; rotate_left; (intro w hSw; (try dsimp only at hSw); go_simp; try with_reducible rfl); go_frame))
          refine pick_done (by decide +kernel) ?_
          go_wp2
          go_roundw
          case rel => exact ⟨j + 1, by omega, by go_num, kA.trans kq3⟩
          case measure => simp [intOf]; omega
        · obtain rfl : j = qs.length := by omega
          go_wp2_with fail
          refine (HF.out wr (hk.trans hkq)).mono ?_
          rintro e w4 ⟨rfl, k4⟩
          go_wp2_with fail
          refine (HCN.out w4 (hkq.trans k4)).mono ?_
          rintro e w5 ⟨G5, c5, rfl, _, hsl5, k5⟩
          go_wp2_with fail
          refine (HCN2.out w5 ((hkq.trans k4).trans k5)).mono ?_
          rintro e w6 ⟨G6, c6, rfl, _, hsl6, k6⟩
          go_wp2_with fail
          refine (refSame06_z (some ⟨G5, 0, none⟩) (some ⟨G6, 0, none⟩) _ _ c5 c6 gC w6 (hsl5.kept k6) hsl6 rfl rfl (by omega)).mono ?_
          rintro e w7 ⟨rfl, k7⟩
          go_wp2
          go_ret
          exact ⟨rfl, ((((hk.trans hkq).trans k4).trans k5).trans k6).trans k7⟩
end Go.Proofs.YtionleocbjfgaaaDoor
