/- Package sweep: pointers (objects' pointers, handed on one by one). -/
import Derived.Test.YtionleocbjfgaaaDoorSweepLies
import Derived.Test.YtionleocbjfgaaaDoorDescTable
import Derived.Test.YtionleocbjfgaaaDoorScope
import Derived.Test.YtionleocbjfgaaaDoorRegionW
import Derived.Test.YtionleocbjfgaaaDoorRegion
import Derived.Sort.LoopGhostIn
namespace Go.Proofs.YtionleocbjfgaaaDoor
open Go.RowKit Go.Shelf

attribute [local go_sem] Oper.semAt_some
attribute [local simp, local go_sem] wide_fn

theorem Tab.old {w W : World} (h : Tab w) (ho : OldB w W) : Tab W := ⟨ho.lt h.1, fun j v hv => (ho.cell h.1).trans (h.2 j v hv)⟩

/-- A pointer, as it is handed on. -/
abbrev PtrX := { x : PtP // Fit64 x.1 ∧ Fit64 x.2.1 ∧ FitU x.2.2 }
def ptrX (l : List PtrX) : List PtP := l.map (·.1)
theorem ptrX_append (a b : List PtrX) : ptrX (a ++ b) = ptrX a ++ ptrX b := List.map_append
theorem ptrX_one (x : PtrX) : ptrX [x] = [x.1] := rfl
theorem ptrX_len (l : List PtrX) : (ptrX l).length = l.length := List.length_map _
def encP1 (x : PtrX) : Value := .int .i64 x.1.1
def encP2 (x : PtrX) : Value := .agg #[.int .i64 x.1.2.1, .int .u64 x.1.2.2]

theorem pointers18_in (F : Fence) (n : Nat) (h : F.fn 14) (hro : F.round = none) (A : Option Addr) (len cap : Nat) (w : World) :
    CallsIn F n Tryd.prog 14 #[.slice A len cap] w fun e w' => e = .returned (.func (.func 20) #[] #[.pointer (some ⟨w.heap.size, 0, none⟩)]) ∧
      w' = w.alloc (.cells #[.slice A len cap] 22) := by
  refine callsIn_of_wp Tryd.func14 rfl h ?_ hro
  simp only [Tryd.ntmps14, List.size_toArray, List.length_cons, List.length_nil, Nat.reduceAdd, Nat.reduceSub, Array.replicate_succ, Array.replicate_zero, List.push_toArray, List.append_toArray, List.nil_append, List.cons_append]
  gi_wp2
  go_ret
  exact ⟨rfl, rfl⟩

set_option maxRecDepth 100000 in
set_option maxHeartbeats 8000000 in
theorem pointers18x_in (n l S n₀ : Nat) (Z : List Nat) (a : Option Addr) (cap : Nat) (qs : List ObQ) (hfit : ∀ q ∈ qs, q.o.Fit) (w : World) (hs : SlO w a qs) (hn₀ : w.heap.size ≤ n₀) (hZ : ∀ z ∈ Z, w.heap.size ≤ z)
    (J Jx : List PtrX → World → Prop) (W : World) (hZW : ∀ z ∈ Z, z < W.heap.size) (hJ : AbidesFrom W.heap.size J)
    (hY : ∀ pre x W, J pre W → pre.length < (ptrP (objs qs)).length → YieldAt Fence.wide (n - 1) Tryd.prog l #[encP1 x, encP2 x] W fun e W' =>
      (e = .returned (.bool true) ∧ J (pre ++ [x]) W' ∧ KeptC n₀ Z W W') ∨ (e = .returned (.bool false) ∧ Jx (pre ++ [x]) W'))
    (hT : Tab w) (hold : OldB w W) (hS : Row W S 22 [.slice a qs.length cap]) (hl : qs.length ≤ 1099511627776) (hJ0 : J [] W) :
    CallsIn Fence.wide n Tryd.prog 20 #[.func (.yield l) #[] #[], .pointer (some ⟨S, 0, none⟩)] W fun e W' => (∃ v, e = .returned v) ∧
      ((∃ ys, ptrX ys = ptrP (objs qs) ∧ J ys W') ∨ (∃ pre, True ∧ Jx pre W')) := by
  have hdd : ∀ k : Nat, ((Fence.wide).depth.isSome = true → 1 ≤ k) := fun k h => by cases h
  have cS : W.cell? ⟨S, 0, none⟩ = some (.slice a qs.length cap) := by simpa using hS.cell 0
  refine callsIn_of_wp Tryd.func20 rfl trivial ?_ rfl
  simp only [Tryd.ntmps20, List.size_toArray, List.length_cons, List.length_nil, Nat.reduceAdd, Nat.reduceSub, Array.replicate_succ, Array.replicate_zero, List.push_toArray, List.append_toArray, List.nil_append, List.cons_append]
  gi_wp2
  refine wpIn_scope_wide ?_
  gi_wp2
  refine wpIn_label_wide ?_
  gi_wp2
  gi_loopg [9] qs.length (fun k i wr => ∃ (j : Nat) (ys : List PtrX), j ≤ qs.length ∧ k = qs.length - j ∧ i = .int .i64 j ∧ Hid (ptrX ys = ptrP (objs (qs.take j))) ∧ J ys wr ∧ KeptC n₀ Z W wr)
  case atStart => exact ⟨0, [], Nat.zero_le _, by omega, rfl, rfl, hJ0, KeptC.refl⟩
  case round =>
    obtain ⟨j, ys, hj, hgk, rfl, HP, hJs, hk⟩ := hrel
    by_cases hlt : j < qs.length
    · obtain ⟨b, off, rfl, _, c0, c1, c2, c3, c4, c5, c6, c7⟩ := (hs.1.old (hold.keptC hk hn₀ hZ)).obj hlt
      have hf := hfit qs[j] (List.getElem_mem hlt)
      have hso := hs.2 qs[j] (List.getElem_mem hlt)
      have HT := Lib.hid (objs_take hlt)
      have HSP := Lib.hid (objs_split hlt)
      obtain ⟨⟨⟨oat, org, oks, ovs⟩, ⟨oar, okd, oty, onn⟩, ka, kc, va, vc⟩, hq⟩ : ∃ q, qs[j] = q := ⟨_, rfl⟩
      rw [hq] at c0 c1 c2 c3 c4 c5 c6 c7 hf hso HT HSP
      simp only at c0 c1 c2 c3 c4 c5 c6 c7 hf hso HT HSP
      obtain ⟨_, hfr, hfk, hfv, hkl, hvl⟩ := hf
      simp only at hfr hfk hfv hkl hvl
      obtain ⟨hsk, hsv⟩ := hso
      have h1 : (j : Int) < (qs.length : Int) := by omega
      have HGK := Lib.hid hgk
      clear hq hgk hJ0 cS
      have rO := Row.new wr 30 [.int .i64 oat, .int .i64 org, .bool oar, .int .i64 okd, .int .i64 oty, .int .i64 onn, .slice ka oks.length kc, .slice va ovs.length vc]
      have hJa := hJ ys wr (wr.alloc (.cells #[.int .i64 oat, .int .i64 org, .bool oar, .int .i64 okd, .int .i64 oty, .int .i64 onn, .slice ka oks.length kc, .slice va ovs.length vc] 30)) none hJs (World.grownBy_alloc wr _ none) (fun r e => by cases e)
      have hka := hk.alloc (.cells #[.int .i64 oat, .int .i64 org, .bool oar, .int .i64 okd, .int .i64 oty, .int .i64 onn, .slice ka oks.length kc, .slice va ovs.length vc] 30)
      have hBZ : wr.heap.size ∉ Z := fun hm => by have := hZW _ hm; have := hk.1; omega
      obtain ⟨B, hB⟩ : ∃ B, wr.heap.size = B := ⟨_, rfl⟩
      rw [hB] at rO hBZ
      gi_wp2_with fail
      generalize wr.alloc (.cells #[.int .i64 oat, .int .i64 org, .bool oar, .int .i64 okd, .int .i64 oty, .int .i64 onn, .slice ka oks.length kc, .slice va ovs.length vc] 30) = wa at rO hJa hka ⊢
      clear c0 c1 c2 c3 c4 c5 c6 c7 hJs hk hB
      gi_loopg [16] oks.length (fun k2 i wr => ∃ (m : Nat) (zs : List PtrX), m ≤ oks.length ∧ m ≤ ovs.length ∧ k2 = oks.length - m ∧ i = .int .i64 m ∧ Hid (ptrX zs = ptrP (objs (qs.take j)) ++ ptrU ⟨oat, org, oks, ovs⟩ m) ∧ J zs wr ∧ KeptC n₀ Z wa wr)
      case atStart => exact ⟨0, ys, Nat.zero_le _, Nat.zero_le _, by omega, rfl, by show _ = _; rw [ptrU_zero, List.append_nil]; exact HP.out, hJa, KeptC.refl⟩
      case round =>
        obtain ⟨m, zs, hm1, hm2, hk2, rfl, HZ, hJz, hkq⟩ := hrel
        have rOq := hkq.row rO hBZ
        have d1 : wr.cell? ⟨B, 1, none⟩ = some (.int .i64 org) := by simpa using rOq.cell 1
        have d7 : wr.cell? ⟨B, 7, none⟩ = some (.slice va ovs.length vc) := by simpa using rOq.cell 7
        have hoq := hold.keptC (hka.trans hkq) hn₀ hZ
        have HGK2 := Lib.hid hk2
        clear hk2
        by_cases hlt2 : m < oks.length
        · obtain ⟨b2, off2, rfl, e1⟩ := (hsk.old hoq).cell hlt2
          have hkm : Fit64 (oks[m]?.getD 0) := by rw [List.getElem?_eq_getElem hlt2]; exact hfk _ (List.getElem_mem hlt2)
          have h2 : (m : Int) < (oks.length : Int) := by omega
          by_cases hlt3 : m < ovs.length
          · obtain ⟨b3, off3, rfl, e2⟩ := (hsv.old hoq).cell hlt3
            have hvm : FitU (ovs[m]?.getD 0) := by rw [List.getElem?_eq_getElem hlt3]; exact hfv _ (List.getElem_mem hlt3)
            have h3 : (m : Int) < (ovs.length : Int) := by omega
            have h3' : decide ((m : Int) = (ovs.length : Int)) = false := by simp; omega
            have h3'' : ((m : Int) == (ovs.length : Int)) = false := by simp; omega
            have HY := fun (hp : pointerB oks[m] = true) => ptrU_yes (o := ⟨oat, org, oks, ovs⟩) hlt2 hlt3 hp
            have HN := fun (hp : pointerB oks[m] = false) => ptrU_no (o := ⟨oat, org, oks, ovs⟩) hlt2 hlt3 hp
            simp only at HY HN
            rw [List.getElem?_eq_getElem hlt2, Option.getD_some] at e1 hkm
            rw [List.getElem?_eq_getElem hlt3, Option.getD_some] at e2 hvm
            have hpl := ptrU_pre ⟨oat, org, oks, ovs⟩ (m + 1)
            generalize oks[m] = kd at e1 hkm HY HN
            generalize ovs[m] = vv at e2 hvm HY
            have hTq := hT.old hoq
            cases hp : pointerB kd with
            | false =>
              have HU := Lib.hid (HN hp)
              have hdp : ∀ q, Calls Tryd.prog 21 #[.int .i64 kd] (wr.drewN q) fun e w' => e = .returned (.bool false) ∧ wr.drewN q = w' := fun q => by
                have := descPointer_any kd _ (hTq.old (OldB.of_kept ((Kept.refl [] wr).drewN q) (by simp)))
                rwa [hp] at this
              clear HY HN hY hp
              gi_wp2_with fail
              gi_quiet (first | (refine ⟨hdd _, quietIn_same (callsIn_wide.2 (hdp _))⟩) | fail)
              gi_wp2_with fail
              have hJn := hJ zs wr (wr.drewN nq) none hJz (grown_drewN wr nq) (fun r e => by cases e)
              gi_roundg (oks.length - (m + 1))
              case measure => have := HGK2.out; omega
              case rel => exact ⟨m + 1, zs, by omega, by omega, rfl, by go_num, by show _ = _; rw [HU.out]; exact HZ.out, hJn, hkq.drewN nq⟩
            | true =>
              have HU := Lib.hid (HY hp)
              have hlen : zs.length < (ptrP (objs qs)).length := by
                obtain ⟨t, ht⟩ := hpl
                have q1 := congrArg List.length HZ.out
                have q2 := congrArg (fun l => (ptrP l).length) HSP.out
                have q3 := congrArg List.length ht
                rw [HU.out] at q3
                simp only [ptrP, List.flatMap_append, List.flatMap_cons, List.length_append, List.length_cons, List.length_nil] at q1 q2 q3 ⊢
                rw [ptrX_len] at q1
                omega
              have hJd := hJ zs wr wr.drew none hJz (grown_drewN wr 1) (fun r e => by cases e)
              obtain ⟨fn, tmps, assign, body, hy, hR⟩ := hY zs ⟨(org, kd, vv), hfr, hkm, hvm⟩ wr.drew hJd hlen
              dsimp only [encP1, encP2] at hy hR
              have hkd : KeptC n₀ Z wa wr.drew := hkq.drewN 1
              have hdp : Calls Tryd.prog 21 #[.int .i64 kd] wr.drew fun e w' => e = .returned (.bool true) ∧ wr.drew = w' := by
                have := descPointer_any kd _ (hTq.old (OldB.of_kept ((Kept.refl [] wr).drew) (by simp)))
                rwa [hp] at this
              clear HN HY hp
              gi_wp2_with fail
              refine wpIn_region_still_tailW 13 (by kernel_rfl) (by kernel_rfl) (by kernel_rfl) ?_
              simp only [List.take_succ_cons, List.take_zero, List.drop_succ_cons, List.drop_zero]
              with_reducible refine wpStill_want (by kernel_rfl) (fun K hK => ?_)
              go_simp
              refine hK _ ?_
              clear hK K
              with_reducible refine wpStill_want (by kernel_rfl) (fun K hK => ?_)
              go_simp
              refine ⟨_, hdp.mono (fun _ _ h => ⟨h.1, h.2.symm⟩), hK _ ?_⟩
              clear hK K
              iterate 11 (with_reducible refine wpStill_want (by kernel_rfl) (fun K hK => ?_); go_simp; refine hK _ ?_; clear hK K)
              refine wpStill_nil ?_
              clear hlen hdp hJd hY
              gi_wp2_with fail
              refine ⟨hdd _, hR.mono ?_⟩
              rintro e W3 (⟨rfl, hJ3, hk3⟩ | ⟨rfl, hJx3⟩)
              · gi_wp2
                gi_roundg (oks.length - (m + 1))
                case measure => have := HGK2.out; omega
                case rel => exact ⟨m + 1, zs ++ [⟨(org, kd, vv), hfr, hkm, hvm⟩], by omega, by omega, rfl, by go_num, by show _ = _; rw [HU.out, ptrX_append, ptrX_one, HZ.out, List.append_assoc], hJ3, hkd.trans hk3⟩
              · gi_wp2
                rw [Exit.noGoto_normal]
                go_end0
                exact ⟨⟨_, rfl⟩, .inr ⟨_, trivial, hJx3⟩⟩
          · obtain rfl : m = ovs.length := by omega
            have h3 : decide ((ovs.length : Int) = (ovs.length : Int)) = true := by simp
            have HA := Lib.hid (ptrU_all (o := ⟨oat, org, oks, ovs⟩) (i := ovs.length) (.inr (Nat.le_refl _)))
            clear hY
            gi_wp2_with fail
            gi_roundg (qs.length - (j + 1))
            case measure => have := HGK.out; omega
            case rel => exact ⟨j + 1, zs, by omega, rfl, by go_num, by show _ = _; rw [HT.out, ptrP_snoc, ← HA.out]; exact HZ.out, hJz, hka.trans hkq⟩
        · obtain rfl : m = oks.length := by omega
          have HA := Lib.hid (ptrU_all (o := ⟨oat, org, oks, ovs⟩) (i := oks.length) (.inl (Nat.le_refl _)))
          clear hY
          gi_wp2_with fail
          gi_roundg (qs.length - (j + 1))
          case measure => have := HGK.out; omega
          case rel => exact ⟨j + 1, zs, by omega, rfl, by go_num, by show _ = _; rw [HT.out, ptrP_snoc, ← HA.out]; exact HZ.out, hJz, hka.trans hkq⟩
    · obtain rfl : j = qs.length := by omega
      gi_wp2_with fail
      rw [Exit.noGoto_normal]
      go_end0
      exact ⟨⟨_, rfl⟩, .inl ⟨ys, by have := HP.out; rwa [List.take_length] at this, hJs⟩⟩

/-- Objects' pointers, handed on: all of them; or the first ones. -/
theorem pointers18_stops (n S n₀ : Nat) (Z : List Nat) (a : Option Addr) (cap : Nat) (qs : List ObQ) (hfit : ∀ q ∈ qs, q.o.Fit) (v w : World) (hs : SlO v a qs) (hn₀ : v.heap.size ≤ n₀) (hZ : ∀ z ∈ Z, v.heap.size ≤ z ∧ z < w.heap.size)
    (hT : Tab v) (hold : OldB v w) (hS : Row w S 22 [.slice a qs.length cap]) (hl : qs.length ≤ 1099511627776) :
    SeqStopsK Fence.wide n Tryd.prog 20 #[.pointer (some ⟨S, 0, none⟩)] (fun x : PtrX => #[encP1 x, encP2 x]) (KeptC n₀ Z) (fun ys => ptrX ys = ptrP (objs qs)) (fun _ => True) (ptrP (objs qs)).length w := by
  intro l J Jx W hW hJ _ hY h0
  have hk : Kept [] w W := Kept.of_below hW
  exact pointers18x_in n l S n₀ Z a cap qs hfit v hs hn₀ (fun z hz => (hZ z hz).1) J Jx W (fun z hz => Nat.lt_of_lt_of_le (hZ z hz).2 hk.size) hJ hY hT (hold.kept hk (by simp)) (hS.kept hk (by simp)) hl h0
end Go.Proofs.YtionleocbjfgaaaDoor
