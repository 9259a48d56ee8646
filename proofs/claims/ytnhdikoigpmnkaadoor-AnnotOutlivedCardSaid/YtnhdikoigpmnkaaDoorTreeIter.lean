/- Package tree: the walk, handed on one by one by a closure that calls itself. -/
import Derived.RangeFuncNested
import Derived.RangeFuncBound
import Derived.RangeFuncCalls
import Derived.RangeFuncLeaves
import Derived.Shelf.Abstract
import Derived.Shelf.RegionOpen
import Derived.OwnWalkIn
import Derived.TacticsInMore
import Derived.LoopNIn
import Derived.LoopIn
import Derived.Test.YtnhdikoigpmnkaaDoorTreeAllKids
import Derived.Test.YtnhdikoigpmnkaaDoorRegionW
namespace Go.Proofs.YtnhdikoigpmnkaaDoor
open Go.RowKit Go.Shelf

attribute [local go_sem] Oper.semAt_some

theorem room_none {F : Fence} (hd : F.depth = none) (k : Nat) : F.room k := fun d h => by rw [hd] at h; cases h
theorem YieldAt.anyD {F : Fence} (hd : F.depth = none) {m : Nat} (m' : Nat) {P : Program} {l : Nat} {args : Array Value} {W : World} {R : Ending → World → Prop} (h : YieldAt F m P l args W R) : YieldAt F m' P l args W R := by
  obtain ⟨fn, tmps, assign, body, hy, hR⟩ := h
  exact ⟨fn, tmps, assign, body, hy, hR.1, fun c cs _ => hR.2 c cs (room_none hd _)⟩

/-- A machine's int that is known to be one. -/
abbrev I64 := { x : Int // Fit64 x }
def raw (l : List I64) : List Int := l.map (·.1)
theorem raw_append (a b : List I64) : raw (a ++ b) = raw a ++ raw b := List.map_append
theorem raw_one (x : I64) : raw [x] = [x.1] := rfl
theorem raw_nil : raw [] = [] := rfl

/-- What a round that goes on keeps: all that lay ahead of the loop but the blocks S, and all cells but those of S. -/
def KeptC (n₀ : Nat) (S : List Nat) (W W' : World) : Prop :=
  W.heap.size ≤ W'.heap.size ∧ ∀ k o, W.heap[k]? = some o → k ∉ S → (k < n₀ ∨ o.isCells = true) → W'.heap[k]? = some o
section
variable {n₀ : Nat} {S : List Nat} {A B C W W' : World}
theorem KeptC.refl : KeptC n₀ S W W := ⟨Nat.le_refl _, fun _ _ h _ _ => h⟩
theorem KeptC.trans (h : KeptC n₀ S A B) (k : KeptC n₀ S B C) : KeptC n₀ S A C :=
  ⟨Nat.le_trans h.1 k.1, fun i o hi hs ho => k.2 i o (h.2 i o hi hs ho) hs ho⟩
theorem KeptC.of_kept (h : Kept S A B) : KeptC n₀ S A B :=
  ⟨h.size, fun i _ hi hs _ => (h.block i (Array.getElem?_eq_some_iff.1 hi).1 hs).trans hi⟩
theorem KeptC.put {w : World} (hn : n₀ ≤ w.heap.size) (W : World) (l : Nat) (o o' : Obj) (hl : w.heap.size ≤ l) (h : W.heap[l]? = some o) (hc : o.isCells = false) (_ : o.isWalk = false) : KeptC n₀ S W (W.putObj l o') :=
  ⟨by simp, fun k o2 hk hs ho => (World.putObj_heap_other (fun e => by
    subst e
    rw [h] at hk; cases hk
    rcases ho with ho | ho
    · omega
    · rw [hc] at ho; cases ho)).trans hk⟩
theorem KeptC.row {g : Nat} {t : TypeId} {vs : List Value} (h : KeptC n₀ S W W') (hr : Row W g t vs) (hs : g ∉ S) : Row W' g t vs := h.2 g _ hr hs (.inr rfl)
theorem KeptC.block (h : KeptC n₀ S W W') {k : Nat} (hk : k < W.heap.size) (hn : k < n₀) (hs : k ∉ S) : W'.heap[k]? = W.heap[k]? := by
  rw [Array.getElem?_eq_getElem hk]
  exact h.2 k _ (Array.getElem?_eq_getElem hk) hs (.inl hn)
end

/-- What the closure stands on: yield's box, its own, the map's, the map and its slices. -/
structure Env (n₀ : Nat) (S : List Nat) (l Y H K lo hi b : Nat) (rs : List Rw) (W : World) : Prop where
  y : Row W Y 51 [.func (.yield l) #[] #[]]
  h : Row W H 78 [.func (.func 40) #[] #[.pointer (some ⟨Y, 0, none⟩), .pointer (some ⟨H, 0, none⟩), .pointer (some ⟨K, 0, none⟩)]]
  k : Row W K 76 [.map (some b)]
  kids : IsKids W lo hi b rs
  ny : Y ∉ S
  nh : H ∉ S
  nk : K ∉ S
  ns : ∀ s ∈ S, s < lo ∨ hi ≤ s
  hn : hi ≤ n₀
theorem Env.kept {n₀ : Nat} {S : List Nat} {l Y H K lo hi b : Nat} {rs : List Rw} {W W' : World} (h : Env n₀ S l Y H K lo hi b rs W) (hk : KeptC n₀ S W W') : Env n₀ S l Y H K lo hi b rs W' :=
  ⟨hk.row h.y h.ny, hk.row h.h h.nh, hk.row h.k h.nk, h.kids.same hk.1 (fun k h1 h2 => hk.block (by have := h.kids.size; omega) (by have := h.hn; omega) (fun hs => by have := h.ns k hs; omega)), h.ny, h.nh, h.nk, h.ns, h.hn⟩

/-- The slice that reads as the kids of z, in the blocks from lo to hi. -/
def KidSl (lo hi : Nat) (W : World) (a : Option Addr) (xs : List Int) : Prop :=
  xs = [] ∨ ∃ gg, a = some ⟨gg, 0, none⟩ ∧ lo ≤ gg ∧ gg < hi ∧ ∀ j, j < xs.length → W.cell? ⟨gg, j, none⟩ = some (.int .i64 (xs[j]?.getD 0))

theorem IsKids.look {w : World} {lo hi b : Nat} {rs : List Rw} (h : IsKids w lo hi b rs) {z : Int} (hz : Fit64 z) :
    ∃ a c, (Instr.lookup 76 (.map (some b)) (.int .i64 z) false).run Tryd.prog w = .ok (.slice a (kidsB rs z).length c) w ∧ KidSl lo hi w a (kidsB rs z) := by
  obtain ⟨⟨n, hd, hV, hs⟩, _⟩ := h
  obtain ⟨a, c, e, h⟩ := hs z
  exact ⟨a, c, by rw [hV.look hz, e], h⟩

/-- How the closure ends: all below z have come, or a round has said 'no more'. -/
def HandPost (n₀ : Nat) (S : List Nat) (rs : List Rw) (J Jx : List I64 → World → Prop) (pre : List I64) (z : Int) (W : World) (e : Ending) (W' : World) : Prop :=
  (e = .returned (.tuple #[.slice none 0 0, .bool true]) ∧ ∃ ws, raw ws = walkB rs z ∧ J (pre ++ ws) W' ∧ KeptC n₀ S W W') ∨
  (e = .returned (.tuple #[.slice none 0 0, .bool false]) ∧ ∃ q t, raw q ++ t = walkB rs z ∧ Jx (pre ++ q) W')

/-- Those below the first i kids. -/
def firstB (rs : List Rw) (z : Int) (i : Nat) : List Int := ((kidsB rs z).take i).flatMap fun x => x :: walkB rs x
theorem firstB_succ {rs : List Rw} {z : Int} {i : Nat} (hi : i < (kidsB rs z).length) : firstB rs z (i + 1) = firstB rs z i ++ ((kidsB rs z)[i] :: walkB rs (kidsB rs z)[i]) := by
  unfold firstB
  rw [List.take_succ_eq_append_getElem hi, List.flatMap_append]; simp
theorem firstB_all {k : Nat} {rs : List Rw} (hf : Fine k rs) (hk : k < 1000) (z : Int) : firstB rs z (kidsB rs z).length = walkB rs z := by
  unfold firstB; rw [List.take_length, ← hf.walk hk]
theorem firstB_pre {k : Nat} {rs : List Rw} (hf : Fine k rs) (hk : k < 1000) (z : Int) (i : Nat) : ∃ t, firstB rs z i ++ t = walkB rs z := by
  refine ⟨((kidsB rs z).drop i).flatMap fun x => x :: walkB rs x, ?_⟩
  unfold firstB
  rw [← List.flatMap_append, List.take_append_drop, ← hf.walk hk]

theorem firstB_len {k : Nat} {rs : List Rw} (hf : Fine k rs) (hk : k < 1000) {z : Int} {i : Nat} (hi : i < (kidsB rs z).length) : (firstB rs z i).length + 1 + (walkB rs (kidsB rs z)[i]).length ≤ (walkB rs z).length := by
  obtain ⟨t, ht⟩ := firstB_pre hf hk z (i + 1)
  have := congrArg List.length ht
  rw [firstB_succ hi] at this
  simp at this; omega
theorem lt_of_cell {W : World} {g j : Nat} {v : Value} (h : W.cell? ⟨g, j, none⟩ = some v) : g < W.heap.size := by
  obtain ⟨o, ho, _⟩ := cells_of_cell h
  exact (Array.getElem?_eq_some_iff.1 ho).1

set_option maxRecDepth 100000 in
set_option maxHeartbeats 4000000 in
theorem hand_in {k : Nat} {rs : List Rw} (hf : Fine k rs) (hk : k < 1000) (hfit : ∀ r ∈ rs, Fit64 r.1 ∧ Fit64 r.2) (d : Int → Nat) (hdp : ∀ r ∈ rs, d r.2 < d r.1 ∧ d r.1 ≤ k)
    (n₀ : Nat) (S : List Nat) (l Y H K lo hi b N : Nat) (J Jx : List I64 → World → Prop)
    (hY : ∀ m pre x W, J pre W → pre.length < N → YieldAt Fence.wide m Tryd.prog l #[.int .i64 x.1] W fun e W' =>
      (e = .returned (.bool true) ∧ J (pre ++ [x]) W' ∧ KeptC n₀ S W W') ∨ (e = .returned (.bool false) ∧ Jx (pre ++ [x]) W')) (z : Int) :
    ∀ (n : Nat) (pre : List I64) (L : Int) (a : Option Addr) (c : Nat) (W : World), Env n₀ S l Y H K lo hi b rs W → KidSl lo hi W a (kidsB rs z) → J pre W → pre.length + (walkB rs z).length ≤ N → 0 ≤ L → (k : Int) < L + d z → L ≤ 1000 →
      CallsIn Fence.wide n Tryd.prog 40 #[.slice a (kidsB rs z).length c, .int .i64 L, .pointer (some ⟨Y, 0, none⟩), .pointer (some ⟨H, 0, none⟩), .pointer (some ⟨K, 0, none⟩)] W (HandPost n₀ S rs J Jx pre z W) := by
  refine hf.ind (P := fun z => ∀ (n : Nat) (pre : List I64) (L : Int) (a : Option Addr) (c : Nat) (W : World), Env n₀ S l Y H K lo hi b rs W → KidSl lo hi W a (kidsB rs z) → J pre W → pre.length + (walkB rs z).length ≤ N → 0 ≤ L → (k : Int) < L + d z → L ≤ 1000 →
      CallsIn Fence.wide n Tryd.prog 40 #[.slice a (kidsB rs z).length c, .int .i64 L, .pointer (some ⟨Y, 0, none⟩), .pointer (some ⟨H, 0, none⟩), .pointer (some ⟨K, 0, none⟩)] W (HandPost n₀ S rs J Jx pre z W)) ?_ z
  intro z ih n pre L a c W hE hsl hJ hN hL0 hL hL1
  have hdd : ∀ k : Nat, ((Fence.wide).depth.isSome = true → 1 ≤ k) := fun k h => by cases h
  have hkl := kids_len rs z
  have hrl := hf.len
  refine callsIn_of_wp Tryd.func40 rfl trivial ?_ rfl
  simp only [Tryd.ntmps40, List.size_toArray, List.length_cons, List.length_nil, Nat.reduceAdd, Nat.reduceSub, Array.replicate_succ, Array.replicate_zero, List.push_toArray, List.append_toArray, List.nil_append, List.cons_append]
  by_cases hz0 : L = 0
  · -- no levels are left: there are no kids
    have hkn : kidsB rs z = [] := List.eq_nil_iff_forall_not_mem.2 (fun x hx => by have := hdp _ (mem_kids.1 hx); simp at this; omega)
    have hw0 : walkB rs z = [] := by rw [hf.walk hk z, hkn]; rfl
    have HK := Lib.hid hw0
    rw [hkn]
    subst hz0
    clear hkn hw0 hkl
    gi_wp2
    refine wpIn_loop_rounds 1 ?_
    rw [roundsIn_succ]
    gi_wp2
    go_ret2
    exact .inl ⟨rfl, [], by rw [HK.out]; rfl, by simpa using hJ, KeptC.refl⟩
  · have hz0' : decide (L = 0) = false := by simpa using hz0
    have HZ := Lib.hid hz0
    gi_wp2
    gi_loopw [24] (fun v wr => ∃ (i : Nat) (ws : List I64), v = .int .i64 i ∧ i ≤ (kidsB rs z).length ∧ raw ws = firstB rs z i ∧ J (pre ++ ws) wr ∧ KeptC n₀ S W wr) (fun v _ => (kidsB rs z).length - (intOf v).toNat)
    case atStart => exact ⟨0, [], rfl, Nat.zero_le _, by simp [raw, firstB], by simpa using hJ, KeptC.refl⟩
    case round =>
      obtain ⟨i, ws, rfl, hil, hws, hJw, hkw⟩ := hrel
      have hEw := hE.kept hkw
      have HWS := Lib.hid hws
      by_cases hlt : i < (kidsB rs z).length
      · obtain ⟨x, hx⟩ : ∃ x, (kidsB rs z)[i] = x := ⟨_, rfl⟩
        have hxm : x ∈ kidsB rs z := hx ▸ List.getElem_mem _
        have hxr := mem_kids.1 hxm
        have hxf : Fit64 x := (hfit _ hxr).1
        have hdx := hdp _ hxr
        simp only at hdx
        have hlen := firstB_len hf hk hlt
        rw [hx] at hlen
        have hwl : ws.length = (firstB rs z i).length := by rw [← hws]; simp [raw]
        have HSU := Lib.hid (firstB_succ (rs := rs) (z := z) hlt)
        rw [hx] at HSU
        rcases hsl with hnil | ⟨gg, rfl, hlo, hhi, hcell⟩
        · rw [hnil] at hlt; simp at hlt
        have ci : wr.cell? ⟨gg, i, none⟩ = some (.int .i64 x) := by
          have h1 := hcell i hlt
          rw [List.getElem?_eq_getElem hlt, hx] at h1
          exact (World.cell?_of_block (w := W) (a := ⟨gg, i, none⟩) (hkw.block (k := gg) (lt_of_cell h1) (by have := hE.hn; omega) (fun hs => by have := hE.ns gg hs; omega))).trans h1
        have cY : wr.cell? ⟨Y, 0, none⟩ = some (.func (.yield l) #[] #[]) := by simpa using hEw.y.cell 0
        have hlN : (pre ++ ws).length < N := by simp; omega
        obtain ⟨fn, tmps, assign, body, hy, hR⟩ := hY (n - 1) (pre ++ ws) ⟨x, hxf⟩ wr hJw hlN
        dsimp only at hy
        have HLEN := Lib.hid (show (pre ++ ws ++ [(⟨x, hxf⟩ : I64)]).length + (walkB rs x).length ≤ N by simp; omega)
        obtain ⟨t2, ht2⟩ := firstB_pre hf hk z (i + 1)
        rw [HSU.out] at ht2
        have HT := Lib.hid ht2
        clear hws hx hwl hlen hJw hY ht2
        gi_wp2
        refine ⟨hdd _, hR.mono ?_⟩
        clear hR
        rintro e W3 (⟨rfl, hJ3, hk3⟩ | ⟨rfl, hx3⟩)
        · have hE3 := hEw.kept hk3
          have cH : W3.cell? ⟨H, 0, none⟩ = some (.func (.func 40) #[] #[.pointer (some ⟨Y, 0, none⟩), .pointer (some ⟨H, 0, none⟩), .pointer (some ⟨K, 0, none⟩)]) := by simpa using hE3.h.cell 0
          have cK : W3.cell? ⟨K, 0, none⟩ = some (.map (some b)) := by simpa using hE3.k.cell 0
          obtain ⟨a', c', hlook, hsl'⟩ := hE3.kids.look hxf
          gi_wp2
          refine ⟨trivial, hdd _, (ih x hxm (n - 1) (pre ++ ws ++ [⟨x, hxf⟩]) (L - 1) a' c' W3 hE3 hsl' hJ3 HLEN.out (by omega) (by omega) (by omega)).mono ?_⟩
          rintro e W4 (⟨rfl, vs, hvs, hJ4, hk4⟩ | ⟨rfl, q, t, hqt, hx4⟩)
          · gi_wp2
            go_roundw
            case rel =>
              exact ⟨i + 1, ws ++ [⟨x, hxf⟩] ++ vs, by simp, by omega, by rw [raw_append, raw_append, raw_one, HWS.out, hvs, HSU.out]; simp, by simpa [List.append_assoc] using hJ4, hkw.trans (hk3.trans hk4)⟩
            case measure => simp [intOf]; omega
          · gi_wp2
            go_ret2
            exact .inr ⟨rfl, ws ++ [⟨x, hxf⟩] ++ q, t ++ t2, by rw [← HT.out, raw_append, raw_append, raw_one, HWS.out, ← hqt]; simp [List.append_assoc], by simpa [List.append_assoc] using hx4⟩
        · gi_wp2
          go_ret2
          exact .inr ⟨rfl, ws ++ [⟨x, hxf⟩], walkB rs x ++ t2, by rw [← HT.out, raw_append, raw_one, HWS.out]; simp [List.append_assoc], by simpa [List.append_assoc] using hx3⟩
      · obtain rfl : i = (kidsB rs z).length := by omega
        gi_wp2
        go_ret2
        exact .inl ⟨rfl, ws, by rw [HWS.out, firstB_all hf hk], hJw, hkw⟩
end Go.Proofs.YtnhdikoigpmnkaaDoor
