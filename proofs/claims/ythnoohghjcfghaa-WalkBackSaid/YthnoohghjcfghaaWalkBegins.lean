/- Package walk: begins (what is handed on of things, one by one). -/
import Derived.Test.YthnoohghjcfghaaWalkPlain
import Derived.Test.YthnoohghjcfghaaSeq
namespace Go.Proofs.Ythnoohghjcfghaa
open Go.RowKit Go.Shelf

attribute [local go_sem] Oper.semAt_some

/-- A thing as it is handed on. -/
abbrev RunW := { r : RunZ // -9223372036854775808 ≤ r.1 ∧ r.1 ≤ 9223372036854775807 }
def runW (l : List RunW) : List RunZ := l.map (·.1)
theorem runW_append (a b : List RunW) : runW (a ++ b) = runW a ++ runW b := List.map_append
theorem runW_one (x : RunW) : runW [x] = [x.1] := rfl
theorem runW_len (l : List RunW) : (runW l).length = l.length := List.length_map _
def encAt (r : RunW) : Value := .int .i64 (wrap64 (r.1.1 + 1))
def encN (r : RunW) : Value := .int .i64 r.1.2

/-- The blocks that the walk over things reads. -/
def roadZ (S : Nat) (a : Option Addr) (rs : List RunZ) : List Nat := S :: (if rs.length = 0 then [] else (a.map Addr.block).toList)
theorem KeepsL.slS {W W' : World} {S : Nat} {a : Option Addr} {rs : List RunZ} (h : KeepsL (roadZ S a rs) W W') (hs : SlS cellsZ 2 W a rs) : SlS cellsZ 2 W' a rs := by
  by_cases h0 : rs.length = 0
  · exact .inl (List.eq_nil_of_length_eq_zero h0)
  · rcases hs with hs | ⟨b, off, rfl, hb, hc⟩
    · rw [hs] at h0; simp at h0
    · have hb2 := h b (by simp [roadZ, h0])
      have hlt : b < W'.heap.size := by
        rw [Array.getElem?_eq_getElem hb] at hb2
        exact (Array.getElem?_eq_some_iff.1 hb2).1
      have e : ∀ o, W'.cell? ⟨b, o, none⟩ = W.cell? ⟨b, o, none⟩ := fun o => World.cell?_of_block (w := W) (a := ⟨b, o, none⟩) hb2
      exact .inr ⟨b, off, rfl, hlt, fun j r hr i hi => by simp only [e]; exact hc j r hr i hi⟩
theorem roadZ_lt {W : World} {S : Nat} {a : Option Addr} {rs : List RunZ} (hS : S < W.heap.size) (hs : SlS cellsZ 2 W a rs) : ∀ k ∈ roadZ S a rs, k < W.heap.size := by
  intro k hk
  rcases List.mem_cons.1 hk with rfl | hk
  · exact hS
  · split at hk
    · simp at hk
    · rename_i h0
      rcases hs with hs | ⟨b, off, rfl, hb, _⟩
      · rw [hs] at h0; simp at h0
      · simp at hk
        subst hk; exact hb
theorem KeepsL.allocZ {L : List Nat} {W W' : World} (h : KeepsL L W W') (hL : ∀ k ∈ L, k < W.heap.size) (o : Obj) : KeepsL L W (W'.alloc o) := fun k hk => by
  have h1 := h k hk
  have hlt : k < W'.heap.size := by
    rw [Array.getElem?_eq_getElem (hL k hk)] at h1
    exact (Array.getElem?_eq_some_iff.1 h1).1
  exact (Below.heap_alloc W' o k hlt).trans h1
theorem grown_allocZ (W : World) (o : Obj) : W.grownBy (W.alloc o) none := by
  have h := (Kept.refl [] W).alloc o
  exact ⟨h.os, h.tape, h.output, h.size, fun k hk _ => h.block k hk (by simp)⟩

theorem begins_in (F : Fence) (n : Nat) (h : F.fn 30) (hro : F.round = none) (A : Option Addr) (len cap : Nat) (w : World) :
    CallsIn F n Try.prog 30 #[.slice A len cap] w fun e w' => e = .returned (.func (.func 42) #[] #[.pointer (some ⟨w.heap.size, 0, none⟩)]) ∧
      w' = w.alloc (.cells #[.slice A len cap] 24) := by
  refine callsIn_of_wp Try.func30 rfl h ?_ hro
  simp only [Try.ntmps30, List.size_toArray, List.length_cons, List.length_nil, Nat.reduceAdd, Nat.reduceSub, Array.replicate_succ, Array.replicate_zero, List.push_toArray, List.append_toArray, List.nil_append, List.cons_append]
  gi_wp2
  go_ret
  exact ⟨rfl, rfl⟩

set_option maxRecDepth 100000 in
set_option maxHeartbeats 2000000 in
theorem begins1_in (n : Nat) (l S : Nat) (a : Option Addr) (cap : Nat) (rs : List RunZ) (hrs : ∀ r ∈ rs, -9223372036854775808 ≤ r.1 ∧ r.1 ≤ 9223372036854775807)
    (J Jx : List RunW → World → Prop) (W : World) (hJ : AbidesFrom W.heap.size J)
    (hY : ∀ pre x W, J pre W → pre.length < rs.length → YieldAt Fence.wide (n - 1) Try.prog l #[encAt x, encN x] W fun e W' =>
      (e = .returned (.bool true) ∧ J (pre ++ [x]) W' ∧ KeepsL (roadZ S a rs) W W') ∨ (e = .returned (.bool false) ∧ Jx (pre ++ [x]) W'))
    (hS : Row W S 24 [.slice a rs.length cap]) (hs : SlS cellsZ 2 W a rs) (hl : rs.length ≤ 1099511627776) (hJ0 : J [] W) :
    CallsIn Fence.wide n Try.prog 42 #[.func (.yield l) #[] #[], .pointer (some ⟨S, 0, none⟩)] W fun e W' => (∃ v, e = .returned v) ∧
      ((∃ ys, runW ys = rs ∧ J ys W') ∨ (∃ pre, (∃ t, runW pre ++ t = rs) ∧ Jx pre W')) := by
  have hdd : ∀ k : Nat, ((Fence.wide).depth.isSome = true → 1 ≤ k) := fun k h => by cases h
  have cS : W.cell? ⟨S, 0, none⟩ = some (.slice a rs.length cap) := by simpa using hS.cell 0
  have hLW := roadZ_lt hS.lt hs
  have hsl := fun W' (h : KeepsL (roadZ S a rs) W W') => KeepsL.slS h hs
  obtain ⟨L, hL⟩ : ∃ L, roadZ S a rs = L := ⟨_, rfl⟩
  rw [hL] at hY hLW
  simp only [hL] at hsl
  clear hL hs hS
  refine callsIn_of_wp Try.func42 rfl trivial ?_ rfl
  simp only [Try.ntmps42, List.size_toArray, List.length_cons, List.length_nil, Nat.reduceAdd, Nat.reduceSub, Array.replicate_succ, Array.replicate_zero, List.push_toArray, List.append_toArray, List.nil_append, List.cons_append]
  gi_wp2
  gi_loopw [7] (fun i wr => ∃ (j : Nat) (ys : List RunW), j ≤ rs.length ∧ i = .int .i64 j ∧ Hid (runW ys = rs.take j) ∧ J ys wr ∧ KeepsL L W wr)
    (fun i _ => rs.length - (intOf i).toNat)
  case atStart => exact ⟨0, [], Nat.zero_le _, rfl, by show _ = _; simp [runW], hJ0, KeepsL.refl⟩
  case round =>
    obtain ⟨j, ys, hj, rfl, HP, hJs, hk⟩ := hrel
    by_cases hlt : j < rs.length
    · obtain ⟨b, off, rfl, _, cc⟩ := (hsl wr hk).cell hlt
      have c0 := cc 0 (by omega)
      have c1 := cc 1 (by omega)
      have hb := hrs rs[j] (List.getElem_mem hlt)
      have HT := Lib.hid (List.take_append_getElem hlt)
      have hlen : ys.length < rs.length := by
        have := congrArg List.length HP.out
        rw [runW_len, List.length_take] at this; omega
      obtain ⟨⟨r1, r2⟩, hr⟩ : ∃ r, rs[j] = r := ⟨_, rfl⟩
      rw [hr] at c0 c1 hb HT
      simp only [cellsZ, List.getElem?_cons_zero, List.getElem?_cons_succ, Nat.add_zero] at c0 c1 hb
      have h1 : (j : Int) < (rs.length : Int) := by omega
      obtain ⟨fn, tmps, assign, body, hy, hR⟩ := hY ys ⟨(r1, r2), hb⟩ (wr.alloc (.cells #[.int .i64 r1, .int .i64 r2] 30)) (hJ ys wr _ none hJs (grown_allocZ _ _) (fun r e => by cases e)) hlen
      dsimp only [encAt, encN] at hy hR
      clear hr cc
      gi_wp2_with fail
      refine ⟨hdd _, hR.mono ?_⟩
      rintro e W3 (⟨rfl, hJ3, hk3⟩ | ⟨rfl, hJx3⟩)
      · gi_wp2
        go_roundw
        case rel => exact ⟨j + 1, ys ++ [⟨(r1, r2), hb⟩], by omega, by go_num, by show _ = _; rw [runW_append, runW_one]; exact (congrArg (· ++ _) HP.out).trans HT.out, hJ3, (hk.allocZ hLW _).trans hk3⟩
        case measure => simp [intOf]; omega
      · gi_wp2
        refine bodyPost_ret (results_none rfl _ _ _) rfl ?_
        exact ⟨⟨_, rfl⟩, .inr ⟨_, ⟨rs.drop (j + 1), by rw [runW_append, runW_one]; exact (congrArg (· ++ _) ((congrArg (· ++ _) HP.out).trans HT.out)).trans (List.take_append_drop _ _)⟩, hJx3⟩⟩
    · obtain rfl : j = rs.length := by omega
      gi_wp2
      go_end0
      exact ⟨⟨_, rfl⟩, .inl ⟨ys, by have := HP.out; rwa [List.take_length] at this, hJs⟩⟩

/-- The things, handed on: all of them; or the first ones. -/
theorem begins1_stops (n S : Nat) (a : Option Addr) (cap : Nat) (rs : List RunZ) (hrs : ∀ r ∈ rs, -9223372036854775808 ≤ r.1 ∧ r.1 ≤ 9223372036854775807) (hl : rs.length ≤ 1099511627776) (w : World)
    (hS : Row w S 24 [.slice a rs.length cap]) (hs : SlS cellsZ 2 w a rs) :
    SeqStopsK Fence.wide n Try.prog 42 #[.pointer (some ⟨S, 0, none⟩)] (fun x : RunW => #[encAt x, encN x]) (KeepsL (roadZ S a rs)) (fun ys => runW ys = rs) (fun pre => ∃ t, runW pre ++ t = rs) rs.length w := by
  intro l J Jx W hW hJ _ hY h0
  have hk : Kept [] w W := Kept.of_below hW
  exact begins1_in n l S a cap rs hrs J Jx W hJ hY (hS.kept hk (by simp)) (hs.kept hk) hl h0
end Go.Proofs.Ythnoohghjcfghaa
