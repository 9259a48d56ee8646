/- Package arena: how an arena lies; New, taken: the runs that it took, handed on one by one. -/
import Derived.Test.YtenhelbmcapfkaaArenaPlain
import Derived.Test.YtenhelbmcapfkaaPlan
import Derived.Test.YtenhelbmcapfkaaRunsIn
import Derived.Test.YtenhelbmcapfkaaSeq
namespace Go.Proofs.Ytenhelbmcapfkaa
open Go.RowKit Go.Shelf

attribute [local go_sem] Oper.semAt_some
attribute [local simp] wide_fn
attribute [local go_sem] wide_fn

/-- An arena and where it lies: its own block, its plan's, its two slices. -/
structure AD extends ArN where
  B : Nat
  PB : Nat
  vr : Value
  vt : Value
/-- The arena's blocks. -/
def AD.foot (d : AD) : List Nat := d.B :: d.PB :: (d.vr.ownBlock.toList ++ d.vt.ownBlock.toList)
theorem AD.mem_foot {d : AD} {k : Nat} : k ∈ d.foot ↔ k = d.B ∨ k = d.PB ∨ d.vr.ownBlock = some k ∨ d.vt.ownBlock = some k := by
  simp [AD.foot]
/-- Block d.B is an arena whose pages come from fr. -/
structure IsArena (w : World) (fr : Option Addr) (d : AD) : Prop where
  box : Row w d.B 81 [.pointer fr, .pointer (some ⟨d.PB, 0, none⟩), d.vr, d.vt]
  plan : IsPlan w d.PB d.x
  ok : d.x.ok
  runs : OwnR w 0 d.vr d.rs
  things : OwnR w 0 d.vt d.ts
  ne : d.B ≠ d.PB
  apartR : ∀ j, d.vr.ownBlock = some j → j ≠ d.B ∧ j ≠ d.PB
  apartT : ∀ j, d.vt.ownBlock = some j → j ≠ d.B ∧ j ≠ d.PB ∧ d.vr.ownBlock ≠ some j
section
variable {w w' : World} {fr : Option Addr} {d : AD}
theorem IsArena.keptS {S : List Nat} (h : IsArena w fr d) (hk : Kept S w w') (hn : ∀ k ∈ d.foot, k ∉ S) : IsArena w' fr d :=
  ⟨h.box.kept hk (hn _ (by simp [AD.foot])), h.plan.kept hk (hn _ (by simp [AD.foot])), h.ok, h.runs.keptS hk (fun j hj => hn j (AD.mem_foot.2 (.inr (.inr (.inl hj))))), h.things.keptS hk (fun j hj => hn j (AD.mem_foot.2 (.inr (.inr (.inr hj))))), h.ne, h.apartR, h.apartT⟩
theorem IsArena.kept (h : IsArena w fr d) (hk : Kept [] w w') : IsArena w' fr d := h.keptS hk (by simp)
theorem IsArena.lt (h : IsArena w fr d) : ∀ k ∈ d.foot, k < w.heap.size := by
  intro k hk
  rcases AD.mem_foot.1 hk with rfl | rfl | hk | hk
  · exact h.box.lt
  · exact h.plan.lt
  · obtain ⟨_, o, ho, _⟩ := own_block h.runs k hk; exact lt_of_block ho
  · obtain ⟨_, o, ho, _⟩ := own_block h.things k hk; exact lt_of_block ho
theorem IsArena.cell0 (h : IsArena w fr d) : w.cell? ⟨d.B, 0, none⟩ = some (.pointer fr) := by simpa using h.box.cell 0
theorem IsArena.cell1 (h : IsArena w fr d) : w.cell? ⟨d.B, 1, none⟩ = some (.pointer (some ⟨d.PB, 0, none⟩)) := by simpa using h.box.cell 1
theorem IsArena.cell2 (h : IsArena w fr d) : w.cell? ⟨d.B, 2, none⟩ = some d.vr := by simpa using h.box.cell 2
theorem IsArena.cell3 (h : IsArena w fr d) : w.cell? ⟨d.B, 3, none⟩ = some d.vt := by simpa using h.box.cell 3
end

/-- What New leaves. -/
def NewArena (fr : Option Addr) (w : World) (e : Ending) (w' : World) : Prop :=
  ∃ d : AD, e = .returned (.pointer (some ⟨d.B, 0, none⟩)) ∧ d.toArN = ⟨⟨0, 0⟩, [], []⟩ ∧ IsArena w' fr d ∧ (∀ k ∈ d.foot, w.heap.size ≤ k) ∧ d.vr = .slice none 0 0 ∧ d.vt = .slice none 0 0 ∧ Kept [] w w'
set_option maxHeartbeats 1000000 in
theorem arenaNew_any (fr : Option Addr) (w : World) : Calls Try.prog 10 #[.pointer fr] w (NewArena fr w) := by
  go_enter Try.func10, Try.ntmps10
  go_wp2_with fail
  refine (planNew_any w).mono ?_
  rintro e w1 ⟨PB, rfl, hP, hp, k1⟩
  go_wp2
  go_ret
  have hk := (Kept.refl [] w1).alloc (.cells #[.pointer fr, .pointer (some ⟨PB, 0, none⟩), .slice none 0 0, .slice none 0 0] 81)
  have hl := hp.lt
  have hz := k1.size
  refine ⟨⟨⟨⟨0, 0⟩, [], []⟩, w1.heap.size, PB, .slice none 0 0, .slice none 0 0⟩, rfl, rfl, ⟨Row.new w1 _ _, hp.kept hk (by simp), Pl.ok0, OwnR.nil _ _, OwnR.nil _ _, by simp only; omega, by simp [Value.ownBlock], by simp [Value.ownBlock]⟩, ?_, rfl, rfl, k1.trans hk⟩
  intro k hkf
  rcases AD.mem_foot.1 hkf with rfl | rfl | h | h
  · exact hz
  · exact hP
  · simp [Value.ownBlock] at h
  · simp [Value.ownBlock] at h

/-- A run as it is handed on. -/
abbrev RunB := { r : RunN // r.1 ≤ 1024 ∧ r.2 ≤ 1024 }
def runL (l : List RunB) : List RunN := l.map (·.1)
theorem runL_append (a b : List RunB) : runL (a ++ b) = runL a ++ runL b := List.map_append
theorem runL_one (x : RunB) : runL [x] = [x.1] := rfl
theorem runL_len (l : List RunB) : (runL l).length = l.length := List.length_map _
def encR (r : RunB) : Value := .agg #[.int .i64 r.1.1, .int .i64 r.1.2]

theorem taken_in (F : Fence) (n : Nat) (h : F.fn 34) (hro : F.round = none) (B : Nat) (w : World) :
    CallsIn F n Try.prog 34 #[.pointer (some ⟨B, 0, none⟩)] w fun e w' => e = .returned (.func (.func 51) #[] #[.pointer (some ⟨w.heap.size, 0, none⟩)]) ∧
      w' = w.alloc (.cells #[.pointer (some ⟨B, 0, none⟩)] 32) := by
  refine callsIn_of_wp Try.func34 rfl h ?_ hro
  simp only [Try.ntmps34, List.size_toArray, List.length_cons, List.length_nil, Nat.reduceAdd, Nat.reduceSub, Array.replicate_succ, Array.replicate_zero, List.push_toArray, List.append_toArray, List.nil_append, List.cons_append]
  gi_wp2
  go_ret
  exact ⟨rfl, rfl⟩

/-- The arena's blocks that the walk over its runs reads. -/
def AD.road (d : AD) (S : Nat) : List Nat := S :: d.B :: d.vr.ownBlock.toList
theorem KeepsL.slr {L : List Nat} {W W' : World} {a : Option Addr} {rs : List RunN} (h : KeepsL L W W') (hs : SlR W a rs) (hl : ∀ b off, a = some ⟨b, off, none⟩ → b ∈ L) : SlR W' a rs := by
  rcases hs with hs | ⟨b, off, rfl, hb, hc⟩
  · exact .inl hs
  · have hb2 := h b (hl b off rfl)
    have hlt : b < W'.heap.size := by
      rw [Array.getElem?_eq_getElem hb] at hb2
      exact (Array.getElem?_eq_some_iff.1 hb2).1
    have e : ∀ o, W'.cell? ⟨b, o, none⟩ = W.cell? ⟨b, o, none⟩ := fun o => World.cell?_of_block (w := W) (a := ⟨b, o, none⟩) hb2
    exact .inr ⟨b, off, rfl, hlt, fun j r hr => by simp only [e]; exact hc j r hr⟩

theorem KeepsL.alloc {L : List Nat} {W W' : World} (h : KeepsL L W W') (hL : ∀ k ∈ L, k < W.heap.size) (o : Obj) : KeepsL L W (W'.alloc o) := fun k hk => by
  have h1 := h k hk
  have hlt : k < W'.heap.size := by
    rw [Array.getElem?_eq_getElem (hL k hk)] at h1
    exact (Array.getElem?_eq_some_iff.1 h1).1
  exact (Below.heap_alloc W' o k hlt).trans h1
theorem grown_alloc (W : World) (o : Obj) : W.grownBy (W.alloc o) none := by
  have h := (Kept.refl [] W).alloc o
  exact ⟨h.os, h.tape, h.output, h.size, fun k hk _ => h.block k hk (by simp)⟩

set_option maxRecDepth 100000 in
set_option maxHeartbeats 2000000 in
theorem taken1_in (n : Nat) (l S : Nat) (fr : Option Addr) (d : AD) (hrs : ∀ r ∈ d.rs, r.1 ≤ 1024 ∧ r.2 ≤ 1024)
    (J Jx : List RunB → World → Prop) (W : World) (hJ : AbidesFrom W.heap.size J)
    (hY : ∀ pre x W, J pre W → pre.length < d.rs.length → YieldAt Fence.wide (n - 1) Try.prog l #[encR x] W fun e W' =>
      (e = .returned (.bool true) ∧ J (pre ++ [x]) W' ∧ KeepsL (d.road S) W W') ∨ (e = .returned (.bool false) ∧ Jx (pre ++ [x]) W'))
    (hS : Row W S 32 [.pointer (some ⟨d.B, 0, none⟩)]) (hs : IsArena W fr d) (hl : d.rs.length ≤ 1099511627776) (hJ0 : J [] W) :
    CallsIn Fence.wide n Try.prog 51 #[.func (.yield l) #[] #[], .pointer (some ⟨S, 0, none⟩)] W fun e W' => (∃ v, e = .returned v) ∧
      ((∃ ys, runL ys = d.rs ∧ J ys W') ∨ (∃ pre, (∃ t, runL pre ++ t = d.rs) ∧ Jx pre W')) := by
  have hdd : ∀ k : Nat, ((Fence.wide).depth.isSome = true → 1 ≤ k) := fun k h => by cases h
  have cS : W.cell? ⟨S, 0, none⟩ = some (.pointer (some ⟨d.B, 0, none⟩)) := by simpa using hS.cell 0
  obtain ⟨a, cap, hv, hsl, _⟩ := hs.runs.slice
  have cB : W.cell? ⟨d.B, 2, none⟩ = some (.slice a d.rs.length cap) := by rw [← hv]; exact hs.cell2
  have hroad : ∀ b off, a = some ⟨b, off, none⟩ → b ∈ d.road S := by
    intro b off hb
    subst hb
    rcases hs.runs.2 with ⟨h', _⟩ | ⟨g', cap', cur, h', _⟩
    · rw [hv] at h'; cases h'
    · rw [hv] at h'
      simp only [Value.slice.injEq, Option.some.injEq, Addr.mk.injEq, and_true] at h'
      obtain ⟨⟨rfl, rfl⟩, _, _⟩ := h'
      simp [AD.road, hv, Value.ownBlock]
  have hLW : ∀ k ∈ d.road S, k < W.heap.size := by
    intro k hk
    rcases List.mem_cons.1 hk with rfl | hk
    · exact hS.lt
    · rcases List.mem_cons.1 hk with rfl | hk
      · exact hs.box.lt
      · exact hs.lt k (AD.mem_foot.2 (.inr (.inr (.inl (Option.mem_toList.1 hk)))))
  generalize d.road S = L at hY hroad hLW ⊢
  generalize d.rs = rs at hrs hY hl hsl cB ⊢
  generalize d.B = B at cS cB ⊢
  clear hv hs
  refine callsIn_of_wp Try.func51 rfl trivial ?_ rfl
  simp only [Try.ntmps51, List.size_toArray, List.length_cons, List.length_nil, Nat.reduceAdd, Nat.reduceSub, Array.replicate_succ, Array.replicate_zero, List.push_toArray, List.append_toArray, List.nil_append, List.cons_append]
  gi_wp2
  gi_loopw [10] (fun i wr => ∃ (j : Nat) (ys : List RunB), j ≤ rs.length ∧ i = .int .i64 j ∧ Hid (runL ys = rs.take j) ∧ J ys wr ∧ KeepsL L W wr)
    (fun i _ => rs.length - (intOf i).toNat)
  case atStart => exact ⟨0, [], Nat.zero_le _, rfl, by show _ = _; simp [runL], hJ0, KeepsL.refl⟩
  case round =>
    obtain ⟨j, ys, hj, rfl, HP, hJs, hk⟩ := hrel
    by_cases hlt : j < rs.length
    · obtain ⟨b, off, rfl, _, c0, c1⟩ := (hk.slr hsl hroad).cell hlt
      have hb := hrs rs[j] (List.getElem_mem hlt)
      have HT := Lib.hid (List.take_append_getElem hlt)
      have hlen : ys.length < rs.length := by
        have := congrArg List.length HP.out
        rw [runL_len, List.length_take] at this; omega
      obtain ⟨⟨r1, r2⟩, hr⟩ : ∃ r, rs[j] = r := ⟨_, rfl⟩
      rw [hr] at c0 c1 hb HT
      simp only at c0 c1 hb
      have h1 : (j : Int) < (rs.length : Int) := by omega
      obtain ⟨fn, tmps, assign, body, hy, hR⟩ := hY ys ⟨(r1, r2), hb⟩ (wr.alloc (.cells #[.int .i64 r1, .int .i64 r2] 63)) (hJ ys wr _ none hJs (grown_alloc _ _) (fun r e => by cases e)) hlen
      dsimp only [encR] at hy
      clear hr
      gi_wp2_with fail
      refine ⟨hdd _, hR.mono ?_⟩
      rintro e W3 (⟨rfl, hJ3, hk3⟩ | ⟨rfl, hJx3⟩)
      · gi_wp2
        go_roundw
        case rel => exact ⟨j + 1, ys ++ [⟨(r1, r2), hb⟩], by omega, by go_num, by show _ = _; rw [runL_append, runL_one]; exact (congrArg (· ++ _) HP.out).trans HT.out, hJ3, (hk.alloc hLW _).trans hk3⟩
        case measure => simp [intOf]; omega
      · gi_wp2
        refine bodyPost_ret (results_none rfl _ _ _) rfl ?_
        exact ⟨⟨_, rfl⟩, .inr ⟨_, ⟨rs.drop (j + 1), by rw [runL_append, runL_one]; exact (congrArg (· ++ _) ((congrArg (· ++ _) HP.out).trans HT.out)).trans (List.take_append_drop _ _)⟩, hJx3⟩⟩
    · obtain rfl : j = rs.length := by omega
      gi_wp2
      go_end0
      exact ⟨⟨_, rfl⟩, .inl ⟨ys, by have := HP.out; rwa [List.take_length] at this, hJs⟩⟩

/-- The runs, handed on: all of them; or the first ones. -/
theorem taken1_stops (n S : Nat) (fr : Option Addr) (d : AD) (hrs : ∀ r ∈ d.rs, r.1 ≤ 1024 ∧ r.2 ≤ 1024) (hl : d.rs.length ≤ 1099511627776) (w : World)
    (hS : Row w S 32 [.pointer (some ⟨d.B, 0, none⟩)]) (hs : IsArena w fr d) :
    SeqStopsK Fence.wide n Try.prog 51 #[.pointer (some ⟨S, 0, none⟩)] (fun x : RunB => #[encR x]) (KeepsL (d.road S)) (fun ys => runL ys = d.rs) (fun pre => ∃ t, runL pre ++ t = d.rs) d.rs.length w := by
  intro l J Jx W hW hJ _ hY h0
  have hk : Kept [] w W := Kept.of_below hW
  exact taken1_in n l S fr d hrs J Jx W hJ hY (hS.kept hk (by simp)) (hs.kept hk) hl h0
end Go.Proofs.Ytenhelbmcapfkaa
