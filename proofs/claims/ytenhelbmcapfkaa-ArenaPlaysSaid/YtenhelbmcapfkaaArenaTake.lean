/- Package arena: take, Alloc, Fits. -/
import Derived.Test.YtenhelbmcapfkaaArena
import Derived.Test.YtenhelbmcapfkaaPlanPut
namespace Go.Proofs.Ytenhelbmcapfkaa
open Go.RowKit

/-- What take leaves, where pages are granted. -/
def TakePost (p rb rg mb mg : Nat) (d : AD) (xs : List Bool) (ys : List Int) (N A : Nat) (w : World) (e : Ending) (w' : World) : Prop :=
  ∃ g c, e = .returned (.tuple #[.int .i64 A, .int .i64 0]) ∧
    IsArena w' (some ⟨p, 0, none⟩) { d with vr := .slice (some ⟨g, 0, none⟩) (d.rs.length + 1) c, rs := d.rs ++ [(A, N)] } ∧
    IsPages w' p rb rg mb mg (markB xs A N true) (flB ys ((A : Int) * 16) ((N : Int) * 16) 0) ∧ (d.vr.ownBlock = some g ∨ w.heap.size ≤ g) ∧ Kept (rg :: mg :: d.foot) w w'

theorem IsArena.grownR {w1 w3 : World} {fr : Option Addr} {d : AD} {g c : Nat} {r : RunN} (h : IsArena w1 fr d) (hown : OwnR w3 0 (.slice (some ⟨g, 0, none⟩) (d.rs.length + 1) c) (d.rs ++ [r])) (hk : Kept d.vr.ownBlock.toList w1 w3) (hat : d.vr.ownBlock = some g ∨ w1.heap.size ≤ g) :
    IsArena (w3.setCell ⟨d.B, 2, none⟩ (.slice (some ⟨g, 0, none⟩) (d.rs.length + 1) c)) fr { d with vr := .slice (some ⟨g, 0, none⟩) (d.rs.length + 1) c, rs := d.rs ++ [r] } ∧ Kept d.foot w1 (w3.setCell ⟨d.B, 2, none⟩ (.slice (some ⟨g, 0, none⟩) (d.rs.length + 1) c)) := by
  have hlt := h.lt
  have hB : d.B ∉ d.vr.ownBlock.toList := fun hm => (h.apartR _ (Option.mem_toList.1 hm)).1 rfl
  have hP : d.PB ∉ d.vr.ownBlock.toList := fun hm => (h.apartR _ (Option.mem_toList.1 hm)).2 rfl
  have hT : ∀ j, d.vt.ownBlock = some j → j ∉ d.vr.ownBlock.toList := fun j hj hm => (h.apartT _ hj).2.2 (Option.mem_toList.1 hm)
  have gB : g ≠ d.B ∧ g ≠ d.PB ∧ ∀ j, d.vt.ownBlock = some j → j ≠ g := by
    rcases hat with h' | h'
    · exact ⟨(h.apartR _ h').1, (h.apartR _ h').2, fun j hj e => (h.apartT _ hj).2.2 (by rw [e]; exact h')⟩
    · have l1 := hlt d.B (by simp [AD.foot])
      have l2 := hlt d.PB (by simp [AD.foot])
      exact ⟨by omega, by omega, fun j hj e => by have := hlt j (AD.mem_foot.2 (.inr (.inr (.inr hj)))); omega⟩
  have kS := (Kept.refl [d.B] w3).set (p := ⟨d.B, 2, none⟩) (.inl (by simp)) (.slice (some ⟨g, 0, none⟩) (d.rs.length + 1) c)
  refine ⟨⟨?_, (h.plan.kept hk hP).kept kS (by simpa using h.ne.symm), h.ok, ?_, (h.things.keptS hk hT).keptS kS (fun j hj hm => (h.apartT _ hj).1 (by simpa using hm)), h.ne, ?_, ?_⟩, ?_⟩
  · simpa using (h.box.kept hk hB).set 2 (.slice (some ⟨g, 0, none⟩) (d.rs.length + 1) c)
  · have := OwnR.keptS hown kS (fun j hj hm => by simp [Value.ownBlock] at hj hm; exact gB.1 (hj.trans hm))
    exact this
  · intro j hj
    simp [Value.ownBlock] at hj
    subst hj
    exact ⟨gB.1, gB.2.1⟩
  · intro j hj
    refine ⟨(h.apartT _ hj).1, (h.apartT _ hj).2.1, fun e => ?_⟩
    simp [Value.ownBlock] at e
    exact gB.2.2 j hj e.symm
  · exact hk.chain kS (fun i hi _ => AD.mem_foot.2 (.inr (.inr (.inl (Option.mem_toList.1 hi))))) (fun i hi _ => by simp at hi; subst hi; simp [AD.foot])
theorem IsArena.grownT {w1 w3 : World} {fr : Option Addr} {d : AD} {g c : Nat} {r : RunN} (h : IsArena w1 fr d) (hown : OwnR w3 0 (.slice (some ⟨g, 0, none⟩) (d.ts.length + 1) c) (d.ts ++ [r])) (hk : Kept d.vt.ownBlock.toList w1 w3) (hat : d.vt.ownBlock = some g ∨ w1.heap.size ≤ g) :
    IsArena (w3.setCell ⟨d.B, 3, none⟩ (.slice (some ⟨g, 0, none⟩) (d.ts.length + 1) c)) fr { d with vt := .slice (some ⟨g, 0, none⟩) (d.ts.length + 1) c, ts := d.ts ++ [r] } ∧ Kept d.foot w1 (w3.setCell ⟨d.B, 3, none⟩ (.slice (some ⟨g, 0, none⟩) (d.ts.length + 1) c)) := by
  have hlt := h.lt
  have hB : d.B ∉ d.vt.ownBlock.toList := fun hm => (h.apartT _ (Option.mem_toList.1 hm)).1 rfl
  have hP : d.PB ∉ d.vt.ownBlock.toList := fun hm => (h.apartT _ (Option.mem_toList.1 hm)).2.1 rfl
  have hT : ∀ j, d.vr.ownBlock = some j → j ∉ d.vt.ownBlock.toList := fun j hj hm => (h.apartT _ (Option.mem_toList.1 hm)).2.2 hj
  have gB : g ≠ d.B ∧ g ≠ d.PB ∧ ∀ j, d.vr.ownBlock = some j → j ≠ g := by
    rcases hat with h' | h'
    · exact ⟨(h.apartT _ h').1, (h.apartT _ h').2.1, fun j hj e => (h.apartT _ h').2.2 (by rw [← e]; exact hj)⟩
    · have l1 := hlt d.B (by simp [AD.foot])
      have l2 := hlt d.PB (by simp [AD.foot])
      exact ⟨by omega, by omega, fun j hj e => by have := hlt j (AD.mem_foot.2 (.inr (.inr (.inl hj)))); omega⟩
  have kS := (Kept.refl [d.B] w3).set (p := ⟨d.B, 3, none⟩) (.inl (by simp)) (.slice (some ⟨g, 0, none⟩) (d.ts.length + 1) c)
  refine ⟨⟨?_, (h.plan.kept hk hP).kept kS (by simpa using h.ne.symm), h.ok, (h.runs.keptS hk hT).keptS kS (fun j hj hm => (h.apartR _ hj).1 (by simpa using hm)), ?_, h.ne, h.apartR, ?_⟩, ?_⟩
  · simpa using (h.box.kept hk hB).set 3 (.slice (some ⟨g, 0, none⟩) (d.ts.length + 1) c)
  · have := OwnR.keptS hown kS (fun j hj hm => by simp [Value.ownBlock] at hj hm; exact gB.1 (hj.trans hm))
    exact this
  · intro j hj
    simp [Value.ownBlock] at hj
    subst hj
    exact ⟨gB.1, gB.2.1, fun e => gB.2.2 _ e rfl⟩
  · exact hk.chain kS (fun i hi _ => AD.mem_foot.2 (.inr (.inr (.inr (Option.mem_toList.1 hi))))) (fun i hi _ => by simp at hi; subst hi; simp [AD.foot])
theorem IsArena.placed {w w' : World} {fr : Option Addr} {d : AD} {x' : Pl} (h : IsArena w fr d) (hpl : IsPlan w' d.PB x') (hok : x'.ok) (hk : Kept [d.PB] w w') : IsArena w' fr { d with x := x' } :=
  ⟨h.box.kept hk (by simpa using h.ne), hpl, hok, h.runs.keptS hk (fun j hj hm => (h.apartR _ hj).2 (by simpa using hm)), h.things.keptS hk (fun j hj hm => (h.apartT _ hj).2.1 (by simpa using hm)), h.ne, h.apartR, h.apartT⟩
theorem AD.footR {d : AD} {v : Value} {rs : List RunN} {g k : Nat} (hv : v.ownBlock = some g) (hk : k ∈ ({ d with vr := v, rs := rs } : AD).foot) : k ∈ d.foot ∨ k = g := by
  rcases AD.mem_foot.1 hk with h | h | h | h
  · exact .inl (AD.mem_foot.2 (.inl h))
  · exact .inl (AD.mem_foot.2 (.inr (.inl h)))
  · right; simp only [hv, Option.some.injEq] at h; exact h.symm
  · exact .inl (AD.mem_foot.2 (.inr (.inr (.inr h))))
theorem AD.footT {d : AD} {v : Value} {ts : List RunN} {g k : Nat} (hv : v.ownBlock = some g) (hk : k ∈ ({ d with vt := v, ts := ts } : AD).foot) : k ∈ d.foot ∨ k = g := by
  rcases AD.mem_foot.1 hk with h | h | h | h
  · exact .inl (AD.mem_foot.2 (.inl h))
  · exact .inl (AD.mem_foot.2 (.inr (.inl h)))
  · exact .inl (AD.mem_foot.2 (.inr (.inr (.inl h))))
  · right; simp only [hv, Option.some.injEq] at h; exact h.symm

/-- The arena apart from the pages. -/
def Away (d : AD) (p rb rg mb mg : Nat) : Prop := ∀ k ∈ d.foot, k ≠ p ∧ k ≠ rb ∧ k ≠ rg ∧ k ≠ mb ∧ k ≠ mg
theorem Away.keptP {d : AD} {p rb rg mb mg : Nat} {w w' : World} {xs : List Bool} {ys : List Int} (ha : Away d p rb rg mb mg) (h : IsPages w p rb rg mb mg xs ys) (hk : Kept d.foot w w') : IsPages w' p rb rg mb mg xs ys :=
  h.keptS hk (fun m => (ha _ m).1 rfl) (fun m => (ha _ m).2.1 rfl) (fun m => (ha _ m).2.2.1 rfl) (fun m => (ha _ m).2.2.2.1 rfl) (fun m => (ha _ m).2.2.2.2 rfl)
theorem Away.keptA {d : AD} {p rb rg mb mg : Nat} {w w' : World} {fr : Option Addr} (ha : Away d p rb rg mb mg) (h : IsArena w fr d) (hk : Kept [rg, mg] w w') : IsArena w' fr d :=
  h.keptS hk (fun k hkf hm => by have := ha k hkf; simp at hm; omega)

set_option maxHeartbeats 1000000 in
theorem take_zero (d : AD) (w : World) : Calls Try.prog 42 #[.pointer (some ⟨d.B, 0, none⟩), .int .i64 0] w fun e w' => e = .returned (.tuple #[.int .i64 0, .int .i64 0]) ∧ w = w' := by
  go_enter Try.func42, Try.ntmps42
  go_wp2
  go_ret2
  exact ⟨rfl, rfl⟩

set_option maxHeartbeats 1000000 in
theorem take_nil (d : AD) (n : Int) (w : World) (h : IsArena w none d) (hn : ¬ n = 0) : Calls Try.prog 42 #[.pointer (some ⟨d.B, 0, none⟩), .int .i64 n] w fun e w' => e = .returned (.tuple #[.int .i64 0, .int .i64 3]) ∧ w = w' := by
  have c0 := h.cell0
  have hn' : (n == 0) = false := by simpa using hn
  go_enter Try.func42, Try.ntmps42
  go_wp2
  go_ret2
  exact ⟨rfl, rfl⟩

set_option maxHeartbeats 1000000 in
theorem take_none (p rb rg mb mg : Nat) (d : AD) (xs : List Bool) (ys : List Int) (N : Nat) (w : World) (h : IsArena w (some ⟨p, 0, none⟩) d) (hp : IsPages w p rb rg mb mg xs ys) (ha : Away d p rb rg mb mg) (hN1 : 1 ≤ N) (hN2 : N ≤ 1024) (hf : findB xs N = none) :
    Calls Try.prog 42 #[.pointer (some ⟨d.B, 0, none⟩), .int .i64 N] w fun e w' => e = .returned (.tuple #[.int .i64 0, .int .i64 3]) ∧ IsArena w' (some ⟨p, 0, none⟩) d ∧ IsPages w' p rb rg mb mg xs ys ∧ Kept (rg :: mg :: d.foot) w w' := by
  have c0 := h.cell0
  have hn' : ((N : Int) == 0) = false := by simp; omega
  have HF := Lib.hid hf
  go_enter Try.func42, Try.ntmps42
  go_wp2_with fail
  refine (pagesGrant_any p rb rg mb mg xs ys N w hp (by omega)).mono ?_
  rintro e w1 ⟨rfl, hp1, k1⟩
  rw [grantB_none (by omega) HF.out] at hp1 ⊢
  rw [wipeB_none HF.out] at hp1
  go_wp2
  go_ret2
  exact ⟨rfl, ha.keptA h k1, hp1, k1.mono (by simp)⟩

set_option maxRecDepth 100000 in
set_option maxHeartbeats 2000000 in
theorem take_some (p rb rg mb mg : Nat) (d : AD) (xs : List Bool) (ys : List Int) (N A : Nat) (w : World) (h : IsArena w (some ⟨p, 0, none⟩) d) (hp : IsPages w p rb rg mb mg xs ys) (ha : Away d p rb rg mb mg) (hN1 : 1 ≤ N) (hN2 : N ≤ 1024) (hf : findB xs N = some A) (hl : d.rs.length ≤ 1099511627776) :
    Calls Try.prog 42 #[.pointer (some ⟨d.B, 0, none⟩), .int .i64 N] w (TakePost p rb rg mb mg d xs ys N A w) := by
  have c0 := h.cell0
  have hn' : ((N : Int) == 0) = false := by simp; omega
  have HF := Lib.hid hf
  go_enter Try.func42, Try.ntmps42
  go_wp2_with fail
  refine (pagesGrant_any p rb rg mb mg xs ys N w hp (by omega)).mono ?_
  rintro e w1 ⟨rfl, hp1, k1⟩
  rw [grantB_some (by omega) HF.out] at hp1 ⊢
  rw [wipeB_some HF.out] at hp1
  have h1 := ha.keptA h k1
  have c2 := h1.cell2
  have hz1 := k1.size
  clear c0
  go_wp2_with (at_builtin; refine wpList_append_runN _ rfl _ _ rfl 0 w1 d.vr d.rs A N rfl rfl rfl h1.runs (by omega) hl ?_; intro g3 c3 w3 hown3 hk3 hat3; have rB3 := h1.box.kept hk3 (by intro hm; rw [Option.mem_toList] at hm; exact (h1.apartR _ hm).1 rfl); have cB3 : w3.cell? ⟨d.B, 2, none⟩ = some d.vr := (by simpa using rB3.cell 2); have fB3 := rB3.free 2)
  go_ret2
  obtain ⟨hA, kA⟩ := h1.grownR hown3 hk3 hat3
  exact ⟨g3, c3, rfl, hA, ha.keptP hp1 kA, hat3.imp id (fun h => by omega), k1.chain kA (by simp) (fun i hi _ => by simp [hi])⟩

/-- What Alloc leaves. -/
def AllocPost (p rb rg mb mg : Nat) (d : AD) (xs : List Bool) (ys : List Int) (s : Int) (w : World) (e : Ending) (w' : World) : Prop :=
  ∃ d' : AD, e = .returned (.tuple #[.int .i64 (allocN d.toArN xs s).2.2.1, .int .i64 (allocN d.toArN xs s).2.2.2]) ∧ d'.toArN = (allocN d.toArN xs s).1 ∧ d'.B = d.B ∧ IsArena w' (some ⟨p, 0, none⟩) d' ∧
    IsPages w' p rb rg mb mg (allocN d.toArN xs s).2.1 (allocY d.toArN xs ys s) ∧ (∀ k ∈ d'.foot, k ∈ d.foot ∨ w.heap.size ≤ k) ∧ Kept (rg :: mg :: d.foot) w w'

set_option maxRecDepth 100000 in
set_option maxHeartbeats 4000000 in
theorem arenaAlloc_any (p rb rg mb mg : Nat) (d : AD) (xs : List Bool) (ys : List Int) (s : Int) (w : World) (h : IsArena w (some ⟨p, 0, none⟩) d) (hp : IsPages w p rb rg mb mg xs ys) (ha : Away d p rb rg mb mg) (hl : d.rs.length ≤ 1099511627776) (ht : d.ts.length ≤ 1099511627776) :
    Calls Try.prog 15 #[.pointer (some ⟨d.B, 0, none⟩), .int .i64 s] w (AllocPost p rb rg mb mg d xs ys s w) := by
  have c1 := h.cell1
  rcases allocN_cases d.toArN h.ok xs ys s hp.le with ⟨-, hn, hr, hy⟩ | ⟨F, S, rfl, -, -, -, -, hn, hput, hr, hy⟩ | ⟨N, -, -, hN1, hN2, -, hn, hf, hr, hy⟩ | ⟨N, A, S, rfl, -, -, hN1, hN2, -, hA, hn, hf, hput, hr, hy⟩
  · go_enter Try.func15, Try.ntmps15
    go_wp2_with fail
    refine (planNeed_any d.PB d.x s w h.plan h.ok).mono ?_
    rintro e w1 ⟨rfl, rfl⟩
    rw [hn.out]
    go_wp2
    go_ret2
    unfold AllocPost
    rw [hr.out, hy.out]
    exact ⟨d, rfl, rfl, rfl, h, hp, fun k hk => .inl hk, Kept.refl _ _⟩
  · go_enter Try.func15, Try.ntmps15
    go_wp2_with fail
    refine (planNeed_any d.PB d.x S w h.plan h.ok).mono ?_
    rintro e w1 ⟨rfl, rfl⟩
    rw [hn.out]
    go_wp2_with fail
    refine (take_zero d w).mono ?_
    rintro e w1 ⟨rfl, rfl⟩
    go_wp2_with fail
    have hok1 := putP_ok h.ok S 0
    refine (planPlace_any d.PB d.x S 0 w h.plan h.ok).mono ?_
    rintro e w1 ⟨rfl, hpl, k1⟩
    rw [hput.out] at hpl hok1 ⊢
    have h1 := h.placed hpl hok1 k1
    have hp1 := ha.keptP hp (k1.mono (by intro k hk _; simp at hk; subst hk; simp [AD.foot]))
    have c3 := h1.cell3
    have hz1 := k1.size
    simp only at c3
    clear c1
    go_wp2_with (at_builtin; refine wpList_append_runN _ rfl _ _ rfl 0 w1 d.vt d.ts F S rfl rfl rfl h1.things (by omega) ht ?_; intro g3 c4 w3 hown3 hk3 hat3; have rB3 := h1.box.kept hk3 (by intro hm; rw [Option.mem_toList] at hm; exact (h1.apartT _ hm).1 rfl); have cB3 : w3.cell? ⟨d.B, 3, none⟩ = some d.vt := (by simpa using rB3.cell 3); have fB3 := rB3.free 3)
    go_ret2
    obtain ⟨hA, kA⟩ := h1.grownT hown3 hk3 hat3
    have hft := h1.apartT
    unfold AllocPost
    rw [hr.out, hy.out]
    refine ⟨_, rfl, ?e1, ?e2, hA, Away.keptP (d := { d with x := _ }) ha hp1 kA, ?_, ?_⟩
    case e1 => rfl
    case e2 => rfl
    · intro k hk
      rcases AD.footT (d := { d with x := _ }) rfl hk with h' | rfl
      · exact .inl h'
      · rcases hat3 with h' | h'
        · exact .inl (AD.mem_foot.2 (.inr (.inr (.inr h'))))
        · right; omega
    · exact k1.chain kA (by intro k hk _; simp at hk; subst hk; simp [AD.foot]) (fun i hi _ => List.mem_cons_of_mem _ (List.mem_cons_of_mem _ hi))
  · go_enter Try.func15, Try.ntmps15
    go_wp2_with fail
    refine (planNeed_any d.PB d.x s w h.plan h.ok).mono ?_
    rintro e w1 ⟨rfl, rfl⟩
    rw [hn.out]
    go_wp2_with fail
    refine (take_none p rb rg mb mg d xs ys N w h hp ha hN1 hN2 hf.out).mono ?_
    rintro e w1 ⟨rfl, h1, hp1, k1⟩
    go_wp2
    go_ret2
    unfold AllocPost
    rw [hr.out, hy.out]
    exact ⟨d, rfl, rfl, rfl, h1, hp1, fun k hk => .inl hk, k1⟩
  · go_enter Try.func15, Try.ntmps15
    go_wp2_with fail
    refine (planNeed_any d.PB d.x S w h.plan h.ok).mono ?_
    rintro e w1 ⟨rfl, rfl⟩
    rw [hn.out]
    go_wp2_with fail
    refine (take_some p rb rg mb mg d xs ys N A w h hp ha hN1 hN2 hf.out hl).mono ?_
    rintro e w1 ⟨g, c, rfl, h1, hp1, hg, k1⟩
    clear c1
    have c1 := h1.cell1
    simp only at c1
    go_wp2_with fail
    refine (planPlace_any d.PB d.x S A w1 h1.plan h1.ok).mono ?_
    rintro e w2 ⟨rfl, hpl, k2⟩
    have hok1 := putP_ok h1.ok S A
    simp only at hok1
    rw [hput.out] at hpl hok1 ⊢
    generalize (if S ≤ 16 then (⟨A, S⟩ : Pl) else d.x) = x' at hpl hok1 hr ⊢
    have h2 := h1.placed hpl hok1 k2
    have hz1 := k1.size
    have hz2 := k2.size
    have ha1 : Away { d with vr := .slice (some ⟨g, 0, none⟩) (d.rs.length + 1) c, rs := d.rs ++ [(A, N)] } p rb rg mb mg := by
      intro k hk
      rcases AD.footR rfl hk with h' | rfl
      · exact ha k h'
      · rcases hg with h' | h'
        · exact ha _ (AD.mem_foot.2 (.inr (.inr (.inl h'))))
        · have := hp.lt; omega
    have hp2 := ha1.keptP hp1 (k2.mono (by intro k hk _; simp at hk; subst hk; simp [AD.foot]))
    have c3 := h2.cell3
    simp only at c3
    clear c1
    go_wp2_with (at_builtin; refine wpList_append_runN _ rfl _ _ rfl 0 w2 d.vt d.ts (16 * A) S rfl rfl rfl h2.things (by omega) ht ?_; intro g3 c4 w3 hown3 hk3 hat3; have rB3 := h2.box.kept hk3 (by intro hm; rw [Option.mem_toList] at hm; exact (h2.apartT _ hm).1 rfl); have cB3 : w3.cell? ⟨d.B, 3, none⟩ = some d.vt := (by simpa using rB3.cell 3); have fB3 := rB3.free 3)
    go_ret2
    obtain ⟨hA, kA⟩ := h2.grownT hown3 hk3 hat3
    unfold AllocPost
    rw [hr.out, hy.out]
    refine ⟨_, rfl, ?e1, ?e2, hA, Away.keptP (d := { d with vr := .slice (some ⟨g, 0, none⟩) (d.rs.length + 1) c, rs := d.rs ++ [(A, N)], x := x' }) ha1 hp2 kA, ?_, ?_⟩
    case e1 => rfl
    case e2 => rfl
    · intro k hk
      rcases AD.footT (d := { d with vr := .slice (some ⟨g, 0, none⟩) (d.rs.length + 1) c, rs := d.rs ++ [(A, N)], x := x' }) rfl hk with h' | rfl
      · rcases AD.footR (d := { d with x := x' }) rfl h' with h' | rfl
        · exact .inl h'
        · rcases hg with h' | h'
          · exact .inl (AD.mem_foot.2 (.inr (.inr (.inl h'))))
          · right; omega
      · rcases hat3 with h' | h'
        · exact .inl (AD.mem_foot.2 (.inr (.inr (.inr h'))))
        · right; omega
    · refine (k1.chain k2 (fun i hi _ => hi) (U := rg :: mg :: d.foot) (by intro k hk _; simp at hk; subst hk; simp [AD.foot])).chain kA (fun i hi _ => hi) (fun i hi hlt => ?_)
      rcases AD.footR (d := { d with x := x' }) rfl hi with h' | rfl
      · exact List.mem_cons_of_mem _ (List.mem_cons_of_mem _ h')
      · rcases hg with h' | h'
        · exact List.mem_cons_of_mem _ (List.mem_cons_of_mem _ (AD.mem_foot.2 (.inr (.inr (.inl h')))))
        · omega
end Go.Proofs.Ytenhelbmcapfkaa
