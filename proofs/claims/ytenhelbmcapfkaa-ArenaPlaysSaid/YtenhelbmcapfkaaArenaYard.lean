/- Package arena: some arenas of the same pages, side by side; arenas of nothing (Alloc, Fits). -/
import Derived.Test.YtenhelbmcapfkaaArenaTake
namespace Go.Proofs.Ytenhelbmcapfkaa
open Go.RowKit

theorem OwnR.keep {w w' : World} {B : Nat} {v : Value} {rs : List RunN} (h : OwnR w B v rs) (hk : Kept [] w w') : OwnR w' B v rs := h.keptS hk (by simp)
theorem OwnR.slR {w : World} {B : Nat} {a : Option Addr} {n c : Nat} {rs : List RunN} (h : OwnR w B (.slice a n c) rs) : SlR w a rs := by
  obtain ⟨a', c', e, hs, _⟩ := h.slice
  cases e
  exact hs
/-- Some arenas of the same pages; all that they may turn is block B0 or newer. -/
structure Yard (B0 : Nat) (w : World) (p rb rg mb mg : Nat) (xs : List Bool) (ys : List Int) (ds : List AD) : Prop where
  pages : IsPages w p rb rg mb mg xs ys
  arena : ∀ (i : Nat) (d : AD), ds[i]? = some d → IsArena w (some ⟨p, 0, none⟩) d
  away : ∀ (i : Nat) (d : AD), ds[i]? = some d → Away d p rb rg mb mg
  apart : ∀ (i j : Nat) (d e : AD), i ≠ j → ds[i]? = some d → ds[j]? = some e → ∀ k ∈ d.foot, k ∉ e.foot
  new : ∀ (i : Nat) (d : AD), ds[i]? = some d → ∀ k ∈ d.foot, B0 ≤ k
  newP : B0 ≤ rg ∧ B0 ≤ mg
  size : B0 ≤ w.heap.size
/-- A block that no arena turns. -/
def Off (ds : List AD) (rg mg k : Nat) : Prop := k ≠ rg ∧ k ≠ mg ∧ ∀ (i : Nat) (d : AD), ds[i]? = some d → k ∉ d.foot
section
variable {B0 p rb rg mb mg : Nat} {w w' : World} {xs xs' : List Bool} {ys ys' : List Int} {ds : List AD} {d d' : AD} {i : Nat}
theorem Yard.kept (h : Yard B0 w p rb rg mb mg xs ys ds) (hk : Kept [] w w') : Yard B0 w' p rb rg mb mg xs ys ds :=
  ⟨h.pages.kept hk, fun i d hd => (h.arena i d hd).kept hk, h.away, h.apart, h.new, h.newP, Nat.le_trans h.size hk.size⟩
theorem get_set {ds : List AD} {i j : Nat} {d' e : AD} (h : (ds.set i d')[j]? = some e) : (j = i ∧ e = d') ∨ (j ≠ i ∧ ds[j]? = some e) := by
  by_cases hj : j = i
  · subst hj
    rw [List.getElem?_set_self'] at h
    cases hd : ds[j]? with
    | none => simp [hd] at h
    | some x => rw [hd] at h; simp at h; exact .inl ⟨rfl, h.symm⟩
  · rw [List.getElem?_set_ne (Ne.symm hj)] at h
    exact .inr ⟨hj, h⟩
theorem Yard.step (h : Yard B0 w p rb rg mb mg xs ys ds) (hi : ds[i]? = some d) (ha : IsArena w' (some ⟨p, 0, none⟩) d') (hp : IsPages w' p rb rg mb mg xs' ys') (hf : ∀ k ∈ d'.foot, k ∈ d.foot ∨ w.heap.size ≤ k) (hk : Kept (rg :: mg :: d.foot) w w') :
    Yard B0 w' p rb rg mb mg xs' ys' (ds.set i d') := by
  have hlt := h.pages.lt
  have haw := h.away i d hi
  refine ⟨hp, ?_, ?_, ?_, ?_, h.newP, Nat.le_trans h.size hk.size⟩
  · intro j e he
    rcases get_set he with ⟨_, rfl⟩ | ⟨hj, he⟩
    · exact ha
    · have hw := h.away j e he
      refine (h.arena j e he).keptS hk (fun k hkf hm => ?_)
      have := hw k hkf
      rcases List.mem_cons.1 hm with rfl | hm
      · omega
      · rcases List.mem_cons.1 hm with rfl | hm
        · omega
        · exact h.apart i j d e (Ne.symm hj) hi he k hm hkf
  · intro j e he
    rcases get_set he with ⟨_, rfl⟩ | ⟨hj, he⟩
    · intro k hkf
      rcases hf k hkf with h' | h'
      · exact haw k h'
      · omega
    · exact h.away j e he
  · intro j j2 e e2 hne he he2 k hkf hkf2
    rcases get_set he with ⟨rfl, rfl⟩ | ⟨hj, he1⟩
    · rcases get_set he2 with ⟨rfl, _⟩ | ⟨hj2, he2⟩
      · exact hne rfl
      · rcases hf k hkf with h' | h'
        · exact h.apart _ _ d e2 (Ne.symm hj2) hi he2 k h' hkf2
        · have := (h.arena _ e2 he2).lt k hkf2; omega
    · rcases get_set he2 with ⟨rfl, rfl⟩ | ⟨hj2, he2⟩
      · rcases hf k hkf2 with h' | h'
        · exact h.apart _ _ d e (Ne.symm hj) hi he1 k h' hkf
        · have := (h.arena _ e he1).lt k hkf; omega
      · exact h.apart _ _ e e2 hne he1 he2 k hkf hkf2
  · intro j e he k hkf
    rcases get_set he with ⟨_, rfl⟩ | ⟨hj, he⟩
    · rcases hf k hkf with h' | h'
      · exact h.new i d hi k h'
      · have := h.size; omega
    · exact h.new j e he k hkf
theorem Yard.keeps (h : Yard B0 w p rb rg mb mg xs ys ds) (hi : ds[i]? = some d) (hk : Kept (rg :: mg :: d.foot) w w') {w0 : World} (h0 : Kept [] w0 w) (hB : w0.heap.size ≤ B0) : Kept [] w0 w' :=
  h0.chain hk (by simp) (fun k hkf hl => by
    have := h.newP
    rcases List.mem_cons.1 hkf with rfl | hkf
    · omega
    · rcases List.mem_cons.1 hkf with rfl | hkf
      · omega
      · have := h.new i d hi k hkf; omega)
theorem Off.not {k : Nat} (h : Off ds rg mg k) (hi : ds[i]? = some d) : k ∉ rg :: mg :: d.foot := fun hm => by
  rcases List.mem_cons.1 hm with rfl | hm
  · exact h.1 rfl
  · rcases List.mem_cons.1 hm with rfl | hm
    · exact h.2.1 rfl
    · exact h.2.2 i d hi hm
theorem Off.step {k : Nat} (h : Off ds rg mg k) (hi : ds[i]? = some d) (hl : k < w.heap.size) (hf : ∀ k ∈ d'.foot, k ∈ d.foot ∨ w.heap.size ≤ k) : Off (ds.set i d') rg mg k := by
  refine ⟨h.1, h.2.1, fun j e he hm => ?_⟩
  rcases get_set he with ⟨_, rfl⟩ | ⟨hj, he⟩
  · rcases hf k hm with h' | h'
    · exact h.2.2 i d hi h'
    · omega
  · exact h.2.2 j e he hm
/-- No arena yet. -/
theorem Yard.no (hp : IsPages w p rb rg mb mg xs ys) (hB : B0 ≤ w.heap.size) (hn : B0 ≤ rg ∧ B0 ≤ mg) : Yard B0 w p rb rg mb mg xs ys [] :=
  ⟨hp, by simp, by simp, by simp, by simp, hn, hB⟩
theorem get_snoc {ds : List AD} {j : Nat} {d e : AD} (h : (ds ++ [d])[j]? = some e) : (j = ds.length ∧ e = d) ∨ (j < ds.length ∧ ds[j]? = some e) := by
  rcases Nat.lt_or_ge j ds.length with hj | hj
  · rw [List.getElem?_append_left hj] at h; exact .inr ⟨hj, h⟩
  · rw [List.getElem?_append_right hj] at h
    cases hq : j - ds.length with
    | zero => rw [hq] at h; simp at h; exact .inl ⟨by omega, h.symm⟩
    | succ q => rw [hq] at h; simp at h
/-- One more arena. -/
theorem Yard.more (h : Yard B0 w p rb rg mb mg xs ys ds) (hk : Kept [] w w') (ha : IsArena w' (some ⟨p, 0, none⟩) d) (hf : ∀ k ∈ d.foot, w.heap.size ≤ k) : Yard B0 w' p rb rg mb mg xs ys (ds ++ [d]) := by
  have h' := h.kept hk
  have hlt := h.pages.lt
  refine ⟨h'.pages, ?_, ?_, ?_, ?_, h.newP, h'.size⟩
  · intro j e he
    rcases get_snoc he with ⟨_, rfl⟩ | ⟨hj, he⟩
    · exact ha
    · exact h'.arena j e he
  · intro j e he
    rcases get_snoc he with ⟨_, rfl⟩ | ⟨hj, he⟩
    · intro k hkf
      have := hf k hkf; omega
    · exact h.away j e he
  · intro j j2 e e2 hne he he2 k hkf hkf2
    rcases get_snoc he with ⟨rfl, rfl⟩ | ⟨hj, he1⟩
    · rcases get_snoc he2 with ⟨rfl, _⟩ | ⟨hj2, he2⟩
      · exact hne rfl
      · have := hf k hkf; have := (h.arena _ e2 he2).lt k hkf2; omega
    · rcases get_snoc he2 with ⟨rfl, rfl⟩ | ⟨hj2, he2⟩
      · have := hf k hkf2; have := (h.arena _ e he1).lt k hkf; omega
      · exact h.apart _ _ e e2 hne he1 he2 k hkf hkf2
  · intro j e he k hkf
    rcases get_snoc he with ⟨_, rfl⟩ | ⟨hj, he⟩
    · have := hf k hkf; have := h.size; omega
    · exact h.new j e he k hkf
theorem Off.more {k : Nat} (h : Off ds rg mg k) (hl : k < w.heap.size) (hf : ∀ k ∈ d.foot, w.heap.size ≤ k) : Off (ds ++ [d]) rg mg k := by
  refine ⟨h.1, h.2.1, fun j e he hm => ?_⟩
  rcases get_snoc he with ⟨_, rfl⟩ | ⟨hj, he⟩
  · have := hf k hm; omega
  · exact h.2.2 j e he hm
/-- Words are written by somebody else. -/
theorem Yard.written (h : Yard B0 w p rb rg mb mg xs ys ds) (hm : IsMem w' mb mg ys') (hk : Kept [mg] w w') (hl : ys'.length = ys.length) : Yard B0 w' p rb rg mb mg xs ys' ds :=
  ⟨h.pages.written hm hk hl, fun i d hd => (h.arena i d hd).keptS hk (fun k hkf hmm => by have := h.away i d hd k hkf; simp at hmm; omega), h.away, h.apart, h.new, h.newP, Nat.le_trans h.size hk.size⟩

/-- All blocks that arenas turn. -/
def turf (rg mg : Nat) (ds : List AD) : List Nat := rg :: mg :: ds.flatMap AD.foot
theorem mem_turf {k : Nat} : k ∈ turf rg mg ds ↔ k = rg ∨ k = mg ∨ ∃ d ∈ ds, k ∈ d.foot := by simp [turf]
theorem Yard.turf_ge (h : Yard B0 w p rb rg mb mg xs ys ds) : ∀ k ∈ turf rg mg ds, B0 ≤ k := by
  intro k hk
  have := h.newP
  rcases mem_turf.1 hk with rfl | rfl | ⟨d, hd, hk⟩
  · omega
  · omega
  · obtain ⟨i, hi⟩ := List.getElem?_of_mem hd
    exact h.new i d hi k hk
theorem Yard.turf_lt (h : Yard B0 w p rb rg mb mg xs ys ds) : ∀ k ∈ turf rg mg ds, k < w.heap.size := by
  intro k hk
  have := h.pages.lt
  rcases mem_turf.1 hk with rfl | rfl | ⟨d, hd, hk⟩
  · omega
  · omega
  · obtain ⟨i, hi⟩ := List.getElem?_of_mem hd
    exact (h.arena i d hi).lt k hk
theorem Yard.keptS {S : List Nat} (h : Yard B0 w p rb rg mb mg xs ys ds) (hk : Kept S w w') (hS : ∀ k ∈ S, k ∉ turf rg mg ds ∧ k ≠ p ∧ k ≠ rb ∧ k ≠ mb) : Yard B0 w' p rb rg mb mg xs ys ds :=
  ⟨h.pages.keptS hk (fun m => (hS _ m).2.1 rfl) (fun m => (hS _ m).2.2.1 rfl) (fun m => (hS _ m).1 (mem_turf.2 (.inl rfl))) (fun m => (hS _ m).2.2.2 rfl) (fun m => (hS _ m).1 (mem_turf.2 (.inr (.inl rfl)))),
    fun i d hd => (h.arena i d hd).keptS hk (fun k hkf m => (hS k m).1 (mem_turf.2 (.inr (.inr ⟨d, List.mem_of_getElem? hd, hkf⟩)))), h.away, h.apart, h.new, h.newP, Nat.le_trans h.size hk.size⟩
/-- From arenas and a world to others: nothing else is turned, and what is theirs was theirs or is new. -/
structure Goes (rg mg : Nat) (ds : List AD) (w : World) (ds' : List AD) (w' : World) : Prop where
  kept : Kept (turf rg mg ds) w w'
  new : ∀ k ∈ turf rg mg ds', k ∈ turf rg mg ds ∨ w.heap.size ≤ k
theorem Goes.of_kept (h : Kept [] w w') : Goes rg mg ds w ds w' := ⟨h.any, fun _ hk => .inl hk⟩
theorem Goes.trans {w'' : World} {ds' ds'' : List AD} (h : Goes rg mg ds w ds' w') (h' : Goes rg mg ds' w' ds'' w'') : Goes rg mg ds w ds'' w'' :=
  ⟨h.kept.chain h'.kept (fun _ hi _ => hi) (fun i hi hl => (h.new i hi).resolve_right (by omega)), fun k hk => by
    rcases h'.new k hk with h1 | h1
    · exact h.new k h1
    · exact .inr (Nat.le_trans h.kept.size h1)⟩
theorem Goes.off {ds' : List AD} {k : Nat} (h : Goes rg mg ds w ds' w') (hk : k ∉ turf rg mg ds) (hl : k < w.heap.size) : k ∉ turf rg mg ds' := fun hm => by
  rcases h.new k hm with h1 | h1
  · exact hk h1
  · omega
theorem Goes.base {ds' : List AD} {w0 : World} (h : Goes rg mg ds w ds' w') (h0 : Kept [] w0 w) (hB : ∀ k ∈ turf rg mg ds, w0.heap.size ≤ k) : Kept [] w0 w' :=
  h0.chain h.kept (by simp) (fun k hk hl => by have := hB k hk; omega)
theorem turf_more {k : Nat} (h : k ∉ turf rg mg ds) (hl : k < w.heap.size) (hf : ∀ k ∈ d.foot, w.heap.size ≤ k) : k ∉ turf rg mg (ds ++ [d]) := fun hm => by
  rcases mem_turf.1 hm with h' | h' | ⟨e, he, hk⟩
  · exact h (mem_turf.2 (.inl h'))
  · exact h (mem_turf.2 (.inr (.inl h')))
  · rcases List.mem_append.1 he with he | he
    · exact h (mem_turf.2 (.inr (.inr ⟨e, he, hk⟩)))
    · simp at he; subst he
      have := hf k hk; omega
/-- What is new since w may be turned, too. -/
theorem Goes.andNew {w'' : World} {ds' : List AD} {S : List Nat} (h : Goes rg mg ds w ds' w') (hk : Kept S w' w'') (hS : ∀ k ∈ S, w.heap.size ≤ k) : Goes rg mg ds w ds' w'' :=
  ⟨h.kept.chain hk (fun _ hi _ => hi) (fun i hi hl => by have := hS i hi; omega), h.new⟩
theorem Yard.goes (hi : ds[i]? = some d) (hf : ∀ k ∈ d'.foot, k ∈ d.foot ∨ w.heap.size ≤ k) (hk : Kept (rg :: mg :: d.foot) w w') : Goes rg mg ds w (ds.set i d') w' := by
  have hd := List.mem_of_getElem? hi
  refine ⟨hk.mono (fun k hk _ => ?_), fun k hk => ?_⟩
  · rcases List.mem_cons.1 hk with rfl | hk
    · exact mem_turf.2 (.inl rfl)
    · rcases List.mem_cons.1 hk with rfl | hk
      · exact mem_turf.2 (.inr (.inl rfl))
      · exact mem_turf.2 (.inr (.inr ⟨d, hd, hk⟩))
  · rcases mem_turf.1 hk with rfl | rfl | ⟨e, he, hk⟩
    · exact .inl (mem_turf.2 (.inl rfl))
    · exact .inl (mem_turf.2 (.inr (.inl rfl)))
    · rcases List.mem_or_eq_of_mem_set he with he1 | he1
      · exact .inl (mem_turf.2 (.inr (.inr ⟨e, he1, hk⟩)))
      · rw [he1] at hk
        rcases hf k hk with h' | h'
        · exact .inl (mem_turf.2 (.inr (.inr ⟨d, hd, h'⟩)))
        · exact .inr h'
end
end Go.Proofs.Ytenhelbmcapfkaa
