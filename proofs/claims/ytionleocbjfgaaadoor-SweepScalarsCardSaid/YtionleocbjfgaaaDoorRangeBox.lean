/- A range over a function whose loop variable lies in a block of its own (a struct, or one that a function takes hold of). -/
import Derived.Test.YtionleocbjfgaaaDoorSeq
import Derived.Test.YtionleocbjfgaaaDoorAppendIn
namespace Go.Proofs.YtionleocbjfgaaaDoor
open Go.RowKit Go.Shelf

theorem grown_new (W : World) (o : Obj) : W.grownBy (W.alloc o) none := by
  have h := (Kept.refl [] W).alloc o
  exact ⟨h.os, h.tape, h.output, h.size, fun k hk _ => h.block k hk (by simp)⟩

/-- 'for x = range seq', the loop variable's block in slot s: by the library's law for a round that begins with new memory (wpIn_rangeFunc_ownH). -/
theorem wpIn_range_box {F : Fence} {n : Nat} {P : Program} {α : Type} {g : Operand} {q : Tmp} {assign body : Code} {Q : Exit → Act → World → Prop} {a : Act} {w : World} (s : Tmp) (t : TypeId) (cs : α → List Value)
    (hro : F.round = none) (h1 : 1 ≤ n) {gf : Nat} {lb : Array Value} (hg : a.eval g = .func (.func gf) #[] lb) (hFg : F.fn gf) (eg : ∀ args w, (callFunc gf args).run P w = .ok (.enter gf args) w)
    {enc : α → Value} {Kp : World → World → Prop} {S Sp : List α → Prop} {N : Nat} (hseq : SeqStopsK F (n - 1) P gf lb (fun x => #[enc x]) Kp S Sp N w)
    (hKt : ∀ {A B C : World}, Kp A B → Kp B C → Kp A C) (hKb : ∀ (W : World) (l : Nat) (o o' : Obj), w.heap.size ≤ l → W.heap[l]? = some o → o.isCells = false → o.isWalk = false → Kp W (W.putObj l o'))
    (I : List α → World → Prop) (Ix : Code → List α → World → Prop) (hKa : ∀ pre W o, I pre W → Kp W (W.alloc o)) (hI : OwnFrom w.heap.size I) (hIx : ∀ c, OwnFrom w.heap.size (Ix c)) (hIz : ∀ pre W, I pre W → w.heap.size ≤ W.heap.size) (h0 : I [] w)
    (hassign : ∀ (l : Nat) (x : α) (W : World) (K : Act → World → Prop), K { tmps := (a.tmps.setIfInBounds q (enc x)).setIfInBounds s (.pointer (some ⟨W.heap.size, 0, none⟩)), defers := [] } (W.alloc (.cells (cs x).toArray t)) →
      assign.wpIn (F.inRound l) (n - 1 - 1) P (Exit.then K (fun _ _ _ => False)) { tmps := a.tmps.setIfInBounds q (enc x), defers := [] } W)
    (hbody : ∀ (l : Nat) (pre : List α) (x : α) (V : Nat) (W : World), w.heap.size ≤ V → Row W V t (cs x) → I pre W → pre.length < N →
      body.wpIn (F.inRound l) (n - 1 - 1) P (ownPostG w.heap.size Kp I Ix (pre ++ [x]) W) { tmps := (a.tmps.setIfInBounds q (enc x)).setIfInBounds s (.pointer (some ⟨V, 0, none⟩)), defers := [] } W)
    (hdone : ∀ (D : Nat) (xs : List α) (W : World), w.heap.size ≤ D → S xs → I xs W → W.heap[D]? = some (.deferred (some [])) → Q .normal { a with defers := { target := .collected D, args := #[] } :: a.defers } W)
    (hstop : ∀ (D : Nat) (c : Code) (pre : List α) (W : World), w.heap.size ≤ D → Sp pre → Ix c pre W → W.heap[D]? = some (.deferred (some [])) → c.wpIn F n P Q { a with defers := { target := .collected D, args := #[] } :: a.defers } W) :
    (Code.rangeFunc g #[q] assign body).wpIn F n P Q a w := by
  refine wpIn_rangeFunc_ownH hro h1 hg hFg eg hseq (fun h k => hKt h k) hKb (Below.refl _ _) (fun _ => rfl) I Ix hI hIx h0
    (fun x a' W => ∃ V, a' = { tmps := (a.tmps.setIfInBounds q (enc x)).setIfInBounds s (.pointer (some ⟨V, 0, none⟩)), defers := [] } ∧ w.heap.size ≤ V ∧ Row W V t (cs x)) ?_ ?_ ?_ hdone hstop
  · rintro x a' _ W W' row ⟨V, h1, h2, h3⟩ hg hr
    exact ⟨V, h1, h2, Own.from (own_row (fun _ : Unit => cs x)) w.heap.size () W W' row h3 hg hr⟩
  · intro l pre x W K hi hK
    have h := hassign l x W K (hK _ _ (KeepsFrom.of_keptC (S := []) ((Kept.refl [] W).alloc _) (by simp)) (hKa pre W _ hi) (hI pre W _ none hi (grown_new _ _) (by simp)) ⟨W.heap.size, rfl, hIz pre W hi, Row.new W t (cs x)⟩)
    rw [show (#[q].zip #[enc x]).foldl (fun t (x : Tmp × Value) => match x with | (p, v) => t.setIfInBounds p v) a.tmps = a.tmps.setIfInBounds q (enc x) from by simp [Array.zip, Array.zipWith, Array.zipWithMAux]]
    exact h
  · rintro l pre x a' W _ _ hi ⟨V, rfl, h2, h3⟩ hlt
    exact hbody l pre x V W h2 h3 hi hlt
end Go.Proofs.YtionleocbjfgaaaDoor
