/- Package frames, plain lists: what each call answers and what stands behind it; the stack's block. -/
import Derived.Test.YtljpmckbkpoikaaSlots16
import Derived.Test.YtljpmckbkpoikaaAppendOne
import Derived.Lib.SliceRun
import Derived.Laws.IdiomCopy
import Derived.WalkSmall
namespace Go.Proofs.Ytljpmckbkpoikaa
open Go.RowKit

/-- The error of a push of n slots. -/
def pushE (fs : List (List Int)) (n : Nat) : Int := if 16 < n then 1 else if 63 < fs.length then 3 else 0
def pushF (fs : List (List Int)) (n : Nat) : List (List Int) := if 16 < n then fs else if 63 < fs.length then fs else fs ++ [List.replicate n 0]
/-- The top frame; of no frames: none of its slots. -/
def topF (fs : List (List Int)) : List Int := fs.getLast?.getD []
def popE (fs : List (List Int)) : Int := if fs.isEmpty then 2 else 0
def getE (fs : List (List Int)) (i : Nat) : Int := if fs.isEmpty then 2 else errB (slotB (topF fs).length i)
def setF (fs : List (List Int)) (i : Nat) (v : Int) : List (List Int) := if fs.isEmpty then [] else fs.dropLast ++ [(topF fs).set i v]
/-- Few frames, and small ones. -/
structure SmallF (fs : List (List Int)) : Prop where
  few : fs.length ≤ 64
  small : ∀ f ∈ fs, f.length ≤ 16

theorem topF_snoc (gs : List (List Int)) (f : List Int) : topF (gs ++ [f]) = f := by simp [topF]
theorem popE_snoc (gs : List (List Int)) (f : List Int) : popE (gs ++ [f]) = 0 := by simp [popE]
theorem getE_snoc (gs : List (List Int)) (f : List Int) (i : Nat) : getE (gs ++ [f]) i = errB (slotB f.length i) := by simp [getE, topF_snoc]
theorem setF_snoc (gs : List (List Int)) (f : List Int) (i : Nat) (v : Int) : setF (gs ++ [f]) i v = gs ++ [f.set i v] := by simp [setF, topF_snoc]
theorem snoc_cases (fs : List (List Int)) : fs = [] ∨ ∃ gs f, fs = gs ++ [f] := by
  rcases List.eq_nil_or_concat fs with h | ⟨gs, f, h⟩
  · exact .inl h
  · exact .inr ⟨gs, f, by simpa using h⟩
theorem SmallF.nil : SmallF [] := ⟨by simp, by simp⟩
theorem SmallF.pre {gs : List (List Int)} {f : List Int} (h : SmallF (gs ++ [f])) : SmallF gs :=
  ⟨by have := h.few; simp at this; omega, fun x hx => h.small x (by simp [hx])⟩
theorem SmallF.push {fs : List (List Int)} (h : SmallF fs) (n : Nat) : SmallF (pushF fs n) := by
  unfold pushF
  by_cases h1 : 16 < n
  · rw [if_pos h1]; exact h
  · by_cases h2 : 63 < fs.length
    · rw [if_neg h1, if_pos h2]; exact h
    · rw [if_neg h1, if_neg h2]
      refine ⟨by simp; omega, fun x hx => ?_⟩
      rcases List.mem_append.1 hx with hx | hx
      · exact h.small x hx
      · rw [List.mem_singleton.1 hx]; simp; omega
theorem SmallF.set {fs : List (List Int)} (h : SmallF fs) (i : Nat) (v : Int) : SmallF (setF fs i v) := by
  rcases snoc_cases fs with rfl | ⟨gs, f, rfl⟩
  · exact h
  · rw [setF_snoc]
    refine ⟨by have := h.few; simpa using this, fun x hx => ?_⟩
    rcases List.mem_append.1 hx with hx | hx
    · exact h.small x (by simp [hx])
    · rw [List.mem_singleton.1 hx, List.length_set]; exact h.small f (by simp)
theorem SmallF.drop {fs : List (List Int)} (h : SmallF fs) : SmallF fs.dropLast := by
  rcases snoc_cases fs with rfl | ⟨gs, f, rfl⟩
  · exact h
  · simpa using h.pre
theorem flat_small : ∀ (fs : List (List Int)), (∀ f ∈ fs, f.length ≤ 16) → fs.flatten.length ≤ 16 * fs.length
  | [], _ => by simp
  | f :: fs, h => by
    have h1 := h f (by simp)
    have h2 := flat_small fs (fun x hx => h x (by simp [hx]))
    simp only [List.flatten_cons, List.length_append, List.length_cons]; omega
theorem SmallF.flat {fs : List (List Int)} (h : SmallF fs) : fs.flatten.length ≤ 16 * fs.length ∧ fs.flatten.length ≤ 1024 := by
  have := flat_small fs h.small
  have := h.few
  omega
theorem SmallF.take {fs : List (List Int)} (h : SmallF fs) (k : Nat) : (fs.take k).flatten.length ≤ 1024 := by
  have := flat_small (fs.take k) (fun f hf => h.small f (List.mem_of_mem_take hf))
  have h2 := h.few
  have : (fs.take k).length ≤ 64 := by rw [List.length_take]; omega
  omega

/-- Where a frame of n slots begins that stands behind o others. -/
def fAt (b o n : Nat) : Addr := if n = 0 then ⟨b, 0, none⟩ else ⟨b, o, none⟩
def frV (b o : Nat) (f : List Int) : Value := .slice (some (fAt b o f.length)) f.length f.length
/-- The frames' slices, the lowest one first, behind o slots. -/
def framesV (b : Nat) : Nat → List (List Int) → List Value
  | _, [] => []
  | o, f :: fs => frV b o f :: framesV b (o + f.length) fs
theorem framesV_length (b : Nat) : ∀ (fs : List (List Int)) (o : Nat), (framesV b o fs).length = fs.length
  | [], _ => rfl
  | f :: fs, o => by simp [framesV, framesV_length b fs]
theorem framesV_snoc (b : Nat) (f : List Int) : ∀ (fs : List (List Int)) (o : Nat), framesV b o (fs ++ [f]) = framesV b o fs ++ [frV b (o + fs.flatten.length) f]
  | [], o => by simp [framesV]
  | g :: fs, o => by
    simp only [List.cons_append, framesV, framesV_snoc b f fs, List.flatten_cons, List.length_append]
    rw [Nat.add_assoc]
theorem frV_set (b o : Nat) (f : List Int) (i : Nat) (v : Int) : frV b o (f.set i v) = frV b o f := by simp [frV]

/-- All slots, the lowest frame's first; how many there are. -/
def allF (fs : List (List Int)) : List Int := fs.flatten
def totF (fs : List (List Int)) : Nat := fs.flatten.length
theorem allF_length (fs : List (List Int)) : (allF fs).length = totF fs := rfl
theorem totF_nil : totF [] = 0 := rfl
theorem totF_snoc (gs : List (List Int)) (f : List Int) : totF (gs ++ [f]) = totF gs + f.length := by
  simp only [totF, List.flatten_append, List.flatten_cons, List.flatten_nil, List.append_nil, List.length_append]
theorem allF_snoc (gs : List (List Int)) (f : List Int) : allF (gs ++ [f]) = allF gs ++ f := by
  simp only [allF, List.flatten_append, List.flatten_cons, List.flatten_nil, List.append_nil]

/-- The cells of a stack's block. -/
def stackC (ws : List Int) (u : Nat) (v : Value) : List Value := ws.map (Value.int .u64) ++ [.int .i64 u, v]
theorem stackC_word {ws : List Int} {u : Nat} {v : Value} (j : Nat) (hj : j < ws.length) : (stackC ws u v)[j]? = some (.int .u64 (ws[j]?.getD 0)) := by
  unfold stackC
  rw [List.getElem?_append_left (by simpa using hj)]
  simp [hj]
theorem stackC_used {ws : List Int} {u : Nat} {v : Value} (h : ws.length = 1024) : (stackC ws u v)[1024]? = some (.int .i64 u) := by
  unfold stackC
  rw [List.getElem?_append_right (by simp [h])]
  simp [h]
theorem stackC_frames {ws : List Int} {u : Nat} {v : Value} (h : ws.length = 1024) : (stackC ws u v)[1025]? = some v := by
  unfold stackC
  rw [List.getElem?_append_right (by simp [h])]
  simp [h]
theorem stackC_setWord {ws : List Int} {u : Nat} {v : Value} (j : Nat) (hj : j < ws.length) (x : Int) : (stackC ws u v).set j (.int .u64 x) = stackC (ws.set j x) u v := by
  unfold stackC
  rw [List.set_append_left _ _ (by simpa using hj), List.map_set]
theorem stackC_setUsed {ws : List Int} {u : Nat} {v : Value} (h : ws.length = 1024) (x : Nat) : (stackC ws u v).set 1024 (.int .i64 x) = stackC ws x v := by
  unfold stackC
  rw [List.set_append_right _ _ (by simp [h])]
  simp [h]
theorem stackC_setFrames {ws : List Int} {u : Nat} {v : Value} (h : ws.length = 1024) (x : Value) : (stackC ws u v).set 1025 x = stackC ws u x := by
  unfold stackC
  rw [List.set_append_right _ _ (by simp [h])]
  simp [h]

/-- The words of a stack with these frames. -/
def wordsF (fs : List (List Int)) : List Int := fs.flatten ++ List.replicate (1024 - fs.flatten.length) 0
theorem SmallF.words {fs : List (List Int)} (h : SmallF fs) : (wordsF fs).length = 1024 := by
  have := h.flat.2
  unfold wordsF
  rw [List.length_append, List.length_replicate]; omega
theorem wordsF_push (fs : List (List Int)) (n : Nat) (h : fs.flatten.length + n ≤ 1024) : wordsF (fs ++ [List.replicate n 0]) = wordsF fs := by
  unfold wordsF
  simp only [List.flatten_append, List.flatten_cons, List.flatten_nil, List.append_nil, List.length_append, List.length_replicate, List.append_assoc, List.replicate_append_replicate]
  congr 2; omega
theorem wordsF_get (gs : List (List Int)) (f : List Int) (i : Nat) (hi : i < f.length) : (wordsF (gs ++ [f]))[gs.flatten.length + i]?.getD 0 = f[i]?.getD 0 := by
  unfold wordsF
  simp only [List.flatten_append, List.flatten_cons, List.flatten_nil, List.append_nil, List.append_assoc]
  rw [List.getElem?_append_right (by omega), Nat.add_sub_cancel_left, List.getElem?_append_left hi]
theorem wordsF_set (gs : List (List Int)) (f : List Int) (i : Nat) (v : Int) (hi : i < f.length) : (wordsF (gs ++ [f])).set (gs.flatten.length + i) v = wordsF (gs ++ [f.set i v]) := by
  unfold wordsF
  simp only [List.flatten_append, List.flatten_cons, List.flatten_nil, List.append_nil, List.append_assoc, List.length_append, List.length_set]
  rw [List.set_append_right _ _ (by omega), Nat.add_sub_cancel_left, List.set_append_left _ _ hi]
theorem wordsF_flat (fs : List (List Int)) (j : Nat) (hj : j < fs.flatten.length) : (wordsF fs)[j]?.getD 0 = fs.flatten[j]?.getD 0 := by
  unfold wordsF
  rw [List.getElem?_append_left hj]
/-- So many of a list's elements from o on become z. -/
def fillZ {α : Type} (z : α) : List α → Nat → Nat → List α
  | l, _, 0 => l
  | l, o, n + 1 => fillZ z (l.set o z) (o + 1) n
theorem fillZ_eq {α : Type} (z : α) : ∀ (n : Nat) (l : List α) (o : Nat), o + n ≤ l.length → fillZ z l o n = l.take o ++ List.replicate n z ++ l.drop (o + n)
  | 0, l, o, _ => by simp [fillZ]
  | n + 1, l, o, h => by
    rw [fillZ, fillZ_eq z n (l.set o z) (o + 1) (by simp; omega)]
    have ho : o < l.length := by omega
    have e1 : (l.set o z).take (o + 1) = l.take o ++ [z] := by
      have hl : (l.take o).length = o := by rw [List.length_take]; omega
      rw [List.take_set, List.take_add_one, List.set_append_right _ _ (by omega), hl, Nat.sub_self, List.getElem?_eq_getElem ho]
      rfl
    have e2 : (l.set o z).drop (o + 1 + n) = l.drop (o + 1 + n) := by
      rw [List.drop_set, if_pos (by omega)]
    rw [e1, e2, List.replicate_succ, List.append_assoc, List.append_assoc, List.append_assoc, show o + (n + 1) = o + 1 + n by omega]
    simp
theorem wordsF_clear (gs : List (List Int)) (f : List Int) (h : gs.flatten.length + f.length ≤ 1024) : fillZ 0 (wordsF (gs ++ [f])) gs.flatten.length f.length = wordsF gs := by
  rw [fillZ_eq _ _ _ _ (by unfold wordsF; rw [List.length_append, List.flatten_append, List.length_append]; simp only [List.flatten_cons, List.flatten_nil, List.append_nil]; omega)]
  unfold wordsF
  simp only [List.flatten_append, List.flatten_cons, List.flatten_nil, List.append_nil, List.append_assoc, List.length_append]
  rw [List.take_left' rfl, ← List.append_assoc gs.flatten f, List.drop_left' (by simp), List.replicate_append_replicate]
  congr 2; omega

theorem Row.fill {t : TypeId} (b : Nat) (z : Value) : ∀ (n : Nat) (o : Nat) (vs : List Value) (w : World), Row w b t vs → Row (w.setCells b o (List.replicate n z)) b t (fillZ z vs o n)
  | 0, _, _, _, h => h
  | n + 1, o, vs, w, h => by
    rw [List.replicate_succ, World.setCells, fillZ]
    exact Row.fill b z n (o + 1) _ _ (h.set o z)
theorem Kept.fill {S : List Nat} {a : World} (b : Nat) (hb : b ∈ S ∨ a.heap.size ≤ b) : ∀ (vs : List Value) (o : Nat) (w : World), Kept S a w → Kept S a (w.setCells b o vs)
  | [], _, _, h => h
  | v :: vs, o, w, h => by
    rw [World.setCells]
    exact Kept.fill b hb vs (o + 1) _ (h.set hb v)
theorem stackC_fill (u : Nat) (v : Value) : ∀ (n : Nat) (ws : List Int) (o : Nat), o + n ≤ ws.length → fillZ (.int .u64 0) (stackC ws u v) o n = stackC (fillZ 0 ws o n) u v
  | 0, _, _, _ => rfl
  | n + 1, ws, o, h => by
    rw [fillZ, fillZ, stackC_setWord o (by omega) 0]
    exact stackC_fill u v n _ (o + 1) (by rw [List.length_set]; omega)

theorem own_cap {w : World} {B g n c : Nat} {t : TypeId} {size : Nat} {vs : List Value} (h : w.ownsRow B t size (.slice (some ⟨g, 0, none⟩) n c) n vs) : n ≤ c := by
  rcases h.2 with ⟨h0, _⟩ | ⟨g', cap', cur, hv, _, _, hn, _⟩
  · cases h0
  · cases hv; exact hn
theorem own_form {w : World} {B : Nat} {t : TypeId} {size n : Nat} {v : Value} {vs : List Value} (h : w.ownsRow B t size v n vs) : ∃ A c, v = .slice A n c := by
  rcases h.2 with ⟨rfl, h0⟩ | ⟨g, cap, cur, rfl, _⟩
  · exact ⟨none, 0, by rw [h0]⟩
  · exact ⟨_, _, rfl⟩

/-- The stack in block b has these frames; v: the slice of them. -/
structure IsStack (w : World) (b : Nat) (v : Value) (fs : List (List Int)) : Prop where
  box : Row w b 54 (stackC (wordsF fs) (totF fs) v)
  own : w.ownsRow b 31 1 v fs.length (framesV b 0 fs)
  small : SmallF fs
/-- From one world to the next, the stack's own blocks aside. -/
structure GoesF (b : Nat) (v : Value) (w : World) (v' : Value) (w' : World) : Prop where
  kept : Kept (b :: v.ownBlock.toList) w w'
  at' : ∀ j, v'.ownBlock = some j → v.ownBlock = some j ∨ w.heap.size ≤ j
section
variable {w w' : World} {b : Nat} {v v' : Value} {fs : List (List Int)}
theorem IsStack.cellU (h : IsStack w b v fs) : w.cell? ⟨b, 1024, none⟩ = some (.int .i64 (totF fs : Nat)) := by
  exact (h.box.cell 1024).trans (stackC_used h.small.words)
theorem IsStack.cellF (h : IsStack w b v fs) : w.cell? ⟨b, 1025, none⟩ = some v := by
  exact (h.box.cell 1025).trans (stackC_frames h.small.words)
theorem IsStack.cellW (h : IsStack w b v fs) (j : Nat) (hj : j < 1024) : w.cell? ⟨b, j, none⟩ = some (.int .u64 ((wordsF fs)[j]?.getD 0)) := by
  exact (h.box.cell j).trans (stackC_word j (by rw [h.small.words]; exact hj))
theorem IsStack.lt (h : IsStack w b v fs) : b < w.heap.size := h.box.lt
theorem IsStack.blockLt (h : IsStack w b v fs) : ∀ j, v.ownBlock = some j → j < w.heap.size ∧ j ≠ b := by
  intro j hj
  rcases h.own.2 with ⟨rfl, _⟩ | ⟨g, cap, cur, rfl, hg, hb, _⟩
  · cases hj
  · have e : g = j := Option.some.inj hj
    subst e
    refine ⟨lt_of_block hb, fun e => ?_⟩
    subst e
    have hx : w.heap[g]? = _ := h.box
    rw [hb] at hx
    simp at hx
theorem IsStack.footLt (h : IsStack w b v fs) : ∀ j ∈ b :: v.ownBlock.toList, j < w.heap.size := by
  intro j hj
  rcases List.mem_cons.1 hj with rfl | hj
  · exact h.lt
  · exact (h.blockLt j (Option.mem_toList.1 hj)).1
theorem IsStack.keptS {S : List Nat} (h : IsStack w b v fs) (hk : Kept S w w') (hS : ∀ j ∈ S, j ∉ b :: v.ownBlock.toList) : IsStack w' b v fs :=
  ⟨h.box.kept hk (fun hm => hS b hm (by simp)), own_keptV h.own hk (fun j hj hm => hS j hm (by simp [hj])), h.small⟩
theorem IsStack.kept (h : IsStack w b v fs) (hk : Kept [] w w') : IsStack w' b v fs := h.keptS hk (by simp)
theorem IsStack.drewN (h : IsStack w b v fs) (n : Nat) : IsStack (w.drewN n) b v fs := h.kept ((Kept.refl [] w).drewN n)
theorem GoesF.refl (b : Nat) (v : Value) (w : World) : GoesF b v w v w := ⟨Kept.refl _ _, fun _ h => .inl h⟩
theorem GoesF.of_kept (h : Kept [] w w') : GoesF b v w v w' := ⟨h.any, fun _ h => .inl h⟩
theorem GoesF.trans {w'' : World} {v'' : Value} (h : GoesF b v w v' w') (k : GoesF b v' w' v'' w'') : GoesF b v w v'' w'' := by
  refine ⟨h.kept.chain k.kept (fun i hi _ => hi) (fun i hi hl => ?_), fun j hj => ?_⟩
  · rcases List.mem_cons.1 hi with rfl | hi
    · simp
    · rcases h.at' i (Option.mem_toList.1 hi) with h' | h'
      · simp [h']
      · omega
  · rcases k.at' j hj with h' | h'
    · exact h.at' j h'
    · exact .inr (Nat.le_trans h.kept.size h')
/-- What lies elsewhere lies elsewhere still. -/
theorem GoesF.off (h : GoesF b v w v' w') (k : Nat) (hk : k < w.heap.size) (hn : k ∉ b :: v.ownBlock.toList) : k ∉ b :: v'.ownBlock.toList := by
  intro hm
  rcases List.mem_cons.1 hm with rfl | hm
  · exact hn (by simp)
  · rcases h.at' k (Option.mem_toList.1 hm) with h' | h'
    · exact hn (by simp [h'])
    · omega
end
end Go.Proofs.Ytljpmckbkpoikaa
