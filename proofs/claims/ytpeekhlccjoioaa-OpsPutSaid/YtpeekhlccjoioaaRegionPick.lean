/- A region that draws its order, whose callees may make memory: one way through it. What yields its value in every world that meets S is taken as soon as it may come up, what its guard turns off as well; a call comes up alone. -/
import Derived.OrdersHeld
import Derived.Deep.RegionHeld
import Derived.Maps.RangeWalk
namespace Go.Proofs.Ytpeekhlccjoioaa
section
variable {P : Program} {md : Region.Mode} {ops : Array Oper} {Q : Exit → Act → World → Prop} {S : World → Prop} {listed : Array Bool} {a : Act} {w : World}

/-- What is left of the region: the operations with their numbers. -/
def wpPick (P : Program) (md : Region.Mode) (ops : Array Oper) (Q : Exit → Act → World → Prop) (S : World → Prop) (l : List (Nat × Oper)) (listed : Array Bool) (a : Act) (w : World) : Prop :=
  (∀ p, p ∈ l → ops[p.1]? = some p.2) → S w → wpAnyH P md ops Q S l.length listed a w

/-- May number i be taken now? -/
def mayTake (md : Region.Mode) (ops : Array Oper) (listed : Array Bool) (i : Nat) : Bool := Region.noSelect ops && Region.free md ops listed i && (Region.ready md ops listed).contains i

/-- No call of a Go function. -/
def plainOp (o : Oper) : Bool := match o.op with
  | .call c => (match c.callee with | .builtin _ => true | _ => false)
  | _ => true

theorem pick_any {l l' : List (Nat × Oper)} {i : Nat} {o : Oper} {v : Value} (hm : (i, o) ∈ l) (hl : ∀ p, p ∈ l' → p ∈ l) (hn : l.length = l'.length + 1) (hB : mayTake md ops listed i = true)
    (hQ : ∀ c a w, Q (.panic c) (a.put o.dst v) w → Q (.panic c) a w) (hy : YieldsIf P ops S o v a) (h : wpPick P md ops Q S l' (listed.setIfInBounds i true) (a.put o.dst v) w) : wpPick P md ops Q S l listed a w := by
  intro hop hS
  simp only [mayTake, Bool.and_eq_true] at hB
  rw [hn]
  exact wpAnyH_take (hop _ hm) hB.1.1 hB.1.2 hB.2 hQ hy hS (h (fun p hp => hop p (hl p hp)) hS)

theorem pick_take0 {i : Nat} {o : Oper} {v : Value} {r : List (Nat × Oper)} (_hp : plainOp o = true) (hB : mayTake md ops listed i = true) (hQ : ∀ c a w, Q (.panic c) (a.put o.dst v) w → Q (.panic c) a w)
    (hw : Region.wanted o (yielded ops a.tmps) = true) (hy : ∀ w, S w → (execOp a.eval o).run P w = .ok (.value v) w) (h : wpPick P md ops Q S r (listed.setIfInBounds i true) (a.put o.dst v) w) : wpPick P md ops Q S ((i, o) :: r) listed a w :=
  pick_any (by simp) (fun p hp => by simp [hp]) rfl hB hQ (.inl ⟨hw, hy⟩) h
theorem pick_skip0 {i : Nat} {o : Oper} {r : List (Nat × Oper)} (hB : mayTake md ops listed i = true) (hQ : ∀ c a w, Q (.panic c) (a.put o.dst undef) w → Q (.panic c) a w)
    (hw : Region.wanted o (yielded ops a.tmps) = false) (h : wpPick P md ops Q S r (listed.setIfInBounds i true) (a.put o.dst undef) w) : wpPick P md ops Q S ((i, o) :: r) listed a w :=
  pick_any (by simp) (fun p hp => by simp [hp]) rfl hB hQ (.inr ⟨hw, rfl⟩) h
theorem mem_behind {α : Type} {p x : α} {pre r : List α} (h : p ∈ pre ++ r) : p ∈ pre ++ x :: r := by
  rcases List.mem_append.1 h with h | h
  · exact List.mem_append_left _ h
  · exact List.mem_append_right _ (List.mem_cons_of_mem _ h)
theorem pick_take1 {i : Nat} {o : Oper} {v : Value} {x : Nat × Oper} {r : List (Nat × Oper)} (_hp : plainOp o = true) (hB : mayTake md ops listed i = true) (hQ : ∀ c a w, Q (.panic c) (a.put o.dst v) w → Q (.panic c) a w)
    (hw : Region.wanted o (yielded ops a.tmps) = true) (hy : ∀ w, S w → (execOp a.eval o).run P w = .ok (.value v) w) (h : wpPick P md ops Q S (x :: r) (listed.setIfInBounds i true) (a.put o.dst v) w) : wpPick P md ops Q S (x :: (i, o) :: r) listed a w :=
  pick_any (by simp) (fun _ hp => mem_behind (pre := [x]) hp) rfl hB hQ (.inl ⟨hw, hy⟩) h
theorem pick_take2 {i : Nat} {o : Oper} {v : Value} {x y : Nat × Oper} {r : List (Nat × Oper)} (_hp : plainOp o = true) (hB : mayTake md ops listed i = true) (hQ : ∀ c a w, Q (.panic c) (a.put o.dst v) w → Q (.panic c) a w)
    (hw : Region.wanted o (yielded ops a.tmps) = true) (hy : ∀ w, S w → (execOp a.eval o).run P w = .ok (.value v) w) (h : wpPick P md ops Q S (x :: y :: r) (listed.setIfInBounds i true) (a.put o.dst v) w) : wpPick P md ops Q S (x :: y :: (i, o) :: r) listed a w :=
  pick_any (by simp) (fun _ hp => mem_behind (pre := [x, y]) hp) rfl hB hQ (.inl ⟨hw, hy⟩) h
theorem pick_take3 {i : Nat} {o : Oper} {v : Value} {x y z : Nat × Oper} {r : List (Nat × Oper)} (_hp : plainOp o = true) (hB : mayTake md ops listed i = true) (hQ : ∀ c a w, Q (.panic c) (a.put o.dst v) w → Q (.panic c) a w)
    (hw : Region.wanted o (yielded ops a.tmps) = true) (hy : ∀ w, S w → (execOp a.eval o).run P w = .ok (.value v) w) (h : wpPick P md ops Q S (x :: y :: z :: r) (listed.setIfInBounds i true) (a.put o.dst v) w) : wpPick P md ops Q S (x :: y :: z :: (i, o) :: r) listed a w :=
  pick_any (by simp) (fun _ hp => mem_behind (pre := [x, y, z]) hp) rfl hB hQ (.inl ⟨hw, hy⟩) h

/-- A call: it alone may come up. -/
theorem pick_call {i : Nat} {o : Oper} {r : List (Nat × Oper)} (hB : Region.ready md ops listed = [i]) (hw : Region.wanted o (yielded ops a.tmps) = true)
    (h : ∀ K : Act → World → Prop, (∀ a' w', S w' → wpPick P md ops Q S r (listed.setIfInBounds i true) a' w' → K a' w') → o.wp P a w K Q) : wpPick P md ops Q S ((i, o) :: r) listed a w := by
  intro hop hS
  refine wpAnyH_all hB (by simp) (fun j hj => ?_)
  obtain rfl : j = i := by simpa using hj
  have hi := hop (j, o) (by simp)
  unfold wpOp
  simp only [hi, hw, if_true]
  exact .inl (h _ (fun a' w' hS' h' => ⟨hS', h' (fun p hp => hop p (by simp [hp])) hS'⟩))

/-- Two that may come up: the first one, or one behind it: both ways. -/
theorem pick_two (n2 : Nat) {i j : Nat} {o o2 : Oper} {r : List (Nat × Oper)} (h2m : r[n2]? = some (j, o2)) (hB : Region.ready md ops listed = [i, j]) (hw : Region.wanted o (yielded ops a.tmps) = true) (hw2 : Region.wanted o2 (yielded ops a.tmps) = true)
    (h : ∀ K : Act → World → Prop, (∀ a' w', S w' → wpPick P md ops Q S r (listed.setIfInBounds i true) a' w' → K a' w') → o.wp P a w K Q)
    (h2 : ∀ K : Act → World → Prop, (∀ a' w', S w' → wpPick P md ops Q S ((i, o) :: r.eraseIdx n2) (listed.setIfInBounds j true) a' w' → K a' w') → o2.wp P a w K Q) : wpPick P md ops Q S ((i, o) :: r) listed a w := by
  intro hop hS
  have hlt : n2 < r.length := (List.getElem?_eq_some_iff.1 h2m).1
  have hmr : (j, o2) ∈ r := List.mem_of_getElem? h2m
  refine wpAnyH_all hB (by simp) (fun k hk => ?_)
  rcases List.mem_cons.1 hk with rfl | hk
  · have hi := hop (k, o) (by simp)
    unfold wpOp
    simp only [hi, hw, if_true]
    exact .inl (h _ (fun a' w' hS' h' => ⟨hS', h' (fun p hp => hop p (by simp [hp])) hS'⟩))
  · obtain rfl : k = j := by simpa using hk
    have hi := hop (k, o2) (by simp [hmr])
    unfold wpOp
    simp only [hi, hw2, if_true]
    refine .inl (h2 _ (fun a' w' hS' h' => ⟨hS', ?_⟩))
    have h3 := h' (fun p hp => by
      rcases List.mem_cons.1 hp with rfl | hp
      · exact hop _ (by simp)
      · exact hop p (List.mem_cons_of_mem _ (List.mem_of_mem_eraseIdx hp))) hS'
    rw [List.length_cons, List.length_eraseIdx_of_lt hlt, show r.length - 1 + 1 = r.length by omega] at h3
    exact h3

theorem pick_done (hB : Region.ready md ops listed = []) (h : Q .normal a w) : wpPick P md ops Q S [] listed a w := fun _ _ => wpAnyH_done hB h _

/-- The operations with their numbers. -/
def numbered : Nat → List Oper → List (Nat × Oper)
  | _, [] => []
  | n, o :: r => (n, o) :: numbered (n + 1) r
theorem numbered_length : ∀ (l : List Oper) (n : Nat), (numbered n l).length = l.length
  | [], _ => rfl
  | _ :: r, n => by simp [numbered, numbered_length r (n + 1)]
theorem numbered_mem : ∀ (l : List Oper) (n : Nat) (p : Nat × Oper), p ∈ numbered n l → n ≤ p.1 ∧ l[p.1 - n]? = some p.2
  | [], _, _, h => by cases h
  | o :: r, n, p, h => by
    rcases List.mem_cons.1 h with rfl | h
    · simp
    · obtain ⟨h1, h2⟩ := numbered_mem r (n + 1) p h
      refine ⟨by omega, ?_⟩
      rw [show p.1 - n = (p.1 - (n + 1)) + 1 by omega, List.getElem?_cons_succ]
      exact h2

/-- The beginning. -/
theorem wp_region_pick (S : World → Prop) {id : Nat} {l : List Oper} {Q : Exit → Act → World → Prop} (hm : P.follows .mixedOrders = true) (hS : S w.drew)
    (h : wpPick P .any l.toArray Q S (numbered 0 l) (Array.replicate l.length false) a w.drew) : (Code.region id l.toArray true).wp P Q a w := by
  refine wp_region_held_drew hm hS (fun hS' => ?_)
  have := h (fun p hp => by
    have := (numbered_mem l 0 p hp).2
    simpa using this) hS'
  rw [numbered_length] at this
  exact this
end
end Go.Proofs.Ytpeekhlccjoioaa
