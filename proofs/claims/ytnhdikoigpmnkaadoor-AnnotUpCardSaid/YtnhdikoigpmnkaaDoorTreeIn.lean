/- Package tree: Within. -/
import Derived.Test.YtnhdikoigpmnkaaDoorTree
namespace Go.Proofs.YtnhdikoigpmnkaaDoor
open Go.RowKit

def inB (rs : List Rw) (a b : Int) : Bool := decide (a ∈ idsT rs ∧ b ∈ idsT rs ∧ a ∈ subT rs b)
theorem inB_no {rs : List Rw} {a b : Int} (h : ¬ (a ∈ idsT rs ∧ b ∈ idsT rs)) : inB rs a b = false := by
  unfold inB; exact decide_eq_false (fun e => h ⟨e.1, e.2.1⟩)
/-- Upwards from a: x; whether b is met is not yet told. -/
def UpB (rs : List Rw) (a b x : Int) : Prop := (x ∈ idsT rs ∨ x = 0) ∧ (a ∈ subT rs b ↔ x ∈ subT rs b)
theorem UpB.step {k : Nat} {rs : List Rw} (hf : Fine k rs) (hk : k < 1000) {a b x : Int} (h : UpB rs a b x) (h0 : x ≠ 0) (hb : x ≠ b) : UpB rs a b (parB rs x) := by
  obtain ⟨hx, h2⟩ := h
  have hx' : x ∈ idsT rs := by rcases hx with h | h; exact h; exact absurd h h0
  refine ⟨(hf.up _ (mem_par hf hx')).symm, ?_⟩
  rw [h2, hf.sub_iff hk hx']
  simp [hb]
theorem UpB.done {k : Nat} {rs : List Rw} (hf : Fine k rs) (hk : k < 1000) {a b x : Int} (ha : a ∈ idsT rs) (hbi : b ∈ idsT rs) (h : UpB rs a b x) (h0 : x = 0 ∨ x = b) : decide (x = b) = inB rs a b := by
  unfold inB
  rw [decide_eq_decide]
  simp only [ha, hbi, true_and]
  rw [h.2]
  constructor
  · rintro rfl; simp [subT]
  · intro hm
    rcases h0 with rfl | h0
    · rcases List.mem_cons.1 hm with e | e
      · exact e
      · have := hf.pos' (hf.walk_ids hk e); omega
    · exact h0
/-- How far it is to the top. -/
noncomputable def farB {k : Nat} {rs : List Rw} (hf : Fine k rs) (x : Int) : Nat := (Classical.choose hf.rank) x
theorem farB_lt {k : Nat} {rs : List Rw} (hf : Fine k rs) {x : Int} (hx : x ∈ idsT rs) : farB hf (parB rs x) < farB hf x :=
  ((Classical.choose_spec hf.rank).2 _ (mem_par hf hx)).1
theorem parB_fit {rs : List Rw} (h : ∀ r ∈ rs, Fit64 r.1 ∧ Fit64 r.2) (x : Int) : Fit64 (parB rs x) := by
  unfold parB
  cases hf : rs.find? fun r => decide (r.1 = x) with
  | none => simp [Fit64]
  | some r => simpa using (h r (List.mem_of_find?_eq_some hf)).2

set_option maxRecDepth 100000 in
set_option maxHeartbeats 2000000 in
theorem treeWithin_any {k : Nat} (p g : Nat) (rs : List Rw) (a b : Int) (w : World) (h : IsTree w p g rs) (hf : Fine k rs) (hk : k < 1000) (ha : Fit64 a) (hb : Fit64 b) :
    Calls Tryd.prog 15 #[.pointer (some ⟨p, 0, none⟩), .int .i64 a, .int .i64 b] w fun e w' => e = .returned (.bool (inB rs a b)) ∧ w = w' := by
  have hc := h.cell
  go_enter Tryd.func15, Tryd.ntmps15
  go_wp2_with fail
  refine (treeHas_any p g rs a w h ha).mono ?_
  rintro e w1 ⟨rfl, rfl⟩
  by_cases h1 : a ∈ idsT rs
  · have HA := Lib.hid h1
    rw [decide_eq_true h1]
    clear h1
    go_wp2_with fail
    refine (treeHas_any p g rs b w h hb).mono ?_
    rintro e w1 ⟨rfl, rfl⟩
    by_cases h2 : b ∈ idsT rs
    · have HB := Lib.hid h2
      rw [decide_eq_true h2]
      clear h2
      go_wp2_with fail
      go_loopw [1] (fun v wr => ∃ x : Int, v = .int .i64 x ∧ Fit64 x ∧ UpB rs a b x ∧ w = wr) (fun v _ => farB hf (intOf v))
      case atStart => exact ⟨a, rfl, ha, ⟨.inl HA.out, Iff.rfl⟩, rfl⟩
      case round =>
        obtain ⟨x, rfl, hx, hU, rfl⟩ := hrel
        have hlook := h.own.look hx
        by_cases e1 : x = b
        · subst e1
          have hd := Lib.hid (hU.done hf hk HA.out HB.out (.inr rfl))
          go_wp2
          go_ret
          exact ⟨by rw [← hd.out]; simp, rfl⟩
        · by_cases e2 : x = 0
          · subst e2
            have e1' : decide ((0 : Int) = b) = false := by simpa using e1
            have hd := Lib.hid (hU.done hf hk HA.out HB.out (.inl rfl))
            go_wp2
            go_ret
            exact ⟨by rw [← hd.out]; simp [e1], rfl⟩
          · have hxi : x ∈ idsT rs := hU.1.elim id (fun h => absurd h e2)
            have hm := farB_lt hf hxi
            have hst := hU.step hf hk e2 e1
            have HX := Lib.hid hxi
            have e1' : (x != b) = true := by simpa using e1
            have e2' : (x != 0) = true := by simpa using e2
            clear hxi
            go_wp2_with fail
            go_roundw
            case rel => exact ⟨_, rfl, parB_fit h.fit x, hst, trivial⟩
            case measure => simpa [intOf] using hm
    · have HB := Lib.hid h2
      rw [decide_eq_false h2]
      clear h2
      go_wp2_with fail
      go_ret
      exact ⟨by rw [inB_no (fun e => HB.out e.2)]; rfl, rfl⟩
  · have HA := Lib.hid h1
    rw [decide_eq_false h1]
    clear h1
    go_wp2_with fail
    go_ret
    exact ⟨by rw [inB_no (fun e => HA.out e.1)]; rfl, rfl⟩
end Go.Proofs.YtnhdikoigpmnkaaDoor
