/- Package arena: Pages, Has. -/
import Derived.Test.YtenhelbmcapfkaaArena
import Derived.Test.YtenhelbmcapfkaaRangeBox
namespace Go.Proofs.Ytenhelbmcapfkaa
open Go.RowKit Go.Shelf

attribute [local go_sem] Oper.semAt_some

/-- How many pages. -/
def sumR (rs : List RunN) : Nat := (rs.map (·.2)).sum
theorem sumR_snoc (rs : List RunN) (r : RunN) : sumR (rs ++ [r]) = sumR rs + r.2 := by simp [sumR]
theorem sumR_le (l : List RunB) : sumR (runL l) ≤ 1024 * l.length := by
  induction l with
  | nil => simp [sumR, runL]
  | cons x l ih =>
    have := x.2.2
    simp only [sumR, runL, List.map_cons, List.sum_cons, List.length_cons] at ih ⊢
    omega
/-- Does a word stand in one of the pages? -/
def inR (rs : List RunN) (at_ : Int) : Bool := rs.any fun r => decide (16 * (r.1 : Int) ≤ at_ ∧ at_ < 16 * ((r.1 : Int) + r.2))

def PagesNPost (rs : List RunN) (w : World) (e : Ending) (w' : World) : Prop := e = .returned (.int .i64 (sumR rs)) ∧ Kept [] w w'

/-- What stands of Pages' loop. -/
def SumI (C : Nat) (W0 : World) (l : List RunN) (W : World) : Prop := Row W C 3 [.int .i64 (sumR l)] ∧ Kept [C] W0 W
theorem SumI.own {β : Type} (f : β → List RunN) (C : Nat) (W0 : World) : OwnFrom W0.heap.size (fun (s : β) W => SumI C W0 (f s) W) := by
  rintro s W W' row ⟨h1, h2⟩ hg hr
  exact ⟨Own.from (own_row (fun _ : Unit => [_])) W0.heap.size () W W' row h1 hg hr, ownFrom_kept (Nat.le_refl _) () W W' row h2 hg hr⟩

set_option maxRecDepth 100000 in
set_option maxHeartbeats 4000000 in
theorem arenaPages_in (n : Nat) (hn : 3 ≤ n) (fr : Option Addr) (d : AD) (w : World) (h : IsArena w fr d) (hrs : ∀ r ∈ d.rs, r.1 ≤ 1024 ∧ r.2 ≤ 1024) (hl : d.rs.length ≤ 1099511627776) :
    CallsIn Fence.wide n Try.prog 21 #[.pointer (some ⟨d.B, 0, none⟩)] w (PagesNPost d.rs w) := by
  have h1 : 1 ≤ n := by omega
  refine callsIn_of_wp_marks Try.func21 rfl trivial ?_ rfl
  simp only [Try.ntmps21, List.size_toArray, List.length_cons, List.length_nil, Nat.reduceAdd, Nat.reduceSub, Array.replicate_succ, Array.replicate_zero, List.push_toArray, List.append_toArray, List.nil_append, List.cons_append]
  gi_wp2
  refine ⟨trivial, (taken_in Fence.wide (n - 1) trivial rfl d.B _).mono ?_⟩
  rintro e w' ⟨rfl, rfl⟩
  have rC := (Row.new w 3 [.int .i64 0]).alloc (.cells #[.pointer (some ⟨d.B, 0, none⟩)] 32)
  have rS := Row.new (w.alloc (.cells #[.int .i64 0] 3)) 32 [.pointer (some ⟨d.B, 0, none⟩)]
  have k0 := ((Kept.refl [] w).alloc (.cells #[.int .i64 0] 3)).alloc (.cells #[.pointer (some ⟨d.B, 0, none⟩)] 32)
  have h0 := h.kept k0
  have hlt := h.lt
  simp only [World.size_alloc] at rS ⊢
  have hz : ((w.alloc (.cells #[.int .i64 0] 3)).alloc (.cells #[.pointer (some ⟨d.B, 0, none⟩)] 32)).heap.size = w.heap.size + 2 := by simp
  generalize (w.alloc (.cells #[.int .i64 0] 3)).alloc (.cells #[.pointer (some ⟨d.B, 0, none⟩)] 32) = W0 at rC rS k0 h0 hz ⊢
  obtain ⟨C, hC⟩ : ∃ C, w.heap.size = C := ⟨_, rfl⟩
  rw [hC] at rC rS hlt hz ⊢
  gi_wp2
  have hroad : ∀ k ∈ d.road (C + 1), k < W0.heap.size ∧ k ≠ C := by
    intro k hk
    rcases List.mem_cons.1 hk with rfl | hk
    · omega
    · rcases List.mem_cons.1 hk with rfl | hk
      · have := hlt d.B (by simp [AD.foot]); omega
      · have := hlt k (AD.mem_foot.2 (.inr (.inr (.inl (Option.mem_toList.1 hk))))); omega
  refine wpIn_range_box 4 63 (fun x : RunB => [.int .i64 x.1.1, .int .i64 x.1.2]) rfl h1 rfl trivial (enters_of Try.func51 (by kernel_rfl) rfl) (taken1_stops (n - 1) (C + 1) fr d hrs hl W0 rS h0) KeepsL.trans (KeepsL.put (fun k hk => (hroad k hk).1))
    (fun pre W => SumI C W0 (runL pre) W) (fun _ _ _ => False) ?ka (SumI.own _ _ _) (fun _ _ _ _ _ h _ _ => h) (fun _ _ h => h.2.size) ⟨rC, Kept.refl _ _⟩ ?assign ?body ?done (fun _ _ _ _ _ _ h _ => h.elim)
  case ka =>
    intro pre W o hi
    exact KeepsL.refl.alloc (fun k hk => Nat.lt_of_lt_of_le (hroad k hk).1 hi.2.size) o
  case assign =>
    intro l x W K hK
    unfold encR
    simp only [encR, List.setIfInBounds_toArray, List.set_cons_succ, List.set_cons_zero] at hK ⊢
    gi_wp2
    exact hK
  case body =>
    rintro l pre ⟨⟨x1, x2⟩, hx⟩ V W hV hrV ⟨hC1, hkk⟩ hlt1
    have hx2 : x2 ≤ 1024 := hx.2
    have hsum := sumR_le pre
    have hw1 : IntKind.i64.wrap ((sumR (runL pre) : Int) + (x2 : Int)) = (sumR (runL pre) : Int) + (x2 : Int) := by rw [IntKind.wrap_i64]; omega
    have hap : runL (pre ++ [⟨(x1, x2), hx⟩]) = runL pre ++ [(x1, x2)] := by rw [runL_append, runL_one]
    have HAP := Lib.hid hap
    have cC : W.cell? ⟨C, 0, none⟩ = some (.int .i64 (sumR (runL pre))) := by simpa using hC1.cell 0
    have fC := hC1.free 0
    have cV : W.cell? ⟨V, 1, none⟩ = some (.int .i64 x2) := by simpa using hrV.cell 1
    have hzW := hkk.size
    simp only [encR, List.setIfInBounds_toArray, List.set_cons_succ, List.set_cons_zero]
    clear hap hrV
    generalize runL pre = l0 at *
    gi_wp2
    have kA : Kept [C] W _ := (Kept.refl [C] W).set (p := ⟨C, 0, none⟩) (.inl (by simp)) (.int .i64 ((sumR l0 : Int) + x2))
    refine ⟨KeepsFrom.of_keptC kA (by intro s hs; left; simp at hs; omega), KeepsL.of_kept kA (fun k hk => Nat.lt_of_lt_of_le (hroad k hk).1 hzW) (fun k hk hm => (hroad k hk).2 (by simpa using hm)), ?_, hkk.trans kA⟩
    rw [HAP.out, sumR_snoc]
    have := hC1.set 0 (.int .i64 ((sumR l0 : Int) + x2))
    simpa using this
  case done =>
    rintro D ys W hD hys ⟨hC1, hkk⟩ hK
    rw [hys] at hC1
    have cC : W.cell? ⟨C, 0, none⟩ = some (.int .i64 (sumR d.rs)) := by simpa using hC1.cell 0
    gi_wp2
    try rw [Exit.noGoto_ret]
    refine ⟨by simp, .inl ⟨_, _, rfl, run_takeDeferred hK, ?_⟩⟩
    have kD : Kept [C] W0 (W.putObj D (.deferred none)) := hkk.put (.inr hD) _
    exact ⟨_, results_tmp rfl _ _ _, rfl, k0.chain kD (by simp) (by simp; omega)⟩

theorem arenaPages_any (fr : Option Addr) (d : AD) (w : World) (h : IsArena w fr d) (hrs : ∀ r ∈ d.rs, r.1 ≤ 1024 ∧ r.2 ≤ 1024) (hl : d.rs.length ≤ 1099511627776) :
    Calls Try.prog 21 #[.pointer (some ⟨d.B, 0, none⟩)] w (PagesNPost d.rs w) := (callsIn_wide (n := 3)).1 (arenaPages_in 3 (by omega) fr d w h hrs hl)
end Go.Proofs.Ytenhelbmcapfkaa
