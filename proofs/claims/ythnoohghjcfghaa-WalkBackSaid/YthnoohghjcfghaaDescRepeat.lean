/- slices.Repeat at one number, slices.Clone. -/
import Derived.Test.YthnoohghjcfghaaShelfLay
import Derived.Test.YthnoohghjcfghaaSlG
import Derived.Laws.CopyOwn
import Derived.Deep.RegionLaw
import Derived.WalkKit
import Derived.Lib.SliceRun
import Derived.StillTailTactics
namespace Go.Proofs.Ythnoohghjcfghaa
open Go.RowKit

theorem info_int07 : (Try.prog.info? 3).map (fun i => (i.zero, i.size, i.bytes)) = some (some (.int .i64 0), 1, 8) := by kernel_rfl
theorem size_int07 : (Try.prog.info? 3).map (·.size) = some 1 := by kernel_rfl
theorem mulOne_any (N : Nat) (hN : N ≤ 1099511627776) (w : World) : Calls Try.prog 51 #[.int .u64 1, .int .u64 N] w fun e w' => e = .returned (.tuple #[.int .u64 0, .int .u64 (N : Int)]) ∧ w' = w := by
  have h := lib_bits_Mul 1 N (by omega) (by omega) w
  rw [show 1 * N / 18446744073709551616 = 0 by omega, show 1 * N % 18446744073709551616 = N by omega] at h
  exact h
/-- m times K, then zeros, N in all. -/
def rowB (K : Int) (N m : Nat) : List Value := List.replicate m (.int .i64 K) ++ List.replicate (N - m) (.int .i64 0)
theorem rowB_length {K : Int} {N m : Nat} (h : m ≤ N) : (rowB K N m).length = N := by simp [rowB]; omega
theorem rowB_splice {K : Int} {N m c : Nat} (h : m + c ≤ N) : splice (rowB K N m) m (List.replicate c (.int .i64 K)) = rowB K N (m + c) := by
  unfold splice rowB
  rw [List.take_append_of_le_length (by simp), List.take_of_length_le (by simp), List.drop_append, List.length_replicate, List.length_replicate, List.drop_of_length_le (by simp), List.nil_append, List.drop_replicate,
    ← List.append_assoc, List.replicate_append_replicate]
  congr 2
  omega
theorem rowB_get {K : Int} {N m j : Nat} (h : j < m) : (rowB K N m)[j]? = some (.int .i64 K) := by
  unfold rowB
  rw [List.getElem?_append_left (by simpa using h)]
  simp [h]
theorem rowB_full (K : Int) (N : Nat) : rowB K N N = (List.replicate N K).map (Value.int .i64) := by simp [rowB]
theorem rep_one (K : Int) (c : Nat) : ∀ v ∈ List.replicate c (Value.int .i64 K), v.oneCell' = true := by
  intro v hv
  rw [(List.mem_replicate.1 hv).2]
  rfl

theorem src_one {w w1 : World} {b off : Nat} {K : Int} {N : Nat} (hb : w1.heap[b]? = w.heap[b]?) (cA : w.cell? ⟨b, off + 0, none⟩ = some (.int .i64 ([K][0]?.getD 0))) {j : Nat} {v : Value} (hv : (List.replicate (min 1 N) (Value.int .i64 K))[j]? = some v) :
    w1.cell? ((⟨b, off, none⟩ : Addr).add j) = some v := by
  obtain ⟨hj, rfl⟩ := List.getElem?_eq_some_iff.1 hv
  obtain rfl : j = 0 := by simp at hj; omega
  rw [add_none, List.getElem_replicate]
  exact (World.cell?_of_block (w := w) (a := ⟨b, off + 0, none⟩) hb).trans cA
theorem src_row {w : World} {g : Nat} {t : TypeId} {K : Int} {N m c : Nat} (h : Row w g t (rowB K N m)) (hc : c ≤ m) {j : Nat} {v : Value} (hv : (List.replicate c (Value.int .i64 K))[j]? = some v) :
    w.cell? ((⟨g, 0, none⟩ : Addr).add j) = some v := by
  obtain ⟨hj, rfl⟩ := List.getElem?_eq_some_iff.1 hv
  rw [List.length_replicate] at hj
  rw [add_none, List.getElem_replicate, Nat.zero_add, h.cell j]
  exact rowB_get (by omega)

set_option maxRecDepth 100000 in
set_option maxHeartbeats 2000000 in
theorem repeat_any (A : Option Addr) (ca : Nat) (K : Int) (N : Nat) (w : World) (hs : Sl w .i64 A [K]) (hN : N ≤ 1099511627776) :
    Calls Try.prog 48 #[.slice A 1 ca, .int .i64 N] w fun e w' => ∃ g, e = .returned (.slice (some ⟨g, 0, none⟩) N N) ∧ Row w' g 3 ((List.replicate N K).map (Value.int .i64)) ∧ w.heap.size ≤ g ∧ Kept [] w w' := by
  obtain ⟨i0, hi, hz0, hz1, hz2⟩ := info_parts info_int07
  have wu : IntKind.u64.wrap (N : Int) = N := by rw [IntKind.wrap_u64]; omega
  have wi : IntKind.i64.wrap (N : Int) = N := by rw [IntKind.wrap_i64]; omega
  have h63 : decide ((9223372036854775807 : Int) < (N : Int)) = false := decide_eq_false (by omega)
  obtain ⟨b, off, rfl, cA⟩ := hs.cell (j := 0) (by simp)
  have hbl : b < w.heap.size := by simpa using block_lt_of_cell cA
  go_enter Try.func48, Try.ntmps48
  go_wp2_with (first
    | (go_at_call 51; refine (mulOne_any N hN w).mono ?_; rintro e w' ⟨rfl, hw⟩; rw [hw])
    | (refine wpList_make_row _ rfl _ _ 33 rfl 3 i0 (.int .i64 0) Try.underlying33 hi hz0 hz1 rfl .i64 .i64 N N N rfl rfl rfl rfl (by rw [hz2]; omega) (by unfold maxLen; omega) ?_; intro w1 hr hk hsz)
    | (refine wpList_copy_splice rfl _ _ 33 33 rfl 3 Try.underlying33 size_int07 _ _ N N 1 ca rfl rfl w.heap.size 0 (zeros (.int .i64 0) N) 3 hr (List.replicate (min 1 N) (.int .i64 K)) List.length_replicate
        (fun _ => ⟨rfl, _, rfl, fun j v hv => src_one (hk.block b hbl (by simp)) cA hv⟩)
        (by simp only [zeros, List.length_replicate]; omega) (rep_one _ _) w.heap.size w (hk.below (by simp) (Nat.le_refl _)) (Nat.le_refl _) ?_; intro w2 hr2 hb2)
    | fail)
  have hgl : w.heap.size < w2.heap.size := lt_of_block hr2.out
  have hr3 : Row w2 w.heap.size 3 (rowB K N (min 1 N)) := by
    have h := hr2.out
    rw [show zeros (.int .i64 0) N = rowB K N 0 from by simp [zeros, rowB], rowB_splice (by omega), Nat.zero_add] at h
    exact h
  obtain ⟨g, hg⟩ : ∃ g, w.heap.size = g := ⟨_, rfl⟩
  have HG := Lib.hid hg
  rw [hg] at hr3 hb2 ⊢
  obtain ⟨c, hc⟩ : ∃ c, min 1 N = c := ⟨_, rfl⟩
  have hcN : c ≤ N ∧ (0 < N → 0 < c) := by omega
  rw [hc] at hr3 ⊢
  clear hc hr2 hr hk hsz hg hgl hw w' w1
  go_wp2_with fail
  go_loopw [8] (fun n wr => ∃ m : Nat, m ≤ N ∧ (0 < N → 0 < m) ∧ n = .int .i64 m ∧ Row wr g 3 (rowB K N m) ∧ Below g w wr) (fun n _ => N - (intOf n).toNat)
  case atStart => exact ⟨c, hcN.1, hcN.2, rfl, hr3, hb2⟩
  case round =>
    obtain ⟨m, hm, hm0, rfl, hor, hbr⟩ := hrel
    clear hcN hr3 hb2
    by_cases hlt : m < N
    · obtain ⟨d, hd⟩ : ∃ d, min m (N - m) = d := ⟨_, rfl⟩
      have hd1 : d ≤ m ∧ m + d ≤ N ∧ 0 < d := by have := hm0 (by omega); omega
      have HD := Lib.hid hd
      clear hd
      have hne : ¬ N = m := by omega
      have hB0 := Below.refl g wr.drew
      go_wp2_with fail
      go_region_law (refine step_copy_splice (by rfl) (.tmp 41) (.tmp 44) 33 33 (by rfl) 3 Try.underlying33 size_int07 (some ⟨g, m, none⟩) (some ⟨g, 0, none⟩) (N - m) (N - m) m N (by simp [Act.eval, Act.put]) (by simp [Act.eval, Act.put]) g m (rowB K N m) 3 hor.drew (List.replicate d (.int .i64 K)) (by rw [List.length_replicate]; exact HD.out.symm) (fun _ => ⟨rfl, _, rfl, fun j v hv => src_row hor.drew hd1.1 hv⟩) (by rw [List.length_replicate, rowB_length hm]; exact hd1.2.1) (rep_one _ _) g wr.drew hB0 (Nat.le_refl _) ?_; intro w4 hr4 hb4)
      have wmd : IntKind.i64.wrap ((m : Int) + (d : Int)) = ((m + d : Nat) : Int) := by rw [IntKind.wrap_i64]; omega
      have hr5 : Row w4 g 3 (rowB K N (m + d)) := by
        have h := hr4.out
        rw [rowB_splice hd1.2.1] at h
        exact h
      have hb5 : Below g w w4 := hbr.drew.trans hb4
      clear hr4 hb4 hor hbr
      simp only [List.getElem_toArray, List.getElem_cons_succ, List.getElem_cons_zero, Act.put, List.setIfInBounds_toArray, List.set_cons_succ, List.set_cons_zero]
      go_wp2
      go_roundw
      case rel => exact ⟨m + d, by omega, fun _ => by omega, by go_num, hr5, hb5⟩
      case measure => simp [intOf]; omega
    · obtain rfl : m = N := by omega
      go_wp2
      go_ret
      refine ⟨g, rfl, ?_, ?_, Kept.of_below ?_⟩
      · rw [← rowB_full]; exact hor
      · rw [HG.out]; exact Nat.le_refl _
      · rw [HG.out]; exact hbr

/-- slices.Clone at numbers: a slice of the call's own, or nil. -/
def CloneAns (xs : List Int) (w : World) (e : Ending) (w' : World) : Prop :=
  ∃ v, e = .returned v ∧ w'.ownsRow w.heap.size 3 1 v xs.length (xs.map (Value.int .i64)) ∧ Kept [] w w'
set_option maxHeartbeats 1000000 in
theorem clone_any (A : Option Addr) (ca : Nat) (xs : List Int) (w : World) (hs : Sl w .i64 A xs) (hN : xs.length ≤ 1099511627776) :
    Calls Try.prog 49 #[.slice A xs.length ca] w (CloneAns xs w) := by
  obtain ⟨i0, hi, hz0, hz1, hz2⟩ := info_parts info_int07
  have hnil := fun (w : World) (a : Option Addr) (n c n' c' : Nat) => Lib.run_eql_slice_nil w 33 3 a n c n' c' Try.underlying33
  cases A with
  | none =>
    rcases hs with rfl | ⟨b, off, h, _⟩
    · go_enter Try.func49, Try.ntmps49
      go_wp2
      go_ret
      exact ⟨_, rfl, World.ownsRow_nil _ _ _ _, Kept.refl _ _⟩
    · cases h
  | some ad =>
    have own0 := own_empty w 3 1 w.heap.size (Nat.le_refl _)
    have k0 := (Kept.refl [] w).alloc (.cells #[] 3)
    have s0 := (hs.kept k0).toV
    go_enter Try.func49, Try.ntmps49
    go_wp2_with (at_builtin; refine wpList_append_on _ rfl _ _ 33 rfl w.heap.size 3 i0 (.int .i64 0) 1 8 Try.underlying33 hi hz0 hz1 hz2 rfl (by omega) w.heap.size 0 0 [] rfl own0 (some ad) xs.length ca _ rfl s0 int_oneCell (by unfold maxLen; omega) (by omega) k0.size ?_; intro g' cap' w1 hown hk _; rw [Nat.zero_add, List.nil_append] at hown; rw [Nat.zero_add])
    go_ret
    exact ⟨_, rfl, hown, k0.chain hk (by simp) (by simp)⟩
end Go.Proofs.Ythnoohghjcfghaa
