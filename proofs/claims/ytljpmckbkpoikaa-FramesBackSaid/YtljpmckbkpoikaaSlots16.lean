/- Package kraalref16: the document's answers; a row of words of the call's own. -/
import Derived.Test.YtljpmckbkpoikaaProg
import Derived.Test.YtljpmckbkpoikaaKept
import Derived.Test.YtljpmckbkpoikaaNum
import Derived.Test.YtljpmckbkpoikaaAppend
import Derived.WalkSpells
import Derived.Deep.QuietTactic
import Derived.BigQuiet
import Derived.OwnWalk
namespace Go.Proofs.Ytljpmckbkpoikaa
open Go.RowKit

/-- Is there a slot i among n? -/
def slotB (n i : Nat) : Bool := decide (i < n)

theorem Try.infoU23 : (Try.prog.info? 23).map (fun i => (i.zero, i.size, i.bytes)) = some (some (.int .u64 0), 1, 8) := by kernel_rfl

/-- What a copy leaves: a row of its own that holds the same. -/
def OwnPost (n : Nat) (xs : List Int) (w : World) (e : Ending) (w' : World) : Prop :=
  ∃ r cap, e = .returned (.slice (some ⟨r, 0, none⟩) n cap) ∧ w'.ownsRow w.heap.size 23 1 (.slice (some ⟨r, 0, none⟩) n cap) n (xs.map (Value.int .u64)) ∧ Kept [] w w'

/-- What a call of these leaves: a slice that holds xs', in no block that lay before but that of A. -/
def RefSlU (n : Nat) (A : Option Addr) (xs' : List Int) (w : World) (A' : Option Addr) (w' : World) : Prop :=
  xs'.length = n ∧ Sl w' .u64 A' xs' ∧ (A' = A ∨ ∃ g, A' = some ⟨g, 0, none⟩ ∧ w.heap.size ≤ g) ∧ Kept [] w w'

set_option maxRecDepth 100000 in
set_option maxHeartbeats 1000000 in
theorem refGet16_any (A : Option Addr) (n cap : Nat) (xs : List Int) (i : Nat) (w : World) (hs : Sl w .u64 A xs) (hn : xs.length = n) (hx : n ≤ 16384) :
    Calls Try.prog 25 #[.slice A n cap, .int .u64 i] w fun e w' =>
      e = .returned (.tuple #[.int .u64 (xs[i]?.getD 0), .int .i64 (errB (slotB n i))]) ∧ w = w' := by
  subst hn
  have hwl : IntKind.u64.wrap (xs.length : Int) = (xs.length : Int) := by rw [IntKind.wrap_u64]; omega
  by_cases hn : i < xs.length
  · have hh : slotB xs.length i = true := by simpa [slotB] using hn
    have H := Lib.hid hh
    obtain ⟨b, off, rfl, hc⟩ := hs.cell hn
    generalize xs[i]?.getD 0 = y at hc ⊢
    have d1 : decide ((xs.length : Int) ≤ (i : Int)) = false := by simp; omega
    have hwi : IntKind.i64.wrap (i : Int) = (i : Int) := IntWalk.i64_in _ (by omega)
    clear hh
    go_enter Try.func25, Try.ntmps25
    go_wp2
    go_ret2
    exact ⟨by rw [H.out]; rfl, rfl⟩
  · have hh : slotB xs.length i = false := by simp [slotB]; omega
    have hv : xs[i]?.getD 0 = 0 := by rw [List.getElem?_eq_none (by omega)]; rfl
    have H := Lib.hid hh
    have HV := Lib.hid hv
    have d1 : decide ((xs.length : Int) ≤ (i : Int)) = true := by simp; omega
    clear hh hv
    go_enter Try.func25, Try.ntmps25
    go_wp2
    go_ret2
    exact ⟨by rw [H.out, HV.out]; rfl, rfl⟩

set_option maxRecDepth 100000 in
set_option maxHeartbeats 1000000 in
theorem refSet16_any (A : Option Addr) (n cap : Nat) (xs : List Int) (i : Nat) (v : Int) (w : World) (hs : Sl w .u64 A xs) (hn : xs.length = n) (hx : n ≤ 16384) :
    Calls Try.prog 24 #[.slice A n cap, .int .u64 i, .int .u64 v] w fun e w' =>
      ∃ A' cap', e = .returned (.tuple #[.slice A' n cap', .int .u64 (xs[i]?.getD 0), .int .i64 (errB (slotB n i))]) ∧ RefSlU n A (xs.set i v) w A' w' := by
  subst hn
  obtain ⟨i0, hi, hz0, hz1, hz2⟩ := info_parts Try.infoU23
  by_cases hn : i < xs.length
  · have hh : slotB xs.length i = true := by simpa [slotB] using hn
    have H := Lib.hid hh
    have hwi : IntKind.i64.wrap (i : Int) = (i : Int) := IntWalk.i64_in _ (by omega)
    have own0 := own_empty w 23 1 w.heap.size (Nat.le_refl _)
    have k0 := (Kept.refl [] w).alloc (.cells #[] 23)
    have s0 := (hs.kept k0).toV
    clear hh
    go_enter Try.func24, Try.ntmps24
    go_wp2_with fail
    refine (refGet16_any A _ cap xs i w hs rfl hx).mono ?_
    rintro e w' ⟨rfl, rfl⟩
    rw [H.out, show errB true = 0 from rfl]
    obtain ⟨y, hy⟩ : ∃ y, xs[i]?.getD 0 = y := ⟨_, rfl⟩
    rw [hy]
    have HY := Lib.hid hy
    clear hy
    go_wp2_with (at_builtin; refine wpList_append_on _ rfl _ _ 31 rfl w.heap.size 23 i0 (.int .u64 0) 1 8 Try.underlying31 hi hz0 hz1 hz2 rfl (by omega) w.heap.size 0 0 [] rfl own0 A xs.length cap _ rfl s0 int_oneCell (by unfold maxLen; omega) (by omega) (by simp) ?_; intro g' cap' w1 hown hk _; rw [Nat.zero_add, List.nil_append] at hown; rw [Nat.zero_add]; have hcell := hown.cellAt i (by omega); have hfr := hown.frozenAt i; rw [List.getElem?_map, List.getElem?_eq_getElem hn, Option.map_some] at hcell)
    go_ret3
    have hst := (hown.stored i (.int .u64 v)).1
    rw [← List.map_set] at hst
    have hk1 : Kept [] w w1 := k0.chain hk (by simp) (by simp)
    exact ⟨some ⟨g', 0, none⟩, cap', by rw [H.out, HY.out]; rfl, by simp, Sl.of_own hst, .inr ⟨g', rfl, own_ge hown⟩, hk1.set (.inr (own_ge hown)) _⟩
  · have hh : slotB xs.length i = false := by simp [slotB]; omega
    have hv : xs[i]?.getD 0 = 0 := by rw [List.getElem?_eq_none (by omega)]; rfl
    have hset : xs.set i v = xs := List.set_eq_of_length_le (by omega)
    have H := Lib.hid hh
    have HV := Lib.hid hv
    have HS := Lib.hid hset
    clear hh hv hset
    go_enter Try.func24, Try.ntmps24
    go_wp2_with fail
    refine (refGet16_any A _ cap xs i w hs rfl hx).mono ?_
    rintro e w' ⟨rfl, rfl⟩
    rw [H.out, show errB false = 8 from rfl]
    go_wp2
    go_ret3
    exact ⟨A, cap, by rw [HV.out, H.out]; rfl, by simp, by rw [HS.out]; exact hs, .inl rfl, Kept.refl _ _⟩

set_option maxRecDepth 100000 in
set_option maxHeartbeats 1000000 in
theorem refNew16_no (n : Int) (w : World) (h : n < 0 ∨ 64 < n) :
    Calls Try.prog 20 #[.int .i64 n] w fun e w' => ∃ A cap, e = .returned (.tuple #[.slice A 0 cap, .int .i64 1]) ∧ Kept [] w w' := by
  rcases h with h | h
  · go_enter Try.func20, Try.ntmps20
    go_wp2
    go_ret2
    exact ⟨some ⟨w.heap.size, 0, none⟩, 0, rfl, (Kept.refl [] w).alloc _⟩
  · have h' : decide (n < 0) = false := by simp; omega
    go_enter Try.func20, Try.ntmps20
    go_wp2
    go_ret2
    exact ⟨some ⟨w.heap.size, 0, none⟩, 0, rfl, (Kept.refl [] w).alloc _⟩

set_option maxRecDepth 100000 in
set_option maxHeartbeats 1000000 in
theorem refNew16_yes (n : Nat) (w : World) (h : n ≤ 64) :
    Calls Try.prog 20 #[.int .i64 n] w fun e w' => ∃ A' cap', e = .returned (.tuple #[.slice A' n cap', .int .i64 0]) ∧ RefSlU n none (List.replicate n 0) w A' w' := by
  obtain ⟨i0, hi, hz0, hz1, hz2⟩ := info_parts Try.infoU23
  have own0 := own_empty w 23 1 w.heap.size (Nat.le_refl _)
  have k0 := (Kept.refl [] w).alloc (.cells #[] 23)
  have h' : decide ((n : Int) < 0) = false := by simp
  have h2 : decide ((64 : Int) < n) = false := by simp; omega
  go_enter Try.func20, Try.ntmps20
  go_wp2_with fail
  generalize w.alloc (.cells #[] 23) = W0 at own0 k0 ⊢
  go_loopw [4, 5] (fun o i wr => ∃ j g cap : Nat, j ≤ n ∧ o = .slice (some ⟨g, 0, none⟩) j cap ∧ i = .int .i64 j ∧ wr.ownsRow w.heap.size 23 1 (.slice (some ⟨g, 0, none⟩) j cap) j ((List.replicate j (0 : Int)).map (Value.int .u64)) ∧ Kept [] w wr) (fun _ i _ => n - (intOf i).toNat)
  case atStart => exact ⟨0, w.heap.size, 0, Nat.zero_le _, rfl, rfl, by simpa using own0, k0⟩
  case round =>
    obtain ⟨j, g, cap, hj, rfl, rfl, hor, hkr⟩ := hrel
    have hge := own_ge hor
    by_cases hlt : j < n
    · have kA := (Kept.refl [] wr).alloc (.cells #[.int .u64 0] 23)
      have ownA := own_kept hor kA (by simp)
      have s1 := (Sl.of_row (k := .u64) (xs := [0]) (Row.new wr 23 [.int .u64 0])).toV
      have hrs := hkr.size
      have HJ := Lib.hid hlt
      go_wp2_with (at_builtin; refine wpList_append_on _ rfl _ _ 31 rfl w.heap.size 23 i0 (.int .u64 0) 1 8 Try.underlying31 hi hz0 hz1 hz2 rfl (by omega) g j cap _ rfl ownA (some ⟨wr.heap.size, 0, none⟩) 1 1 _ rfl s1 int_oneCell (by unfold maxLen; omega) (by omega) (by simp; omega) ?_; intro g' cap' w1 hown hk _)
      go_roundw
      case rel =>
        refine ⟨j + 1, g', cap', by omega, rfl, by go_num, ?_, ?_⟩
        · rw [← List.map_append, show List.replicate j (0 : Int) ++ [0] = List.replicate (j + 1) 0 from by simp [List.replicate_succ']] at hown
          exact hown
        · exact (hkr.trans kA).chain hk (by simp) (by simp; omega)
      case measure => simp [intOf]; omega
    · obtain rfl : j = n := by omega
      go_wp2
      go_ret2
      exact ⟨some ⟨g, 0, none⟩, cap, rfl, by simp, Sl.of_own hor, .inr ⟨g, rfl, hge⟩, hkr⟩
end Go.Proofs.Ytljpmckbkpoikaa
