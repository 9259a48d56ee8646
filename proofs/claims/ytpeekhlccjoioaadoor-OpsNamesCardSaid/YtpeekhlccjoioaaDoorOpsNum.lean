/- Package ops: a number's bytes put behind others, and read; whether an operation may be. -/
import Derived.Test.YtpeekhlccjoioaaDoorOpsPlain
namespace Go.Proofs.YtpeekhlccjoioaaDoor
open Go.RowKit

theorem Tryd.infoU5 : (Tryd.prog.info? 5).map (fun i => (i.zero, i.size, i.bytes)) = some (some (.int .u8 0), 1, 1) := by kernel_rfl
/-- A row of the call's own (no block below B) holds these bytes. -/
def OwnB (w : World) (B g n cap : Nat) (bs : List Int) : Prop := w.ownsRow B 5 1 (.slice (some ⟨g, 0, none⟩) n cap) n (bs.map (Value.int .u8))

set_option maxRecDepth 100000 in
theorem mayNot_any (x : OpN) (w : World) :
    Calls Tryd.prog 10 #[.agg (opC x).toArray] w fun e w' => e = .returned (.bool x.bad) ∧ Kept [] w w' := by
  obtain ⟨k, a, b, c⟩ := x
  have kP := (Kept.refl [] w).alloc (.cells #[.int .i64 k, .int .u64 a, .int .u64 b, .int .u64 c] 35)
  unfold OpN.bad opC
  by_cases h1 : k < 0
  · have e1 : decide (k < 0) = true := decide_eq_true h1
    simp only [e1, Bool.true_or]
    go_enter Tryd.func10, Tryd.ntmps10
    go_wp2
    go_ret
    exact ⟨rfl, kP⟩
  · have e1 : decide (k < 0) = false := decide_eq_false h1
    simp only [e1, Bool.false_or]
    go_enter Tryd.func10, Tryd.ntmps10
    go_wp2
    go_ret
    exact ⟨rfl, kP⟩

theorem pow256 (j : Nat) : 2 ^ (8 * j) = 256 ^ j := by rw [Nat.pow_mul]
theorem or_step (bs : List Int) (hb : ByB bs) (j : Nat) (hj : j < 8) (hl : j < bs.length) :
    bits BinOp.or IntKind.u64 ((valB (bs.take j) : Nat) : Int) (IntKind.u64.wrap (IntKind.u64.wrap (bs[j]?.getD 0) * 2 ^ (8 * j))) = ((valB (bs.take (j + 1)) : Nat) : Int) := by
  have hx := hb bs[j] (List.getElem_mem hl)
  rw [List.getElem?_eq_getElem hl, Option.getD_some]
  obtain ⟨x, hxe⟩ : ∃ x : Nat, bs[j] = (x : Int) := ⟨bs[j].toNat, by omega⟩
  have hx2 : x < 256 := by omega
  have ht : bs.take (j + 1) = bs.take j ++ [bs[j]] := (List.take_append_getElem hl).symm
  have hlt : (bs.take j).length = j := by simp; omega
  have hv := valB_lt (bs.take j) (fun y hy => hb y (List.mem_of_mem_take hy))
  rw [hlt] at hv
  rw [ht, valB_snoc, hlt, hxe, Int.toNat_natCast]
  have p1 : (256 : Nat) ^ j ≤ 256 ^ 7 := Nat.pow_le_pow_right (by omega) (by omega)
  have p7 : (256 : Nat) ^ 7 = 72057594037927936 := by decide
  have pp := pow256 j
  have hm : x * 256 ^ j ≤ 255 * 256 ^ j := Nat.mul_le_mul_right _ (by omega)
  have e1 : IntKind.u64.wrap (x : Int) = (x : Int) := by rw [IntKind.wrap_u64]; omega
  have e2 : (x : Int) * 2 ^ (8 * j) = ((x * 256 ^ j : Nat) : Int) := by
    rw [Int.natCast_mul, ← pp]; simp
  rw [e1, e2, show IntKind.u64.wrap ((x * 256 ^ j : Nat) : Int) = ((x * 256 ^ j : Nat) : Int) by rw [IntKind.wrap_u64]; omega]
  rw [u64_or_nat _ _ (by omega) (by omega)]
  congr 1
  have := Nat.shiftLeft_add_eq_or_of_lt (i := 8 * j) (b := valB (bs.take j)) (by rw [pp]; exact hv) x
  rw [Nat.shiftLeft_eq, pp] at this
  rw [Nat.or_comm, ← this, Nat.add_comm]

theorem sh_step (v j : Nat) : IntKind.u8.wrap ((v : Int) / 2 ^ (8 * j)) = ((v / 256 ^ j % 256 : Nat) : Int) := by
  have e : (v : Int) / 2 ^ (8 * j) = ((v / 256 ^ j : Nat) : Int) := by rw [← pow256]; simp
  rw [e, IntKind.wrap_u8]; omega

set_option maxRecDepth 100000 in
set_option maxHeartbeats 1000000 in
theorem putNumber_any (B g n cap v : Nat) (bs : List Int) (w : World) (hn : n ≤ 1000000) (hB : B ≤ w.heap.size) (ho : OwnB w B g n cap bs) :
    Calls Tryd.prog 13 #[.slice (some ⟨g, 0, none⟩) n cap, .int .u64 v] w fun e w' => ∃ g' cap', e = .returned (.slice (some ⟨g', 0, none⟩) (n + 8) cap') ∧ OwnB w' B g' (n + 8) cap' (bs ++ numB 8 v) ∧ Kept [g] w w' ∧ (g' = g ∨ w.heap.size ≤ g') := by
  obtain ⟨i0, hi, hz0, hz1, hz2⟩ := info_parts Tryd.infoU5
  have HV := Lib.hid (fun j => sh_step v j)
  go_enter Tryd.func13, Tryd.ntmps13
  go_wp2
  go_loopw [0, 6] (fun s i wr => ∃ j g' cap' : Nat, j ≤ 8 ∧ i = .int .i64 j ∧ s = .slice (some ⟨g', 0, none⟩) (n + j) cap' ∧ OwnB wr B g' (n + j) cap' (bs ++ numB j v) ∧ Kept [g] w wr ∧ (g' = g ∨ w.heap.size ≤ g')) (fun s i _ => 8 - (intOf i).toNat)
  case atStart => exact ⟨0, g, cap, by omega, rfl, rfl, by simpa [numB] using ho, Kept.refl _ _, .inl rfl⟩
  case round =>
    obtain ⟨j, g', cap', hj, rfl, rfl, ho', hk, hg⟩ := hrel
    by_cases hlt : j < 8
    · have h8 : wrap64 (8 * (j : Int)) = 8 * (j : Int) := IntWalk.wrap64_in _ (by omega)
      have hw := HV.out j
      obtain ⟨y, hy⟩ : ∃ y, v / 256 ^ j % 256 = y := ⟨_, rfl⟩
      rw [hy] at hw
      have HY := Lib.hid hy
      clear hy
      have hs := hk.size
      go_wp2_with (at_builtin; refine wpList_append_one _ rfl _ _ 29 rfl B 5 i0 (.int .u8 0) 1 Tryd.underlying29 hi hz0 hz1 hz2 rfl wr (.int .u8 (y : Int)) (.slice (some ⟨g', 0, none⟩) (n + j) cap') (n + j) _ rfl rfl rfl ho' (by omega) rfl (by omega) (by omega) ?_; intro g2 c2 w3 hown3 hk3 hg3)
      go_roundw
      case rel =>
        refine ⟨j + 1, g2, c2, by omega, rfl, rfl, ?_, hk.chain hk3 (by simp) (by simp [Value.ownBlock]; omega), ?_⟩
        · unfold OwnB
          rw [numB_snoc, HY.out]
          rw [show n + (j + 1) = n + j + 1 from rfl]
          simpa only [List.map_append, List.append_assoc, List.map_cons, List.map_nil] using hown3
        · simp [Value.ownBlock] at hg3; omega
      case measure => simp [intOf]; omega
    · obtain rfl : j = 8 := by omega
      go_wp2
      go_ret
      exact ⟨_, _, rfl, ho', hk, hg⟩
end Go.Proofs.YtpeekhlccjoioaaDoor
