/- The law GlobalsPlay: its walk. -/
import Derived.Test.YtploelfgmlpdeaaGlobalsFixed
import Derived.Test.YtploelfgmlpdeaaGlobalsRef
import Derived.Test.YtploelfgmlpdeaaSameU
import Derived.Test.YtploelfgmlpdeaaPairsU
namespace Go.Proofs.Ytploelfgmlpdeaa
open Go.RowKit

/-- A slice that lies apart from block g still does, behind a call of the reference. -/
theorem apart16_of {A A' : Option Addr} {w : World} {g : Nat} (h : A' = A ∨ ∃ r, A' = some ⟨r, 0, none⟩ ∧ w.heap.size ≤ r) (hA : ∀ b off, A = some ⟨b, off, none⟩ → b ≠ g) (hg : g < w.heap.size) : ∀ b off, A' = some ⟨b, off, none⟩ → b ≠ g := by
  intro b off e
  rcases h with h | ⟨r, h, hr⟩
  · exact hA b off (h ▸ e)
  · rw [h] at e; cases e; omega
theorem all16_n {n : Nat} (b g : Nat) (xs : List Int) (w : World) (hm : IsSlots w b g xs) (hn : xs.length = n) :
    Calls Try.prog 10 #[.pointer (some ⟨b, 0, none⟩)] w (OwnPost n xs w) := by
  subst hn
  exact slotsAll_any b g xs w hm

set_option maxRecDepth 100000 in
set_option maxHeartbeats 2000000 in
theorem globalsPlay_big (n : Int) (a0 : Option Addr) (len cap i : Nat) (w : World) (hl : 100 < len) (hm : len ≤ maxLen) :
    Calls Try.prog 3 #[.int .i64 n, .slice a0 len cap, .int .u64 i] w (FixedPost w) := by
  unfold maxLen at hm
  go_enter Try.func3, Try.ntmps3
  go_wp2_with fail
  refine (fixed16_any _).mono ?_
  rintro e w5 ⟨rfl, kw5⟩
  go_wp2
  go_ret
  exact ⟨rfl, kw5⟩

set_option maxRecDepth 100000 in
set_option maxHeartbeats 2000000 in
theorem globalsPlay_no (n : Int) (a0 : Option Addr) (len cap i : Nat) (w : World) (hl : len ≤ 100) (h : n < 0 ∨ 64 < n) :
    Calls Try.prog 3 #[.int .i64 n, .slice a0 len cap, .int .u64 i] w (FixedPost w) := by
  have h100 : decide ((100 : Int) < len) = false := by simp; omega
  go_enter Try.func3, Try.ntmps3
  go_wp2_with fail
  refine (slotsNew_no n w h).mono ?_
  rintro e w1 ⟨rfl, rfl⟩
  go_wp2_with fail
  refine (refNew16_no n w h).mono ?_
  rintro e w2 ⟨A, cp, rfl, kw2⟩
  go_wp2_with fail
  refine (fixed16_any _).mono ?_
  rintro e w5 ⟨rfl, kw5⟩
  go_wp2
  go_ret
  exact ⟨rfl, kw2.trans kw5⟩

set_option maxRecDepth 100000 in
set_option maxHeartbeats 8000000 in
theorem globalsPlay_any (n : Nat) (a0 : Option Addr) (cap i : Nat) (l : List (Nat × Nat)) (w : World) (hs : SlPU w a0 l) (hl : l.length ≤ 100) (hn : n ≤ 64) :
    Calls Try.prog 3 #[.int .i64 n, .slice a0 l.length cap, .int .u64 i] w (FixedPost w) := by
  have h100 : decide ((100 : Int) < l.length) = false := by simp; omega
  go_enter Try.func3, Try.ntmps3
  go_wp2_with fail
  refine (slotsNew_yes n w hn).mono ?_
  rintro e w1 ⟨mb, mg, rfl, hmb, hmg, hm1, kw1⟩
  go_wp2_with fail
  refine (refNew16_yes n w1 hn).mono ?_
  rintro e w2 ⟨A, cp, rfl, hln, hs2, hA, kw2⟩
  have hm2 := hm1.kept kw2 (by simp) (by simp)
  have kW2 := kw1.trans kw2
  have hmgl := hm1.2.1.lt
  have hA2 := apart16_of hA (g := mg) (by simp) hmgl
  clear hm1 kw1 kw2 hA
  go_wp2_with fail
  go_loopw [9, 53] (fun x i wr => ∃ (j : Nat) (A : Option Addr) (cp : Nat) (xs : List Int), j ≤ l.length ∧ x = .slice A n cp ∧ i = .int .i64 j ∧ xs.length = n ∧ IsSlots wr mb mg xs ∧ Sl wr .u64 A xs ∧ (∀ b off, A = some ⟨b, off, none⟩ → b ≠ mg) ∧ Kept [mg] w2 wr) (fun _ i _ => l.length - (intOf i).toNat)
  case atStart => exact ⟨0, A, cp, _, Nat.zero_le _, rfl, rfl, hln, hm2, hs2, hA2, Kept.refl _ _⟩
  case round =>
    clear hm2 hs2 hA2 hln
    obtain ⟨j, A, cp, xs, hj, rfl, rfl, hlen, hmr, hsr, hAr, hkr⟩ := hrel
    have kWr : Kept [] w wr := kW2.chain hkr (by simp) (by simp; omega)
    have HL := Lib.hid hlen
    clear hlen
    by_cases hlt : j < l.length
    · obtain ⟨b, off, x, y, rfl, hbl, _, c0, c1⟩ := (hs.kept kWr).cell hlt
      have rB := Row.new wr 32 [.int .u64 x, .int .u64 y]
      have kA := (Kept.refl [] wr).alloc (.cells #[.int .u64 x, .int .u64 y] 32)
      have hmA := hmr.kept kA (by simp) (by simp)
      have hsA := hsr.kept kA
      have hgr := hmr.2.1.lt
      have KA := Lib.hid (hkr.trans kA.any)
      clear hmr hsr hkr kA
      go_wp2_with fail
      generalize wr.alloc (.cells #[.int .u64 x, .int .u64 y] 32) = wa at rB KA hmA hsA ⊢
      obtain ⟨C, hC⟩ : ∃ C, wr.heap.size = C := ⟨_, rfl⟩
      rw [hC] at rB hgr ⊢
      clear hC
      refine (slotsSet_any mb mg xs x y wa hmA).mono ?_
      rintro e w3 ⟨rfl, hm3, kw3⟩
      rw [HL.out]
      have rB3 := rB.kept kw3 (by simp; omega)
      have d0 : w3.cell? ⟨C, 0, none⟩ = some (.int .u64 x) := by simpa using rB3.cell 0
      have d1 : w3.cell? ⟨C, 1, none⟩ = some (.int .u64 y) := by simpa using rB3.cell 1
      have hs3 := hsA.keptS kw3 (fun b off e => by simpa using hAr b off e)
      have hgl := hm3.2.1.lt
      have K3 := Lib.hid (KA.out.trans kw3)
      clear hmA hsA KA kw3 rB rB3 c0 c1
      go_wp2_with fail
      refine (refSet16_any A n cp xs x y w3 hs3 HL.out (by omega)).mono ?_
      rintro e w4 ⟨A1, cp1, rfl, hl4, hs4, hA1, kw4⟩
      have hm4 := hm3.kept kw4 (by simp) (by simp)
      have hA4 := apart16_of hA1 hAr hgl
      have K4 := Lib.hid (K3.out.trans kw4.any)
      have HL4 := Lib.hid hl4
      clear hm3 hs3 K3 kw4 hA1 hl4 d0 d1
      generalize xs[x]?.getD 0 = old
      generalize errB (slotB n x) = er
      generalize xs.set x (y : Int) = ys at hm4 hs4 HL4
      go_wp2_with fail
      refine (all16_n mb mg ys w4 hm4 HL4.out).mono ?_
      rintro e w5 ⟨r, cap5, rfl, hown, kw5⟩
      have hm5 := hm4.kept kw5 (by simp) (by simp)
      have hs5 := hs4.kept kw5
      have hmg5 := hm4.2.1.lt
      have hmb5 := hm4.1.lt
      have hrge := own_ge hown
      go_wp2_with fail
      refine (refSame01_yes _ A1 n n cap5 cp1 ys w5 (Sl.of_own hown) hs5 HL4.out HL4.out (by omega)).mono ?_
      rintro e w6 ⟨rfl, kw6⟩
      have hm6 := hm5.kept kw6 (by simp) (by simp)
      have hown6 := own_kept hown kw6 (by simp)
      have kq6 : Kept [] w4 w6 := kw5.trans kw6
      clear hm5 hs5 hown hm4 kw5 kw6 hgr hgl
      go_wp2_with fail
      refine (slotsLen_any mb mg ys w6 hm6).mono ?_
      rintro e w7 ⟨rfl, rfl⟩
      rw [HL4.out]
      go_wp2_with fail
      go_loopw [101] (fun i wq => ∃ (k : Nat) (zs : List Int), k ≤ n ∧ i = .int .i64 k ∧ zs.length = n ∧ wq.ownsRow w4.heap.size 23 1 (.slice (some ⟨r, 0, none⟩) n cap5) n (zs.map (Value.int .u64)) ∧ Kept [r] w6 wq) (fun i _ => n - (intOf i).toNat)
      case atStart => exact ⟨0, ys, Nat.zero_le _, rfl, HL4.out, hown6, Kept.refl _ _⟩
      case round =>
        obtain ⟨k, zs, hk, rfl, hzs, rq, hkq⟩ := hrel
        by_cases hkn : k < n
        · have cq : wr.cell? ⟨r, k, none⟩ = some (.int .u64 (zs[k]?.getD 0)) := by
            rw [rq.cellAt k (by omega), List.getElem?_map, List.getElem?_eq_getElem (by omega)]; rfl
          have fq := rq.frozenAt k
          have HZ := Lib.hid hzs
          clear hzs
          generalize zs[k]?.getD 0 = z at cq
          go_wp2
          go_roundw
          case rel =>
            refine ⟨k + 1, zs.set k (IntKind.u64.wrap (z + 1)), by omega, by go_num, by rw [List.length_set]; exact HZ.out, ?_, hkq.set (.inl (by simp)) _⟩
            have := (rq.stored k (.int .u64 (IntKind.u64.wrap (z + 1)))).1
            rw [← List.map_set] at this
            exact this
          case measure => simp [intOf]; omega
        · have k7 : Kept [] w4 wr := kq6.chain hkq (by simp) (by simp; omega)
          go_wp2
          go_roundw
          case rel => exact ⟨j + 1, A1, cp1, ys, by omega, rfl, by go_num, HL4.out, hm6.kept hkq (by simp; omega) (by simp; omega), hs4.kept k7, hA4, K4.out.trans k7.any⟩
          case measure => simp [intOf]; omega
    · obtain rfl : j = l.length := by omega
      go_wp2_with fail
      refine (slotsGet_any mb mg xs i wr hmr).mono ?_
      rintro e w5 ⟨rfl, rfl⟩
      rw [HL.out]
      go_wp2_with fail
      refine (refGet16_any A n cp xs i wr hsr HL.out (by omega)).mono ?_
      rintro e w5 ⟨rfl, rfl⟩
      generalize xs[i]?.getD 0 = old
      generalize errB (slotB n i) = er
      go_wp2_with fail
      refine (fixed16_any wr).mono ?_
      rintro e w6 ⟨rfl, kw6⟩
      go_wp2
      go_ret
      exact ⟨rfl, kWr.trans kw6⟩
end Go.Proofs.Ytploelfgmlpdeaa
