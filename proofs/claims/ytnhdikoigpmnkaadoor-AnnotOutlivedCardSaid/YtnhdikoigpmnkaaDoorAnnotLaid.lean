/- kraallaw14's grown (a tree, and the document's, behind some acts) and fixed (the chapter's example). -/
import Derived.Test.YtnhdikoigpmnkaaDoorAnnotTargets
import Derived.Test.YtnhdikoigpmnkaaDoorTreeRefIns
import Derived.Test.YtnhdikoigpmnkaaDoorTreeActs
import Derived.Test.YtnhdikoigpmnkaaDoorTreePlain3
namespace Go.Proofs.YtnhdikoigpmnkaaDoor
open Go.RowKit

/-- A tree and the document's rows, the same ones. -/
def GrownPost (k : Nat) (w : World) (e : Ending) (w' : World) : Prop :=
  ∃ (p g : Nat) (rs : List Rw) (ab ao cp : Nat), e = .returned (.tuple #[.pointer (some ⟨p, 0, none⟩), .slice (some ⟨ab, ao, none⟩) rs.length cp]) ∧ (w.heap.size ≤ p ∧ w.heap.size ≤ g) ∧
    Fine k rs ∧ IsTree w' p g rs ∧ SlT w' (some ⟨ab, ao, none⟩) rs ∧ Kept [] w w'

set_option maxRecDepth 100000 in
set_option maxHeartbeats 4000000 in
theorem grown14_any (a0 : Option Addr) (cap : Nat) (l : List ActT) (w : World) (hs : SlAT w a0 l) (hl : l.length ≤ 60) (hb : ∀ x ∈ l, x.fit) :
    Calls Tryd.prog 7 #[.slice a0 l.length cap] w (GrownPost l.length w) := by
  go_enter Tryd.func7, Tryd.ntmps7
  go_wp2_with fail
  refine (treeNew_any w).mono ?_
  rintro e w1 ⟨p, g, rfl, hnew, ht1, kw1⟩
  have kX := (Kept.refl [] w1).alloc (.cells #[] 60)
  have htX := ht1.kept kX
  have kwX := kw1.trans kX
  clear ht1 kw1 kX
  go_wp2_with fail
  generalize w1.alloc (.cells #[] 60) = wX at htX kwX ⊢
  go_loopw [5, 16] (fun v i wr => ∃ (j : Nat) (rs : List Rw) (ab ao cp : Nat), j ≤ l.length ∧ v = .slice (some ⟨ab, ao, none⟩) rs.length cp ∧ i = .int .i64 j ∧ Fine j rs ∧ IsTree wr p g rs ∧ SlT wr (some ⟨ab, ao, none⟩) rs ∧ Hid (rs.length ≤ cp ∧ cp ≤ maxLen) ∧ Kept [] w wr) (fun _ i _ => l.length - (intOf i).toNat)
  case atStart => exact ⟨0, [], _, _, _, Nat.zero_le _, rfl, rfl, Fine.nil, htX, .inl rfl, Lib.hid ⟨Nat.le_refl _, Nat.zero_le _⟩, kwX⟩
  case round =>
    obtain ⟨j, rs, ab, ao, cp, hj, rfl, rfl, hf, htr, hsr, hcp, kWr⟩ := hrel
    clear htX kwX
    have hrl := hf.len
    by_cases hlt : j < l.length
    · obtain ⟨b, off, ac, rfl, hac, hbl, c0, c1, c2⟩ := (hs.kept kWr).cell hlt
      have hbx := hb ac (List.mem_of_getElem? hac)
      obtain ⟨zi, zp, zo⟩ := ac
      simp only at c0 c1 c2
      have kA := (Kept.refl [] wr).alloc (.cells #[.int .i64 zi, .int .i64 zp, .bool zo] 47)
      have rB := Row.new wr 47 [.int .i64 zi, .int .i64 zp, .bool zo]
      have htA := htr.kept kA
      have hsA := hsr.kept kA
      have kWA := kWr.trans kA
      have hgl := htr.lt.2
      cases zo with
      | true =>
        go_wp2_with fail
        generalize wr.alloc (.cells #[.int .i64 zi, .int .i64 zp, .bool true] 47) = wa at kA htA hsA rB kWA ⊢
        refine (treeRemove_any p g rs zi wa htA hbx.1 hf.rise (by omega)).mono ?_
        rintro e w3 ⟨rfl, ht3, kw3⟩
        have kW3 : Kept [] w w3 := kWA.chain kw3 (by simp) (by intro i hi hlt; simp at hi; omega)
        have hs3 := hsA.keptG htA kw3
        have rB3 := rB.kept kw3 (by simp; omega)
        have d0 : w3.cell? ⟨wr.heap.size, 0, none⟩ = some (.int .i64 zi) := by simpa using rB3.cell 0
        have hf3 := hf.remB zi
        generalize (remB rs zi).2 = n
        clear kA htA hsA kWA kw3 rB rB3 c0 c1 c2
        go_wp2_with fail
        refine (refRemove05_any ab ao cp rs zi w3 hs3 (by omega) hcp.out).mono ?_
        rintro e w4 ⟨b4, o4, c4, rfl, hs4, hc4, kw4⟩
        generalize (remB rs zi).2 = n2
        have ht4 := ht3.kept kw4
        have kW4 := kW3.trans kw4
        have HC := Lib.hid hc4
        clear hc4 ht3 kw4 kW3 hs3 d0
        go_wp2
        go_roundw
        case rel => exact ⟨j + 1, _, b4, o4, c4, by omega, rfl, by go_num, hf3, ht4, hs4, HC, kW4⟩
        case measure => simp [intOf]; omega
      | false =>
        go_wp2_with fail
        generalize wr.alloc (.cells #[.int .i64 zi, .int .i64 zp, .bool false] 47) = wa at kA htA hsA rB kWA ⊢
        refine (treeAdd_any p g rs zi zp wa htA hbx.1 hbx.2 (by omega)).mono ?_
        rintro e w3 ⟨rfl, ht3, kw3⟩
        have kW3 : Kept [] w w3 := kWA.chain kw3 (by simp) (by intro i hi hlt; simp at hi; omega)
        have hs3 := hsA.keptG htA kw3
        have rB3 := rB.kept kw3 (by simp; omega)
        have d0 : w3.cell? ⟨wr.heap.size, 0, none⟩ = some (.int .i64 zi) := by simpa using rB3.cell 0
        have d1 : w3.cell? ⟨wr.heap.size, 1, none⟩ = some (.int .i64 zp) := by simpa using rB3.cell 1
        have hf3 := hf.addB zi zp
        generalize (addB rs zi zp).2 = n
        clear kA htA hsA kWA kw3 rB rB3 c0 c1 c2
        go_wp2_with fail
        refine (refAdd05_any ab ao cp rs zi zp w3 hs3 (by omega) hcp.out).mono ?_
        rintro e w4 ⟨b4, o4, c4, rfl, hs4, hc4, kw4⟩
        generalize (addB rs zi zp).2 = n2
        have ht4 := ht3.kept kw4
        have kW4 := kW3.trans kw4
        have HC := Lib.hid hc4
        clear hc4 ht3 kw4 kW3 hs3 d0 d1
        go_wp2
        go_roundw
        case rel => exact ⟨j + 1, _, b4, o4, c4, by omega, rfl, by go_num, hf3, ht4, hs4, HC, kW4⟩
        case measure => simp [intOf]; omega
    · obtain rfl : j = l.length := by omega
      go_wp2
      go_ret2
      exact ⟨p, g, rs, ab, ao, cp, rfl, hnew, hf, htr, hsr, kWr⟩

theorem fine14 : Fine 2 [(1, 0), (2, 1)] := by
  have h1 := Fine.nil.add (z := 1) (p := 0) (by simp [idsT]) (by simp)
  rw [show insB [] ((1 : Int), (0 : Int)) = [(1, 0)] from by decide] at h1
  have h3 := h1.add (z := 2) (p := 1) (by simp [idsT]) (by simp [idsT])
  rwa [show insB [((1 : Int), (0 : Int))] (2, 1) = [(1, 0), (2, 1)] from by decide] at h3

set_option maxRecDepth 100000 in
set_option maxHeartbeats 2000000 in
theorem fixed14_any (w : World) (hT : Tab w) : Calls Tryd.prog 6 #[] w (FixedPost w) := by
  go_enter Tryd.func6, Tryd.ntmps6
  go_wp2_with fail
  refine (treeNew_any w).mono ?_
  rintro e w1 ⟨p, g, rfl, hnew, h1, kw1⟩
  go_wp2_with fail
  refine (treeAdd_any p g [] 1 0 w1 h1 (by unfold Fit64; omega) (by unfold Fit64; omega) (by simp)).mono ?_
  rintro e w2 ⟨rfl, h2, kw2⟩
  rw [show addB [] 1 0 = ([(1, 0)], 0) from by decide] at h2 ⊢
  go_wp2_with fail
  refine (treeAdd_any p g [(1, 0)] 2 1 w2 h2 (by unfold Fit64; omega) (by unfold Fit64; omega) (by simp)).mono ?_
  rintro e w3 ⟨rfl, h3, kw3⟩
  rw [show addB [(1, 0)] 2 1 = ([(1, 0), (2, 1)], 0) from by decide] at h3 ⊢
  have k3 : Kept [] w w3 := by
    refine kw1.chain (kw2.trans kw3) (by simp) ?_
    intro i hi hlt
    simp at hi
    omega
  clear h1 h2 kw1 kw2 kw3
  go_wp2_with fail
  refine (annotCheck_any p g _ 3 2 1 w3 (hT.kept k3) h3 fine14 (by omega) (by unfold Fit64; omega) (by unfold Fit64; omega)).mono ?_
  rintro e w4 ⟨rfl, k4⟩
  rw [show annB [(1, 0), (2, 1)] 3 2 1 = 0 from by decide]
  have kk4 := k3.trans k4
  go_wp2_with fail
  refine (annotCheck_any p g _ 3 1 2 w4 (hT.kept kk4) (h3.kept k4) fine14 (by omega) (by unfold Fit64; omega) (by unfold Fit64; omega)).mono ?_
  rintro e w5 ⟨rfl, k5⟩
  rw [show annB [(1, 0), (2, 1)] 3 1 2 = 5 from by decide]
  go_wp2
  go_ret
  exact ⟨rfl, kk4.trans k5⟩
end Go.Proofs.YtnhdikoigpmnkaaDoor
