/- Package annot: Targets. -/
import Derived.Test.YtnhdikoigpmnkaaDoorAnnot
import Derived.Test.YtnhdikoigpmnkaaDoorTreeWalk
namespace Go.Proofs.YtnhdikoigpmnkaaDoor
open Go.RowKit

/-- Of these, those that it may point to. -/
def pickB (rs : List Rw) (kd h : Int) (xs : List Int) : List Int := xs.filter fun t => decide (annB rs kd h t = 0)
theorem pick_yes {rs : List Rw} {kd h : Int} {xs : List Int} {j : Nat} (hj : j < xs.length) {x : Int} (hx : xs[j]?.getD 0 = x) (ha : annB rs kd h x = 0) : pickB rs kd h (xs.take (j + 1)) = pickB rs kd h (xs.take j) ++ [x] := by
  rw [List.getElem?_eq_getElem hj, Option.getD_some] at hx
  unfold pickB
  rw [List.take_succ_eq_append_getElem hj, List.filter_append, hx]
  simp [ha]
theorem pick_no {rs : List Rw} {kd h : Int} {xs : List Int} {j : Nat} (hj : j < xs.length) {x : Int} (hx : xs[j]?.getD 0 = x) (ha : annB rs kd h x ≠ 0) : pickB rs kd h (xs.take (j + 1)) = pickB rs kd h (xs.take j) := by
  rw [List.getElem?_eq_getElem hj, Option.getD_some] at hx
  unfold pickB
  rw [List.take_succ_eq_append_getElem hj, List.filter_append, hx]
  simp [ha]
theorem pick_len (rs : List Rw) (kd h : Int) (xs : List Int) : (pickB rs kd h xs).length ≤ xs.length := List.length_filter_le _ _
theorem pick_perm {k : Nat} {rs : List Rw} (hf : Fine k rs) (hk : k < 1000) (kd h : Int) : (pickB rs kd h (walkB rs 0)).Perm (targB rs kd h) := (hf.perm hk).filter _

set_option maxRecDepth 100000 in
set_option maxHeartbeats 2000000 in
theorem annotTargets_any {k : Nat} (p g : Nat) (rs : List Rw) (kd h : Int) (w : World) (hT : Tab w) (hI : IsTree w p g rs) (hf : Fine k rs) (hk : k < 1000) (hh : Fit64 h) :
    Calls Tryd.prog 12 #[.pointer (some ⟨p, 0, none⟩), .int .i64 kd, .int .i64 h] w (ListPost (targB rs kd h) w) := by
  obtain ⟨i0, hi, hz0, hz1, hz2⟩ := info_parts info_tint
  have HP := Lib.hid (pick_perm hf hk kd h)
  have HR := Lib.hid (targB_rise hf kd h)
  have hwl := hf.walk_len hk
  have hrl := hf.len
  have hw1 : (walkB rs 0).length < 1000 := by omega
  have HF : Hid (∀ j, j < (walkB rs 0).length → Fit64 ((walkB rs 0)[j]?.getD 0)) := by
    intro j hj
    rw [List.getElem?_eq_getElem hj, Option.getD_some]
    obtain ⟨pp, hpp⟩ := mem_ids.1 (hf.walk_ids hk (z := 0) (List.getElem_mem hj))
    exact (hI.fit _ hpp).1
  clear hwl hrl
  go_enter Tryd.func12, Tryd.ntmps12
  go_wp2_with fail
  refine (treeAll_any p g rs w hI hf hk).mono ?_
  rintro e w1 ⟨G, c, rfl, hG, hs, k1⟩
  generalize walkB rs 0 = xs at HP hw1 HF hs ⊢
  go_wp2_with fail
  go_loopw [7, 15] (fun s7 i wr => ∃ (j : Nat) (v : Value), v = s7 ∧ j ≤ xs.length ∧ i = .int .i64 j ∧ wr.ownsRow w1.heap.size 3 1 v (pickB rs kd h (xs.take j)).length ((pickB rs kd h (xs.take j)).map (Value.int .i64)) ∧ Kept [] w1 wr) (fun _ i _ => xs.length - (intOf i).toNat)
  case atStart => exact ⟨0, _, rfl, Nat.zero_le _, rfl, World.ownsRow_nil _ _ _ _, Kept.refl _ _⟩
  case round =>
    obtain ⟨j, v, rfl, hj, rfl, hown, hkr⟩ := hrel
    have hsz := hkr.size
    have hpl := pick_len rs kd h (xs.take j)
    rw [List.length_take] at hpl
    by_cases hlt : j < xs.length
    · obtain ⟨b, off, he, cG⟩ := (hs.kept hkr).cell hlt
      obtain ⟨rfl, rfl⟩ : G = b ∧ 0 = off := by simpa using he
      have hfx := HF.out j hlt
      obtain ⟨x, hx⟩ : ∃ x, xs[j]?.getD 0 = x := ⟨_, rfl⟩
      rw [hx] at cG hfx
      rw [Nat.zero_add] at cG
      have HX := Lib.hid hx
      obtain ⟨L, hL⟩ : ∃ L, (pickB rs kd h (xs.take j)).length = L := ⟨_, rfl⟩
      rw [hL] at hown hpl
      have HL := Lib.hid hL
      clear hx hL he
      go_wp2_with fail
      refine (annotCheck_any p g rs kd h x wr (hT.kept (k1.trans hkr)) (hI.kept (k1.trans hkr)) hf hk hh hfx).mono ?_
      rintro e w2 ⟨rfl, k2⟩
      have hown2 := own_keptV hown k2 (by simp)
      have kk2 := hkr.trans k2
      have hsz2 := k2.size
      by_cases ha : annB rs kd h x = 0
      · have HY := Lib.hid (pick_yes hlt HX.out ha)
        rw [ha]
        clear ha hown hkr
        go_wp2_with (at_builtin; refine wpList_append_one _ rfl _ _ 34 rfl w1.heap.size 3 i0 (.int .i64 0) 8 Tryd.underlying34 hi hz0 hz1 hz2 rfl w2 (.int .i64 x) v L _ rfl rfl rfl hown2 (by omega) rfl (by omega) (by omega) ?_; intro g2 c2 w3 hown3 hk3 hg3)
        go_roundw
        case rel =>
          refine ⟨j + 1, _, rfl, by omega, by go_num, ?_, kk2.chain hk3 (by simp) (fun i hi hlt => by rw [Option.mem_toList] at hi; have := World.ownsRow.lt hown2 i hi; omega)⟩
          rw [HY.out, List.length_append, List.length_singleton, HL.out, List.map_append]
          exact hown3
        case measure => simp [intOf]; omega
      · have HY := Lib.hid (pick_no hlt HX.out ha)
        obtain ⟨n, hn⟩ : ∃ n, annB rs kd h x = n := ⟨_, rfl⟩
        rw [hn] at ha ⊢
        have ha' : (n == 0) = false := by simpa using ha
        have ha'' : decide (n = 0) = false := by simpa using ha
        clear ha hn hown hkr
        go_wp2_with fail
        go_roundw
        case rel => exact ⟨j + 1, v, rfl, by omega, by go_num, by rw [HY.out, HL.out]; exact hown2, kk2⟩
        case measure => simp [intOf]; omega
    · obtain rfl : j = xs.length := by omega
      rw [List.take_length] at hown hpl
      have hperm := HP.out
      rcases OwnK.of_row hown with ⟨rfl, he⟩ | ⟨gA, cp, rfl, hrow⟩
      · have hk0 : targB rs kd h = [] := by rw [he] at hperm; exact hperm.nil_eq.symm
        have HK := Lib.hid hk0
        clear he hperm hk0 hown hpl
        go_wp2_with fail
        refine (sortNil_any wr).mono ?_
        rintro e w2 ⟨rfl, rfl⟩
        go_wp2
        go_ret
        exact ⟨none, 0, by rw [HK.out]; rfl, .inl HK.out, k1.trans hkr⟩
      · have hge := own_ge hrow
        have HL := Lib.hid hperm.length_eq
        have hsort := Lib.hid (sorted_of_perm hperm HR.out)
        have hlen := Lib.hid (show (pickB rs kd h xs).length < 1099511627776 by omega)
        clear hown hperm hpl
        go_wp2_with fail
        refine (sortOwn_any w1.heap.size gA cp (pickB rs kd h xs) (targB rs kd h) wr hrow hsort.out hlen.out).mono ?_
        rintro e w2 ⟨rfl, hrow2, hk2⟩
        go_wp2
        go_ret
        exact ⟨some ⟨gA, 0, none⟩, cp, by rw [← HL.out]; rfl, Sl.of_own hrow2, k1.trans (hkr.chain hk2 (by simp) (by simp; omega))⟩

theorem annotTargets_nil (kd h : Int) (w : World) : Calls Tryd.prog 12 #[.pointer none, .int .i64 kd, .int .i64 h] w fun e w' => e = .returned (.slice none 0 0) ∧ w = w' := by
  go_enter Tryd.func12, Tryd.ntmps12
  go_wp2
  go_ret
  exact ⟨rfl, rfl⟩
end Go.Proofs.YtnhdikoigpmnkaaDoor
