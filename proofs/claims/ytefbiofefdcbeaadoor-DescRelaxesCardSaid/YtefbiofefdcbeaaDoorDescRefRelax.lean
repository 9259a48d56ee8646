/- kraalref07: Relax. -/
import Derived.Test.YtefbiofefdcbeaaDoorDescRelax
import Derived.Test.YtefbiofefdcbeaaDoorDescFixed
namespace Go.Proofs.YtefbiofefdcbeaaDoor
open Go.RowKit

theorem tyv_one (t : Ty) : t.v.oneCell' = true := rfl
theorem relaxB_23 {k : Int} (h : k = 2 ∨ k = 3) : relaxB k = 1 := by unfold relaxB; rw [if_pos h]
theorem relaxB_off {k : Int} (h : ¬ (k = 2 ∨ k = 3)) : relaxB k = k := by unfold relaxB; rw [if_neg h]
/-- The types that were made: apart from block g. -/
def Made (w : World) (g : Nat) (ts : List Ty) : Prop := (∀ t ∈ ts, Sl w .i64 t.a t.ks) ∧ ∀ t ∈ ts, ∀ b off, t.a = some ⟨b, off, none⟩ → b ≠ g ∧ b < w.heap.size
theorem take_relax {xs : List Int} {j : Nat} (h : j < xs.length) : ((xs.take (j + 1)).map relaxB).map (Value.int .i64) = ((xs.take j).map relaxB).map (Value.int .i64) ++ [Value.int .i64 (relaxB (xs[j]?.getD 0))] := by
  rw [List.take_add_one, List.getElem?_eq_getElem h, List.map_append, List.map_append]
  rfl

set_option maxRecDepth 100000 in
set_option maxHeartbeats 16000000 in
theorem refRelax07_any (A : Option Addr) (cap : Nat) (l : List Ty) (w : World) (hs : SlD w A l) (hl : l.length ≤ 60) (hx : ∀ t ∈ l, t.ks.length ≤ 100) :
    Calls Tryd.prog 14 #[.slice A l.length cap] w (RelaxAns ((l.map Ty.ks).map (List.map relaxB)) w) := by
  obtain ⟨i0, hi, hz0, hz1, hz2⟩ := info_parts info_desc07
  obtain ⟨i1, hi1, hy0, hy1, hy2⟩ := info_parts info_int07
  have own0 := own_empty w 27 1 w.heap.size (Nat.le_refl _)
  have k0 := (Kept.refl [] w).alloc (.cells #[] 27)
  go_enter Tryd.func14, Tryd.ntmps14
  go_wp2_with fail
  have hW0 : w.heap.size < (w.alloc (.cells #[] 27)).heap.size := by simp
  generalize w.alloc (.cells #[] 27) = W at own0 k0 hW0 ⊢
  go_loopw [3, 4] (fun o i wr => ∃ (j g cp : Nat), j ≤ l.length ∧ o = .slice (some ⟨g, 0, none⟩) j cp ∧ i = .int .i64 j ∧ Hid (∃ ts : List Ty, ts.length = j ∧ ts.map Ty.ks = ((l.take j).map Ty.ks).map (List.map relaxB) ∧ wr.ownsRow w.heap.size 27 1 (.slice (some ⟨g, 0, none⟩) j cp) j (ts.map Ty.v) ∧ Made wr g ts) ∧ g < wr.heap.size ∧ w.heap.size ≤ g ∧ Kept [] w wr) (fun _ i _ => l.length - (intOf i).toNat)
  case atStart => exact ⟨0, w.heap.size, 0, Nat.zero_le _, rfl, rfl, ⟨[], rfl, rfl, own0, by simp [Made]⟩, hW0, Nat.le_refl _, k0⟩
  case round =>
    obtain ⟨j, g, cp, hj, rfl, rfl, HR, hgl, hgw, hkr⟩ := hrel
    clear own0 k0 hW0
    by_cases hlt : j < l.length
    · obtain ⟨b, off, t, rfl, ht, hc, hsl⟩ := (hs.kept hkr).cell hlt
      have htl := hx t (List.mem_of_getElem? ht)
      obtain ⟨ta, tc, xs⟩ := t
      simp only at htl hc hsl
      have rB := Row.new wr 27 [.slice none 0 0]
      have kB := (Kept.refl [] wr).alloc (.cells #[.slice none 0 0] 27)
      have hsB : wr.heap.size < (wr.alloc (.cells #[.slice none 0 0] 27)).heap.size := by simp
      go_wp2_with fail
      generalize wr.alloc (.cells #[.slice none 0 0] 27) = wa at rB kB hsB ⊢
      obtain ⟨D, hD⟩ : ∃ D, wr.heap.size = D := ⟨_, rfl⟩
      have HD := Lib.hid hD
      rw [hD] at rB hsB hgl ⊢
      clear hD
      have k5 := hkr.trans kB
      go_wp2_with fail
      go_loopw [6] (fun i wq => ∃ (k : Nat) (v : Value), k ≤ xs.length ∧ i = .int .i64 k ∧ Row wq D 27 [v] ∧ wq.ownsRow wa.heap.size 3 1 v k (((xs.take k).map relaxB).map (Value.int .i64)) ∧ Kept [D] wa wq) (fun i _ => xs.length - (intOf i).toNat)
      case atStart => exact ⟨0, .slice none 0 0, Nat.zero_le _, rfl, rB, World.ownsRow_nil _ _ _ _, Kept.refl _ _⟩
      case round =>
        obtain ⟨k, v, hk, rfl, rD, hov, hkq⟩ := hrel
        clear rB
        have kq : Kept [] w wr := k5.chain hkq (by simp) (fun i hi hlt => by have := HD.out; have := hkr.size; simp at hi; omega)
        have hcq : wr.cell? ⟨b, off + j, none⟩ = some (.slice ta xs.length tc) := by
          obtain ⟨b', off', t', hA', ht', hc', _⟩ := (hs.kept kq).cell hlt
          cases hA'
          rw [ht] at ht'
          cases ht'
          exact hc'
        have dq : wr.cell? ⟨D, 0, none⟩ = some v := by simpa using rD.cell 0
        by_cases hlk : k < xs.length
        · have hslq : Sl wr .i64 ta xs := by
            obtain ⟨b', off', t', hA', ht', hc', hs'⟩ := (hs.kept kq).cell hlt
            cases hA'
            rw [ht] at ht'
            cases ht'
            exact hs'
          obtain ⟨b2, off2, rfl, cK⟩ := hslq.cell hlk
          have hTK := take_relax hlk
          have hvb : ∀ i, v.ownBlock = some i → wa.heap.size ≤ i := fun i hi => (hov.lt i hi).1
          have hqz := hkq.size
          generalize xs[k]?.getD 0 = y at cK hTK
          have HTK := Lib.hid hTK
          clear hTK
          by_cases hy23 : y = 2 ∨ y = 3
          · have hcase : (y = 2 ∧ (y == 2) = true) ∨ (y = 3 ∧ (y == 2) = false ∧ (y == 3) = true) := by
              rcases hy23 with rfl | rfl
              · exact .inl ⟨rfl, rfl⟩
              · exact .inr ⟨rfl, rfl, rfl⟩
            have HRB := Lib.hid (relaxB_23 hy23)
            clear hy23
            rcases hcase with ⟨rfl, _⟩ | ⟨rfl, _, _⟩
            all_goals
              go_wp2_with (at_builtin; refine wpList_append_one _ rfl _ _ 25 rfl wa.heap.size 3 i1 (.int .i64 0) 8 Tryd.underlying25 hi1 hy0 hy1 hy2 rfl wr (.int .i64 1) v k _ rfl rfl rfl hov hqz rfl (by omega) (by omega) ?_; intro g2 c2 w3 hown3 hk3 hg3; have rD3 := (rD.kept hk3 (fun hi => by rw [Option.mem_toList] at hi; have := hvb _ hi; omega)); have fD3 := rD3.free 0; have cD3 : w3.cell? ⟨D, 0, none⟩ = some v := (by simpa using rD3.cell 0))
              have hg2 : D ≠ g2 := by
                rcases hg3 with h | h
                · have := hvb _ h; omega
                · omega
              have kS := (Kept.refl [D] w3).set (p := ⟨D, 0, none⟩) (.inl (by simp)) (.slice (some ⟨g2, 0, none⟩) (k + 1) c2)
              have rDS := rD3.set 0 (.slice (some ⟨g2, 0, none⟩) (k + 1) c2)
              have hownS := own_kept hown3 kS (by simpa using hg2.symm)
              have kk : Kept [D] wa w3 := hkq.chain hk3 (by simp) (fun i hi hlt => by rw [Option.mem_toList] at hi; have := hvb _ hi; omega)
              have hownT := hownS
              rw [← show ((xs.take (k + 1)).map relaxB).map (Value.int .i64) = ((xs.take k).map relaxB).map (Value.int .i64) ++ [Value.int .i64 1] from by rw [HTK.out, HRB.out]] at hownT
              go_roundw
              case rel => exact ⟨k + 1, _, by omega, by go_num, rDS, hownT, kk.trans kS⟩
              case measure => simp [intOf]; omega
          · have h2 : (y == 2) = false := by simp; omega
            have h3 : (y == 3) = false := by simp; omega
            have HRB := Lib.hid (relaxB_off hy23)
            clear hy23
            go_wp2_with (at_builtin; refine wpList_append_one _ rfl _ _ 25 rfl wa.heap.size 3 i1 (.int .i64 0) 8 Tryd.underlying25 hi1 hy0 hy1 hy2 rfl wr (.int .i64 y) v k _ rfl rfl rfl hov hqz rfl (by omega) (by omega) ?_; intro g2 c2 w3 hown3 hk3 hg3; have rD3 := (rD.kept hk3 (fun hi => by rw [Option.mem_toList] at hi; have := hvb _ hi; omega)); have fD3 := rD3.free 0; have cD3 : w3.cell? ⟨D, 0, none⟩ = some v := (by simpa using rD3.cell 0))
            have hg2 : D ≠ g2 := by
              rcases hg3 with h | h
              · have := hvb _ h; omega
              · omega
            have kS := (Kept.refl [D] w3).set (p := ⟨D, 0, none⟩) (.inl (by simp)) (.slice (some ⟨g2, 0, none⟩) (k + 1) c2)
            have rDS := rD3.set 0 (.slice (some ⟨g2, 0, none⟩) (k + 1) c2)
            have hownS := own_kept hown3 kS (by simpa using hg2.symm)
            have kk : Kept [D] wa w3 := hkq.chain hk3 (by simp) (fun i hi hlt => by rw [Option.mem_toList] at hi; have := hvb _ hi; omega)
            have hownT := hownS
            rw [← show ((xs.take (k + 1)).map relaxB).map (Value.int .i64) = ((xs.take k).map relaxB).map (Value.int .i64) ++ [Value.int .i64 y] from by rw [HTK.out, HRB.out]] at hownT
            go_roundw
            case rel => exact ⟨k + 1, _, by omega, by go_num, rDS, hownT, kk.trans kS⟩
            case measure => simp [intOf]; omega
        · obtain rfl : k = xs.length := by omega
          rw [List.take_length] at hov
          obtain ⟨a, c, S, rfl, hsla, hS, hSb, _⟩ := own_where hov
          have k6 : Kept [] w wr := kq
          have kOut : Kept [] _ wr := kB.chain hkq (by simp) (fun i hi hlt => by have := HD.out; simp at hi; omega)
          obtain ⟨ts, hts, hks, hor, hm1, hm2⟩ := HR.out
          have hor6 := own_kept hor kOut (by simp)
          have hrz := hkq.size
          have hzz := kOut.size
          have hDz := HD.out
          have hBB : w.heap.size ≤ wr.heap.size := k6.size
          go_wp2_with (at_builtin; refine wpList_append_one _ rfl _ _ 22 rfl w.heap.size 27 i0 (.agg #[.slice none 0 0]) 24 Tryd.underlying22 hi hz0 hz1 hz2 rfl wr (.slice a xs.length c) (.slice (some ⟨g, 0, none⟩) j cp) j _ rfl rfl rfl hor6 hBB rfl (by omega) (by omega) ?_; intro g2 c2 w3 hown3 hk3 hg3)
          have hSg : ∀ i ∈ (Value.slice (some ⟨g, 0, none⟩) j cp).ownBlock.toList, i = g := by intro i hi; simp [Value.ownBlock] at hi; omega
          have hg3' : g2 = g ∨ wr.heap.size ≤ g2 := by
            rcases hg3 with h | h
            · left; simpa [Value.ownBlock] using h.symm
            · exact .inr h
          have hl3 := own_lt hown3
          have hge3 := own_ge hown3
          have h3z := hk3.size
          have HREL : Hid (∃ ts2 : List Ty, ts2.length = j + 1 ∧ ts2.map Ty.ks = ((l.take (j + 1)).map Ty.ks).map (List.map relaxB) ∧ w3.ownsRow w.heap.size 27 1 (.slice (some ⟨g2, 0, none⟩) (j + 1) c2) (j + 1) (ts2.map Ty.v) ∧ Made w3 g2 ts2) := by
            refine ⟨ts ++ [⟨a, c, xs.map relaxB⟩], by simp [hts], ?_, ?_, fun t2 h2 => ?_, fun t2 h2 b off hb => ?_⟩
            · rw [List.map_append, hks, List.take_add_one, ht]
              simp
            · rw [List.map_append]
              simpa [Ty.v] using hown3
            · rcases List.mem_append.1 h2 with h2 | h2
              · exact ((hm1 t2 h2).kept kOut).keptS hk3 (fun b off hb hi => (hm2 t2 h2 b off hb).1 (hSg b hi))
              · obtain rfl := List.mem_singleton.1 h2
                exact hsla.keptS hk3 (fun b off hb hi => by have := hSg b hi; have := hSb b (hS b off hb); omega)
            · rcases List.mem_append.1 h2 with h2 | h2
              · have := hm2 t2 h2 b off hb; omega
              · obtain rfl := List.mem_singleton.1 h2
                have := hSb b (hS b off hb); omega
          have kk : Kept [] w w3 := k6.chain hk3 (by simp) (fun i hi hlt => by have := hSg i hi; omega)
          clear hts hks hor hm1 hm2 hor6 HR hS hSb hsla hov
          go_roundw
          case rel => exact ⟨j + 1, g2, c2, by omega, rfl, by go_num, HREL, hl3, hge3, kk⟩
          case measure => simp [intOf]; omega
    · obtain rfl : j = l.length := by omega
      go_wp2
      go_ret
      obtain ⟨ts, htl, hks, hor, hm, _⟩ := HR.out
      exact ⟨some ⟨g, 0, none⟩, cp, ts, by rw [htl]; rfl, by rw [hks, List.take_length], ⟨SlG.of_own hor, hm⟩, hkr⟩
end Go.Proofs.YtefbiofefdcbeaaDoor
