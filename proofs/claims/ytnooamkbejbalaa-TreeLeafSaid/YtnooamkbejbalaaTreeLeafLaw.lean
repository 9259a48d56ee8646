/- The law TreeLeaf: its walk. -/
import Derived.Test.YtnooamkbejbalaaTreeFixed
import Derived.Test.YtnooamkbejbalaaTreeActs
namespace Go.Proofs.Ytnooamkbejbalaa
open Go.RowKit

set_option maxRecDepth 100000 in
set_option maxHeartbeats 2000000 in
theorem treeLeaf_big (a0 : Option Addr) (len cap : Nat) (id parent : Int) (w : World) (hl : 60 < len) (hm : len ≤ maxLen) :
    Calls Try.prog 5 #[.slice a0 len cap, .int .i64 id, .int .i64 parent] w (FixedPost w) := by
  unfold maxLen at hm
  go_enter Try.func5, Try.ntmps5
  go_wp2_with fail
  refine (fixed05_any _).mono ?_
  rintro e w5 ⟨rfl, kw5⟩
  go_wp2
  go_ret
  exact ⟨rfl, kw5⟩

set_option maxRecDepth 100000 in
set_option maxHeartbeats 400000 in
theorem treeLeaf_any (a0 : Option Addr) (cap : Nat) (l : List ActT) (id parent : Int) (w : World) (hs : SlA w a0 l) (hl : l.length ≤ 60) (hb : ∀ x ∈ l, x.fit) (hi : Fit64 id) (hp : Fit64 parent) :
    Calls Try.prog 5 #[.slice a0 l.length cap, .int .i64 id, .int .i64 parent] w (FixedPost w) := by
  have h5 : decide ((60 : Int) < l.length) = false := by simp; omega
  go_enter Try.func5, Try.ntmps5
  go_wp2_with fail
  refine (treeNew_any w).mono ?_
  rintro e w1 ⟨p, g, rfl, hnew, ht1, kw1⟩
  go_wp2_with fail
  go_loopw [22] (fun i wr => ∃ (j : Nat) (rs : List Rw), j ≤ l.length ∧ i = .int .i64 j ∧ Fine j rs ∧ IsTree wr p g rs ∧ Kept [] w wr) (fun i _ => l.length - (intOf i).toNat)
  case atStart => exact ⟨0, [], Nat.zero_le _, rfl, Fine.nil, ht1, kw1⟩
  case round =>
    obtain ⟨j, rs, hj, rfl, hf, htr, kWr⟩ := hrel
    clear ht1 kw1
    have hrl := hf.len
    by_cases hlt : j < l.length
    · obtain ⟨b, off, x, rfl, hx, hbl, c0, c1, c2⟩ := (hs.kept kWr).cell hlt
      have hbx := hb x (List.mem_of_getElem? hx)
      obtain ⟨zi, zp, zo⟩ := x
      simp only at c0 c1 c2
      have kA := (Kept.refl [] wr).alloc (.cells #[.int .i64 zi, .int .i64 zp, .bool zo] 28)
      have htA := htr.kept kA
      have kWA := kWr.trans kA
      cases zo with
      | true =>
        go_wp2_with fail
        generalize wr.alloc (.cells #[.int .i64 zi, .int .i64 zp, .bool true] 28) = wa at kA htA kWA ⊢
        refine (treeRemove_any p g rs zi wa htA hbx.1 hf.rise (by omega)).mono ?_
        rintro e w3 ⟨rfl, ht3, kw3⟩
        have kW3 : Kept [] w w3 := kWA.chain kw3 (by simp) (by intro i hi hlt; simp at hi; omega)
        have hf3 := hf.remB zi
        clear kA htA kWA kw3
        go_wp2
        go_roundw
        case rel => exact ⟨j + 1, _, by omega, by go_num, hf3, ht3, kW3⟩
        case measure => simp [intOf]; omega
      | false =>
        go_wp2_with fail
        generalize wr.alloc (.cells #[.int .i64 zi, .int .i64 zp, .bool false] 28) = wa at kA htA kWA ⊢
        refine (treeAdd_any p g rs zi zp wa htA hbx.1 hbx.2 (by omega)).mono ?_
        rintro e w3 ⟨rfl, ht3, kw3⟩
        have kW3 : Kept [] w w3 := kWA.chain kw3 (by simp) (by intro i hi hlt; simp at hi; omega)
        have hf3 := hf.addB zi zp
        clear kA htA kWA kw3
        go_wp2
        go_roundw
        case rel => exact ⟨j + 1, _, by omega, by go_num, hf3, ht3, kW3⟩
        case measure => simp [intOf]; omega
    · -- all is done: the walk, then one more
      have hk1 : j + 1 < 1000 := by omega
      have HW0 := Lib.hid (hf.walk_len (by omega))
      have HWN := Lib.hid (show (walkB rs 0).length ≤ 1099511627776 by have := HW0.out; omega)
      go_wp2_with fail
      refine (treeAll_any p g rs wr htr hf (by omega)).mono ?_
      rintro e w2 ⟨wa, wc, rfl, hwa, hsw, kw2⟩
      have hgw := htr.lt
      have hfit0 := Lib.hid htr.fit
      have ht2 := htr.kept kw2
      have kW2 := kWr.trans kw2
      clear htr kw2 kWr
      go_wp2_with fail
      refine (treeAdd_any p g rs id parent w2 ht2 hi hp (by omega)).mono ?_
      rintro e w3 ⟨rfl, ht3, kw3⟩
      have kW3 : Kept [] w w3 := kW2.chain kw3 (by simp) (by intro i hi hlt; simp at hi; omega)
      have hsw3 := hsw.keptS kw3 (by simp; omega)
      clear ht2 hsw kW2 kw3
      by_cases hbad : (addB rs id parent).2 ≠ 0
      · -- it is refused: nothing has changed
        have hsame : (addB rs id parent).1 = rs := by
          by_cases h1 : id < 1 ∨ id ∈ idsT rs
          · rw [addB_arg h1]
          · by_cases h2 : parent ≠ 0 ∧ parent ∉ idsT rs
            · rw [addB_none h1 h2]
            · rw [addB_ok h1 h2] at hbad; exact absurd rfl hbad
        rw [hsame] at ht3
        obtain ⟨E, hE⟩ : ∃ E, (addB rs id parent).2 = E := ⟨_, rfl⟩
        rw [hE] at hbad ⊢
        have hb1 : (E != 0) = true := by simpa using hbad
        have hb2 : (E == 0) = false := by simpa using hbad
        clear hbad hsame hE
        go_wp2_with fail
        refine (fixed05_any _).mono ?_
        rintro e w4 ⟨rfl, kw4⟩
        go_wp2_with fail
        refine (treeAll_any p g rs w4 (ht3.kept kw4) hf (by omega)).mono ?_
        rintro e w5 ⟨va, vc, rfl, hva, hsv, kw5⟩
        go_wp2_with fail
        refine (refSame04_yes _ _ _ _ vc wc (walkB rs 0) _ hsv ((hsw3.kept kw4).kept kw5) rfl rfl HWN.out).mono ?_
        rintro e w6 ⟨rfl, kw6⟩
        go_wp2
        go_ret
        exact ⟨rfl, ((kW3.trans kw4).trans kw5).trans kw6⟩
      · have h1 : ¬ (id < 1 ∨ id ∈ idsT rs) := fun h1 => hbad (by rw [addB_arg h1]; exact (show (1 : Int) ≠ 0 by decide))
        have h2 : ¬ (parent ≠ 0 ∧ parent ∉ idsT rs) := fun h2 => hbad (by rw [addB_none h1 h2]; exact (show (2 : Int) ≠ 0 by decide))
        have hf' := hf.add h1 h2
        have hwl' := hf'.walk_len (by omega)
        rw [insB_length, ← HW0.out] at hwl'
        have H1 := Lib.hid h1
        have H2 := Lib.hid h2
        have HK := Lib.hid (kids_leaf hf h1 h2)
        have HD := Lib.hid (del_insB (x := (id, parent)) (fun h => h1 (.inr h)))
        have HP := Lib.hid (par_of_mem hf'.rise (mem_insB.2 (.inl rfl)) : parB (insB rs (id, parent)) id = parent)
        have HI : Hid (id ∈ idsT (insB rs (id, parent))) := Lib.hid (ids_insB.2 (.inl rfl))
        rw [addB_ok h1 h2] at ht3 ⊢
        have HWL := Lib.hid hwl'
        obtain ⟨rs', hrs'⟩ : ∃ rs', insB rs (id, parent) = rs' := ⟨_, rfl⟩
        have hleaf : ∀ o ∈ idsT rs, inB rs' id o = inB rs' parent o ∧ inB rs' o id = false := fun o ho => by rw [← hrs']; exact hf.leaf_in hk1 h1 h2 ho
        rw [hrs'] at ht3 hf' HK HD HP HI HWL
        have HLF := Lib.hid hleaf
        clear h1 h2 hbad hwl' hrs' hleaf
        go_wp2_with fail
        go_loopw [55] (fun i wr => ∃ q : Nat, q ≤ (walkB rs 0).length ∧ i = .int .i64 q ∧ w3 = wr) (fun i _ => (walkB rs 0).length - (intOf i).toNat)
        case atStart => exact ⟨0, Nat.zero_le _, rfl, rfl⟩
        case round =>
          obtain ⟨q, hq, rfl, rfl⟩ := hrel
          have hwn := HWN.out
          by_cases hql : q < (walkB rs 0).length
          · obtain ⟨bs, offs, he, co⟩ := hsw3.cell hql
            obtain ⟨rfl, rfl⟩ : wa = bs ∧ 0 = offs := by simpa using he
            obtain ⟨o, ho⟩ : ∃ o, (walkB rs 0)[q]?.getD 0 = o := ⟨_, rfl⟩
            have hom : o ∈ idsT rs := by
              rw [List.getElem?_eq_getElem hql, Option.getD_some] at ho
              exact hf.walk_ids (by omega) (z := 0) (ho ▸ List.getElem_mem hql)
            rw [ho, Nat.zero_add] at co
            obtain ⟨e1, e2⟩ := HLF.out o hom
            have hof : Fit64 o := by
              obtain ⟨pp, hpp⟩ := mem_ids.1 hom
              exact (hfit0.out _ hpp).1
            have HE1 := Lib.hid e1
            have HE2 := Lib.hid e2
            clear e1 e2 ho he
            go_wp2_with fail
            refine (treeWithin_any p g rs' id o w3 ht3 hf' (by omega) hi hof).mono ?_
            rintro e w4 ⟨rfl, rfl⟩
            rw [HE1.out]
            go_wp2_with fail
            refine (treeWithin_any p g rs' parent o w3 ht3 hf' (by omega) hp hof).mono ?_
            rintro e w4 ⟨rfl, rfl⟩
            generalize inB rs' parent o = β
            cases β <;>
            (go_wp2_with fail
             refine (treeWithin_any p g rs' o id w3 ht3 hf' (by omega) hof hi).mono ?_
             rintro e w4 ⟨rfl, rfl⟩
             rw [HE2.out]
             go_wp2
             go_roundw
             case rel => exact ⟨q + 1, by omega, by go_num, trivial⟩
             case measure => simp [intOf]; omega)
          · obtain ⟨M, hM⟩ : ∃ M, (walkB rs 0).length = M := ⟨_, rfl⟩
            have HM := Lib.hid hM
            rw [hM] at hq hql hwn ⊢
            clear hM
            go_wp2_with fail
            refine (fixed05_any _).mono ?_
            rintro e w4 ⟨rfl, kw4⟩
            have ht4 := ht3.kept kw4
            have hs4 := hsw3.kept kw4
            have kW4 := kW3.trans kw4
            clear ht3 hsw3 kW3 kw4
            go_wp2_with fail
            refine (treeAll_any p g rs' w4 ht4 hf' (by omega)).mono ?_
            rintro e w5 ⟨va, vc, rfl, hva, hsv, kw5⟩
            have ht5 := ht4.kept kw5
            have hs5 := hs4.kept kw5
            have kW5 := kW4.trans kw5
            rw [HWL.out, HM.out]
            clear ht4 hs4 kW4 kw5 hsv hva
            go_wp2_with fail
            refine (treeParent_any p g rs' id w5 ht5 hi).mono ?_
            rintro e w6 ⟨rfl, rfl⟩
            rw [HP.out]
            go_wp2_with fail
            refine (treeRemove_any p g rs' id w5 ht5 hi hf'.rise (by have := hf'.len; omega)).mono ?_
            rintro e w6 ⟨rfl, ht6, kw6⟩
            rw [remB_ok HI.out HK.out] at ht6 ⊢
            simp only at ht6 ⊢
            rw [HD.out] at ht6
            have hg5 := ht5.lt
            have kW6 : Kept [] w w6 := kW5.chain kw6 (by simp) (by intro i hi hlt; simp at hi; omega)
            have hs6 := hs5.keptS kw6 (by simp; omega)
            clear ht5 hs5 kW5 kw6
            go_wp2_with fail
            refine (treeAll_any p g rs w6 ht6 hf (by omega)).mono ?_
            rintro e w7 ⟨ua, uc, rfl, hua, hsu, kw7⟩
            rw [HM.out]
            go_wp2_with fail
            refine (refSame04_yes _ _ _ _ uc wc (walkB rs 0) _ hsu (hs6.kept kw7) HM.out HM.out hwn).mono ?_
            rintro e w8 ⟨rfl, kw8⟩
            go_wp2
            go_ret
            exact ⟨rfl, (kW6.trans kw7).trans kw8⟩
end Go.Proofs.Ytnooamkbejbalaa
