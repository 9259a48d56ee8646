/- Package kraalref10: Pages. -/
import Derived.Test.YtjihlogpmkidlaaPlanRefPut
import Derived.Test.YtjihlogpmkidlaaPlanPlain2
import Derived.Test.YtjihlogpmkidlaaSl
import Derived.Test.YtjihlogpmkidlaaStepCall
namespace Go.Proofs.Ytjihlogpmkidlaa
open Go.RowKit

theorem lt_of_cellB {W : World} {g j : Nat} {v : Value} (h : W.cell? ⟨g, j, none⟩ = some v) : g < W.heap.size := by
  exact block_lt_of_cell h
/-- Block B is a plan of the document's. -/
def IsRefP (w : World) (B : Nat) (x : Pl) : Prop := Row w B 27 [.int .i64 x.p, .int .i64 x.left]

set_option maxRecDepth 100000 in
set_option maxHeartbeats 4000000 in
theorem refPages10_any (a : Option Addr) (cap : Nat) (ss : List Int) (w : World) (hs : Sl w .i64 a ss) (hx : ss.length ≤ 1099511627776) :
    Calls Try.prog 14 #[.slice a ss.length cap] w fun e w' => e = .returned (.int .i64 (totL ss)) ∧ Kept [] w w' := by
  have rB := Row.new w 27 [.int .i64 0, .int .i64 0]
  have kB := (Kept.refl [] w).alloc (.cells #[.int .i64 0, .int .i64 0] 27)
  have hentN := enters_of Try.func9 (by kernel_rfl) rfl
  have hentP := enters_of Try.func11 (by kernel_rfl) rfl
  go_enter Try.func14, Try.ntmps14
  go_wp2_with fail
  generalize w.alloc (.cells #[.int .i64 0, .int .i64 0] 27) = w1 at rB kB ⊢
  obtain ⟨B, hB⟩ : ∃ B, w.heap.size = B := ⟨_, rfl⟩
  rw [hB] at rB ⊢
  have HB := Lib.hid hB
  clear hB
  have hBl := rB.lt
  go_loopw [4, 5] (fun t i wr => ∃ (j : Nat) (T : Int), j ≤ ss.length ∧ t = .int .i64 T ∧ i = .int .i64 j ∧ Hid (T = totL (ss.take j)) ∧ IsRefP wr B (plansL (ss.take j)) ∧ Kept [B] w1 wr) (fun _ i _ => ss.length - (intOf i).toNat)
  case atStart => exact ⟨0, 0, Nat.zero_le _, rfl, rfl, totL_nil.symm, rB, Kept.refl _ _⟩
  case round =>
    obtain ⟨j, T, hj, rfl, rfl, HT, hr, hkr⟩ := hrel
    have k0 : Kept [] w wr := kB.chain hkr (by simp) (by simp; have := HB.out; omega)
    clear rB
    by_cases hlt : j < ss.length
    · obtain ⟨b, off, rfl, cS⟩ := (hs.kept k0).cell hlt
      have HT2 := Lib.hid (totL_step hlt)
      have HP2 := Lib.hid (plansL_step hlt)
      have hok := Lib.hid (plansL_ok (ss.take j))
      have hrg := totL_range (ss.take j)
      rw [← HT.out, List.length_take, Nat.min_eq_left hj] at hrg
      have hnr := needP_range (plansL (ss.take j)).left (ss[j]?.getD 0)
      generalize ss[j]?.getD 0 = s at cS HT2 HP2 hnr
      generalize plansL (ss.take j) = x at hr HT2 HP2 hok hnr
      obtain ⟨n, e, hne⟩ : ∃ n e, needP x.left s = (n, e) := ⟨_, _, rfl⟩
      have HN := Lib.hid hne
      rw [hne] at HT2 hnr
      have hw : IntKind.i64.wrap (T + n) = T + n := by rw [IntKind.wrap_i64]; simp only at hnr; omega
      have HE := Lib.hid (fun he => needP_err hok.out hne (he : e ≠ 0))
      have HKR := Lib.hid hkr
      clear hrg hnr hne hkr
      have c0 : wr.cell? ⟨B, 0, none⟩ = some (.int .i64 x.p) := by simpa using hr.cell 0
      have c1 : wr.cell? ⟨B, 1, none⟩ = some (.int .i64 x.left) := by simpa using hr.cell 1
      go_wp2_with fail
      go_region_law (first
        | (refine step_callE (by with_reducible rfl) (by rfl) 9 _ _ _ (by rfl) hentN _ _ (by rfl) (by rfl) (refNeed10_any x.p x.left s wr.drew) ?_; rintro e2 w2 ⟨rfl, k2⟩; rw [HN.out]; refine ⟨_, rfl, ?_⟩))
      all_goals
        simp only [List.getElem_toArray, List.getElem_cons_succ, List.getElem_cons_zero, Act.put, List.setIfInBounds_toArray, List.set_cons_succ, List.set_cons_zero]
        have kR := (Kept.refl [] wr).drew.trans k2
        have cS2 : w2.cell? ⟨b, off + j, none⟩ = some (.int .i64 s) := (World.cell?_of_block (w := wr) (a := ⟨b, off + j, none⟩) (kR.block b (lt_of_cellB cS) (by simp))).trans cS
        have hr2 : IsRefP w2 B x := Row.kept hr kR (by simp)
        have HKR2 := Lib.hid (HKR.out.trans kR.any)
        clear c0 c1 k2 kR hr cS
        by_cases he : e = 0
        · subst he
          have c0 : w2.cell? ⟨B, 0, none⟩ = some (.int .i64 x.p) := by simpa using hr2.cell 0
          have c1 : w2.cell? ⟨B, 1, none⟩ = some (.int .i64 x.left) := by simpa using hr2.cell 1
          go_wp2_with fail
          go_region_law (first
            | (refine step_callE3 (by with_reducible rfl) (by rfl) 11 _ _ _ _ (by rfl) hentP _ _ _ (by rfl) (by rfl) (by rfl) (refPlace10_any x s 0 w2.drew hok.out) ?_; rintro e2 w3 ⟨rfl, k3⟩; refine ⟨_, rfl, ?_⟩; unfold refP
               have k3' : Kept [] w2 w3 := (Kept.refl [] w2).drew.trans k3
               have hr3 : Row w3 B _ _ := Row.kept hr2 k3' (by simp)
               have d0 : w3.cell? ⟨B, 0, none⟩ = some (.int .i64 x.p) := (by simpa using hr3.cell 0)
               have d1 : w3.cell? ⟨B, 1, none⟩ = some (.int .i64 x.left) := (by simpa using hr3.cell 1)
               have f0 := hr3.free 0
               have f1 := hr3.free 1))
          all_goals
            have hs3 := Row.set2 hr3 (.int .i64 (putP x s 0).1.p) (.int .i64 (putP x s 0).1.left)
            have kS3 := Kept.set2 (HKR2.out.trans k3'.any) (g := B) (.inl (by simp)) (.int .i64 (putP x s 0).1.p) (.int .i64 (putP x s 0).1.left)
            have HS3 := Lib.hid hs3
            have HKS3 := Lib.hid kS3
            clear hs3 kS3 hr3 d0 d1 f0 f1 k3 k3'
            go_wp2
            go_roundw
            case rel => exact ⟨j + 1, T + n, by omega, rfl, by go_num, by show _ = _; rw [HT2.out, HT.out], by rw [HP2.out]; exact HS3.out, HKS3.out⟩
            case measure => simp [intOf]; omega
        · have he' : (e == 0) = false := by simpa using he
          have HE2 := Lib.hid (HE.out he)
          clear he
          go_wp2
          go_roundw
          case rel => exact ⟨j + 1, T, by omega, rfl, by go_num, by show _ = _; rw [HT2.out, ← HT.out, HE2.out.1]; simp, by rw [HP2.out, HE2.out.2]; exact hr2, HKR2.out⟩
          case measure => simp [intOf]; omega
    · obtain rfl : j = ss.length := by omega
      rw [List.take_length] at HT
      go_wp2
      go_ret
      exact ⟨by rw [HT.out]; rfl, k0⟩
end Go.Proofs.Ytjihlogpmkidlaa
