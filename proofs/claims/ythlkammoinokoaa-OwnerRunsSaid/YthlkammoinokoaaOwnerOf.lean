/- Package owner: Of. -/
import Derived.Test.YthlkammoinokoaaOwnerSet
import Derived.Test.YthlkammoinokoaaOwnerPlain2
import Derived.WalkMore
import Derived.Deep.LoopGhost
namespace Go.Proofs.Ythlkammoinokoaa
open Go.RowKit

theorem info_run : (Try.prog.info? 30).map (fun i => (i.zero, i.size, i.bytes)) = some (some (.agg #[.int .i64 0, .int .i64 0]), 2, 16) := by kernel_rfl
theorem Kept.of_ownR {w w' : World} {v : Value} (h : w.grownBy w' v.ownBlock) : Kept (v.ownBlock.toList) w w' :=
  ⟨h.os, h.tape, h.output, h.size, fun k hk hn => h.block k hk (fun e => by rw [← e] at hn; simp at hn)⟩
/-- 'append(v, api.Run{F, D})'. -/
theorem wpList_append_run (w : World) {ops : Array Oper} {rest : List Oper} {o : Oper} {a : Act} {Q : Exit → Act → World → Prop} (hgd : o.guard = none) (s x : Operand)
    (ho : o.op = .call { callee := .builtin .append, args := #[s, x], argTypes := #[41, 41] }) (B : Nat) (w0 : World) (v : Value) (rs : List RunN) (F D : Nat)
    (hw : w = w0.alloc (.cells #[.int .i64 F, .int .i64 D] 30)) (hs : a.eval s = v) (hx : a.eval x = .slice (some ⟨w0.heap.size, 0, none⟩) 1 1) (hown : OwnR w0 B v rs) (hB : B ≤ w0.heap.size) (hl : rs.length ≤ 1099511627776)
    (h : ∀ v' w', OwnR w' B v' (rs ++ [(F, D)]) → Kept (v.ownBlock.toList) w0 w' → wpList Try.prog ops Q rest (a.put o.dst v') w') : wpList Try.prog ops Q (o :: rest) a w := by
  subst hw
  obtain ⟨i0, hi, hz0, hz1, hz2⟩ := info_parts info_run
  have rE := Row.new w0 30 [.int .i64 F, .int .i64 D]
  have kE := (Kept.refl [] w0).alloc (.cells #[.int .i64 F, .int .i64 D] 30)
  have hA : OwnR (w0.alloc (.cells #[.int .i64 F, .int .i64 D] 30)) B v rs := hown.keptS kE (by simp)
  refine wpList_append_own_at _ hgd s x 41 ho B 30 i0 (.agg #[.int .i64 0, .int .i64 0]) 2 16 Try.underlying41 hi hz0 hz1 hz2 rfl (by decide) v rs.length (flatR rs) hs hA
    ⟨w0.heap.size, 0, none⟩ 1 1 [.int .i64 F, .int .i64 D] hx rfl (fun j u hu => by rw [add_none, Nat.zero_add]; exact (rE.cell j).trans hu) (by simp [Value.oneCell']) (by unfold maxLen; omega) (by omega) (by simp; omega) ?_
  intro v' w' hown' hg _ _
  refine h v' w' (by unfold OwnR; rw [flatR_snoc]; simpa using hown') ?_
  exact (kE.any).trans ((Kept.of_ownR hg).mono (fun k hk _ => hk))

set_option maxRecDepth 100000 in
set_option maxHeartbeats 4000000 in
theorem ownerOf_any (p g : Nat) (xs : List Int) (o : Int) (w : World) (h : IsOwner w p g xs) :
    Calls Try.prog 15 #[.pointer (some ⟨p, 0, none⟩), .int .i64 o] w (RunsPost (ofB xs o) w) := by
  have hle := h.le
  by_cases h1 : o < 1
  · have HF := Lib.hid (ofB_low (xs := xs) h1)
    go_enter Try.func15, Try.ntmps15
    go_wp2
    go_step3
    go_wp2
    try rw [Exit.noGoto_ret]
    go_ret
    rw [HF.out]
    exact ⟨none, 0, rfl, .inl rfl, Kept.refl _ _⟩
  · have h1' : decide (o < 1) = false := by simpa using h1
    have HF := Lib.hid (ofB_at (xs := xs) h1)
    go_enter Try.func15, Try.ntmps15
    go_wp2
    go_step3
    go_wp2
    go_step3
    go_wp2
    obtain ⟨B, hB⟩ : ∃ B, w.heap.size = B := ⟨_, rfl⟩
    have HB := Lib.hid hB
    clear hB
    go_loopg [5, 6] (xs.length + 1) (fun k v s6 wx => ∃ F : Nat, F ≤ xs.length ∧ k = xs.length + 1 - F ∧ s6 = .int .i64 F ∧ Hid (F = 0 ∨ xs[F - 1]?.getD 0 ≠ o) ∧ OwnR wx B v (runsTo xs o F) ∧ B ≤ wx.heap.size ∧ Kept [] w wx)
    case atStart => exact ⟨0, Nat.zero_le _, by omega, rfl, .inl rfl, OwnR.nil w B, by have := HB.out; omega, Kept.refl _ _⟩
    case round =>
      obtain ⟨F, hF, hk, rfl, HG, hown, hBw, hkr⟩ := hrel
      obtain ⟨V, rfl⟩ : ∃ V, V = u5 := ⟨_, rfl⟩
      have hr := h.kept hkr
      have hc := hr.cell0
      have hrl := runsTo_len xs o F
      have hVB : ∀ j, V.ownBlock = some j → B ≤ j := fun j hj => by
        obtain ⟨a, cap, rfl, _, hb⟩ := hown.slice
        cases a with
        | none => simp [Value.ownBlock] at hj
        | some ad =>
          rcases hown.2 with ⟨h', _⟩ | ⟨g', cap', cur', h', hB', _⟩
          · cases h'
          · cases h'; simp [Value.ownBlock] at hj; omega
      have HVB := Lib.hid hVB
      clear hVB
      by_cases hlt : F < xs.length
      · obtain ⟨M, hM⟩ : ∃ M : Nat, M = xs.length - F := ⟨_, rfl⟩
        have hMi : (xs.length : Int) - F = (M : Int) := by omega
        have HM := Lib.hid hM
        have HMF : Hid (F + M = xs.length) := by show _ = _; omega
        clear hM
        go_wp2
        go_loopg [5, 6, 22] M (fun k2 v2 s6 s22 wx => ∃ D : Nat, D ≤ M ∧ k2 = M - D ∧ V = v2 ∧ s6 = .int .i64 F ∧ s22 = .int .i64 D ∧ Hid (∀ i, i < D → xs[F + i]?.getD 0 = o) ∧ wr = wx)
        case atStart => exact ⟨0, Nat.zero_le _, by omega, rfl, rfl, rfl, by intro i hi; omega, rfl⟩
        case round =>
          obtain ⟨D, hD, hk2, rfl, rfl, rfl, HA, rfl⟩ := hrel
          have hMlen := HMF.out
          have hD1024 : D ≤ 1024 := by omega
          have hF1024 : F ≤ 1024 := by omega
          clear hMlen
          by_cases hltD : D < M
          · have HPG := Lib.hid (pageB_at (xs := xs) (p := F + D) (by have := HMF.out; omega))
            go_wp2_with fail
            rw [show (F : Int) + (D : Int) = ((F + D : Nat) : Int) by omega]
            refine (ownerPage_any p g xs ((F + D : Nat) : Int) wr hr).mono ?_
            rintro e w1 ⟨rfl, rfl⟩
            rw [HPG.out]
            by_cases hv : xs[F + D]?.getD 0 = o
            · have HV := Lib.hid hv
              rw [hv]
              clear hv
              go_wp2
              go_roundg (M - (D + 1))
              case measure => omega
              case rel => exact ⟨D + 1, by omega, rfl, rfl, rfl, by go_num, (fun i hi => by by_cases e : i = D; subst e; exact HV.out; exact HA.out i (by omega)), rfl⟩
            · have hv' : (xs[F + D]?.getD 0 == o) = false := by simpa using hv
              have HV := Lib.hid hv
              obtain ⟨y, hy⟩ : ∃ y, xs[F + D]?.getD 0 = y := ⟨_, rfl⟩
              rw [hy] at hv' ⊢
              clear hv hy
              by_cases hD0 : D = 0
              · subst hD0
                have HT : Hid (runsTo xs o (F + 1) = runsTo xs o F) := runsTo_off (by simpa using HV.out)
                go_wp2
                go_roundg (xs.length + 1 - (F + 1))
                case measure => omega
                case rel => exact ⟨F + 1, by omega, rfl, by go_num, .inr (by simpa using HV.out), by rw [HT.out]; exact hown, hBw, hkr⟩
              · have hDp : decide (0 < (D : Int)) = true := by simp; omega
                have HT : Hid (runsTo xs o (F + D + 1) = runsTo xs o F ++ [(F, D)]) := by
                  have h1 := runsTo_off (xs := xs) (o := o) (i := F + D) HV.out
                  have h2 := runsTo_block HG.out (D - 1) (fun d hd => HA.out d (by omega))
                  rw [show D - 1 + 1 = D by omega] at h2
                  exact h1.trans h2
                go_wp2_with (at_builtin; refine wpList_append_run _ rfl _ _ rfl B wr V (runsTo xs o F) F D rfl rfl rfl hown hBw (by omega) ?_; intro v2 w2 hown2 hk3)
                go_roundg (xs.length + 1 - (F + D + 1))
                case measure => omega
                case rel => exact ⟨F + D + 1, by have := HMF.out; omega, rfl, by go_num, .inr (by rw [show F + D + 1 - 1 = F + D by omega]; exact HV.out), by rw [HT.out]; exact hown2, Nat.le_trans hBw hk3.size, hkr.chain hk3 (by simp) (fun i hi hl => by rw [Option.mem_toList] at hi; have := HVB.out i hi; have := HB.out; omega)⟩
          · obtain rfl : D = M := by omega
            have HT : Hid (ofB xs o = runsTo xs o F ++ [(F, D)]) := by
              have h2 := runsTo_block HG.out (D - 1) (fun d hd => HA.out d (by omega))
              have h3 := HMF.out
              rw [show D - 1 + 1 = D by omega, h3] at h2
              exact HF.out.trans h2
            go_wp2_with (at_builtin; refine wpList_append_run _ rfl _ _ rfl B wr V (runsTo xs o F) F D rfl rfl rfl hown hBw (by omega) ?_; intro v2 w2 hown2 hk3)
            try rw [Exit.noGoto_ret]
            go_ret
            rw [HT.out]
            obtain ⟨a, cap, rfl, hs, _⟩ := hown2.slice
            exact ⟨a, cap, rfl, hs, hkr.chain hk3 (by simp) (fun i hi hl => by rw [Option.mem_toList] at hi; have := HVB.out i hi; have := HB.out; omega)⟩
      · obtain rfl : F = xs.length := by omega
        go_wp2
        try rw [Exit.noGoto_ret]
        go_ret
        rw [HF.out]
        obtain ⟨a, cap, rfl, hs, _⟩ := hown.slice
        exact ⟨a, cap, rfl, hs, hkr⟩
end Go.Proofs.Ythlkammoinokoaa
