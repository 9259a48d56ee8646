/- The law AnnotUp: its walk. -/
import Derived.Test.YtnhdikoigpmnkaaDoorAnnotLaid
namespace Go.Proofs.YtnhdikoigpmnkaaDoor
open Go.RowKit

theorem nodup_le : ∀ {ys zs : List Int}, ys.Nodup → (∀ y ∈ ys, y ∈ zs) → ys.length ≤ zs.length
  | [], _, _, _ => Nat.zero_le _
  | y :: ys, zs, h, hm => by
    rw [List.nodup_cons] at h
    have h1 := hm y (by simp)
    have ih := nodup_le (zs := zs.erase y) h.2 (fun x hx => (List.mem_erase_of_ne (show x ≠ y from fun e => h.1 (by rw [← e]; exact hx))).2 (hm x (by simp [hx])))
    rw [List.length_erase_of_mem h1] at ih
    have : 0 < zs.length := List.length_pos_of_mem h1
    simp only [List.length_cons]; omega

/-- Upwards from h: ys are behind, x is next. -/
structure UpL {k : Nat} {rs : List Rw} (hf : Fine k rs) (h : Int) (ys : List Int) (x : Int) : Prop where
  nodup : ys.Nodup
  here : (x ∈ idsT rs ∧ h ∈ subT rs x) ∨ x = 0
  mem : ∀ y ∈ ys, y ∈ idsT rs ∧ h ∈ subT rs y ∧ farB hf x < farB hf y
  all : ∀ y ∈ idsT rs, h ∈ subT rs y → y ∈ ys ∨ x ∈ subT rs y
section
variable {k : Nat} {rs : List Rw} {hf : Fine k rs} {h x : Int} {ys : List Int}
theorem UpL.start (hh : h ∈ idsT rs) : UpL hf h [] h :=
  ⟨List.Pairwise.nil, .inl ⟨hh, by simp [subT]⟩, fun y hy => (by cases hy), fun y _ hs => .inr hs⟩
theorem UpL.is (hu : UpL hf h ys x) (hx : x ≠ 0) : x ∈ idsT rs ∧ h ∈ subT rs x := hu.here.resolve_right hx
theorem UpL.step (hu : UpL hf h ys x) (hk : k < 1000) (hx : x ≠ 0) : UpL hf h (ys ++ [x]) (parB rs x) := by
  obtain ⟨hi, hs⟩ := hu.is hx
  have hlt := farB_lt hf hi
  refine ⟨?_, ?_, fun y hy => ?_, fun y hy hsy => ?_⟩
  · rw [List.nodup_append]
    refine ⟨hu.nodup, by simp, fun a ha b hb => ?_⟩
    obtain rfl := List.mem_singleton.1 hb
    intro e; subst e
    exact Nat.lt_irrefl _ (hu.mem a ha).2.2
  · rcases hf.up _ (mem_par hf hi) with e | e
    · exact .inr e
    · exact .inl ⟨e, hf.sub_trans hk hs ((hf.sub_iff hk hi).2 (.inr (by simp [subT])))⟩
  · rcases List.mem_append.1 hy with hy | hy
    · obtain ⟨h1, h2, h3⟩ := hu.mem y hy
      exact ⟨h1, h2, Nat.lt_trans hlt h3⟩
    · obtain rfl := List.mem_singleton.1 hy
      exact ⟨hi, hs, hlt⟩
  · rcases hu.all y hy hsy with e | e
    · exact .inl (List.mem_append_left _ e)
    · rcases (hf.sub_iff hk hi).1 e with rfl | e
      · exact .inl (by simp)
      · exact .inr e
theorem UpL.len (hu : UpL hf h ys x) : ys.length ≤ k := by
  have := nodup_le hu.nodup (fun y hy => (hu.mem y hy).1)
  have h2 := hf.len
  simp [idsT] at this; omega
theorem UpL.done (hu : UpL hf h ys 0) (hk : k < 1000) (hh : h ∈ idsT rs) : (targB rs 3 h).length = ys.length := by
  refine List.Perm.length_eq ((List.perm_ext_iff_of_nodup ((targB_rise hf 3 h).imp (fun h => by omega)) hu.nodup).2 fun y => ?_)
  rw [targB_mem]
  constructor
  · rintro ⟨h1, h2⟩
    have hy := hf.pos' h1
    rw [annB_up (by omega) ⟨hh, h1⟩] at h2
    by_cases e : inB rs h y = true
    · have e' : h ∈ subT rs y := by unfold inB at e; exact (of_decide_eq_true e).2.2
      rcases hu.all y h1 e' with e | e
      · exact e
      · rcases List.mem_cons.1 e with e | e
        · omega
        · have := hf.pos' (hf.walk_ids hk e); omega
    · rw [if_neg e] at h2; omega
  · intro hy
    obtain ⟨h1, h2, _⟩ := hu.mem y hy
    have hp := hf.pos' h1
    refine ⟨h1, ?_⟩
    rw [annB_up (by omega) ⟨hh, h1⟩, if_pos (by unfold inB; exact decide_eq_true ⟨hh, h1, h2⟩)]
theorem UpL.ok (hu : UpL hf h ys x) (hh : h ∈ idsT rs) (hx : x ≠ 0) : annB rs 3 h x = 0 := by
  obtain ⟨h1, h2⟩ := hu.is hx
  rw [annB_up hx ⟨hh, h1⟩, if_pos (by unfold inB; exact decide_eq_true ⟨hh, h1, h2⟩)]
end

set_option maxRecDepth 100000 in
set_option maxHeartbeats 2000000 in
theorem annotUp_big (a0 : Option Addr) (len cap : Nat) (w : World) (hT : Tab w) (hl : 60 < len) (hm : len ≤ maxLen) :
    Calls Tryd.prog 5 #[.slice a0 len cap] w (FixedPost w) := by
  unfold maxLen at hm
  go_enter Tryd.func5, Tryd.ntmps5
  go_wp2_with fail
  refine (fixed14_any _ hT).mono ?_
  rintro e w5 ⟨rfl, kw5⟩
  go_wp2
  go_ret
  exact ⟨rfl, kw5⟩

set_option maxRecDepth 100000 in
set_option maxHeartbeats 4000000 in
theorem annotUp_law (a0 : Option Addr) (cap : Nat) (l : List ActT) (w : World) (hT : Tab w) (hs : SlAT w a0 l) (hl : l.length ≤ 60) (hb : ∀ x ∈ l, x.fit) :
    Calls Tryd.prog 5 #[.slice a0 l.length cap] w (FixedPost w) := by
  have h5 : decide ((60 : Int) < l.length) = false := by simp; omega
  go_enter Tryd.func5, Tryd.ntmps5
  go_wp2_with fail
  refine (grown14_any a0 cap l w hs hl hb).mono ?_
  rintro e w1 ⟨p, g, rs, ab, ao, cp, rfl, hnew, hf, hI, hsr, k1⟩
  have hk1 : l.length < 1000 := by omega
  have hwl := hf.walk_len hk1
  have hrl := hf.len
  clear hsr
  go_wp2_with fail
  refine (treeAll_any p g rs w1 hI hf hk1).mono ?_
  rintro e w2 ⟨G, c, rfl, hG, hsw, k2⟩
  have kk2 := k1.trans k2
  have hI2 := hI.kept k2
  have HM : Hid (∀ j, j < (walkB rs 0).length → (walkB rs 0)[j]?.getD 0 ∈ idsT rs ∧ Fit64 ((walkB rs 0)[j]?.getD 0)) := by
    intro j hj
    rw [List.getElem?_eq_getElem hj, Option.getD_some]
    have hm := hf.walk_ids hk1 (z := 0) (List.getElem_mem hj)
    obtain ⟨pp, hpp⟩ := mem_ids.1 hm
    exact ⟨hm, (hI.fit _ hpp).1⟩
  have HF := Lib.hid hI.fit
  clear hI k1 k2
  have hxl : (walkB rs 0).length ≤ 60 := by omega
  clear hwl
  generalize walkB rs 0 = xs at HM hxl hsw ⊢
  go_wp2_with fail
  go_loopw [23] (fun i wr => ∃ j : Nat, j ≤ xs.length ∧ i = .int .i64 j ∧ Kept [] w2 wr) (fun i _ => xs.length - (intOf i).toNat)
  case atStart => exact ⟨0, Nat.zero_le _, rfl, Kept.refl _ _⟩
  case round =>
    obtain ⟨j, hj, rfl, hkr⟩ := hrel
    by_cases hlt : j < xs.length
    · obtain ⟨b, off, he, cG⟩ := (hsw.kept hkr).cell hlt
      obtain ⟨rfl, rfl⟩ : G = b ∧ 0 = off := by simpa using he
      obtain ⟨hm, hfx⟩ := HM.out j hlt
      obtain ⟨h, hx⟩ : ∃ x, xs[j]?.getD 0 = x := ⟨_, rfl⟩
      rw [hx] at cG hm hfx
      rw [Nat.zero_add] at cG
      have HH := Lib.hid hm
      have hlt' : (j : Int) < (xs.length : Int) := by omega
      clear hx he hm
      go_wp2_with fail
      go_loopw [7, 8] (fun u i wq => ∃ (ys : List Int) (x : Int), u = .int .i64 (ys.length : Int) ∧ i = .int .i64 x ∧ Fit64 x ∧ Hid (UpL hf h ys x) ∧ Kept [] wr wq) (fun _ i _ => farB hf (intOf i))
      case atStart => exact ⟨[], h, rfl, rfl, hfx, Lib.hid (UpL.start HH.out), Kept.refl _ _⟩
      case round =>
        obtain ⟨ys, x, rfl, rfl, hfx2, HU, hkq⟩ := hrel
        by_cases hx0 : x = 0
        · subst hx0
          have HD := Lib.hid (HU.out.done hk1 HH.out)
          have h0 : ((0 : Int) != 0) = false := by decide
          generalize hL : ys.length = L at HD ⊢
          clear hL
          go_wp2_with fail
          refine (annotTargets_any p g rs 3 h _ (hT.kept ((kk2.trans hkr).trans hkq)) ((hI2.kept hkr).kept hkq) hf hk1 hfx).mono ?_
          rintro e w4 ⟨A4, c4, rfl, _, k4⟩
          rw [HD.out]
          have ne1 : ((L : Int) != (L : Int)) = false := by simp
          go_wp2
          go_roundw
          case rel => exact ⟨j + 1, by omega, by go_num, (hkr.trans hkq).trans k4⟩
          case measure => simp [intOf]; omega
        · have hx0' : (x != 0) = true := by simpa using hx0
          have HS := Lib.hid (HU.out.step hk1 hx0)
          have hok := HU.out.ok HH.out hx0
          have hlen := HS.out.len
          rw [List.length_append, List.length_singleton] at hlen
          have hm := farB_lt hf (HU.out.is hx0).1
          have hpf := parB_fit HF.out x
          have HC := Lib.hid (annotCheck_any p g rs 3 h x wr (hT.kept ((kk2.trans hkr).trans hkq)) ((hI2.kept hkr).kept hkq) hf hk1 hfx hfx2)
          rw [hok] at HC
          generalize hL : ys.length = L at hlen ⊢
          have HL := Lib.hid hL
          have hnw : IntKind.i64.wrap ((L : Int) + 1) = (L : Int) + 1 := IntWalk.i64_in _ (by omega)
          have h100 : decide ((100 : Int) < (L : Int) + 1) = false := by simp; omega
          clear hx0 hok hL
          go_wp2_with fail
          refine HC.out.mono ?_
          rintro e w4 ⟨rfl, k4⟩
          go_wp2_with fail
          refine (treeParent_any p g rs x w4 (((hI2.kept hkr).kept hkq).kept k4) hfx2).mono ?_
          rintro e w5 ⟨rfl, rfl⟩
          go_wp2
          go_roundw
          case rel => exact ⟨ys ++ [x], parB rs x, by rw [List.length_append, List.length_singleton, HL.out]; go_num, rfl, hpf, HS, hkq.trans k4⟩
          case measure => simpa [intOf] using hm
    · obtain rfl : j = xs.length := by omega
      go_wp2_with fail
      refine (fixed14_any _ (hT.kept (kk2.trans hkr))).mono ?_
      rintro e w4 ⟨rfl, k4⟩
      go_wp2
      go_ret
      exact ⟨rfl, (kk2.trans hkr).trans k4⟩
end Go.Proofs.YtnhdikoigpmnkaaDoor
