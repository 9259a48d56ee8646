/- kraallaw11's ArenaAgain$1: things are placed, one behind the other. -/
import Derived.Test.YtenhelbmcapfkaaArenaYard
import Derived.Test.YtenhelbmcapfkaaArenaPlain2
import Derived.Test.YtenhelbmcapfkaaSl
import Derived.Test.YtenhelbmcapfkaaSameRuns
namespace Go.Proofs.Ytenhelbmcapfkaa
open Go.RowKit

/-- What was answered so far, the arena, the marks: one more thing. -/
def stepN (q : List RunN × ArN × List Bool) (s : Int) : List RunN × ArN × List Bool :=
  (q.1 ++ [((allocN q.2.1 q.2.2 s).2.2.1.toNat, (allocN q.2.1 q.2.2 s).2.2.2.toNat)], (allocN q.2.1 q.2.2 s).1, (allocN q.2.1 q.2.2 s).2.1)
def placeN (l : List Int) (q : List RunN × ArN × List Bool) : List RunN × ArN × List Bool := l.foldl stepN q
theorem placeN_take {l : List Int} {j : Nat} (h : j < l.length) (q : List RunN × ArN × List Bool) : placeN (l.take (j + 1)) q = stepN (placeN (l.take j) q) (l[j]?.getD 0) := by
  unfold placeN
  rw [List.take_add_one, List.getElem?_eq_getElem h, List.foldl_append]
  rfl
theorem allocN_nat {a : ArN} (hx : a.x.ok) {xs : List Bool} (hl : xs.length ≤ 1024) (s : Int) : ∃ F E : Nat, (allocN a xs s).2.2.1 = F ∧ (allocN a xs s).2.2.2 = E := by
  rcases allocN_cases a hx xs [] s hl with ⟨_, _, h, _⟩ | ⟨F, S, _, _, _, _, _, _, hp, h, _⟩ | ⟨N, _, _, _, _, _, _, _, h, _⟩ | ⟨N, A, S, _, _, _, _, _, _, _, _, _, hp, h, _⟩ <;> rw [h.out]
  · exact ⟨0, 1, rfl, rfl⟩
  · exact ⟨F, 0, rfl, rfl⟩
  · exact ⟨0, 3, rfl, rfl⟩
  · exact ⟨16 * A, 0, rfl, rfl⟩
theorem allocN_ts {a : ArN} (hx : a.x.ok) {xs : List Bool} (hl : xs.length ≤ 1024) (s : Int) : (allocN a xs s).1.ts.length ≤ a.ts.length + 1 := by
  rcases allocN_cases a hx xs [] s hl with ⟨_, _, h, _⟩ | ⟨F, S, _, _, _, _, _, _, hp, h, _⟩ | ⟨N, _, _, _, _, _, _, _, h, _⟩ | ⟨N, A, S, _, _, _, _, _, _, _, _, _, hp, h, _⟩ <;> rw [h.out] <;> simp
theorem placeN_out (l : List Int) (q : List RunN × ArN × List Bool) : (placeN l q).1.length = q.1.length + l.length := by
  induction l generalizing q with
  | nil => rfl
  | cons s l ih =>
    show (placeN l (stepN q s)).1.length = _
    rw [ih]
    simp [stepN]; omega

theorem allocN_len (a : ArN) (xs : List Bool) (s : Int) : (allocN a xs s).2.1.length = xs.length := by
  unfold allocN
  split
  · rfl
  · split
    · rfl
    · split
      · rfl
      · exact markB_length _ _ _ _
theorem placeN_len (l : List Int) (q : List RunN × ArN × List Bool) : (placeN l q).2.2.length = q.2.2.length := by
  induction l generalizing q with
  | nil => rfl
  | cons s l ih =>
    show (placeN l (stepN q s)).2.2.length = _
    rw [ih]
    exact allocN_len _ _ _

/-- What is left when things have been placed. -/
def PutsPost (B0 p rb rg mb mg : Nat) (d : AD) (xs : List Bool) (l : List Int) (w : World) (e : Ending) (w' : World) : Prop :=
  ∃ v d' ys', e = .returned v ∧ OwnR w' w.heap.size v (placeN l ([], d.toArN, xs)).1 ∧ d'.B = d.B ∧ d'.toArN = (placeN l ([], d.toArN, xs)).2.1 ∧
    Yard B0 w' p rb rg mb mg (placeN l ([], d.toArN, xs)).2.2 ys' [d'] ∧ Good (placeN l ([], d.toArN, xs)).2.2 [d'.toArN] ∧ d'.ts.length ≤ d.ts.length + l.length ∧
    Goes rg mg [d] w [d'] w' ∧ (∀ j, v.ownBlock = some j → j ∉ turf rg mg [d'])

set_option maxRecDepth 100000 in
set_option maxHeartbeats 4000000 in
theorem place_any (B0 p rb rg mb mg X Y cap : Nat) (a : Option Addr) (d : AD) (xs : List Bool) (ys : List Int) (l : List Int) (w w0 : World) (hs : Sl w0 .i64 a l) (hk0 : Kept [] w0 w) (hB : w0.heap.size ≤ B0) (hY : Yard B0 w p rb rg mb mg xs ys [d]) (hG : Good xs [d.toArN])
    (hl : l.length ≤ 60) (ht : d.ts.length ≤ 60) (rX : Row w X 65 [.slice a l.length cap]) (rY : Row w Y 32 [.pointer (some ⟨d.B, 0, none⟩)]) (hZ : Y ∉ turf rg mg [d]) :
    Calls Try.prog 29 #[.pointer (some ⟨X, 0, none⟩), .pointer (some ⟨Y, 0, none⟩)] w (PutsPost B0 p rb rg mb mg d xs l w) := by
  have cX : w.cell? ⟨X, 0, none⟩ = some (.slice a l.length cap) := by simpa using rX.cell 0
  have hXl := rX.lt
  have hYl := rY.lt
  have hge := hY.turf_ge
  have HGE := Lib.hid hge
  clear hge
  have HPL := Lib.hid hY.pages.lt
  go_enter Try.func29, Try.ntmps29
  go_wp2_with fail
  clear cX
  go_loopw [3, 10] (fun v0 i wr => ∃ (j : Nat) (d' : AD) (ys' : List Int) (v : Value), v = v0 ∧ j ≤ l.length ∧ i = .int .i64 j ∧ OwnR wr w.heap.size v (placeN (l.take j) ([], d.toArN, xs)).1 ∧ d'.B = d.B ∧ Hid (d'.toArN = (placeN (l.take j) ([], d.toArN, xs)).2.1) ∧
    Yard B0 wr p rb rg mb mg (placeN (l.take j) ([], d.toArN, xs)).2.2 ys' [d'] ∧ Good (placeN (l.take j) ([], d.toArN, xs)).2.2 [d'.toArN] ∧ d'.ts.length ≤ d.ts.length + j ∧ Goes rg mg [d] w [d'] wr ∧ (∀ j, v.ownBlock = some j → j ∉ turf rg mg [d'])) (fun _ i _ => l.length - (intOf i).toNat)
  case atStart => exact ⟨0, d, ys, _, rfl, Nat.zero_le _, rfl, OwnR.nil _ _, rfl, rfl, hY, hG, by omega, Goes.of_kept (Kept.refl _ _), by simp [Value.ownBlock]⟩
  case round =>
    obtain ⟨j, d', ys', v, rfl, hj, rfl, hown, hdB, HQ, hYr, hGr, htr, hgo, hvt⟩ := hrel
    have hkr : Kept [] w0 wr := hgo.base hk0 (fun k hk => Nat.le_trans hB (HGE.out k hk))
    by_cases hlt : j < l.length
    · obtain ⟨b, off, rfl, c0⟩ := (hs.kept hkr).cell hlt
      have rYr := rY.kept hgo.kept hZ
      have cY : wr.cell? ⟨Y, 0, none⟩ = some (.pointer (some ⟨d'.B, 0, none⟩)) := by rw [hdB]; simpa using rYr.cell 0
      have HT := Lib.hid (placeN_take hlt ([], d.toArN, xs))
      obtain ⟨s, hs0⟩ : ∃ s, l[j]?.getD 0 = s := ⟨_, rfl⟩
      rw [hs0] at c0 HT
      have hout := placeN_out (l.take j) ([], d.toArN, xs)
      generalize placeN (l.take j) ([], d.toArN, xs) = q at hown HQ hYr hGr HT hout
      obtain ⟨outs, a0, xs'⟩ := q
      simp only at hown HQ hYr hGr hout
      have hxs := hYr.pages.le
      have hA := hYr.arena 0 d' rfl
      obtain ⟨F, E, hF, hE⟩ := allocN_nat hA.ok hxs s
      have HS := Lib.hid (show stepN (outs, a0, xs') s = (outs ++ [(F, E)], (allocN d'.toArN xs' s).1, (allocN d'.toArN xs' s).2.1) by
        unfold stepN; simp only; rw [← HQ.out, hF, hE]; rfl)
      have hts := allocN_ts hA.ok hxs s
      have HF := Lib.hid hF
      have HE := Lib.hid hE
      clear hF hE hs0 HQ
      have HB := Lib.hid hdB
      clear hdB
      go_wp2_with fail
      refine (arenaAlloc_any p rb rg mb mg d' xs' ys' s wr hA hYr.pages (hYr.away 0 d' rfl) (by have := hGr.many (i := 0) rfl; omega) (by omega)).mono ?_
      rintro e w2 ⟨d2, rfl, hN2, hB2, hA2, hP2, hF2, k2⟩
      rw [HF.out, HE.out]
      have hY2 := hYr.step (i := 0) rfl hA2 hP2 hF2 k2
      have hg2 := Yard.goes (ds := [d']) (i := 0) rfl hF2 k2
      have hG2 := hGr.alloc (i := 0) rfl s
      simp only [List.set_cons_zero] at hY2 hg2 hG2
      have HV := Lib.hid hvt
      have hown2 := hown.keptS hg2.kept (fun j hj => HV.out j hj)
      have hlo : outs.length = j := by rw [hout]; simp; omega
      have HLO := Lib.hid hlo
      have hlb : outs.length ≤ 1099511627776 := by omega
      have hzr := hgo.kept.size
      have hz2 := hg2.kept.size
      have HN2 := Lib.hid hN2
      have HGO := Lib.hid hgo
      have HOV := Lib.hid (fun (i : Nat) (hi : v.ownBlock = some i) => hg2.off (HV.out i hi) (by obtain ⟨_, o, ho, _⟩ := own_block hown i hi; exact lt_of_block ho))
      clear hY hG hYr hGr hA hP2 hF2 hA2 c0 cY rYr hown hlo hN2 k2 hgo hvt hout
      go_wp2_with (at_builtin; refine wpList_append_runN _ rfl _ _ rfl w.heap.size w2 v outs F E rfl rfl rfl hown2 (by omega) hlb ?_; intro g3 c3 w3 hown3 hk3 hat3; rw [HLO.out])
      have hgo2 := HGO.out.trans hg2
      have hge := hown2.ge
      have HOW := fun k hk => hge k (Option.mem_toList.1 hk)
      have hgo3 := hgo2.andNew hk3 HOW
      have hpl := HPL.out
      have hY3 := hY2.keptS hk3 (fun k hk => ⟨HOV.out k (Option.mem_toList.1 hk), by have := HOW k hk; omega, by have := HOW k hk; omega, by have := HOW k hk; omega⟩)
      have hg3 : g3 ∉ turf rg mg [d2] := by
        rcases hat3 with h' | h'
        · exact HOV.out g3 h'
        · intro hm
          have := hY2.turf_lt g3 hm
          omega
      go_roundw
      case rel =>
        refine ⟨j + 1, d2, _, _, rfl, by omega, by go_num, ?_, hB2.trans HB.out, ?_, by rw [HT.out, HS.out]; exact hY3, by rw [HT.out, HS.out, HN2.out]; exact hG2, by rw [HN2.out]; omega, hgo3, fun i hi => by simp [Value.ownBlock] at hi; rw [← hi]; exact hg3⟩
        · rw [HT.out, HS.out]; rw [HLO.out] at hown3; exact hown3
        · show _ = _
          rw [HT.out, HS.out]; exact HN2.out
      case measure => simp [intOf]; omega
    · obtain rfl : j = l.length := by omega
      rw [List.take_length] at hown HQ hYr hGr
      go_wp2
      go_ret
      exact ⟨v, d', ys', rfl, hown, hdB, HQ.out, hYr, hGr, htr, hgo, hvt⟩
end Go.Proofs.Ytenhelbmcapfkaa
