/- Great, and the document's May. -/
import Derived.Test.YthnoohghjcfghaaProg
import Derived.Test.YthnoohghjcfghaaDescTypes
import Derived.Test.YthnoohghjcfghaaQuiet
import Derived.WalkKit
namespace Go.Proofs.Ythnoohghjcfghaa
open Go.RowKit

theorem any_step {l : List Ty} {j : Nat} (h : (l.take j).any (fun t => decide (100 < t.ks.length)) = false) {t : Ty} (ht : l[j]? = some t) (hp : ¬ 100 < t.ks.length) : (l.take (j + 1)).any (fun t => decide (100 < t.ks.length)) = false := by
  rw [List.take_add_one, ht, List.any_append, h]
  simpa using hp
theorem any_yes {l : List Ty} {j : Nat} {t : Ty} (ht : l[j]? = some t) (hp : 100 < t.ks.length) : greatB (l.map Ty.ks) = true := by
  have : (l.map Ty.ks).any (fun ks => decide (100 < ks.length)) = true := List.any_eq_true.2 ⟨t.ks, List.mem_map.2 ⟨t, List.mem_of_getElem? ht, rfl⟩, by simpa using hp⟩
  unfold greatB
  rw [this]; rfl
theorem any_no {l : List Ty} (h : (l.take l.length).any (fun t => decide (100 < t.ks.length)) = false) : greatB (l.map Ty.ks) = decide (60 < l.length) := by
  rw [List.take_length] at h
  unfold greatB
  rw [List.any_map, List.length_map]
  simp only [Function.comp_def, h, Bool.false_or]

set_option maxHeartbeats 1000000 in
theorem great07_any (A : Option Addr) (cap : Nat) (l : List Ty) (w : World) (hs : SlD w A l) (hx : l.length ≤ 9223372036854775807) :
    Calls Try.prog 6 #[.slice A l.length cap] w fun e w' => e = .returned (.bool (greatB (l.map Ty.ks))) ∧ Kept [] w w' := by
  go_enter Try.func6, Try.ntmps6
  go_wp2_with fail
  go_loopw [7] (fun i wr => ∃ j : Nat, j ≤ l.length ∧ i = .int .i64 j ∧ Kept [] w wr ∧ Hid ((l.take j).any (fun t => decide (100 < t.ks.length)) = false)) (fun i _ => l.length - (intOf i).toNat)
  case atStart => exact ⟨0, Nat.zero_le _, rfl, Kept.refl _ _, rfl⟩
  case round =>
    obtain ⟨j, hj, rfl, hkr, HA⟩ := hrel
    by_cases hlt : j < l.length
    · obtain ⟨b, off, t, rfl, ht, hc, _⟩ := (hs.kept hkr).cell hlt
      by_cases hp : 100 < t.ks.length
      · have HS := Lib.hid (any_yes ht hp)
        have hp' : decide ((100 : Int) < (t.ks.length : Int)) = true := by simp; omega
        go_wp2
        go_ret
        exact ⟨by rw [HS.out]; rfl, hkr.alloc _⟩
      · have HS := Lib.hid (any_step HA.out ht hp)
        have hp' : decide ((100 : Int) < (t.ks.length : Int)) = false := by simp; omega
        clear hp
        go_wp2
        go_roundw
        case rel => exact ⟨j + 1, by omega, by go_num, hkr.alloc _, HS⟩
        case measure => simp [intOf]; omega
    · obtain rfl : j = l.length := by omega
      have HS := Lib.hid (any_no HA.out)
      by_cases h60 : 60 < l.length
      · have h60' : decide ((60 : Int) < (l.length : Int)) = true := by simp; omega
        go_wp2
        go_ret
        exact ⟨by rw [HS.out]; simp; omega, hkr⟩
      · have h60' : decide ((60 : Int) < (l.length : Int)) = false := by simp; omega
        go_wp2
        go_ret
        exact ⟨by rw [HS.out]; simp; omega, hkr⟩
end Go.Proofs.Ythnoohghjcfghaa
