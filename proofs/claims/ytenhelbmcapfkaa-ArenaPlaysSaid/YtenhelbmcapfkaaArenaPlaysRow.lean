/- ArenaPlays: for every input the law answers true, and its arguments read behind the call as they read before. Conditions: none. -/
import Derived.Test.YtenhelbmcapfkaaArenaRefAlloc
import Derived.Test.YtenhelbmcapfkaaArenaAll
import Derived.Test.YtenhelbmcapfkaaArenaFixed
import Derived.Test.YtenhelbmcapfkaaArenaRest
import Derived.Test.YtenhelbmcapfkaaSameRuns
import Derived.Test.YtenhelbmcapfkaaRegionPick
import Derived.Test.YtenhelbmcapfkaaLaw
namespace Go.Proofs.Ytenhelbmcapfkaa
open Go.RowKit

/-- The array's cells: four for each arena. -/
def flatC : List RD → List Value
  | [] => []
  | r :: rs => .int .i64 r.x.p :: .int .i64 r.x.left :: .slice r.ar r.rs.length r.cr :: .slice r.at' r.ts.length r.ct :: flatC rs
theorem flatC_get : ∀ (rs : List RD) (K : Nat) (r : RD), rs[K]? = some r → (flatC rs)[K * 4]? = some (.int .i64 r.x.p) ∧ (flatC rs)[K * 4 + 1]? = some (.int .i64 r.x.left) ∧
    (flatC rs)[K * 4 + 2]? = some (.slice r.ar r.rs.length r.cr) ∧ (flatC rs)[K * 4 + 3]? = some (.slice r.at' r.ts.length r.ct)
  | [], _, _, h => by simp at h
  | s :: rs, 0, r, h => by simp at h; subst h; exact ⟨rfl, rfl, rfl, rfl⟩
  | s :: rs, K + 1, r, h => by
    have ih := flatC_get rs K r (by simpa using h)
    rw [show (K + 1) * 4 = K * 4 + 4 by omega]
    exact ih
theorem flatC_set : ∀ (rs : List RD) (K : Nat) (r r' : RD), rs[K]? = some r →
    ((((flatC rs).set (K * 4) (.int .i64 r'.x.p)).set (K * 4 + 1) (.int .i64 r'.x.left)).set (K * 4 + 2) (.slice r'.ar r'.rs.length r'.cr)).set (K * 4 + 3) (.slice r'.at' r'.ts.length r'.ct) = flatC (rs.set K r')
  | [], _, _, _, h => by simp at h
  | s :: rs, 0, r, r', h => rfl
  | s :: rs, K + 1, r, r', h => by
    have ih := flatC_set rs K r r' (by simpa using h)
    rw [show (K + 1) * 4 = K * 4 + 4 by omega]
    simp only [flatC, List.set_cons_succ]
    rw [← ih]
/-- One arena of the array is stored anew. -/
theorem Row.setRD {w : World} {X : Nat} {t : TypeId} {rs : List RD} (h : Row w X t (flatC rs)) {K : Nat} {r : RD} (hr : rs[K]? = some r) (r' : RD) :
    Row ((((w.setCell ⟨X, K * 4, none⟩ (.int .i64 r'.x.p)).setCell ⟨X, K * 4 + 1, none⟩ (.int .i64 r'.x.left)).setCell ⟨X, K * 4 + 2, none⟩ (.slice r'.ar r'.rs.length r'.cr)).setCell ⟨X, K * 4 + 3, none⟩ (.slice r'.at' r'.ts.length r'.ct)) X t (flatC (rs.set K r')) := by
  rw [← flatC_set rs K r r' hr]
  exact (((h.set _ _).set _ _).set _ _).set _ _
theorem Kept.setRD {w : World} {X K : Nat} (r' : RD) :
    Kept [X] w ((((w.setCell ⟨X, K * 4, none⟩ (.int .i64 r'.x.p)).setCell ⟨X, K * 4 + 1, none⟩ (.int .i64 r'.x.left)).setCell ⟨X, K * 4 + 2, none⟩ (.slice r'.ar r'.rs.length r'.cr)).setCell ⟨X, K * 4 + 3, none⟩ (.slice r'.at' r'.ts.length r'.ct)) :=
  ((((Kept.refl [X] w).set (p := ⟨X, K * 4, none⟩) (.inl (by simp)) _).set (p := ⟨X, K * 4 + 1, none⟩) (.inl (by simp)) _).set (p := ⟨X, K * 4 + 2, none⟩) (.inl (by simp)) _).set (p := ⟨X, K * 4 + 3, none⟩) (.inl (by simp)) _
/-- An arena of nothing. -/
def RD.zero : RD := ⟨⟨⟨0, 0⟩, [], []⟩, none, 0, none, 0⟩
theorem RD.away0 (S : List Nat) : RD.zero.away S := ⟨.inl rfl, .inl rfl⟩
theorem IsRD.zero (w : World) : IsRD w RD.zero := ⟨.inl rfl, .inl rfl⟩

/-- The document's arenas: what lies in X, apart from S. -/
structure Docs (w : World) (X : Nat) (S : List Nat) (rds : List RD) : Prop where
  row : Row w X 39 (flatC rds)
  is : ∀ (i : Nat) (r : RD), rds[i]? = some r → IsRD w r
  away : ∀ (i : Nat) (r : RD), rds[i]? = some r → r.away (X :: S)
  off : X ∉ S
section
variable {w w' : World} {X K : Nat} {S S' : List Nat} {rds : List RD} {r r' : RD}
theorem Docs.kept (h : Docs w X S rds) (hk : Kept [] w w') : Docs w' X S rds := ⟨h.row.kept hk (by simp), fun i r hr => (h.is i r hr).kept hk, h.away, h.off⟩
theorem RD.away_mono (h : r.away S) (hs : ∀ k ∈ S', k ∈ S) : r.away S' := ⟨h.1.mono hs, h.2.mono hs⟩
theorem awayL.goes {rg mg : Nat} {ds ds' : List AD} {rs : List RunN} {a : Option Addr} (h : awayL rs a (X :: turf rg mg ds)) (hs : SlR w a rs) (hg : Goes rg mg ds w ds' w') : awayL rs a (X :: turf rg mg ds') := by
  rcases h with h | h
  · exact .inl h
  · by_cases hne : rs = []
    · exact .inl hne
    · refine .inr (fun b off e hm => ?_)
      have h1 := h b off e
      rcases List.mem_cons.1 hm with rfl | hm
      · exact h1 (by simp)
      · exact hg.off (fun hm => h1 (List.mem_cons_of_mem _ hm)) (hs.lt hne b off e) hm
/-- What is theirs of the arenas' is turned. -/
theorem Docs.goes {rg mg : Nat} {ds ds' : List AD} (h : Docs w X (turf rg mg ds) rds) (hg : Goes rg mg ds w ds' w') : Docs w' X (turf rg mg ds') rds :=
  ⟨h.row.kept hg.kept h.off, fun i r hr => (h.is i r hr).keptS hg.kept (RD.away_mono (h.away i r hr) (fun _ hk => List.mem_cons_of_mem _ hk)),
    fun i r hr => ⟨(h.away i r hr).1.goes (h.is i r hr).runs hg, (h.away i r hr).2.goes (h.is i r hr).things hg⟩, hg.off h.off h.row.lt⟩
/-- A slice that came in or is new. -/
theorem awayL.new {S : List Nat} {w : World} {rs rs' : List RunN} {a a' : Option Addr} (h : awayL rs a S) (hn : (a' = a ∧ rs' = rs) ∨ ∃ g, a' = some ⟨g, 0, none⟩ ∧ w.heap.size ≤ g) (hl : ∀ k ∈ S, k < w.heap.size) : awayL rs' a' S := by
  rcases hn with ⟨rfl, rfl⟩ | ⟨g, rfl, hg⟩
  · exact h
  · refine .inr (fun b off e hm => ?_)
    cases e
    have := hl _ hm
    omega
/-- One of them is stored anew. -/
theorem Docs.put (h : Docs w X S rds) (hK : rds[K]? = some r) (hi : IsRD w r') (ha : r'.away (X :: S)) :
    Docs ((((w.setCell ⟨X, K * 4, none⟩ (.int .i64 r'.x.p)).setCell ⟨X, K * 4 + 1, none⟩ (.int .i64 r'.x.left)).setCell ⟨X, K * 4 + 2, none⟩ (.slice r'.ar r'.rs.length r'.cr)).setCell ⟨X, K * 4 + 3, none⟩ (.slice r'.at' r'.ts.length r'.ct)) X S (rds.set K r') := by
  have hk := Kept.setRD (w := w) (X := X) (K := K) r'
  have hget : ∀ (i : Nat) (e : RD), (rds.set K r')[i]? = some e → e = r' ∨ rds[i]? = some e := fun i e he => by
    by_cases hj : K = i
    · subst hj
      rw [List.getElem?_set_self', hK] at he
      simp at he
      exact .inl he.symm
    · rw [List.getElem?_set_ne hj] at he
      exact .inr he
  refine ⟨h.row.setRD hK r', fun i e he => ?_, fun i e he => ?_, h.off⟩
  · rcases hget i e he with rfl | he
    · exact hi.keptS hk (RD.away_mono ha (by intro k hk; simp at hk; simp [hk]))
    · exact (h.is i e he).keptS hk (RD.away_mono (h.away i e he) (by intro k hk; simp at hk; simp [hk]))
  · rcases hget i e he with rfl | he
    · exact ha
    · exact h.away i e he
end
theorem RD.zeroP : RD.zero.x.p = 0 := rfl
theorem RD.zeroL : RD.zero.x.left = 0 := rfl
theorem RD.zeroR : Value.slice RD.zero.ar RD.zero.rs.length RD.zero.cr = .slice none 0 0 := rfl
theorem RD.zeroT : Value.slice RD.zero.at' RD.zero.ts.length RD.zero.ct = .slice none 0 0 := rfl
/-- An arena of nothing is stored. -/
theorem Docs.putZero {w : World} {X K : Nat} {S : List Nat} {rds : List RD} {r : RD} (h : Docs w X S rds) (hK : rds[K]? = some r) :
    Docs ((((w.setCell ⟨X, K * 4, none⟩ (.int .i64 0)).setCell ⟨X, K * 4 + 1, none⟩ (.int .i64 0)).setCell ⟨X, K * 4 + 2, none⟩ (.slice none 0 0)).setCell ⟨X, K * 4 + 3, none⟩ (.slice none 0 0)) X S (rds.set K RD.zero) ∧
    Kept [X] w ((((w.setCell ⟨X, K * 4, none⟩ (.int .i64 0)).setCell ⟨X, K * 4 + 1, none⟩ (.int .i64 0)).setCell ⟨X, K * 4 + 2, none⟩ (.slice none 0 0)).setCell ⟨X, K * 4 + 3, none⟩ (.slice none 0 0)) := by
  have h1 := h.put hK (IsRD.zero w) (RD.away0 _)
  have h2 := Kept.setRD (w := w) (X := X) (K := K) RD.zero
  rw [RD.zeroP, RD.zeroL, RD.zeroR, RD.zeroT] at h1 h2
  exact ⟨h1, h2⟩
theorem awayL.above {w : World} {rs : List RunN} {a : Option Addr} {N : Nat} (h : SlR w a rs) (hN : w.heap.size ≤ N) : awayL rs a [N] := by
  by_cases hne : rs = []
  · exact .inl hne
  · exact .inr (fun b off e hm => by have := h.lt hne b off e; simp at hm; omega)
/-- The marks' slice is apart from S. -/
def awayA (A : Option Addr) (S : List Nat) : Prop := ∀ b off, A = some ⟨b, off, none⟩ → b ∉ S
theorem SlG.lt {α : Type} {f : α → Value} {w : World} {A : Option Addr} {xs : List α} (h : SlG f w A xs) (hne : xs ≠ []) : ∀ b off, A = some ⟨b, off, none⟩ → b < w.heap.size := by
  intro b off e
  rcases h with h | ⟨b', off', e', hb, _⟩
  · exact absurd h hne
  · rw [e] at e'; cases e'; exact hb
theorem awayA.goes {w w' : World} {X : Nat} {rg mg : Nat} {ds ds' : List AD} {A : Option Addr} {xs : List Bool} (h : awayA A (X :: turf rg mg ds)) (hs : SlG Value.bool w A xs) (hne : xs ≠ []) (hg : Goes rg mg ds w ds' w') : awayA A (X :: turf rg mg ds') := fun b off e hm => by
  have h1 := h b off e
  rcases List.mem_cons.1 hm with rfl | hm
  · exact h1 (by simp)
  · exact hg.off (fun hm => h1 (List.mem_cons_of_mem _ hm)) (hs.lt hne b off e) hm
theorem awayA.new {S : List Nat} {w : World} {A A' : Option Addr} (h : awayA A S) (hn : A' = A ∨ ∃ g, A' = some ⟨g, 0, none⟩ ∧ w.heap.size ≤ g) (hl : ∀ k ∈ S, k < w.heap.size) : awayA A' S := fun b off e hm => by
  rcases hn with rfl | ⟨g, rfl, hg⟩
  · exact h b off e hm
  · cases e
    have := hl _ hm
    omega
end Go.Proofs.Ytenhelbmcapfkaa

namespace Go.Proofs.Ytenhelbmcapfkaa
open Go.RowKit

set_option maxRecDepth 100000 in
set_option maxHeartbeats 2000000 in
theorem arenaPlays_big (n p0 p1 : Int) (a0 : Option Addr) (len cap : Nat) (w : World) (hl : 80 < len) (hm : len ≤ maxLen) :
    Calls Try.prog 3 #[.int .u8 n, .slice a0 len cap, .agg #[.int .i64 p0, .int .i64 p1]] w (FixedPost w) := by
  unfold maxLen at hm
  have kW := (Kept.refl [] w).alloc (.cells #[.int .i64 p0, .int .i64 p1] 23)
  go_enter Try.func3, Try.ntmps3
  go_wp2_with fail
  refine (fixed11_any _).mono ?_
  rintro e w5 ⟨rfl, kw5⟩
  go_wp2
  go_ret
  exact ⟨rfl, kW.trans kw5⟩

set_option maxRecDepth 100000 in
set_option maxHeartbeats 16000000 in
theorem arenaPlays_law (n p0 p1 : Int) (a0 : Option Addr) (cap : Nat) (l : List ActN) (w : World) (hs : SlActN w a0 l) (hl : l.length ≤ 80) (hn0 : 0 ≤ n) (hn : n < 256) (hb : ∀ x ∈ l, 0 ≤ x.k ∧ x.k < 256) :
    Calls Try.prog 3 #[.int .u8 n, .slice a0 l.length cap, .agg #[.int .i64 p0, .int .i64 p1]] w (FixedPost w) := by
  have h80 : decide ((80 : Int) < l.length) = false := by simp; omega
  obtain ⟨m, hmn, hm1, hm60⟩ : ∃ m : Nat, 1 + n % 60 = (m : Int) ∧ 1 ≤ m ∧ m ≤ 60 := ⟨(1 + n % 60).toNat, by omega, by omega, by omega⟩
  have rP := Row.new w 23 [.int .i64 p0, .int .i64 p1]
  have kP := (Kept.refl [] w).alloc (.cells #[.int .i64 p0, .int .i64 p1] 23)
  go_enter Try.func3, Try.ntmps3
  go_wp2_with fail
  try rw [hmn]
  clear hmn
  obtain ⟨PB, hPB⟩ : ∃ PB, w.heap.size = PB := ⟨_, rfl⟩
  have hPs : (w.alloc (.cells #[.int .i64 p0, .int .i64 p1] 23)).heap.size = PB + 1 := by simp [hPB]
  generalize w.alloc (.cells #[.int .i64 p0, .int .i64 p1] 23) = w0 at rP kP hPs ⊢
  rw [hPB] at rP ⊢
  refine (pagesNew_yes m w0 hm1 (by omega)).mono ?_
  rintro e w1 ⟨p, rb, rg, mb, mg, rfl, hnew, hp1, k1⟩
  have hY1 : Yard w0.heap.size w1 p rb rg mb mg (List.replicate m false) (List.replicate (16 * m) (0 : Int)) [] := Yard.no hp1 k1.size (by omega)
  have rP1 := rP.kept k1 (by simp)
  have kk1 := kP.trans k1
  clear hp1 rP kP
  go_wp2_with fail
  refine (refNew03_yes m w1 hm1 (by omega)).mono ?_
  rintro e w2 ⟨A0, cA0, rfl, -, hsA, hA0, k2⟩
  have hY2 := hY1.kept k2
  have rP2 := rP1.kept k2 (by simp)
  have kk2 := kk1.trans k2
  obtain ⟨gA, hgA, hgAw⟩ : ∃ g, A0 = some ⟨g, 0, none⟩ ∧ w1.heap.size ≤ g := by
    rcases hA0 with rfl | h
    · rcases hsA with h | ⟨b, off, h, _⟩
      · have := congrArg List.length h; simp at this; omega
      · cases h
    · exact h
  have HAA := Lib.hid (show ∀ b off, A0 = some ⟨b, off, none⟩ → w1.heap.size ≤ b ∧ b < w2.heap.size from fun b off e => ⟨by rw [hgA] at e; cases e; exact hgAw, hsA.lt (by intro h; have := congrArg List.length h; simp at this; omega) b off e⟩)
  have hz12' : w1.heap.size ≤ w2.heap.size := k2.size
  clear hA0 hgA hgAw gA k2
  have HF : (flatC [RD.zero, RD.zero, RD.zero, RD.zero]).toArray = #[.int .i64 0, .int .i64 0, .slice none 0 0, .slice none 0 0, .int .i64 0, .int .i64 0, .slice none 0 0, .slice none 0 0, .int .i64 0, .int .i64 0, .slice none 0 0, .slice none 0 0, .int .i64 0, .int .i64 0, .slice none 0 0, .slice none 0 0] := rfl
  have rL := (Row.new w2 33 (ptrs4 [])).alloc (.cells (flatC [RD.zero, RD.zero, RD.zero, RD.zero]).toArray 39)
  have rD := Row.new (w2.alloc (.cells (ptrs4 []).toArray 33)) 39 (flatC [RD.zero, RD.zero, RD.zero, RD.zero])
  have kL := ((Kept.refl [] w2).alloc (.cells (ptrs4 []).toArray 33)).alloc (.cells (flatC [RD.zero, RD.zero, RD.zero, RD.zero]).toArray 39)
  rw [show (w2.alloc (.cells (ptrs4 []).toArray 33)).heap.size = w2.heap.size + 1 by simp] at rD
  rw [show (ptrs4 []).toArray = #[.pointer none, .pointer none, .pointer none, .pointer none] from rfl, HF] at rL rD kL
  clear HF
  go_wp2_with fail
  generalize (w2.alloc (.cells #[.pointer none, .pointer none, .pointer none, .pointer none] 33)).alloc (.cells #[.int .i64 0, .int .i64 0, .slice none 0 0, .slice none 0 0, .int .i64 0, .int .i64 0, .slice none 0 0, .slice none 0 0, .int .i64 0, .int .i64 0, .slice none 0 0, .slice none 0 0, .int .i64 0, .int .i64 0, .slice none 0 0, .slice none 0 0] 39) = w3 at rL rD kL ⊢
  obtain ⟨AL, hAL⟩ : ∃ AL, w2.heap.size = AL := ⟨_, rfl⟩
  rw [hAL] at rL rD ⊢
  obtain ⟨XL, hXL⟩ : ∃ XL, AL + 1 = XL := ⟨_, rfl⟩
  rw [hXL] at rD ⊢
  have hY3 := hY2.kept kL
  have rP3 := rP2.kept kL (by simp)
  have kk3 := kk2.trans kL
  have hs3 := hsA.kept kL
  have hp1 := hY1.pages.lt
  have hp2 := hY2.pages.lt
  have hz12 : w1.heap.size ≤ AL := by rw [← hAL]; exact hz12'
  have hPBl := rP2.lt
  have hPBw : PB < w0.heap.size := by omega
  have HPA := Lib.hid (show p < AL ∧ rb < AL ∧ rg < AL ∧ mb < AL ∧ mg < AL by omega)
  have HLX := Lib.hid (show AL < XL ∧ PB < AL ∧ w0.heap.size ≤ AL by have := hY1.size; omega)
  have hLT : AL ∉ turf rg mg [] := by
    intro hm
    rcases mem_turf.1 hm with h | h | ⟨d, hd, _⟩
    · omega
    · omega
    · cases hd
  have hXT : XL ∉ turf rg mg [] := by
    intro hm
    rcases mem_turf.1 hm with h | h | ⟨d, hd, _⟩
    · omega
    · omega
    · cases hd
  have hPT : PB ∉ turf rg mg [] := by
    intro hm
    rcases mem_turf.1 hm with h | h | ⟨d, hd, _⟩
    · omega
    · omega
    · cases hd
  have hAT : ∀ b off, A0 = some ⟨b, off, none⟩ → b ∉ turf rg mg [] ∧ b < AL := by
    intro b off e
    have := HAA.out b off e
    refine ⟨fun hm => ?_, by omega⟩
    rcases mem_turf.1 hm with h | h | ⟨d, hd, _⟩
    · omega
    · omega
    · cases hd
  have HLT := Lib.hid (And.intro hLT (And.intro hXT (And.intro hPT hAT)))
  have hz3 := rD.lt
  have hwL : w.heap.size ≤ AL := by have := HLX.out; omega
  have hYs : w0.heap.size ≤ w3.heap.size := hY3.size
  clear hLT hXT hPT hAT hp1 hp2 hAL hXL hY1 hY2 rP1 rP2 kk1 kk2 hsA kL k1 hPBl hPBw HAA
  go_loopw [50] (fun i wr => ∃ (j : Nat) (ds : List AD), i = .int .i64 j ∧ j ≤ 4 ∧ ds.length = j ∧ (∀ d ∈ ds, d.toArN = ⟨⟨0, 0⟩, [], []⟩) ∧ Yard w0.heap.size wr p rb rg mb mg (List.replicate m false) (List.replicate (16 * m) (0 : Int)) ds ∧ Row wr AL 33 (ptrs4 ds) ∧ Hid (∀ k, k < w3.heap.size → k ∉ turf rg mg [] → k ∉ turf rg mg ds) ∧ Kept [AL] w3 wr) (fun i _ => 4 - (intOf i).toNat)
  case atStart => exact ⟨0, [], rfl, by omega, rfl, by simp, hY3, rL, fun _ _ h => h, Kept.refl _ _⟩
  case round =>
    obtain ⟨j, ds, rfl, hj, hdl, hdz, hYr, rLr, HO, hkr⟩ := hrel
    clear hY3 rL
    have hALs : AL < w3.heap.size := by have := HLX.out; omega
    have hLr := HO.out AL hALs HLT.out.1
    have hszr := hkr.size
    by_cases hlt : j < 4
    · go_wp2_with fail
      refine (arenaNew_any (some ⟨p, 0, none⟩) wr).mono ?_
      rintro e w4 ⟨d, rfl, hN, hA, hF, -, -, k4⟩
      have hY4 := hYr.more k4 hA hF
      have rL4 := rLr.kept k4 (by simp)
      have hLl := rLr.lt
      have hfree := rL4.free j
      have hcell : w4.cell? ⟨AL, j, none⟩ = some (.pointer none) := by
        rw [rL4.cell j, ptrs4, List.getElem?_append_right (by rw [ptrs_length, hdl]; omega), ptrs_length, hdl, Nat.sub_self, List.getElem?_replicate, if_pos (by omega)]
      have HD := Lib.hid hdl
      have HN := Lib.hid hN
      clear hdl hN
      go_wp2_with fail
      go_roundw
      case rel =>
        have kS := (Kept.refl [AL] w4).set (p := ⟨AL, j, none⟩) (.inl (by simp)) (ptrB d)
        have hpa := HPA.out
        have hLT3 := turf_more hLr hLl hF
        refine ⟨j + 1, ds ++ [d], by go_num, by omega, by rw [List.length_append, HD.out]; rfl, ?_, hY4.keptS kS (by intro k hk; simp at hk; subst hk; exact ⟨hLT3, by omega, by omega, by omega⟩), ?_, ?_, (hkr.trans k4.any).trans kS⟩
        · intro e he
          rcases List.mem_append.1 he with he | he
          · exact hdz e he
          · simp at he; subst he; exact HN.out
        · have := rL4.set j (ptrB d)
          rw [← HD.out, ptrs4_set (by rw [HD.out]; exact hlt), HD.out] at this
          exact this
        · intro k hk hn
          exact turf_more (HO.out k hk hn) (by omega) hF
      case measure => simp [intOf]; omega
    · have hge : decide ((j : Int) < 4) = false := by simp; omega
      replace hdl : ds.length = 4 := by omega
      rw [ptrs4_full hdl] at rLr
      have htz : toA ds = List.replicate 4 ⟨⟨0, 0⟩, [], []⟩ := toA_start hdl hdz
      have hG : Good (List.replicate m false) (toA ds) := by rw [htz]; exact Good.start (by omega)
      have hts : ∀ d ∈ ds, d.ts.length ≤ 0 := fun d hd => by have := congrArg ArN.ts (hdz d hd); simp only at this; rw [this]; simp
      have hrep : ∀ (i : Nat) (r : RD), [RD.zero, RD.zero, RD.zero, RD.zero][i]? = some r → r = RD.zero := by
        intro i r h
        have := List.mem_of_getElem? h
        simp at this; exact this
      have hEE : Hid (∀ (K : Nat) (d : AD) (r : RD), ds[K]? = some d → [RD.zero, RD.zero, RD.zero, RD.zero][K]? = some r → d.toArN = r.toArN) := fun K d r h1 h2 => by
        rw [hrep K r h2, hdz d (List.mem_of_getElem? h1)]; rfl
      have hDr : Docs wr XL (turf rg mg ds) [RD.zero, RD.zero, RD.zero, RD.zero] := by
        refine ⟨rD.kept hkr (by simp; have := HLX.out; omega), fun i r h => ?_, fun i r h => ?_, HO.out XL hz3 HLT.out.2.1⟩
        · rw [hrep i r h]; exact IsRD.zero _
        · rw [hrep i r h]; exact RD.away0 _
      have hsr : SlG Value.bool wr A0 (List.replicate m false) := hs3.keptS hkr (fun b off e hm => by have := (HLT.out.2.2.2 b off e).2; simp at hm; omega)
      have HA : Hid (awayA A0 (XL :: turf rg mg ds)) := fun b off e hm => by
        obtain ⟨h1, h2⟩ := HLT.out.2.2.2 b off e
        rcases List.mem_cons.1 hm with h | h
        · have := HLX.out; omega
        · exact HO.out b (by have := HLX.out; omega) h1 h
      have kkr : Kept [] w wr := kk3.chain hkr (by simp) (by intro k hk hl; simp at hk; omega)
      have hPB : PB ∉ turf rg mg ds := HO.out PB (by have := HLX.out; omega) HLT.out.2.2.1
      have rPr := rP3.kept hkr (by simp; have := HLX.out; omega)
      clear hdz hlt hj hrep htz hszr hALs hs3 rP3 rD kk3 hz3 hYs
      have hlm : (List.replicate m false).length = m := List.length_replicate
      generalize List.replicate m false = xs0 at hYr hG hsr hlm
      -- THE SECOND LOOP
      go_wp2_with fail
      go_loopw [10, 64] (fun v i wq => ∃ (j : Nat) (ds : List AD) (rds : List RD) (A : Option Addr) (cp : Nat) (xs : List Bool) (ys : List Int), i = .int .i64 j ∧ v = .slice A m cp ∧ j ≤ l.length ∧ Hid (ds.length = 4) ∧ Hid (rds.length = 4) ∧ Hid (∀ (K : Nat) (d : AD) (r : RD), ds[K]? = some d → rds[K]? = some r → d.toArN = r.toArN) ∧ Hid (xs.length = m) ∧ Hid (Good xs (toA ds)) ∧ Hid (∀ d ∈ ds, d.ts.length ≤ j) ∧ Yard w0.heap.size wq p rb rg mb mg xs ys ds ∧ Row wq AL 33 (ptrs ds) ∧ AL ∉ turf rg mg ds ∧ Docs wq XL (turf rg mg ds) rds ∧ SlG Value.bool wq A xs ∧ Hid (awayA A (XL :: turf rg mg ds)) ∧ Row wq PB 23 [.int .i64 p0, .int .i64 p1] ∧ Kept [] w wq) (fun _ i _ => l.length - (intOf i).toNat)
      case atStart => exact ⟨0, ds, [RD.zero, RD.zero, RD.zero, RD.zero], A0, _, xs0, _, rfl, rfl, Nat.zero_le _, hdl, rfl, hEE, hlm, hG, hts, hYr, rLr, hLr, hDr, hsr, HA, rPr, kkr⟩
      case round =>
        clear hG hts hYr rLr hLr kkr hdl hEE hDr HA hPB rPr hsr hlm hkr HO
        obtain ⟨j, ds, rds, A, cp, xs, ys, rfl, rfl, hj, HD, HRL, HE, HX, HG, HT, hYr, rLr, hLr, hDr, hsr, HA, rPr, kkr⟩ := hrel
        by_cases hlt : j < l.length
        · obtain ⟨b, off, x, rfl, hx, c0, c1, c2⟩ := (hs.kept kkr).cell hlt
          obtain ⟨hk0, hk1⟩ := hb x (List.mem_of_getElem? hx)
          obtain ⟨k, s, rel⟩ := x
          simp only at c0 c1 c2 hk0 hk1
          obtain ⟨K, hK, hK4⟩ : ∃ K : Nat, k % 4 = (K : Int) ∧ K < 4 := ⟨(k % 4).toNat, by omega, by omega⟩
          have hKI : (K : Int) < 4 := by omega
          obtain ⟨d, hd⟩ : ∃ d, ds[K]? = some d := ⟨ds[K]'(by rw [HD.out]; exact hK4), List.getElem?_eq_getElem _⟩
          obtain ⟨r, hr⟩ : ∃ r, rds[K]? = some r := ⟨rds[K]'(by rw [HRL.out]; exact hK4), List.getElem?_eq_getElem _⟩
          have HDK := Lib.hid hd
          have HRK := Lib.hid hr
          have HRD := Lib.hid (HE.out K d r hd hr)
          have rA := Row.new wr 42 [.int .u8 k, .int .i64 s, .bool rel]
          have kA := (Kept.refl [] wr).alloc (.cells #[.int .u8 k, .int .i64 s, .bool rel] 42)
          have HAT := Lib.hid (show wr.heap.size ∉ turf rg mg ds from fun hm => by have := hYr.turf_lt _ hm; omega)
          have HCX := Lib.hid (show XL < wr.heap.size from hDr.row.lt)
          have hYa := hYr.kept kA
          have rLa := rLr.kept kA (by simp)
          have hDa := hDr.kept kA
          have hsa := hsr.kept kA
          have rPa := rPr.kept kA (by simp)
          have kka := kkr.trans kA
          have cAL : (wr.alloc (.cells #[.int .u8 k, .int .i64 s, .bool rel] 42)).cell? ⟨AL, K, none⟩ = some (.pointer (some ⟨d.B, 0, none⟩)) := by rw [rLa.cell K]; exact ptrs_get hd
          have HPT := Lib.hid (show PB ∉ turf rg mg ds from fun hm => by have := hYr.turf_ge _ hm; omega)
          have HNE := Lib.hid (show xs ≠ [] from fun h => by have := HX.out; rw [h] at this; simp at this; omega)
          have HKC : Hid (K * 4 + 3 < (flatC rds).length) := by
            have := (flatC_get rds K r hr).2.2.2
            exact (List.getElem?_eq_some_iff.1 this).1
          clear hd hr hx hYr rLr hDr hsr rPr kkr kA
          cases rel with
          | true =>
            go_wp2_with fail
            generalize wr.alloc (.cells #[.int .u8 k, .int .i64 s, .bool true] 42) = wa at rA hYa rLa hDa hsa rPa kka cAL ⊢
            obtain ⟨hok, -⟩ := HG.out.release (toA_get HDK.out)
            have hGd := (HG.out.release (toA_get HDK.out)).2
            refine (arenaRelease_any p rb rg mb mg d xs ys wa (hYa.arena K d HDK.out) hYa.pages (hYa.away K d HDK.out) (HG.out.small (toA_get HDK.out)) (by have := HG.out.many (toA_get HDK.out); omega) hok).mono ?_
            rintro e w4 ⟨d7, rfl, hN7, hB7, hA7, hP7, hF7, k7⟩
            have hY7 := hYa.step HDK.out hA7 hP7 hF7 k7
            have hg7 := Yard.goes HDK.out hF7 k7
            have rL7 := rLa.kept hg7.kept hLr
            have hL7 := hg7.off hLr rLa.lt
            have kk7 := hYa.keeps HDK.out k7 kka (by omega)
            have hD7 := hDa.goes hg7
            have hs7 := hsa.keptS hg7.kept (fun b off e hm => HA.out b off e (List.mem_cons_of_mem _ hm))
            have HA7 := Lib.hid (awayA.goes HA.out hsa HNE.out hg7)
            have rP7 := rPa.kept hg7.kept HPT.out
            have HG7 : Hid (Good (relN xs d.rs) (toA (ds.set K d7))) := by rw [toA_set, hN7]; exact hGd
            have HX7 : Hid ((relN xs d.rs).length = m) := (relN_length d.rs xs).trans HX.out
            have hrs : d.rs = r.rs := congrArg ArN.rs HRD.out
            have hmr := HG.out.many (toA_get HDK.out)
            rw [hrs] at HG7 HX7 hY7
            have hmr2 : r.rs.length ≤ 1024 := by rw [← hrs]; exact hmr
            have hP7' : ptrs (ds.set K d7) = ptrs ds := ptrs_set HDK.out hB7
            rw [← hP7'] at rL7
            have HDB : Hid ((ds.set K d7)[K]? = some d7) := by show _ = _; rw [List.getElem?_set_self (by rw [HD.out]; exact hK4)]
            have HTB : Hid (∀ e ∈ ds.set K d7, e.ts.length ≤ j + 1) := fun e he => by
              rcases List.mem_or_eq_of_mem_set he with he | rfl
              · have := HT.out e he; omega
              · have := congrArg ArN.ts hN7; simp only at this; rw [this]; simp
            have HLB : Hid ((ds.set K d7).length = 4) := (List.length_set ..).trans HD.out
            have HRK2 : Hid ((rds.set K RD.zero)[K]? = some RD.zero) := by show _ = _; rw [List.getElem?_set_self (by rw [HRL.out]; exact hK4)]
            have HLR : Hid ((rds.set K RD.zero).length = 4) := (List.length_set ..).trans HRL.out
            have HEB : Hid (∀ (K' : Nat) (d' : AD) (r' : RD), (ds.set K d7)[K']? = some d' → (rds.set K RD.zero)[K']? = some r' → d'.toArN = r'.toArN) := fun K' d' r' h1 h2 => by
              by_cases hKK : K = K'
              · subst hKK
                rw [HDB.out] at h1; rw [HRK2.out] at h2
                cases h1; cases h2
                exact hN7
              · rw [List.getElem?_set_ne hKK] at h1 h2
                exact HE.out K' d' r' h1 h2
            generalize ds.set K d7 = dsB at hY7 rL7 hL7 HDB HTB HLB HEB HG7 hg7 hD7 HA7
            obtain ⟨g0, g1, g2, g3⟩ := flatC_get rds K r HRK.out
            have x0 : w4.cell? ⟨XL, K * 4, none⟩ = some (.int .i64 r.x.p) := by rw [hD7.row.cell _]; exact g0
            have x1 : w4.cell? ⟨XL, K * 4 + 1, none⟩ = some (.int .i64 r.x.left) := by rw [hD7.row.cell _]; exact g1
            have x2 : w4.cell? ⟨XL, K * 4 + 2, none⟩ = some (.slice r.ar r.rs.length r.cr) := by rw [hD7.row.cell _]; exact g2
            have x3 : w4.cell? ⟨XL, K * 4 + 3, none⟩ = some (.slice r.at' r.ts.length r.ct) := by rw [hD7.row.cell _]; exact g3
            clear hGd hok hA7 hF7 k7 hYa rLa hDa hsa rPa kka cAL rA HDK HAT hLr hg7 HG HT HD hN7 hP7 hP7' hB7 c0 c1 c2 HA HPT HE hrs hmr g0 g1 g2 g3
            go_wp2_with fail
            refine (refRelease11_any r A m cp xs w4 (hD7.is K r HRK.out) hs7 HX.out (by omega) hmr2).mono ?_
            rintro e w5 ⟨AB, cB, rfl, -, hs5, hA5, k5⟩
            have hY5 := hY7.kept k5
            have rL5 := rL7.kept k5 (by simp)
            have hD5 := hD7.kept k5
            have rP5 := rP7.kept k5 (by simp)
            have kk5 := kk7.trans k5
            have HA5 := Lib.hid (awayA.new HA7.out hA5 (fun k hk => by
              rcases List.mem_cons.1 hk with rfl | hk
              · exact hD7.row.lt
              · exact hY7.turf_lt k hk))
            have y0 : w5.cell? ⟨XL, K * 4, none⟩ = some (.int .i64 r.x.p) := by rw [hD5.row.cell _]; exact (flatC_get rds K r HRK.out).1
            have y1 : w5.cell? ⟨XL, K * 4 + 1, none⟩ = some (.int .i64 r.x.left) := by rw [hD5.row.cell _]; exact (flatC_get rds K r HRK.out).2.1
            have y2 : w5.cell? ⟨XL, K * 4 + 2, none⟩ = some (.slice r.ar r.rs.length r.cr) := by rw [hD5.row.cell _]; exact (flatC_get rds K r HRK.out).2.2.1
            have y3 : w5.cell? ⟨XL, K * 4 + 3, none⟩ = some (.slice r.at' r.ts.length r.ct) := by rw [hD5.row.cell _]; exact (flatC_get rds K r HRK.out).2.2.2
            have f0 := hD5.row.free (K * 4)
            have f1 := hD5.row.free (K * 4 + 1)
            have f2 := hD5.row.free (K * 4 + 2)
            have f3 := hD5.row.free (K * 4 + 3)
            obtain ⟨hDB, hkX⟩ := hD5.putZero HRK.out
            have HXL := Lib.hid (show XL ∉ turf rg mg dsB from hD5.off)
            have hYB := hY5.keptS hkX (fun k hk => by simp at hk; subst hk; have h1 := HLX.out; have h2 := HPA.out; exact ⟨HXL.out, by omega, by omega, by omega⟩)
            have rLB := rL5.kept hkX (by simp; have := HLX.out; omega)
            have hsB := hs5.keptS hkX (fun b off e hm => HA5.out b off e (by simp at hm; simp [hm]))
            have rPB := rP5.kept hkX (by simp; have := HLX.out; omega)
            have kkB : Kept [] w _ := kk5.chain hkX (by simp) (by intro i hi hl; simp at hi; have := HLX.out; omega)
            clear x0 x1 x2 x3 hY7 rL7 hD7 hs7 rP7 kk7 hA5 k5 hY5 rL5 hD5 hs5 rP5 kk5 HA7 hkX
            go_wp2_with fail
            clear y0 y1 y2 y3 f0 f1 f2 f3 HXL HRK HRD HX HNE HKC hmr2
            generalize ((((w5.setCell ⟨XL, K * 4, none⟩ (.int .i64 0)).setCell ⟨XL, K * 4 + 1, none⟩ (.int .i64 0)).setCell ⟨XL, K * 4 + 2, none⟩ (.slice none 0 0)).setCell ⟨XL, K * 4 + 3, none⟩ (.slice none 0 0)) = wB at hDB hYB rLB hsB rPB kkB ⊢
            generalize rds.set K RD.zero = rdsB at hDB HRK2 HLR HEB
            generalize relN xs r.rs = xsB at hsB hYB HX7 HG7
            generalize RD.zero = rB at HRK2
            have HRB := Lib.hid (show d7.toArN = rB.toArN from HEB.out K d7 rB HDB.out HRK2.out)
            have HRS := Lib.hid (congrArg ArN.rs HRB.out)
            have HTS := Lib.hid (congrArg ArN.ts HRB.out)
            have HSM := Lib.hid (HG7.out.small (toA_get HDB.out))
            have HMY := Lib.hid (HG7.out.many (toA_get HDB.out))
            have HTL := Lib.hid (HTB.out d7 (List.mem_of_getElem? HDB.out))
            have HDO := Lib.hid hDB
            obtain ⟨g0, g1, g2, g3⟩ := flatC_get rdsB K rB HRK2.out
            have held : ∀ w', Kept [] wB w' → Kept [] wB w' ∧ w'.cell? ⟨AL, K, none⟩ = some (.pointer (some ⟨d7.B, 0, none⟩)) ∧ w'.cell? ⟨XL, K * 4, none⟩ = some (.int .i64 rB.x.p) ∧ w'.cell? ⟨XL, K * 4 + 1, none⟩ = some (.int .i64 rB.x.left) ∧
                w'.cell? ⟨XL, K * 4 + 2, none⟩ = some (.slice rB.ar rB.rs.length rB.cr) ∧ w'.cell? ⟨XL, K * 4 + 3, none⟩ = some (.slice rB.at' rB.ts.length rB.ct) := fun w' hk =>
              ⟨hk, by rw [(rLB.kept hk (by simp)).cell K]; exact ptrs_get HDB.out, by rw [(hDB.row.kept hk (by simp)).cell _]; exact g0, by rw [(hDB.row.kept hk (by simp)).cell _]; exact g1, by rw [(hDB.row.kept hk (by simp)).cell _]; exact g2, by rw [(hDB.row.kept hk (by simp)).cell _]; exact g3⟩
            have HXB2 := Lib.hid (show IntKind.i64.wrap ((m : Int) - ((countB xsB : Nat) : Int)) = ((xsB.length : Int) - ((countB xsB : Nat) : Int)) by have h1 := countB_le xsB; have h2 := HX7.out; rw [h2, IntKind.wrap_i64]; omega)
            have hw1 := HXB2.out
            obtain ⟨fr, hfr⟩ : ∃ fr, (xsB.length : Int) - ((countB xsB : Nat) : Int) = fr := ⟨_, rfl⟩
            rw [hfr] at hw1
            have HFR := Lib.hid hfr
            clear hfr g0 g1 g2 g3
            have kk0 : Kept [] wB wB.drew := (Kept.refl _ _).drew
            refine wp_region_pick (fun w' => Kept [] wB w' ∧ w'.cell? ⟨AL, K, none⟩ = some (.pointer (some ⟨d7.B, 0, none⟩)) ∧ w'.cell? ⟨XL, K * 4, none⟩ = some (.int .i64 rB.x.p) ∧ w'.cell? ⟨XL, K * 4 + 1, none⟩ = some (.int .i64 rB.x.left) ∧
                w'.cell? ⟨XL, K * 4 + 2, none⟩ = some (.slice rB.ar rB.rs.length rB.cr) ∧ w'.cell? ⟨XL, K * 4 + 3, none⟩ = some (.slice rB.at' rB.ts.length rB.ct)) (by kernel_rfl) (held _ kk0) ?_
            simp only [numbered, List.length_cons, List.length_nil, Nat.reduceAdd]
            repeat (first
              | (refine pick_take0 (v := ?_) rfl (by decide +kernel) (fun _ _ _ h => h) (by rfl) ?_ ?_; rotate_left; (intro w hSw; (try dsimp only at hSw); go_simp; (try rw [if_pos hKI]); try with_reducible rfl); go_frame)
              | (refine pick_take1 (v := ?_) rfl (by decide +kernel) (fun _ _ _ h => h) (by rfl) ?_ ?_; rotate_left; (intro w hSw; (try dsimp only at hSw); go_simp; (try rw [if_pos hKI]); try with_reducible rfl); go_frame)
              | (refine pick_take2 (v := ?_) rfl (by decide +kernel) (fun _ _ _ h => h) (by rfl) ?_ ?_; rotate_left; (intro w hSw; (try dsimp only at hSw); go_simp; (try rw [if_pos hKI]); try with_reducible rfl); go_frame)
              | (refine pick_call (by decide +kernel) (by rfl) (fun KK hKK => ?_); go_simp
                 first
                 | (go_at_call 16; refine (pagesFree_any p rb rg mb mg xsB _ _ (hYB.kept (by assumption)).pages).mono ?_; rintro e w8 ⟨rfl, k8⟩; rw [HFR.out]; have kq : Kept [] wB w8 := Kept.trans (by assumption) k8)
                 | (go_at_call 17; refine (refCount02 AB m cB xsB _ (hsB.kept (by assumption)) HX7.out (by omega)).mono ?_; rintro e w8 ⟨rfl, hw8⟩; subst hw8)
                 | (go_at_call 19; refine (arenaRuns_any _ d7 _ ((hYB.kept (by assumption)).arena K d7 HDB.out) HSM.out (by have := HMY.out; omega)).mono ?_; rintro e w8 ⟨v8, rfl, hown8, k8⟩; obtain ⟨a8, c8, rfl, hsl8, -⟩ := hown8.slice; have hslA := hsl8; have kq : Kept [] wB w8 := Kept.trans (by assumption) k8)
                 | (go_at_call 20; refine (arenaThings_any _ d7 _ ((hYB.kept (by assumption)).arena K d7 HDB.out) (by have := HTL.out; omega)).mono ?_; rintro e w8 ⟨v8, rfl, hown8, k8⟩; obtain ⟨a8, c8, rfl, hsl8, -⟩ := hown8.slice; have hslB := hsl8; have kq : Kept [] wB w8 := Kept.trans (by assumption) k8)
                 | (go_at_call 18; first
                     | (refine (refSame06_yes _ rB.at' _ rB.ts.length _ rB.ct d7.ts _ hslB (by rw [HTS.out]; exact ((HDO.out.kept (by assumption)).is K rB HRK2.out).things) rfl (by rw [HTS.out]) (by have := HTL.out; omega)).mono ?_)
                     | (refine (refSame06_yes _ rB.ar _ rB.rs.length _ rB.cr d7.rs _ hslA (by rw [HRS.out]; exact ((HDO.out.kept (by assumption)).is K rB HRK2.out).runs) rfl (by rw [HRS.out]) (by have := HMY.out; omega)).mono ?_)
                    rintro e w8 ⟨rfl, k8⟩
                    have kq : Kept [] wB w8 := Kept.trans (by assumption) k8)
                 | (go_at_call 21; refine (arenaPages_any _ d7 _ ((hYB.kept (by assumption)).arena K d7 HDB.out) HSM.out (by have := HMY.out; omega)).mono ?_; rintro e w8 ⟨rfl, k8⟩; have kq : Kept [] wB w8 := Kept.trans (by assumption) k8)
                 | (go_at_call 22; refine (refPages11_any rB _ ((HDO.out.kept (by assumption)).is K rB HRK2.out) (by rw [← HRS.out]; exact HSM.out) (by rw [← HRS.out]; exact HMY.out)).mono ?_; rintro e w8 ⟨rfl, k8⟩; rw [← HRS.out]; have kq : Kept [] wB w8 := Kept.trans (by assumption) k8)
                 (try dsimp only)
                 refine hKK _ _ (held _ (by assumption)) ?_
                 clear hKK KK))
            refine pick_done (by decide +kernel) ?_
            have hYE := hYB.kept kq
            have rLE := rLB.kept kq (by simp)
            have hDE := hDB.kept kq
            have hsE := hsB.kept kq
            have kkE := kkB.trans kq
            have rPE := rPB.kept kq (by simp)
            go_wp2
            go_roundw
            case rel => exact ⟨j + 1, dsB, rdsB, AB, cB, xsB, _, by go_num, rfl, by omega, HLB, HLR, HEB, HX7, HG7, HTB, hYE, rLE, hL7, hDE, hsE, HA5, rPE, kkE⟩
            case measure => simp [intOf]; omega
          | false =>
            go_wp2_with fail
            generalize wr.alloc (.cells #[.int .u8 k, .int .i64 s, .bool false] 42) = wa at rA hYa rLa hDa hsa rPa kka cAL ⊢
            obtain ⟨C, hC⟩ : ∃ C, wr.heap.size = C := ⟨_, rfl⟩
            rw [hC] at rA HAT HCX ⊢
            clear hC c0 c1 c2 cAL
            have HGX := Lib.hid (flatC_get rds K r HRK.out)
            have held26 : ∀ (N : Nat) (w' : World), Kept [N] wa w' → N ≠ XL → N ≠ C → w'.cell? ⟨XL, K * 4, none⟩ = some (.int .i64 r.x.p) ∧ w'.cell? ⟨XL, K * 4 + 1, none⟩ = some (.int .i64 r.x.left) ∧
                w'.cell? ⟨XL, K * 4 + 2, none⟩ = some (.slice r.ar r.rs.length r.cr) ∧ w'.cell? ⟨XL, K * 4 + 3, none⟩ = some (.slice r.at' r.ts.length r.ct) ∧ w'.cell? ⟨C, 1, none⟩ = some (.int .i64 s) := fun N w' hk h1 h2 =>
              ⟨by rw [(hDa.row.kept hk (by simpa using h1.symm)).cell _]; exact HGX.out.1, by rw [(hDa.row.kept hk (by simpa using h1.symm)).cell _]; exact HGX.out.2.1, by rw [(hDa.row.kept hk (by simpa using h1.symm)).cell _]; exact HGX.out.2.2.1, by rw [(hDa.row.kept hk (by simpa using h1.symm)).cell _]; exact HGX.out.2.2.2, by simpa using (rA.kept hk (by simpa using h2.symm)).cell 1⟩
            have hzX : XL < wa.heap.size := hDa.row.lt
            have hzC : C < wa.heap.size := rA.lt
            have kk0 : Kept [] wa wa.drew := (Kept.refl _ _).drew
            have HAL := Lib.hid (show allocN r.toArN xs s = allocN d.toArN xs s by rw [HRD.out])
            have HMR := Lib.hid (show r.rs.length ≤ 1024 by rw [← congrArg ArN.rs HRD.out]; exact HG.out.many (toA_get HDK.out))
            have HTR := Lib.hid (show r.ts.length ≤ 1000000 by rw [← congrArg ArN.ts HRD.out]; have := HT.out d (List.mem_of_getElem? HDK.out); omega)
            have HOK := Lib.hid (show r.x.ok by rw [← congrArg ArN.x HRD.out]; exact HG.out.ok _ _ (toA_get HDK.out))
            refine wp_region_pick (fun w' => w'.cell? ⟨XL, K * 4, none⟩ = some (.int .i64 r.x.p) ∧ w'.cell? ⟨XL, K * 4 + 1, none⟩ = some (.int .i64 r.x.left) ∧
                w'.cell? ⟨XL, K * 4 + 2, none⟩ = some (.slice r.ar r.rs.length r.cr) ∧ w'.cell? ⟨XL, K * 4 + 3, none⟩ = some (.slice r.at' r.ts.length r.ct) ∧ w'.cell? ⟨C, 1, none⟩ = some (.int .i64 s)) (by kernel_rfl) (held26 wa.heap.size _ kk0.any (by omega) (by omega)) ?_
            simp only [numbered, List.length_cons, List.length_nil, Nat.reduceAdd]
            repeat (first
              | (refine pick_take0 (v := ?_) rfl (by decide +kernel) (fun _ _ _ h => h) (by rfl) ?_ ?_; rotate_left; (intro w hSw; (try dsimp only at hSw); go_simp; (try rw [if_pos hKI]); try with_reducible rfl); go_frame)
              | (refine pick_take1 (v := ?_) rfl (by decide +kernel) (fun _ _ _ h => h) (by rfl) ?_ ?_; rotate_left; (intro w hSw; (try dsimp only at hSw); go_simp; (try rw [if_pos hKI]); try with_reducible rfl); go_frame)
              | (refine pick_take2 (v := ?_) rfl (by decide +kernel) (fun _ _ _ h => h) (by rfl) ?_ ?_; rotate_left; (intro w hSw; (try dsimp only at hSw); go_simp; (try rw [if_pos hKI]); try with_reducible rfl); go_frame))
            refine pick_two 5 rfl (by decide +kernel) (by rfl) (by rfl) (fun KK hKK => ?_) (fun KK hKK => ?_)
            · go_simp
              (go_at_call 13; refine (refAlloc11_any r A m cp xs s wa.drew ((hDa.kept kk0).is K r HRK.out) HOK.out (hsa.kept kk0) HX.out (by omega) HMR.out HTR.out).mono ?_; rintro e w5 ⟨r5, A5, c5, rfl, hN5, hI5, hL5, hs5, hA5, hr5, ht5, k5⟩; rw [HAL.out] at hN5 hL5 hs5 ⊢; have HN5 := Lib.hid hN5; have HL5 := Lib.hid hL5; clear hN5 hL5; unfold RD.val; try dsimp only)
              have kk5 := kk0.trans k5
              refine hKK _ _ (held26 wa.heap.size w5 kk5.any (by omega) (by omega)) ?_
              clear hKK KK
              repeat (first
                | (refine pick_take0 (v := ?_) rfl (by decide +kernel) (fun _ _ _ h => h) (by rfl) ?_ ?_; rotate_left; (intro w hSw; (try dsimp only at hSw); go_simp; (try rw [if_pos hKI]); try with_reducible rfl); go_frame)
                | (refine pick_take1 (v := ?_) rfl (by decide +kernel) (fun _ _ _ h => h) (by rfl) ?_ ?_; rotate_left; (intro w hSw; (try dsimp only at hSw); go_simp; (try rw [if_pos hKI]); try with_reducible rfl); go_frame)
                | (refine pick_take2 (v := ?_) rfl (by decide +kernel) (fun _ _ _ h => h) (by rfl) ?_ ?_; rotate_left; (intro w hSw; (try dsimp only at hSw); go_simp; (try rw [if_pos hKI]); try with_reducible rfl); go_frame))
              refine pick_call (by decide +kernel) (by rfl) (fun KK hKK => ?_)
              go_simp
              have rN := Row.new w5 38 [.int .i64 0, .int .i64 0, .slice none 0 0, .slice none 0 0]
              have k6 := (Kept.refl [] w5).alloc (.cells #[.int .i64 0, .int .i64 0, .slice none 0 0, .slice none 0 0] 38)
              obtain ⟨N, hNe⟩ : ∃ N, w5.heap.size = N := ⟨_, rfl⟩
              have hNa : wa.heap.size ≤ N := by rw [← hNe]; exact kk5.size
              have hRN : r5.away [N] := ⟨awayL.above hI5.runs (by omega), awayL.above hI5.things (by omega)⟩
              have hAN : ∀ b off, A5 = some ⟨b, off, none⟩ → b ∉ [N] := fun b off e hm => by
                have := hs5.lt (fun h => by have h5 := HL5.out; rw [h] at h5; simp at h5; omega) b off e
                simp at hm; omega
              have hI6 := hI5.kept k6
              have hs6 := hs5.kept k6
              have kN1 := kk5.trans k6
              rw [hNe] at rN ⊢
              refine hKK _ _ (held26 wa.heap.size _ kN1.any (by omega) (by omega)) ?_
              clear hKK KK hNe
              generalize w5.alloc (.cells #[.int .i64 0, .int .i64 0, .slice none 0 0, .slice none 0 0] 38) = w6 at rN k6 hI6 hs6 kN1 ⊢
              repeat (first
                | (refine pick_take0 (v := ?_) rfl (by decide +kernel) (fun _ _ _ h => h) (by rfl) ?_ ?_; rotate_left; (intro w hSw; (try dsimp only at hSw); go_simp; (try rw [if_pos hKI]); try with_reducible rfl); go_frame)
                | (refine pick_take1 (v := ?_) rfl (by decide +kernel) (fun _ _ _ h => h) (by rfl) ?_ ?_; rotate_left; (intro w hSw; (try dsimp only at hSw); go_simp; (try rw [if_pos hKI]); try with_reducible rfl); go_frame)
                | (refine pick_take2 (v := ?_) rfl (by decide +kernel) (fun _ _ _ h => h) (by rfl) ?_ ?_; rotate_left; (intro w hSw; (try dsimp only at hSw); go_simp; (try rw [if_pos hKI]); try with_reducible rfl); go_frame))
              have hA5 : A5 = A ∨ ∃ g, A5 = some ⟨g, 0, none⟩ ∧ wa.heap.size ≤ g := hA5
              have hr5 : (r5.ar = r.ar ∧ r5.rs = r.rs) ∨ ∃ g, r5.ar = some ⟨g, 0, none⟩ ∧ wa.heap.size ≤ g := hr5
              have ht5 : (r5.at' = r.at' ∧ r5.ts = r.ts) ∨ ∃ g, r5.at' = some ⟨g, 0, none⟩ ∧ wa.heap.size ≤ g := ht5
              have n0 : w6.cell? ⟨N, 0, none⟩ = some (.int .i64 0) := by simpa using rN.cell 0
              have n1 : w6.cell? ⟨N, 1, none⟩ = some (.int .i64 0) := by simpa using rN.cell 1
              have n2 : w6.cell? ⟨N, 2, none⟩ = some (.slice none 0 0) := by simpa using rN.cell 2
              have n3 : w6.cell? ⟨N, 3, none⟩ = some (.slice none 0 0) := by simpa using rN.cell 3
              have f0 := rN.free 0
              have f1 := rN.free 1
              have f2 := rN.free 2
              have f3 := rN.free 3
              have kS := Kept.set4 (Kept.refl [N] w6) (g := N) (.inl (by simp)) (.int .i64 r5.x.p) (.int .i64 r5.x.left) (.slice r5.ar r5.rs.length r5.cr) (.slice r5.at' r5.ts.length r5.ct)
              have rS := rN.set4 (.int .i64 r5.x.p) (.int .i64 r5.x.left) (.slice r5.ar r5.rs.length r5.cr) (.slice r5.at' r5.ts.length r5.ct)
              have kN2 : Kept [N] wa _ := kN1.any.trans kS
              refine pick_call (by decide +kernel) (by rfl) (fun KK hKK => ?_)
              go_simp
              refine hKK _ _ (held26 N _ kN2 (by omega) (by omega)) ?_
              clear hKK KK
              have hIN := (hI6).keptS kS hRN
              have hsN := hs6.keptS kS hAN
              have kNN : Kept [] wa _ := kN1.chain kS (by simp) (by intro i hi hl; simp at hi; omega)
              generalize ((((w6.setCell ⟨N, 0, none⟩ (.int .i64 r5.x.p)).setCell ⟨N, 1, none⟩ (.int .i64 r5.x.left)).setCell ⟨N, 2, none⟩ (.slice r5.ar r5.rs.length r5.cr)).setCell ⟨N, 3, none⟩ (.slice r5.at' r5.ts.length r5.ct)) = wN at rS kN2 kNN hIN hsN ⊢
              clear n0 n1 n2 n3 f0 f1 f2 f3 kS rN hI6 hs6 hRN hAN kN1 k5
              repeat (first
                | (refine pick_take0 (v := ?_) rfl (by decide +kernel) (fun _ _ _ h => h) (by rfl) ?_ ?_; rotate_left; (intro w hSw; (try dsimp only at hSw); go_simp; (try rw [if_pos hKI]); try with_reducible rfl); go_frame)
                | (refine pick_take1 (v := ?_) rfl (by decide +kernel) (fun _ _ _ h => h) (by rfl) ?_ ?_; rotate_left; (intro w hSw; (try dsimp only at hSw); go_simp; (try rw [if_pos hKI]); try with_reducible rfl); go_frame)
                | (refine pick_take2 (v := ?_) rfl (by decide +kernel) (fun _ _ _ h => h) (by rfl) ?_ ?_; rotate_left; (intro w hSw; (try dsimp only at hSw); go_simp; (try rw [if_pos hKI]); try with_reducible rfl); go_frame))
              refine pick_done (by decide +kernel) ?_
              have hlS : ∀ k ∈ XL :: turf rg mg ds, k < wa.heap.size := fun k hk => by
                rcases List.mem_cons.1 hk with rfl | hk
                · exact hzX
                · exact hYa.turf_lt k hk
              have hrawR : r5.away (XL :: turf rg mg ds) := ⟨awayL.new (hDa.away K r HRK.out).1 hr5 hlS, awayL.new (hDa.away K r HRK.out).2 ht5 hlS⟩
              have hrawA : awayA A5 (XL :: turf rg mg ds) := awayA.new HA.out hA5 hlS
              have HNT : Hid (N ∉ turf rg mg ds) := fun hm => by have := hYa.turf_lt _ hm; omega
              have kM := kNN.drew
              have hYM := hYa.kept kM
              have rLM := rLa.kept kM (by simp)
              have hDM := hDa.kept kM
              have rAM := rA.kept kM (by simp)
              have rPM := rPa.kept kM (by simp)
              have kkM := kka.trans kM
              have rNM := rS.drew
              have hIM := hIN.kept ((Kept.refl _ _).drew)
              have hsM := hsN.kept ((Kept.refl _ _).drew)
              clear hlS hYa rLa hDa hsa rA rPa kka kNN kN2 held26 hr5 ht5 hA5 hI5 hs5 hIN hsN rS kM hzX hzC kk0
              have cAL : wN.drew.cell? ⟨AL, K, none⟩ = some (.pointer (some ⟨d.B, 0, none⟩)) := by rw [rLM.cell K]; exact ptrs_get HDK.out
              have cA1 : wN.drew.cell? ⟨C, 1, none⟩ = some (.int .i64 s) := by simpa using rAM.cell 1
              go_wp2_with fail
              refine wp_region_pick (fun w' => w'.cell? ⟨AL, K, none⟩ = some (.pointer (some ⟨d.B, 0, none⟩)) ∧ w'.cell? ⟨C, 1, none⟩ = some (.int .i64 s)) (by kernel_rfl) ⟨cAL, cA1⟩ ?_
              simp only [numbered, List.length_cons, List.length_nil, Nat.reduceAdd]
              repeat (first
                | (refine pick_take0 (v := ?_) rfl (by decide +kernel) (fun _ _ _ h => h) (by rfl) ?_ ?_; rotate_left; (intro w hSw; (try dsimp only at hSw); go_simp; (try rw [if_pos hKI]); try with_reducible rfl); go_frame)
                | (refine pick_take1 (v := ?_) rfl (by decide +kernel) (fun _ _ _ h => h) (by rfl) ?_ ?_; rotate_left; (intro w hSw; (try dsimp only at hSw); go_simp; (try rw [if_pos hKI]); try with_reducible rfl); go_frame)
                | (refine pick_take2 (v := ?_) rfl (by decide +kernel) (fun _ _ _ h => h) (by rfl) ?_ ?_; rotate_left; (intro w hSw; (try dsimp only at hSw); go_simp; (try rw [if_pos hKI]); try with_reducible rfl); go_frame)
                | (refine pick_call (by decide +kernel) (by rfl) (fun KK hKK => ?_); go_simp
                   go_at_call 14; refine (arenaFits_any p rb rg mb mg d xs ys s wN.drew (hYM.arena K d HDK.out) hYM.pages).mono ?_; rintro e w6 ⟨rfl, hw6⟩; subst hw6
                   (try dsimp only)
                   refine hKK _ _ ⟨cAL, cA1⟩ ?_
                   clear hKK KK))
              refine pick_done (by decide +kernel) ?_
              clear cAL cA1
              generalize wN.drew = wM at hYM rLM hDM rAM rPM kkM rNM hIM hsM ⊢
              have cAL : wM.drew.cell? ⟨AL, K, none⟩ = some (.pointer (some ⟨d.B, 0, none⟩)) := by rw [rLM.drew.cell K]; exact ptrs_get HDK.out
              have cA1 : wM.drew.cell? ⟨C, 1, none⟩ = some (.int .i64 s) := by simpa using rAM.drew.cell 1
              have kd : Kept [] wM wM.drew := (Kept.refl _ _).drew
              go_wp2_with fail
              refine wp_region_pick (fun w' => w'.cell? ⟨AL, K, none⟩ = some (.pointer (some ⟨d.B, 0, none⟩)) ∧ w'.cell? ⟨C, 1, none⟩ = some (.int .i64 s)) (by kernel_rfl) ⟨cAL, cA1⟩ ?_
              simp only [numbered, List.length_cons, List.length_nil, Nat.reduceAdd]
              replace hYM := hYM.kept kd
              replace rLM := rLM.kept kd (by simp)
              replace hDM := hDM.kept kd
              replace rAM := rAM.kept kd (by simp)
              replace rPM := rPM.kept kd (by simp)
              replace kkM := kkM.trans kd
              replace rNM := rNM.kept kd (by simp)
              replace hIM := hIM.kept kd
              replace hsM := hsM.kept kd
              repeat (first
                | (refine pick_take0 (v := ?_) rfl (by decide +kernel) (fun _ _ _ h => h) (by rfl) ?_ ?_; rotate_left; (intro w hSw; (try dsimp only at hSw); go_simp; (try rw [if_pos hKI]); try with_reducible rfl); go_frame)
                | (refine pick_take1 (v := ?_) rfl (by decide +kernel) (fun _ _ _ h => h) (by rfl) ?_ ?_; rotate_left; (intro w hSw; (try dsimp only at hSw); go_simp; (try rw [if_pos hKI]); try with_reducible rfl); go_frame)
                | (refine pick_take2 (v := ?_) rfl (by decide +kernel) (fun _ _ _ h => h) (by rfl) ?_ ?_; rotate_left; (intro w hSw; (try dsimp only at hSw); go_simp; (try rw [if_pos hKI]); try with_reducible rfl); go_frame)
                | (refine pick_call (by decide +kernel) (by rfl) (fun KK hKK => ?_); go_simp
                   go_at_call 15; refine (arenaAlloc_any p rb rg mb mg d xs ys s wM.drew (hYM.arena _ d HDK.out) hYM.pages (hYM.away _ d HDK.out) (by have := HG.out.many (toA_get HDK.out); omega) (by have := HT.out d (List.mem_of_getElem? HDK.out); omega)).mono ?_; rintro e w7 ⟨d7, rfl, hN7, hB7, hA7, hP7, hF7, k7⟩
                   have hg7 := Yard.goes HDK.out hF7 k7
                   have rL7 := rLM.kept hg7.kept hLr
                   have rA7 := rAM.kept hg7.kept HAT.out
                   (try dsimp only)
                   refine hKK _ _ ⟨by rw [rL7.cell _]; exact ptrs_get HDK.out, by simpa using rA7.cell 1⟩ ?_
                   clear hKK KK))
              refine pick_done (by decide +kernel) ?_
              have hY7 := hYM.step HDK.out hA7 hP7 hF7 k7
              have hL7 := hg7.off hLr rLM.lt
              have kk7 := hYM.keeps HDK.out k7 kkM (by omega)
              have hD7 := hDM.goes hg7
              have hs7 := hsM.keptS hg7.kept (fun b off e hm => hrawA b off e (List.mem_cons_of_mem _ hm))
              have HA7 := Lib.hid (awayA.goes hrawA hsM (fun h => by have h5 := HL5.out; rw [h] at h5; simp at h5; omega) hg7)
              have rP7 := rPM.kept hg7.kept HPT.out
              have rN7 := rNM.kept hg7.kept HNT.out
              have hI7 := hIM.keptS hg7.kept (RD.away_mono hrawR (fun _ hk => List.mem_cons_of_mem _ hk))
              have hraw7 : r5.away (XL :: turf rg mg (ds.set K d7)) := ⟨hrawR.1.goes hIM.runs hg7, hrawR.2.goes hIM.things hg7⟩
              have HG7 : Hid (Good (allocN d.toArN xs s).2.1 (toA (ds.set K d7))) := by rw [toA_set, hN7]; exact HG.out.alloc (toA_get HDK.out) s
              have HX7 : Hid ((allocN d.toArN xs s).2.1.length = m) := (allocN_len _ _ _).trans HX.out
              have hts := allocN_ts (HG.out.ok _ _ (toA_get HDK.out)) HG.out.le s
              have HTB : Hid (∀ e ∈ ds.set K d7, e.ts.length ≤ j + 1) := fun e he => by
                rcases List.mem_or_eq_of_mem_set he with he | rfl
                · have := HT.out e he; omega
                · have := HT.out d (List.mem_of_getElem? HDK.out)
                  rw [congrArg ArN.ts hN7]; omega
              have HLB : Hid ((ds.set K d7).length = 4) := (List.length_set ..).trans HD.out
              have hP7' : ptrs (ds.set K d7) = ptrs ds := ptrs_set HDK.out hB7
              rw [← hP7'] at rL7
              have HDB : Hid ((ds.set K d7)[K]? = some d7) := by show _ = _; rw [List.getElem?_set_self (by rw [HD.out]; exact hK4)]
              have HRK2 : Hid ((rds.set K r5)[K]? = some r5) := by show _ = _; rw [List.getElem?_set_self (by rw [HRL.out]; exact hK4)]
              have HLR : Hid ((rds.set K r5).length = 4) := (List.length_set ..).trans HRL.out
              have HEB : Hid (∀ (K' : Nat) (d' : AD) (r' : RD), (ds.set K d7)[K']? = some d' → (rds.set K r5)[K']? = some r' → d'.toArN = r'.toArN) := fun K' d' r' h1 h2 => by
                by_cases hKK : K = K'
                · subst hKK
                  rw [HDB.out] at h1; rw [HRK2.out] at h2
                  cases h1; cases h2
                  rw [hN7, HN5.out]
                · rw [List.getElem?_set_ne hKK] at h1 h2
                  exact HE.out K' d' r' h1 h2
              generalize ds.set K d7 = dsB at hY7 rL7 hL7 HDB HTB HLB HEB HG7 hg7 hD7 HA7 hraw7
              have n0 : w7.cell? ⟨N, 0, none⟩ = some (.int .i64 r5.x.p) := by simpa using rN7.cell 0
              have n1 : w7.cell? ⟨N, 1, none⟩ = some (.int .i64 r5.x.left) := by simpa using rN7.cell 1
              have n2 : w7.cell? ⟨N, 2, none⟩ = some (.slice r5.ar r5.rs.length r5.cr) := by simpa using rN7.cell 2
              have n3 : w7.cell? ⟨N, 3, none⟩ = some (.slice r5.at' r5.ts.length r5.ct) := by simpa using rN7.cell 3
              have y0 : w7.cell? ⟨XL, K * 4, none⟩ = some (.int .i64 r.x.p) := by rw [hD7.row.cell _]; exact HGX.out.1
              have y1 : w7.cell? ⟨XL, K * 4 + 1, none⟩ = some (.int .i64 r.x.left) := by rw [hD7.row.cell _]; exact HGX.out.2.1
              have y2 : w7.cell? ⟨XL, K * 4 + 2, none⟩ = some (.slice r.ar r.rs.length r.cr) := by rw [hD7.row.cell _]; exact HGX.out.2.2.1
              have y3 : w7.cell? ⟨XL, K * 4 + 3, none⟩ = some (.slice r.at' r.ts.length r.ct) := by rw [hD7.row.cell _]; exact HGX.out.2.2.2
              have f0 := hD7.row.free (K * 4)
              have f1 := hD7.row.free (K * 4 + 1)
              have f2 := hD7.row.free (K * 4 + 2)
              have f3 := hD7.row.free (K * 4 + 3)
              have hDB := hD7.put HRK.out hI7 hraw7
              have hkX := Kept.setRD (w := w7) (X := XL) (K := K) r5
              have HXL := Lib.hid (show XL ∉ turf rg mg dsB from hD7.off)
              have hYB := hY7.keptS hkX (fun k hk => by simp at hk; subst hk; have h1 := HLX.out; have h2 := HPA.out; exact ⟨HXL.out, by omega, by omega, by omega⟩)
              have rLB := rL7.kept hkX (by simp; have := HLX.out; omega)
              have hsB := hs7.keptS hkX (fun b off e hm => HA7.out b off e (by simp at hm; simp [hm]))
              have rPB := rP7.kept hkX (by simp; have := HLX.out; omega)
              have kkB : Kept [] w _ := kk7.chain hkX (by simp) (by intro i hi hl; simp at hi; have := HLX.out; omega)
              clear hYM rLM hDM rAM rPM kkM rNM hIM hsM hY7 rL7 hD7 hs7 rP7 rN7 kk7 hI7 hraw7 hrawR hrawA hA7 hP7 hF7 k7 hg7 rA7 hB7 hP7' hts hN7 HN5 HL5 HNT HG HT HD HE hkX HAL HAT hLr cAL cA1 HMR HTR HOK HNE HKC HPT HA hNa kd
              generalize allocY d.toArN xs ys s = ysB at hYB
              generalize (allocN d.toArN xs s).2.1 = xsB at hYB hsB HG7 HX7
              generalize (allocN d.toArN xs s).2.2.1 = F
              generalize (allocN d.toArN xs s).2.2.2 = E
              obtain ⟨fb, hfb⟩ : ∃ fb, (E == 0) = fb := ⟨_, rfl⟩
              rw [hfb]
              go_wp2_with fail
              clear n0 n1 n2 n3 y0 y1 y2 y3 f0 f1 f2 f3 HXL HGX HRD HDK
              generalize ((((w7.setCell ⟨XL, K * 4, none⟩ (.int .i64 r5.x.p)).setCell ⟨XL, K * 4 + 1, none⟩ (.int .i64 r5.x.left)).setCell ⟨XL, K * 4 + 2, none⟩ (.slice r5.ar r5.rs.length r5.cr)).setCell ⟨XL, K * 4 + 3, none⟩ (.slice r5.at' r5.ts.length r5.ct)) = wB at hDB hYB rLB hsB rPB kkB ⊢
              generalize rds.set K r5 = rdsB at hDB HRK2 HLR HEB
              have HRB := Lib.hid (show d7.toArN = r5.toArN from HEB.out K d7 r5 HDB.out HRK2.out)
              have HRS := Lib.hid (congrArg ArN.rs HRB.out)
              have HTS := Lib.hid (congrArg ArN.ts HRB.out)
              have HSM := Lib.hid (HG7.out.small (toA_get HDB.out))
              have HMY := Lib.hid (HG7.out.many (toA_get HDB.out))
              have HTL := Lib.hid (HTB.out d7 (List.mem_of_getElem? HDB.out))
              have HDO := Lib.hid hDB
              obtain ⟨g0, g1, g2, g3⟩ := flatC_get rdsB K r5 HRK2.out
              have held : ∀ w', Kept [] wB w' → Kept [] wB w' ∧ w'.cell? ⟨AL, K, none⟩ = some (.pointer (some ⟨d7.B, 0, none⟩)) ∧ w'.cell? ⟨XL, K * 4, none⟩ = some (.int .i64 r5.x.p) ∧ w'.cell? ⟨XL, K * 4 + 1, none⟩ = some (.int .i64 r5.x.left) ∧
                  w'.cell? ⟨XL, K * 4 + 2, none⟩ = some (.slice r5.ar r5.rs.length r5.cr) ∧ w'.cell? ⟨XL, K * 4 + 3, none⟩ = some (.slice r5.at' r5.ts.length r5.ct) := fun w' hk =>
                ⟨hk, by rw [(rLB.kept hk (by simp)).cell K]; exact ptrs_get HDB.out, by rw [(hDB.row.kept hk (by simp)).cell _]; exact g0, by rw [(hDB.row.kept hk (by simp)).cell _]; exact g1, by rw [(hDB.row.kept hk (by simp)).cell _]; exact g2, by rw [(hDB.row.kept hk (by simp)).cell _]; exact g3⟩
              have HXB2 := Lib.hid (show IntKind.i64.wrap ((m : Int) - ((countB xsB : Nat) : Int)) = ((xsB.length : Int) - ((countB xsB : Nat) : Int)) by have h1 := countB_le xsB; have h2 := HX7.out; rw [h2, IntKind.wrap_i64]; omega)
              have hw1 := HXB2.out
              obtain ⟨fr, hfr⟩ : ∃ fr, (xsB.length : Int) - ((countB xsB : Nat) : Int) = fr := ⟨_, rfl⟩
              rw [hfr] at hw1
              have HFR := Lib.hid hfr
              clear hfr g0 g1 g2 g3
              have kk0 : Kept [] wB wB.drew := (Kept.refl _ _).drew
              refine wp_region_pick (fun w' => Kept [] wB w' ∧ w'.cell? ⟨AL, K, none⟩ = some (.pointer (some ⟨d7.B, 0, none⟩)) ∧ w'.cell? ⟨XL, K * 4, none⟩ = some (.int .i64 r5.x.p) ∧ w'.cell? ⟨XL, K * 4 + 1, none⟩ = some (.int .i64 r5.x.left) ∧
                  w'.cell? ⟨XL, K * 4 + 2, none⟩ = some (.slice r5.ar r5.rs.length r5.cr) ∧ w'.cell? ⟨XL, K * 4 + 3, none⟩ = some (.slice r5.at' r5.ts.length r5.ct)) (by kernel_rfl) (held _ kk0) ?_
              simp only [numbered, List.length_cons, List.length_nil, Nat.reduceAdd]
              repeat (first
                | (refine pick_take0 (v := ?_) rfl (by decide +kernel) (fun _ _ _ h => h) (by rfl) ?_ ?_; rotate_left; (intro w hSw; (try dsimp only at hSw); go_simp; (try rw [if_pos hKI]); try with_reducible rfl); go_frame)
                | (refine pick_take1 (v := ?_) rfl (by decide +kernel) (fun _ _ _ h => h) (by rfl) ?_ ?_; rotate_left; (intro w hSw; (try dsimp only at hSw); go_simp; (try rw [if_pos hKI]); try with_reducible rfl); go_frame)
                | (refine pick_take2 (v := ?_) rfl (by decide +kernel) (fun _ _ _ h => h) (by rfl) ?_ ?_; rotate_left; (intro w hSw; (try dsimp only at hSw); go_simp; (try rw [if_pos hKI]); try with_reducible rfl); go_frame)
                | (refine pick_call (by decide +kernel) (by rfl) (fun KK hKK => ?_); go_simp
                   first
                   | (go_at_call 16; refine (pagesFree_any p rb rg mb mg xsB _ _ (hYB.kept (by assumption)).pages).mono ?_; rintro e w8 ⟨rfl, k8⟩; rw [HFR.out]; have kq : Kept [] wB w8 := Kept.trans (by assumption) k8)
                   | (go_at_call 17; refine (refCount02 A5 m c5 xsB _ (hsB.kept (by assumption)) HX7.out (by omega)).mono ?_; rintro e w8 ⟨rfl, hw8⟩; subst hw8)
                   | (go_at_call 19; refine (arenaRuns_any _ d7 _ ((hYB.kept (by assumption)).arena K d7 HDB.out) HSM.out (by have := HMY.out; omega)).mono ?_; rintro e w8 ⟨v8, rfl, hown8, k8⟩; obtain ⟨a8, c8, rfl, hsl8, -⟩ := hown8.slice; have hslA := hsl8; have kq : Kept [] wB w8 := Kept.trans (by assumption) k8)
                   | (go_at_call 20; refine (arenaThings_any _ d7 _ ((hYB.kept (by assumption)).arena K d7 HDB.out) (by have := HTL.out; omega)).mono ?_; rintro e w8 ⟨v8, rfl, hown8, k8⟩; obtain ⟨a8, c8, rfl, hsl8, -⟩ := hown8.slice; have hslB := hsl8; have kq : Kept [] wB w8 := Kept.trans (by assumption) k8)
                   | (go_at_call 18; first
                       | (refine (refSame06_yes _ r5.at' _ r5.ts.length _ r5.ct d7.ts _ hslB (by rw [HTS.out]; exact ((HDO.out.kept (by assumption)).is K r5 HRK2.out).things) rfl (by rw [HTS.out]) (by have := HTL.out; omega)).mono ?_)
                       | (refine (refSame06_yes _ r5.ar _ r5.rs.length _ r5.cr d7.rs _ hslA (by rw [HRS.out]; exact ((HDO.out.kept (by assumption)).is K r5 HRK2.out).runs) rfl (by rw [HRS.out]) (by have := HMY.out; omega)).mono ?_)
                      rintro e w8 ⟨rfl, k8⟩
                      have kq : Kept [] wB w8 := Kept.trans (by assumption) k8)
                   | (go_at_call 21; refine (arenaPages_any _ d7 _ ((hYB.kept (by assumption)).arena K d7 HDB.out) HSM.out (by have := HMY.out; omega)).mono ?_; rintro e w8 ⟨rfl, k8⟩; have kq : Kept [] wB w8 := Kept.trans (by assumption) k8)
                   | (go_at_call 22; refine (refPages11_any r5 _ ((HDO.out.kept (by assumption)).is K r5 HRK2.out) (by rw [← HRS.out]; exact HSM.out) (by rw [← HRS.out]; exact HMY.out)).mono ?_; rintro e w8 ⟨rfl, k8⟩; rw [← HRS.out]; have kq : Kept [] wB w8 := Kept.trans (by assumption) k8)
                   (try dsimp only)
                   refine hKK _ _ (held _ (by assumption)) ?_
                   clear hKK KK))
              refine pick_done (by decide +kernel) ?_
              have hYE := hYB.kept kq
              have rLE := rLB.kept kq (by simp)
              have hDE := hDB.kept kq
              have hsE := hsB.kept kq
              have kkE := kkB.trans kq
              have rPE := rPB.kept kq (by simp)
              go_wp2
              go_roundw
              case rel => exact ⟨j + 1, dsB, rdsB, A5, c5, xsB, _, by go_num, rfl, by omega, HLB, HLR, HEB, HX7, HG7, HTB, hYE, rLE, hL7, hDE, hsE, HA7, rPE, kkE⟩
              case measure => simp [intOf]; omega
            · have rN := (Row.new wa 38 [.int .i64 0, .int .i64 0, .slice none 0 0, .slice none 0 0]).drew
              have k6 := ((Kept.refl [] wa).alloc (.cells #[.int .i64 0, .int .i64 0, .slice none 0 0, .slice none 0 0] 38)).drew
              have hz6 : (wa.alloc (.cells #[.int .i64 0, .int .i64 0, .slice none 0 0, .slice none 0 0] 38)).drew.heap.size = wa.heap.size + 1 := (World.size_alloc ..)
              obtain ⟨N, hNe⟩ : ∃ N, wa.heap.size = N := ⟨_, rfl⟩
              rw [hNe] at rN
              have hNa : wa.heap.size ≤ N := by omega
              go_simp
              (try rw [hNe])
              refine hKK _ _ (held26 wa.heap.size _ k6.any (by omega) (by omega)) ?_
              clear hKK KK
              generalize (wa.alloc (.cells #[.int .i64 0, .int .i64 0, .slice none 0 0, .slice none 0 0] 38)).drew = w4 at rN k6 hz6 ⊢
              simp only [List.eraseIdx_cons_succ, List.eraseIdx_cons_zero]
              refine pick_call (by decide +kernel) (by rfl) (fun KK hKK => ?_)
              go_simp
              (go_at_call 13; refine (refAlloc11_any r A m cp xs s w4 ((hDa.kept k6).is K r HRK.out) HOK.out (hsa.kept k6) HX.out (by omega) HMR.out HTR.out).mono ?_; rintro e w5 ⟨r5, A5, c5, rfl, hN5, hI5, hL5, hs5, hA5, hr5, ht5, k5⟩; rw [HAL.out] at hN5 hL5 hs5 ⊢; have HN5 := Lib.hid hN5; have HL5 := Lib.hid hL5; clear hN5 hL5; unfold RD.val; try dsimp only)
              have kN1 := k6.trans k5
              refine hKK _ _ (held26 wa.heap.size w5 kN1.any (by omega) (by omega)) ?_
              clear hKK KK
              repeat (first
                | (refine pick_take0 (v := ?_) rfl (by decide +kernel) (fun _ _ _ h => h) (by rfl) ?_ ?_; rotate_left; (intro w hSw; (try dsimp only at hSw); go_simp; (try rw [if_pos hKI]); try with_reducible rfl); go_frame)
                | (refine pick_take1 (v := ?_) rfl (by decide +kernel) (fun _ _ _ h => h) (by rfl) ?_ ?_; rotate_left; (intro w hSw; (try dsimp only at hSw); go_simp; (try rw [if_pos hKI]); try with_reducible rfl); go_frame)
                | (refine pick_take2 (v := ?_) rfl (by decide +kernel) (fun _ _ _ h => h) (by rfl) ?_ ?_; rotate_left; (intro w hSw; (try dsimp only at hSw); go_simp; (try rw [if_pos hKI]); try with_reducible rfl); go_frame))
              have hA5 : A5 = A ∨ ∃ g, A5 = some ⟨g, 0, none⟩ ∧ wa.heap.size + 1 ≤ g := hA5.imp id (fun ⟨g, h1, h2⟩ => ⟨g, h1, by omega⟩)
              have hr5 : (r5.ar = r.ar ∧ r5.rs = r.rs) ∨ ∃ g, r5.ar = some ⟨g, 0, none⟩ ∧ wa.heap.size + 1 ≤ g := hr5.imp id (fun ⟨g, h1, h2⟩ => ⟨g, h1, by omega⟩)
              have ht5 : (r5.at' = r.at' ∧ r5.ts = r.ts) ∨ ∃ g, r5.at' = some ⟨g, 0, none⟩ ∧ wa.heap.size + 1 ≤ g := ht5.imp id (fun ⟨g, h1, h2⟩ => ⟨g, h1, by omega⟩)
              have hRN : r5.away [N] := by
                have hr := hDa.is K r HRK.out
                refine ⟨?_, ?_⟩
                · rcases hr5 with ⟨h1, h2⟩ | ⟨g, h1, h2⟩
                  · rw [h1, h2]; exact awayL.above hr.runs hNa
                  · refine .inr (fun b off e hm => ?_); rw [h1] at e; cases e; simp at hm; omega
                · rcases ht5 with ⟨h1, h2⟩ | ⟨g, h1, h2⟩
                  · rw [h1, h2]; exact awayL.above hr.things hNa
                  · refine .inr (fun b off e hm => ?_); rw [h1] at e; cases e; simp at hm; omega
              have hAN : ∀ b off, A5 = some ⟨b, off, none⟩ → b ∉ [N] := fun b off e hm => by
                simp at hm
                rcases hA5 with h | ⟨g, h, hg⟩
                · have := hsa.lt HNE.out b off (h ▸ e); omega
                · rw [h] at e; cases e; omega
              replace hA5 : A5 = A ∨ ∃ g, A5 = some ⟨g, 0, none⟩ ∧ wa.heap.size ≤ g := hA5.imp id (fun ⟨g, h1, h2⟩ => ⟨g, h1, by omega⟩)
              replace hr5 : (r5.ar = r.ar ∧ r5.rs = r.rs) ∨ ∃ g, r5.ar = some ⟨g, 0, none⟩ ∧ wa.heap.size ≤ g := hr5.imp id (fun ⟨g, h1, h2⟩ => ⟨g, h1, by omega⟩)
              replace ht5 : (r5.at' = r.at' ∧ r5.ts = r.ts) ∨ ∃ g, r5.at' = some ⟨g, 0, none⟩ ∧ wa.heap.size ≤ g := ht5.imp id (fun ⟨g, h1, h2⟩ => ⟨g, h1, by omega⟩)
              have hI6 := hI5
              have hs6 := hs5
              replace rN := rN.kept k5 (by simp)
              have n0 : w5.cell? ⟨N, 0, none⟩ = some (.int .i64 0) := by simpa using rN.cell 0
              have n1 : w5.cell? ⟨N, 1, none⟩ = some (.int .i64 0) := by simpa using rN.cell 1
              have n2 : w5.cell? ⟨N, 2, none⟩ = some (.slice none 0 0) := by simpa using rN.cell 2
              have n3 : w5.cell? ⟨N, 3, none⟩ = some (.slice none 0 0) := by simpa using rN.cell 3
              have f0 := rN.free 0
              have f1 := rN.free 1
              have f2 := rN.free 2
              have f3 := rN.free 3
              have kS := Kept.set4 (Kept.refl [N] w5) (g := N) (.inl (by simp)) (.int .i64 r5.x.p) (.int .i64 r5.x.left) (.slice r5.ar r5.rs.length r5.cr) (.slice r5.at' r5.ts.length r5.ct)
              have rS := rN.set4 (.int .i64 r5.x.p) (.int .i64 r5.x.left) (.slice r5.ar r5.rs.length r5.cr) (.slice r5.at' r5.ts.length r5.ct)
              have kN2 : Kept [N] wa _ := kN1.any.trans kS
              refine pick_call (by decide +kernel) (by rfl) (fun KK hKK => ?_)
              go_simp
              refine hKK _ _ (held26 N _ kN2 (by omega) (by omega)) ?_
              clear hKK KK
              have hIN := (hI6).keptS kS hRN
              have hsN := hs6.keptS kS hAN
              have kNN : Kept [] wa _ := kN1.chain kS (by simp) (by intro i hi hl; simp at hi; omega)
              generalize ((((w5.setCell ⟨N, 0, none⟩ (.int .i64 r5.x.p)).setCell ⟨N, 1, none⟩ (.int .i64 r5.x.left)).setCell ⟨N, 2, none⟩ (.slice r5.ar r5.rs.length r5.cr)).setCell ⟨N, 3, none⟩ (.slice r5.at' r5.ts.length r5.ct)) = wN at rS kN2 kNN hIN hsN ⊢
              clear n0 n1 n2 n3 f0 f1 f2 f3 kS rN hI6 hs6 hRN hAN kN1 k5
              repeat (first
                | (refine pick_take0 (v := ?_) rfl (by decide +kernel) (fun _ _ _ h => h) (by rfl) ?_ ?_; rotate_left; (intro w hSw; (try dsimp only at hSw); go_simp; (try rw [if_pos hKI]); try with_reducible rfl); go_frame)
                | (refine pick_take1 (v := ?_) rfl (by decide +kernel) (fun _ _ _ h => h) (by rfl) ?_ ?_; rotate_left; (intro w hSw; (try dsimp only at hSw); go_simp; (try rw [if_pos hKI]); try with_reducible rfl); go_frame)
                | (refine pick_take2 (v := ?_) rfl (by decide +kernel) (fun _ _ _ h => h) (by rfl) ?_ ?_; rotate_left; (intro w hSw; (try dsimp only at hSw); go_simp; (try rw [if_pos hKI]); try with_reducible rfl); go_frame))
              refine pick_done (by decide +kernel) ?_
              have hlS : ∀ k ∈ XL :: turf rg mg ds, k < wa.heap.size := fun k hk => by
                rcases List.mem_cons.1 hk with rfl | hk
                · exact hzX
                · exact hYa.turf_lt k hk
              have hrawR : r5.away (XL :: turf rg mg ds) := ⟨awayL.new (hDa.away K r HRK.out).1 hr5 hlS, awayL.new (hDa.away K r HRK.out).2 ht5 hlS⟩
              have hrawA : awayA A5 (XL :: turf rg mg ds) := awayA.new HA.out hA5 hlS
              have HNT : Hid (N ∉ turf rg mg ds) := fun hm => by have := hYa.turf_lt _ hm; omega
              have kM := kNN.drew
              have hYM := hYa.kept kM
              have rLM := rLa.kept kM (by simp)
              have hDM := hDa.kept kM
              have rAM := rA.kept kM (by simp)
              have rPM := rPa.kept kM (by simp)
              have kkM := kka.trans kM
              have rNM := rS.drew
              have hIM := hIN.kept ((Kept.refl _ _).drew)
              have hsM := hsN.kept ((Kept.refl _ _).drew)
              clear hlS hYa rLa hDa hsa rA rPa kka kNN kN2 held26 hr5 ht5 hA5 hI5 hs5 hIN hsN rS kM hzX hzC kk0
              have cAL : wN.drew.cell? ⟨AL, K, none⟩ = some (.pointer (some ⟨d.B, 0, none⟩)) := by rw [rLM.cell K]; exact ptrs_get HDK.out
              have cA1 : wN.drew.cell? ⟨C, 1, none⟩ = some (.int .i64 s) := by simpa using rAM.cell 1
              go_wp2_with fail
              refine wp_region_pick (fun w' => w'.cell? ⟨AL, K, none⟩ = some (.pointer (some ⟨d.B, 0, none⟩)) ∧ w'.cell? ⟨C, 1, none⟩ = some (.int .i64 s)) (by kernel_rfl) ⟨cAL, cA1⟩ ?_
              simp only [numbered, List.length_cons, List.length_nil, Nat.reduceAdd]
              repeat (first
                | (refine pick_take0 (v := ?_) rfl (by decide +kernel) (fun _ _ _ h => h) (by rfl) ?_ ?_; rotate_left; (intro w hSw; (try dsimp only at hSw); go_simp; (try rw [if_pos hKI]); try with_reducible rfl); go_frame)
                | (refine pick_take1 (v := ?_) rfl (by decide +kernel) (fun _ _ _ h => h) (by rfl) ?_ ?_; rotate_left; (intro w hSw; (try dsimp only at hSw); go_simp; (try rw [if_pos hKI]); try with_reducible rfl); go_frame)
                | (refine pick_take2 (v := ?_) rfl (by decide +kernel) (fun _ _ _ h => h) (by rfl) ?_ ?_; rotate_left; (intro w hSw; (try dsimp only at hSw); go_simp; (try rw [if_pos hKI]); try with_reducible rfl); go_frame)
                | (refine pick_call (by decide +kernel) (by rfl) (fun KK hKK => ?_); go_simp
                   go_at_call 14; refine (arenaFits_any p rb rg mb mg d xs ys s wN.drew (hYM.arena K d HDK.out) hYM.pages).mono ?_; rintro e w6 ⟨rfl, hw6⟩; subst hw6
                   (try dsimp only)
                   refine hKK _ _ ⟨cAL, cA1⟩ ?_
                   clear hKK KK))
              refine pick_done (by decide +kernel) ?_
              clear cAL cA1
              generalize wN.drew = wM at hYM rLM hDM rAM rPM kkM rNM hIM hsM ⊢
              have cAL : wM.drew.cell? ⟨AL, K, none⟩ = some (.pointer (some ⟨d.B, 0, none⟩)) := by rw [rLM.drew.cell K]; exact ptrs_get HDK.out
              have cA1 : wM.drew.cell? ⟨C, 1, none⟩ = some (.int .i64 s) := by simpa using rAM.drew.cell 1
              have kd : Kept [] wM wM.drew := (Kept.refl _ _).drew
              go_wp2_with fail
              refine wp_region_pick (fun w' => w'.cell? ⟨AL, K, none⟩ = some (.pointer (some ⟨d.B, 0, none⟩)) ∧ w'.cell? ⟨C, 1, none⟩ = some (.int .i64 s)) (by kernel_rfl) ⟨cAL, cA1⟩ ?_
              simp only [numbered, List.length_cons, List.length_nil, Nat.reduceAdd]
              replace hYM := hYM.kept kd
              replace rLM := rLM.kept kd (by simp)
              replace hDM := hDM.kept kd
              replace rAM := rAM.kept kd (by simp)
              replace rPM := rPM.kept kd (by simp)
              replace kkM := kkM.trans kd
              replace rNM := rNM.kept kd (by simp)
              replace hIM := hIM.kept kd
              replace hsM := hsM.kept kd
              repeat (first
                | (refine pick_take0 (v := ?_) rfl (by decide +kernel) (fun _ _ _ h => h) (by rfl) ?_ ?_; rotate_left; (intro w hSw; (try dsimp only at hSw); go_simp; (try rw [if_pos hKI]); try with_reducible rfl); go_frame)
                | (refine pick_take1 (v := ?_) rfl (by decide +kernel) (fun _ _ _ h => h) (by rfl) ?_ ?_; rotate_left; (intro w hSw; (try dsimp only at hSw); go_simp; (try rw [if_pos hKI]); try with_reducible rfl); go_frame)
                | (refine pick_take2 (v := ?_) rfl (by decide +kernel) (fun _ _ _ h => h) (by rfl) ?_ ?_; rotate_left; (intro w hSw; (try dsimp only at hSw); go_simp; (try rw [if_pos hKI]); try with_reducible rfl); go_frame)
                | (refine pick_call (by decide +kernel) (by rfl) (fun KK hKK => ?_); go_simp
                   go_at_call 15; refine (arenaAlloc_any p rb rg mb mg d xs ys s wM.drew (hYM.arena _ d HDK.out) hYM.pages (hYM.away _ d HDK.out) (by have := HG.out.many (toA_get HDK.out); omega) (by have := HT.out d (List.mem_of_getElem? HDK.out); omega)).mono ?_; rintro e w7 ⟨d7, rfl, hN7, hB7, hA7, hP7, hF7, k7⟩
                   have hg7 := Yard.goes HDK.out hF7 k7
                   have rL7 := rLM.kept hg7.kept hLr
                   have rA7 := rAM.kept hg7.kept HAT.out
                   (try dsimp only)
                   refine hKK _ _ ⟨by rw [rL7.cell _]; exact ptrs_get HDK.out, by simpa using rA7.cell 1⟩ ?_
                   clear hKK KK))
              refine pick_done (by decide +kernel) ?_
              have hY7 := hYM.step HDK.out hA7 hP7 hF7 k7
              have hL7 := hg7.off hLr rLM.lt
              have kk7 := hYM.keeps HDK.out k7 kkM (by omega)
              have hD7 := hDM.goes hg7
              have hs7 := hsM.keptS hg7.kept (fun b off e hm => hrawA b off e (List.mem_cons_of_mem _ hm))
              have HA7 := Lib.hid (awayA.goes hrawA hsM (fun h => by have h5 := HL5.out; rw [h] at h5; simp at h5; omega) hg7)
              have rP7 := rPM.kept hg7.kept HPT.out
              have rN7 := rNM.kept hg7.kept HNT.out
              have hI7 := hIM.keptS hg7.kept (RD.away_mono hrawR (fun _ hk => List.mem_cons_of_mem _ hk))
              have hraw7 : r5.away (XL :: turf rg mg (ds.set K d7)) := ⟨hrawR.1.goes hIM.runs hg7, hrawR.2.goes hIM.things hg7⟩
              have HG7 : Hid (Good (allocN d.toArN xs s).2.1 (toA (ds.set K d7))) := by rw [toA_set, hN7]; exact HG.out.alloc (toA_get HDK.out) s
              have HX7 : Hid ((allocN d.toArN xs s).2.1.length = m) := (allocN_len _ _ _).trans HX.out
              have hts := allocN_ts (HG.out.ok _ _ (toA_get HDK.out)) HG.out.le s
              have HTB : Hid (∀ e ∈ ds.set K d7, e.ts.length ≤ j + 1) := fun e he => by
                rcases List.mem_or_eq_of_mem_set he with he | rfl
                · have := HT.out e he; omega
                · have := HT.out d (List.mem_of_getElem? HDK.out)
                  rw [congrArg ArN.ts hN7]; omega
              have HLB : Hid ((ds.set K d7).length = 4) := (List.length_set ..).trans HD.out
              have hP7' : ptrs (ds.set K d7) = ptrs ds := ptrs_set HDK.out hB7
              rw [← hP7'] at rL7
              have HDB : Hid ((ds.set K d7)[K]? = some d7) := by show _ = _; rw [List.getElem?_set_self (by rw [HD.out]; exact hK4)]
              have HRK2 : Hid ((rds.set K r5)[K]? = some r5) := by show _ = _; rw [List.getElem?_set_self (by rw [HRL.out]; exact hK4)]
              have HLR : Hid ((rds.set K r5).length = 4) := (List.length_set ..).trans HRL.out
              have HEB : Hid (∀ (K' : Nat) (d' : AD) (r' : RD), (ds.set K d7)[K']? = some d' → (rds.set K r5)[K']? = some r' → d'.toArN = r'.toArN) := fun K' d' r' h1 h2 => by
                by_cases hKK : K = K'
                · subst hKK
                  rw [HDB.out] at h1; rw [HRK2.out] at h2
                  cases h1; cases h2
                  rw [hN7, HN5.out]
                · rw [List.getElem?_set_ne hKK] at h1 h2
                  exact HE.out K' d' r' h1 h2
              generalize ds.set K d7 = dsB at hY7 rL7 hL7 HDB HTB HLB HEB HG7 hg7 hD7 HA7 hraw7
              have n0 : w7.cell? ⟨N, 0, none⟩ = some (.int .i64 r5.x.p) := by simpa using rN7.cell 0
              have n1 : w7.cell? ⟨N, 1, none⟩ = some (.int .i64 r5.x.left) := by simpa using rN7.cell 1
              have n2 : w7.cell? ⟨N, 2, none⟩ = some (.slice r5.ar r5.rs.length r5.cr) := by simpa using rN7.cell 2
              have n3 : w7.cell? ⟨N, 3, none⟩ = some (.slice r5.at' r5.ts.length r5.ct) := by simpa using rN7.cell 3
              have y0 : w7.cell? ⟨XL, K * 4, none⟩ = some (.int .i64 r.x.p) := by rw [hD7.row.cell _]; exact HGX.out.1
              have y1 : w7.cell? ⟨XL, K * 4 + 1, none⟩ = some (.int .i64 r.x.left) := by rw [hD7.row.cell _]; exact HGX.out.2.1
              have y2 : w7.cell? ⟨XL, K * 4 + 2, none⟩ = some (.slice r.ar r.rs.length r.cr) := by rw [hD7.row.cell _]; exact HGX.out.2.2.1
              have y3 : w7.cell? ⟨XL, K * 4 + 3, none⟩ = some (.slice r.at' r.ts.length r.ct) := by rw [hD7.row.cell _]; exact HGX.out.2.2.2
              have f0 := hD7.row.free (K * 4)
              have f1 := hD7.row.free (K * 4 + 1)
              have f2 := hD7.row.free (K * 4 + 2)
              have f3 := hD7.row.free (K * 4 + 3)
              have hDB := hD7.put HRK.out hI7 hraw7
              have hkX := Kept.setRD (w := w7) (X := XL) (K := K) r5
              have HXL := Lib.hid (show XL ∉ turf rg mg dsB from hD7.off)
              have hYB := hY7.keptS hkX (fun k hk => by simp at hk; subst hk; have h1 := HLX.out; have h2 := HPA.out; exact ⟨HXL.out, by omega, by omega, by omega⟩)
              have rLB := rL7.kept hkX (by simp; have := HLX.out; omega)
              have hsB := hs7.keptS hkX (fun b off e hm => HA7.out b off e (by simp at hm; simp [hm]))
              have rPB := rP7.kept hkX (by simp; have := HLX.out; omega)
              have kkB : Kept [] w _ := kk7.chain hkX (by simp) (by intro i hi hl; simp at hi; have := HLX.out; omega)
              clear hYM rLM hDM rAM rPM kkM rNM hIM hsM hY7 rL7 hD7 hs7 rP7 rN7 kk7 hI7 hraw7 hrawR hrawA hA7 hP7 hF7 k7 hg7 rA7 hB7 hP7' hts hN7 HN5 HL5 HNT HG HT HD HE hkX HAL HAT hLr cAL cA1 HMR HTR HOK HNE HKC HPT HA hNa kd
              generalize allocY d.toArN xs ys s = ysB at hYB
              generalize (allocN d.toArN xs s).2.1 = xsB at hYB hsB HG7 HX7
              generalize (allocN d.toArN xs s).2.2.1 = F
              generalize (allocN d.toArN xs s).2.2.2 = E
              obtain ⟨fb, hfb⟩ : ∃ fb, (E == 0) = fb := ⟨_, rfl⟩
              rw [hfb]
              go_wp2_with fail
              clear n0 n1 n2 n3 y0 y1 y2 y3 f0 f1 f2 f3 HXL HGX HRD HDK
              generalize ((((w7.setCell ⟨XL, K * 4, none⟩ (.int .i64 r5.x.p)).setCell ⟨XL, K * 4 + 1, none⟩ (.int .i64 r5.x.left)).setCell ⟨XL, K * 4 + 2, none⟩ (.slice r5.ar r5.rs.length r5.cr)).setCell ⟨XL, K * 4 + 3, none⟩ (.slice r5.at' r5.ts.length r5.ct)) = wB at hDB hYB rLB hsB rPB kkB ⊢
              generalize rds.set K r5 = rdsB at hDB HRK2 HLR HEB
              have HRB := Lib.hid (show d7.toArN = r5.toArN from HEB.out K d7 r5 HDB.out HRK2.out)
              have HRS := Lib.hid (congrArg ArN.rs HRB.out)
              have HTS := Lib.hid (congrArg ArN.ts HRB.out)
              have HSM := Lib.hid (HG7.out.small (toA_get HDB.out))
              have HMY := Lib.hid (HG7.out.many (toA_get HDB.out))
              have HTL := Lib.hid (HTB.out d7 (List.mem_of_getElem? HDB.out))
              have HDO := Lib.hid hDB
              obtain ⟨g0, g1, g2, g3⟩ := flatC_get rdsB K r5 HRK2.out
              have held : ∀ w', Kept [] wB w' → Kept [] wB w' ∧ w'.cell? ⟨AL, K, none⟩ = some (.pointer (some ⟨d7.B, 0, none⟩)) ∧ w'.cell? ⟨XL, K * 4, none⟩ = some (.int .i64 r5.x.p) ∧ w'.cell? ⟨XL, K * 4 + 1, none⟩ = some (.int .i64 r5.x.left) ∧
                  w'.cell? ⟨XL, K * 4 + 2, none⟩ = some (.slice r5.ar r5.rs.length r5.cr) ∧ w'.cell? ⟨XL, K * 4 + 3, none⟩ = some (.slice r5.at' r5.ts.length r5.ct) := fun w' hk =>
                ⟨hk, by rw [(rLB.kept hk (by simp)).cell K]; exact ptrs_get HDB.out, by rw [(hDB.row.kept hk (by simp)).cell _]; exact g0, by rw [(hDB.row.kept hk (by simp)).cell _]; exact g1, by rw [(hDB.row.kept hk (by simp)).cell _]; exact g2, by rw [(hDB.row.kept hk (by simp)).cell _]; exact g3⟩
              have HXB2 := Lib.hid (show IntKind.i64.wrap ((m : Int) - ((countB xsB : Nat) : Int)) = ((xsB.length : Int) - ((countB xsB : Nat) : Int)) by have h1 := countB_le xsB; have h2 := HX7.out; rw [h2, IntKind.wrap_i64]; omega)
              have hw1 := HXB2.out
              obtain ⟨fr, hfr⟩ : ∃ fr, (xsB.length : Int) - ((countB xsB : Nat) : Int) = fr := ⟨_, rfl⟩
              rw [hfr] at hw1
              have HFR := Lib.hid hfr
              clear hfr g0 g1 g2 g3
              have kk0 : Kept [] wB wB.drew := (Kept.refl _ _).drew
              refine wp_region_pick (fun w' => Kept [] wB w' ∧ w'.cell? ⟨AL, K, none⟩ = some (.pointer (some ⟨d7.B, 0, none⟩)) ∧ w'.cell? ⟨XL, K * 4, none⟩ = some (.int .i64 r5.x.p) ∧ w'.cell? ⟨XL, K * 4 + 1, none⟩ = some (.int .i64 r5.x.left) ∧
                  w'.cell? ⟨XL, K * 4 + 2, none⟩ = some (.slice r5.ar r5.rs.length r5.cr) ∧ w'.cell? ⟨XL, K * 4 + 3, none⟩ = some (.slice r5.at' r5.ts.length r5.ct)) (by kernel_rfl) (held _ kk0) ?_
              simp only [numbered, List.length_cons, List.length_nil, Nat.reduceAdd]
              repeat (first
                | (refine pick_take0 (v := ?_) rfl (by decide +kernel) (fun _ _ _ h => h) (by rfl) ?_ ?_; rotate_left; (intro w hSw; (try dsimp only at hSw); go_simp; (try rw [if_pos hKI]); try with_reducible rfl); go_frame)
                | (refine pick_take1 (v := ?_) rfl (by decide +kernel) (fun _ _ _ h => h) (by rfl) ?_ ?_; rotate_left; (intro w hSw; (try dsimp only at hSw); go_simp; (try rw [if_pos hKI]); try with_reducible rfl); go_frame)
                | (refine pick_take2 (v := ?_) rfl (by decide +kernel) (fun _ _ _ h => h) (by rfl) ?_ ?_; rotate_left; (intro w hSw; (try dsimp only at hSw); go_simp; (try rw [if_pos hKI]); try with_reducible rfl); go_frame)
                | (refine pick_call (by decide +kernel) (by rfl) (fun KK hKK => ?_); go_simp
                   first
                   | (go_at_call 16; refine (pagesFree_any p rb rg mb mg xsB _ _ (hYB.kept (by assumption)).pages).mono ?_; rintro e w8 ⟨rfl, k8⟩; rw [HFR.out]; have kq : Kept [] wB w8 := Kept.trans (by assumption) k8)
                   | (go_at_call 17; refine (refCount02 A5 m c5 xsB _ (hsB.kept (by assumption)) HX7.out (by omega)).mono ?_; rintro e w8 ⟨rfl, hw8⟩; subst hw8)
                   | (go_at_call 19; refine (arenaRuns_any _ d7 _ ((hYB.kept (by assumption)).arena K d7 HDB.out) HSM.out (by have := HMY.out; omega)).mono ?_; rintro e w8 ⟨v8, rfl, hown8, k8⟩; obtain ⟨a8, c8, rfl, hsl8, -⟩ := hown8.slice; have hslA := hsl8; have kq : Kept [] wB w8 := Kept.trans (by assumption) k8)
                   | (go_at_call 20; refine (arenaThings_any _ d7 _ ((hYB.kept (by assumption)).arena K d7 HDB.out) (by have := HTL.out; omega)).mono ?_; rintro e w8 ⟨v8, rfl, hown8, k8⟩; obtain ⟨a8, c8, rfl, hsl8, -⟩ := hown8.slice; have hslB := hsl8; have kq : Kept [] wB w8 := Kept.trans (by assumption) k8)
                   | (go_at_call 18; first
                       | (refine (refSame06_yes _ r5.at' _ r5.ts.length _ r5.ct d7.ts _ hslB (by rw [HTS.out]; exact ((HDO.out.kept (by assumption)).is K r5 HRK2.out).things) rfl (by rw [HTS.out]) (by have := HTL.out; omega)).mono ?_)
                       | (refine (refSame06_yes _ r5.ar _ r5.rs.length _ r5.cr d7.rs _ hslA (by rw [HRS.out]; exact ((HDO.out.kept (by assumption)).is K r5 HRK2.out).runs) rfl (by rw [HRS.out]) (by have := HMY.out; omega)).mono ?_)
                      rintro e w8 ⟨rfl, k8⟩
                      have kq : Kept [] wB w8 := Kept.trans (by assumption) k8)
                   | (go_at_call 21; refine (arenaPages_any _ d7 _ ((hYB.kept (by assumption)).arena K d7 HDB.out) HSM.out (by have := HMY.out; omega)).mono ?_; rintro e w8 ⟨rfl, k8⟩; have kq : Kept [] wB w8 := Kept.trans (by assumption) k8)
                   | (go_at_call 22; refine (refPages11_any r5 _ ((HDO.out.kept (by assumption)).is K r5 HRK2.out) (by rw [← HRS.out]; exact HSM.out) (by rw [← HRS.out]; exact HMY.out)).mono ?_; rintro e w8 ⟨rfl, k8⟩; rw [← HRS.out]; have kq : Kept [] wB w8 := Kept.trans (by assumption) k8)
                   (try dsimp only)
                   refine hKK _ _ (held _ (by assumption)) ?_
                   clear hKK KK))
              refine pick_done (by decide +kernel) ?_
              have hYE := hYB.kept kq
              have rLE := rLB.kept kq (by simp)
              have hDE := hDB.kept kq
              have hsE := hsB.kept kq
              have kkE := kkB.trans kq
              have rPE := rPB.kept kq (by simp)
              go_wp2
              go_roundw
              case rel => exact ⟨j + 1, dsB, rdsB, A5, c5, xsB, _, by go_num, rfl, by omega, HLB, HLR, HEB, HX7, HG7, HTB, hYE, rLE, hL7, hDE, hsE, HA7, rPE, kkE⟩
              case measure => simp [intOf]; omega
        · have hge3 : decide (j < l.length) = false := by simp; omega
          have hjl : j = l.length := by omega
          obtain ⟨U, hU⟩ : ∃ U : Nat, IntKind.u64.wrap p0 = (U : Int) := by
            obtain ⟨U, hU⟩ := Int.eq_ofNat_of_zero_le (show 0 ≤ IntKind.u64.wrap p0 by rw [IntKind.wrap_u64]; omega)
            exact ⟨U, hU⟩
          obtain ⟨K, hK, hK4⟩ : ∃ K : Nat, (U : Int) % 4 = (K : Int) ∧ K < 4 := ⟨((U : Int) % 4).toNat, by omega, by omega⟩
          have hKt : (U : Int).tmod 4 = (K : Int) := by rw [Int.tmod_eq_emod_of_nonneg (by omega)]; exact hK
          have hKI : (K : Int) < 4 := by omega
          obtain ⟨d, hd⟩ : ∃ d, ds[K]? = some d := ⟨ds[K]'(by rw [HD.out]; exact hK4), List.getElem?_eq_getElem _⟩
          obtain ⟨r, hr⟩ : ∃ r, rds[K]? = some r := ⟨rds[K]'(by rw [HRL.out]; exact hK4), List.getElem?_eq_getElem _⟩
          have HDK := Lib.hid hd
          have HRK := Lib.hid hr
          have HRS := Lib.hid (congrArg ArN.rs (HE.out K d r hd hr))
          obtain ⟨bb, hbb⟩ : ∃ bb, inR d.rs p1 = bb := ⟨_, rfl⟩
          have HBB := Lib.hid hbb
          have HBB2 := Lib.hid (show inR r.rs p1 = bb by rw [← HRS.out]; exact hbb)
          have HSM := Lib.hid (HG.out.small (toA_get hd))
          have HMY := Lib.hid (HG.out.many (toA_get hd))
          have hP0 : wr.cell? ⟨PB, 0, none⟩ = some (.int .i64 p0) := by simpa using rPr.cell 0
          obtain ⟨g0, g1, g2, g3⟩ := flatC_get rds K r hr
          have held : ∀ w', Kept [] wr w' → Kept [] wr w' ∧ w'.cell? ⟨AL, K, none⟩ = some (.pointer (some ⟨d.B, 0, none⟩)) ∧ w'.cell? ⟨PB, 1, none⟩ = some (.int .i64 p1) ∧ w'.cell? ⟨XL, K * 4, none⟩ = some (.int .i64 r.x.p) ∧ w'.cell? ⟨XL, K * 4 + 1, none⟩ = some (.int .i64 r.x.left) ∧
              w'.cell? ⟨XL, K * 4 + 2, none⟩ = some (.slice r.ar r.rs.length r.cr) ∧ w'.cell? ⟨XL, K * 4 + 3, none⟩ = some (.slice r.at' r.ts.length r.ct) := fun w' hk =>
            ⟨hk, by rw [(rLr.kept hk (by simp)).cell K]; exact ptrs_get HDK.out, by simpa using (rPr.kept hk (by simp)).cell 1, by rw [(hDr.row.kept hk (by simp)).cell _]; exact g0, by rw [(hDr.row.kept hk (by simp)).cell _]; exact g1, by rw [(hDr.row.kept hk (by simp)).cell _]; exact g2, by rw [(hDr.row.kept hk (by simp)).cell _]; exact g3⟩
          have HDO := Lib.hid hDr
          have HYO := Lib.hid hYr
          clear hd hr hbb g0 g1 g2 g3 hjl hlt hYr hDr rLr rPr hsr HG HT HE
          go_wp2_with fail
          have kk0 : Kept [] wr wr.drew := (Kept.refl _ _).drew
          refine wp_region_pick (fun w' => Kept [] wr w' ∧ w'.cell? ⟨AL, K, none⟩ = some (.pointer (some ⟨d.B, 0, none⟩)) ∧ w'.cell? ⟨PB, 1, none⟩ = some (.int .i64 p1) ∧ w'.cell? ⟨XL, K * 4, none⟩ = some (.int .i64 r.x.p) ∧ w'.cell? ⟨XL, K * 4 + 1, none⟩ = some (.int .i64 r.x.left) ∧
              w'.cell? ⟨XL, K * 4 + 2, none⟩ = some (.slice r.ar r.rs.length r.cr) ∧ w'.cell? ⟨XL, K * 4 + 3, none⟩ = some (.slice r.at' r.ts.length r.ct)) (by kernel_rfl) (held _ kk0) ?_
          simp only [numbered, List.length_cons, List.length_nil, Nat.reduceAdd]
          repeat (first
            | (refine pick_take0 (v := ?_) rfl (by decide +kernel) (fun _ _ _ h => h) (by rfl) ?_ ?_; rotate_left; (intro w hSw; (try dsimp only at hSw); go_simp; (try rw [if_pos hKI]); try with_reducible rfl); go_frame)
            | (refine pick_take1 (v := ?_) rfl (by decide +kernel) (fun _ _ _ h => h) (by rfl) ?_ ?_; rotate_left; (intro w hSw; (try dsimp only at hSw); go_simp; (try rw [if_pos hKI]); try with_reducible rfl); go_frame)
            | (refine pick_take2 (v := ?_) rfl (by decide +kernel) (fun _ _ _ h => h) (by rfl) ?_ ?_; rotate_left; (intro w hSw; (try dsimp only at hSw); go_simp; (try rw [if_pos hKI]); try with_reducible rfl); go_frame)
            | (refine pick_call (by decide +kernel) (by rfl) (fun KK hKK => ?_); go_simp
               first
               | (go_at_call 7; refine (fixed11_any _).mono ?_; rintro e w8 ⟨rfl, k8⟩; have kq : Kept [] wr w8 := Kept.trans (by assumption) k8)
               | (go_at_call 23; refine (arenaHas_any _ d p1 _ ((HYO.out.kept (by assumption)).arena K d HDK.out) HSM.out (by have := HMY.out; omega)).mono ?_; rintro e w8 ⟨rfl, k8⟩; rw [HBB.out]; have kq : Kept [] wr w8 := Kept.trans (by assumption) k8)
               | (go_at_call 24; refine (refHas11_any r p1 _ ((HDO.out.kept (by assumption)).is K r HRK.out) (by rw [← HRS.out]; exact HSM.out) (by rw [← HRS.out]; exact HMY.out)).mono ?_; rintro e w8 ⟨rfl, k8⟩; rw [HBB2.out]; have kq : Kept [] wr w8 := Kept.trans (by assumption) k8)
               (try dsimp only)
               refine hKK _ _ (held _ (by assumption)) ?_
               clear hKK KK))
          refine pick_done (by decide +kernel) ?_
          (try rw [beq_self_eq_true])
          go_wp2
          go_ret
          exact ⟨rfl, kkr.trans kq⟩
end Go.Proofs.Ytenhelbmcapfkaa

namespace Go.Proofs.Ytenhelbmcapfkaa
open Go.ChangeShapes Go.WideShapes Go.ChangeAt Go.RowKit

theorem pair_of : ∀ {zs : List Int}, zs.length = 2 → ∃ x y, zs = [x, y]
  | [x, y], _ => ⟨x, y, rfl⟩

set_option maxRecDepth 100000 in
set_option maxHeartbeats 1000000 in
theorem arenaPlays_lifted (os : Os) (started : os.Started) (H : Type) (enc : TypeId × Value → H) :
    ReturnsInHanded {} Try.checked os 3 .any (Rows.arenaPlaysSpec.pre6 enc Try.prog Try.f3 Rows.arenaPlaysRow.domain false) (Rows.arenaPlaysSpec.post enc Try.prog Try.f3 false true false false) := by
  refine returnsInHanded_of_change (C := Try.checked) law_own started (by kernel_rfl) Try.func3
    (ChangeSpec.witness6 (enc := enc) (C := Try.checked) false ⟨#[], #[.int .u8 0, .slice none 0 0, .agg #[.int .i64 0, .int .i64 0]], []⟩ 8 (by kernel_rfl) (by kernel_rfl) (by kernel_rfl) (by kernel_rfl)) ?_
  intro W base args ds gs before hval0 hW hcnd _
  have hval : ∀ (j : Nat) t v, Try.f3.params[j]? = some t → args[j]? = some v → Value.okWide Try.prog W .any base t v := hval0
  have hW' := hW
  obtain ⟨p, q, hA0, hV, rfl, hfz, hnd⟩ := hW
  have hA : DataW.TrodAll enc Try.prog W 0 (fun _ => true) true Try.f3.params.toList args.toList ds p := hA0
  rw [Try.params3] at hA hval
  have hK := hA
  obtain ⟨v0, v1, v2, d0, d1, d2, p0, p1, p2, rfl, rfl, rfl, h0, h1, h2⟩ := trodAll_three hA
  obtain ⟨rfl, rfl⟩ := trodVars_none hV
  obtain ⟨n, rfl, _, _, wn⟩ := open_int Try.underlying5 (hval 0 5 v0 rfl rfl) h0
  obtain ⟨a0, cap, rows, rfl, hs0, hmx⟩ := open_flat (ls := [.int .u8, .int .i64, .bool]) 4 Try.underlying22 (by kernel_rfl) (by kernel_rfl) (by decide) (hval 1 22 v1 rfl rfl) h1
  obtain ⟨zs, hz2, rfl, _⟩ := open_arr_int (n := 2) (k := .i64) Try.underlying23 Try.underlying3 (by kernel_rfl) (by kernel_rfl) (hval 2 23 v2 rfl rfl) h2
  obtain ⟨x, y, rfl⟩ := pair_of hz2
  obtain ⟨l, hll, hs, hbd⟩ := actsN_of hs0
  clear hA0 hval0
  have hwalk : Calls Try.prog 3 #[.int .u8 n, .slice a0 rows.length cap, .agg #[.int .i64 x, .int .i64 y]] W (FixedPost W) := by
    by_cases c2 : 80 < rows.length
    · exact arenaPlays_big n x y a0 rows.length cap W c2 hmx
    · rw [← hll]
      exact arenaPlays_law n x y a0 cap l W hs (by omega) (u8_le wn).1 (by have := (u8_le wn).2; omega) (fun x hx => by have := u8_le (hbd x hx); omega)
  refine hwalk.mono fun e W' ⟨he, hk⟩ => ?_
  subst he
  have bel : Below W.heap.size W W' := hk.below (by simp) (Nat.le_refl _)
  exact ⟨_, rfl, _, _, _, [], _, [], hW', trodAll_mk1 (shut_bool Try.underlying4 _), trodAll_below bel _ _ _ _ (by decide +kernel) hK, rfl, bel.frame _, fun h => by cases h⟩

theorem arenaPlays_holds : Rows.ArenaPlaysSaid :=
  OpenClaim.holds_of_wide 3 Try.f3 rfl rfl rfl rfl rfl rfl rfl ⟨rfl, rfl, rfl, rfl, rfl⟩ rfl rfl rfl rfl rfl (by kernel_rfl) Try.func3 (by kernel_rfl)
    (of_decide_eq_true (by kernel_rfl)) (by unfold Func.isWrapper; first | (rw [if_pos (by decide +kernel)]; kernel_rfl) | (rw [if_neg (by decide +kernel)]; exact ⟨rfl, rfl⟩))
    (fun os started H enc _ => arenaPlays_lifted os started H enc)
end Go.Proofs.Ytenhelbmcapfkaa
