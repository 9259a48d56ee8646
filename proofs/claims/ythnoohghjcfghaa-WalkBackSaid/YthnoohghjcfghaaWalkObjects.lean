/- Package walk: Objects. -/
import Derived.Test.YthnoohghjcfghaaWalkBegins
import Derived.Test.YthnoohghjcfghaaWalkOne
import Derived.Test.YthnoohghjcfghaaScope
namespace Go.Proofs.Ythnoohghjcfghaa
open Go.RowKit Go.Shelf

attribute [local go_sem] Oper.semAt_some

theorem thingB_eq (xs : List Int) (ls : List (List Int)) (r : RunZ) (hr : -9223372036854775808 ≤ r.1 ∧ r.1 ≤ 9223372036854775807) (hx : xs.length ≤ 16384) :
    thingB xs ls r = if (oneB xs ls (wrap64 (r.1 + 1))).2 = 0 ∧ sizeH (oneB xs ls (wrap64 (r.1 + 1))).1.h ≠ r.2 then ((oneB xs ls (wrap64 (r.1 + 1))).1, 11) else oneB xs ls (wrap64 (r.1 + 1)) := by
  have e : oneB xs ls (wrap64 (r.1 + 1)) = if 0 ≤ r.1 ∧ r.1 < (xs.length : Int) then oneN xs ls r.1.toNat else (Ob.zero, 8) := by
    unfold oneB wrap64
    by_cases h : 0 ≤ r.1 ∧ r.1 < (xs.length : Int)
    · have e : (r.1 + 1 + 9223372036854775808) % 18446744073709551616 - 9223372036854775808 = r.1 + 1 := by omega
      rw [if_pos h, e, if_pos (by omega), show r.1 + 1 - 1 = r.1 by omega]
    · rw [if_neg h, if_neg (by omega)]
  rw [e]
  unfold thingB
  by_cases h : 0 ≤ r.1 ∧ r.1 < (xs.length : Int)
  · simp only [if_pos h]
  · simp only [if_neg h]
    simp
theorem own_lies {β : Type} (X : Nat → Prop) (f : β → List ObL) : Own (fun (s : β) W => ∀ x ∈ f s, Lies W X x) :=
  fun _ _ _ _ hs hg hr => fun x hx => ⟨(hs x hx).1.grown hg hr, (hs x hx).2.grown hg hr⟩
theorem info_object : (Try.prog.info? 35).map (fun i => (i.zero, i.size, i.bytes)) = some (some (.agg #[.int .i64 0, .int .i64 0, .bool false, .int .i64 0, .int .i64 0, .int .i64 0, .slice none 0 0, .slice none 0 0]), 8, 96) := by kernel_rfl

/-- What a call leaves that answers objects and an error. -/
def ObjsAns (x : List Ob × Int) (w : World) (e : Ending) (w' : World) : Prop :=
  ∃ a cap, ∃ ol : List ObL, ol.map (·.o) = x.1 ∧ e = .returned (.tuple #[.slice a ol.length cap, .int .i64 x.2]) ∧ SlS ObL.cells 8 w' a ol ∧ (∀ l ∈ ol, Lies w' (fun _ => True) l) ∧ Kept [] w w'

/-- What stands of Objects' loop: the objects, so far. -/
def ObjsI (B C : Nat) (W0 : World) (xs : List Int) (ls : List (List Int)) (rs : List RunZ) (W : World) : Prop :=
  firstE xs ls rs = 0 ∧ (∃ (V : Value) (ol : List ObL), Row W B 42 [V] ∧ OwnS 35 ObL.cells 8 W W0.heap.size V ol ∧ (∀ l ∈ ol, Lies W (fun b => V.ownBlock ≠ some b ∧ b ≠ B ∧ b ≠ C) l) ∧ ol.map (·.o) = rs.map fun r => (thingB xs ls r).1) ∧
  Row W C 36 [.int .i64 0] ∧ Kept [B, C] W0 W
theorem ObjsI.own {β : Type} (f : β → List RunZ) (B C : Nat) (W0 : World) (xs : List Int) (ls : List (List Int)) : OwnFrom W0.heap.size (fun (s : β) W => ObjsI B C W0 xs ls (f s) W) := by
  rintro s W W' row ⟨h1, ⟨V, ol, h2, h3, h4, h5⟩, h6, h7⟩ hg hr
  exact ⟨h1, ⟨V, ol, Own.from (own_row (fun _ : Unit => [V])) W0.heap.size () W W' row h2 hg hr, Own.from (OwnS.own (fun _ : Unit => V) (fun _ => ol)) W0.heap.size () W W' row h3 hg hr, Own.from (own_lies _ (fun _ : Unit => ol)) W0.heap.size () W W' row h4 hg hr, h5⟩,
    Own.from (own_row (fun _ : Unit => _)) W0.heap.size () W W' row h6 hg hr, ownFrom_kept (Nat.le_refl _) () W W' row h7 hg hr⟩

set_option maxRecDepth 100000 in
set_option maxHeartbeats 4000000 in
theorem walkObjects_in (n : Nat) (hn : 3 ≤ n) (b g : Nat) (xs : List Int) (R : Option Addr) (rc : Nat) (rs : List RunZ) (A : Option Addr) (cap : Nat) (l : List Ty) (w : World) (hm : IsMem w b g xs) (hu : ∀ z ∈ xs, 0 ≤ z ∧ z < 18446744073709551616)
    (hr : SlS cellsZ 2 w R rs) (hrs : ∀ r ∈ rs, -9223372036854775808 ≤ r.1 ∧ r.1 ≤ 9223372036854775807) (hrl : rs.length ≤ 1099511627776) (hs : SlD w A l) (hx : ∀ t ∈ l, t.ks.length ≤ 100) :
    CallsIn Fence.wide n Try.prog 12 #[.pointer (some ⟨b, 0, none⟩), .slice R rs.length rc, .slice A l.length cap] w (ObjsAns (objsB xs (l.map Ty.ks) rs) w) := by
  have h1 : 1 ≤ n := by omega
  obtain ⟨i0, hi, hz0, hz1, hz2⟩ := info_parts info_object
  have hxl := hm.2.2
  obtain ⟨ls, hls⟩ : ∃ ls, l.map Ty.ks = ls := ⟨_, rfl⟩
  have HONE := Lib.hid (fun at_ W h1 h2 h3 => walkOne_any b g xs A cap l at_ W h1 hu h2 hx h3)
  rw [hls] at HONE ⊢
  clear hls
  refine callsIn_of_wp_marks Try.func12 rfl trivial ?_ rfl
  simp only [Try.ntmps12, List.size_toArray, List.length_cons, List.length_nil, Nat.reduceAdd, Nat.reduceSub, Array.replicate_succ, Array.replicate_zero, List.push_toArray, List.append_toArray, List.nil_append, List.cons_append]
  gi_wp2
  refine wpIn_scope_wide ?_
  gi_wp2
  refine wpIn_label_wide ?_
  gi_wp2
  refine ⟨trivial, (begins_in Fence.wide (n - 1) trivial rfl R rs.length rc _).mono ?_⟩
  rintro e w' ⟨rfl, rfl⟩
  simp only [World.size_alloc, Nat.add_assoc, Nat.reduceAdd]
  obtain ⟨W0, hW0, hz, k0, q0, q1, q2, q3, q4⟩ := five_new w (.cells #[.pointer (some ⟨b, 0, none⟩)] 27) (.cells #[.slice A l.length cap] 23) (.cells #[.slice none 0 0] 42) (.cells #[.int .i64 0] 36) (.cells #[.slice R rs.length rc] 24)
  have p0 : Row W0 w.heap.size 27 [.pointer (some ⟨b, 0, none⟩)] := q0
  have p1 : Row W0 (w.heap.size + 1) 23 [.slice A l.length cap] := q1
  have p2 : Row W0 (w.heap.size + 2) 42 [.slice none 0 0] := q2
  have p3 : Row W0 (w.heap.size + 3) 36 [.int .i64 0] := q3
  have p4 : Row W0 (w.heap.size + 4) 24 [.slice R rs.length rc] := q4
  rw [hW0]
  obtain ⟨P, hP⟩ : ∃ P, w.heap.size = P := ⟨_, rfl⟩
  have HP := Lib.hid hP
  rw [hP] at p0 p1 p2 p3 p4 hz ⊢
  clear q0 q1 q2 q3 q4 hW0
  have hm0 := hm.kept k0 (by simp) (by simp)
  have hs0 := hs.kept k0
  have hr0 := hr.kept k0
  have hbl : b < P ∧ g < P := ⟨by have := hm.1.lt; omega, by have := hm.2.1.lt; omega⟩
  have htl : ∀ k ∈ roadZ (P + 4) R rs, k ≠ P + 2 ∧ k ≠ P + 3 := by
    intro k hk
    rcases List.mem_cons.1 hk with rfl | hk
    · omega
    · have := roadZ_lt (S := b) hm.1.lt hr k (List.mem_cons_of_mem _ hk)
      omega
  have hroad := roadZ_lt p4.lt hr0
  clear hP
  gi_wp2
  refine wpIn_range_two 10 11 rfl h1 rfl trivial (enters_of Try.func42 (by kernel_rfl) rfl) (begins1_stops (n - 1) (P + 4) R rc rs hrs hrl W0 p4 hr0) KeepsL.trans (KeepsL.put hroad)
    (fun pre W => ObjsI (P + 2) (P + 3) W0 xs ls (runW pre) W)
    (fun k pre W => k = .exit 0 ∧ ∃ q r, runW pre = q ++ [r] ∧ firstE xs ls q = 0 ∧ (thingB xs ls r).2 ≠ 0 ∧ Row W (P + 3) 36 [.int .i64 (thingB xs ls r).2] ∧ Kept [P + 2, P + 3] W0 W)
    (ObjsI.own _ _ _ _ _ _) ?ix ⟨rfl, ⟨_, [], p2, OwnS.nil, by simp, rfl⟩, p3, Kept.refl _ _⟩ ?assign ?body ?done ?stop
  case ix =>
    rintro k s W W' row ⟨hk, q, r, h1, h2, h3, h4, h5⟩ hg hr
    exact ⟨hk, q, r, h1, h2, h3, Own.from (own_row (fun _ : Unit => _)) W0.heap.size () W W' row h4 hg hr, ownFrom_kept (Nat.le_refl _) () W W' row h5 hg hr⟩
  case assign =>
    intro l x W K hK
    simp only [encAt, encN, List.setIfInBounds_toArray, List.set_cons_succ, List.set_cons_zero] at hK ⊢
    gi_wp2
    exact hK
  case body =>
    rintro lp pre ⟨⟨r1, r2⟩, hrb⟩ W ⟨hfe, ⟨V, ol, hB, hown, hli, hmp⟩, hC, hkk⟩ hlt
    have kW : Kept [] w W := k0.chain hkk (by simp) (by have := HP.out; simp; omega)
    have hmW := hm.kept kW (by simp) (by simp)
    have hsW := hs.kept kW
    have w0 := p0.kept hkk (by simp)
    have w1 := p1.kept hkk (by simp)
    have hszW := hkk.size
    have c0 : W.cell? ⟨P, 0, none⟩ = some (.pointer (some ⟨b, 0, none⟩)) := by rw [w0.cell 0]; rfl
    have c1 : W.cell? ⟨P + 1, 0, none⟩ = some (.slice A l.length cap) := by rw [w1.cell 0]; rfl
    have HT := Lib.hid (thingB_eq xs ls (r1, r2) hrb hxl)
    have hat : -9223372036854775808 ≤ wrap64 (r1 + 1) ∧ wrap64 (r1 + 1) ≤ 9223372036854775807 := by unfold wrap64; omega
    have hap : runW (pre ++ [⟨(r1, r2), hrb⟩]) = runW pre ++ [(r1, r2)] := by rw [runW_append, runW_one]
    have HAP := Lib.hid hap
    have hpl : (runW pre).length < rs.length := by rw [runW_len]; exact hlt
    have HFE := Lib.hid hfe
    have HMP := Lib.hid hmp
    clear hap hfe hlt hmp w0 w1
    simp only [encAt, encN, List.setIfInBounds_toArray, List.set_cons_succ, List.set_cons_zero]
    simp only at HT
    generalize wrap64 (r1 + 1) = at_ at HT hat ⊢
    generalize runW pre = pre0 at HAP hpl HFE HMP
    gi_wp2_with fail
    refine ⟨trivial, (fun h => by cases h), CallsIn.inRound lp (callsIn_wide.2 ((HONE.out at_ W hmW hsW hat).mono ?_))⟩
    obtain ⟨⟨o1, e1⟩, hx1⟩ : ∃ x, oneB xs ls at_ = x := ⟨_, rfl⟩
    rw [hx1] at HT ⊢
    clear hx1
    rintro e w2 ⟨⟨⟨oat, ⟨oar, okd, oty, onn⟩, oks, ovs⟩, ka, kc, va, vc⟩, hlo, rfl, hlies, k2⟩
    simp only at hlo HT
    subst hlo
    simp only [ObL.cells] at HT ⊢
    have kA := (Kept.refl [] w2).alloc (.cells #[.int .i64 oat, .int .i64 0, .bool oar, .int .i64 okd, .int .i64 oty, .int .i64 onn, .slice ka oks.length kc, .slice va ovs.length vc] 35)
    have rO := Row.new w2 35 [.int .i64 oat, .int .i64 0, .bool oar, .int .i64 okd, .int .i64 oty, .int .i64 onn, .slice ka oks.length kc, .slice va ovs.length vc]
    have hB3 := (hB.kept k2 (by simp)).kept kA (by simp)
    have hC3 := (hC.kept k2 (by simp)).kept kA (by simp)
    have kk3 := k2.trans kA
    have c3 : (w2.alloc (.cells #[.int .i64 oat, .int .i64 0, .bool oar, .int .i64 okd, .int .i64 oty, .int .i64 onn, .slice ka oks.length kc, .slice va ovs.length vc] 35)).cell? ⟨P + 3, 0, none⟩ = some (.int .i64 0) := by rw [hC3.cell 0]; rfl
    have f3 := hC3.free 0
    have hszO := (k2.size)
    by_cases he : e1 = 0
    · subst he
      clear c0 c1
      gi_wp2_with fail
      refine ⟨trivial, (fun h => by cases h), CallsIn.inRound lp (callsIn_wide.2 ((size_any oar okd oty onn _).mono ?_))⟩
      rintro e w3 ⟨rfl, k3⟩
      have kk := kk3.trans k3
      have rO3 := rO.kept k3 (by simp)
      have rB := hB3.kept k3 (by simp)
      have rC := hC3.kept k3 (by simp)
      have hown3 := hown.keptS kk (by simp)
      have hnew := (hlies.kept (S := []) kA (by simp)).kept k3 (by simp)
      have hold := fun l hl => (hli l hl).kept kk (by simp)
      have hge := hown.ge
      have hlt := hown.lt
      have HBLK := Lib.hid (own_block hown)
      have hszK := kk.size
      have hOlt := rO3.lt
      have cC : w3.cell? ⟨P + 3, 0, none⟩ = some (.int .i64 0) := by rw [rC.cell 0]; rfl
      have fC := rC.free 0
      clear hB hC hown hli k2 kA rO hB3 hC3 kk3 c3 f3 k3 hlies
      obtain ⟨Oa, hOa⟩ : ∃ Oa, w2.heap.size = Oa := ⟨_, rfl⟩
      rw [hOa] at rO3 hOlt hszO ⊢
      clear hOa
      obtain ⟨sz, hsz⟩ : ∃ sz, sizeH ⟨oar, okd, oty, onn⟩ = sz := ⟨_, rfl⟩
      rw [hsz] at HT ⊢
      clear hsz
      have ht := HT.out
      by_cases hs : r2 = sz
      · subst hs
        rw [if_neg (fun h => h.2 rfl)] at ht
        have HT := Lib.hid ht
        clear ht
        have HFX := Lib.hid (show firstE xs ls (runW (pre ++ [⟨(r1, r2), hrb⟩])) = 0 by rw [HAP.out]; exact firstE_snoc HFE.out (by rw [HT.out]))
        have cB : w3.cell? ⟨P + 2, 0, none⟩ = some V := by rw [rB.cell 0]; rfl
        have d0 : w3.cell? ⟨Oa, 0, none⟩ = some (.int .i64 oat) := by simpa using rO3.cell 0
        have d1 : w3.cell? ⟨Oa, 1, none⟩ = some (.int .i64 0) := by simpa using rO3.cell 1
        have d2 : w3.cell? ⟨Oa, 2, none⟩ = some (.bool oar) := by simpa using rO3.cell 2
        have d3 : w3.cell? ⟨Oa, 3, none⟩ = some (.int .i64 okd) := by simpa using rO3.cell 3
        have d4 : w3.cell? ⟨Oa, 4, none⟩ = some (.int .i64 oty) := by simpa using rO3.cell 4
        have d5 : w3.cell? ⟨Oa, 5, none⟩ = some (.int .i64 onn) := by simpa using rO3.cell 5
        have d6 : w3.cell? ⟨Oa, 6, none⟩ = some (.slice ka oks.length kc) := by simpa using rO3.cell 6
        have d7 : w3.cell? ⟨Oa, 7, none⟩ = some (.slice va ovs.length vc) := by simpa using rO3.cell 7
        have hoL : ol.length ≤ 1099511627776 := by have := congrArg List.length HMP.out; simp at this; omega
        have hBz : W0.heap.size ≤ w3.heap.size := by have := hkk.size; omega
        gi_wp2_with (gi_at_builtin; refine wpListIn_append_s _ rfl _ _ 42 rfl W0.heap.size i0 _ 96 Try.underlying42 hi hz0 hz1 hz2 rfl (by decide) (by decide) w3 V ol ⟨⟨oat, ⟨oar, okd, oty, onn⟩, oks, ovs⟩, ka, kc, va, vc⟩ (ObL.cells_length _) (ObL.cells_one _) rfl rfl rfl hown3 hBz hoL ?_; intro g4 c4 W4 hown4 hk4 hat4; have rB4 := rB.kept hk4 (by intro hm; rw [Option.mem_toList] at hm; have := hge _ hm; omega); have cB4 : W4.cell? ⟨P + 2, 0, none⟩ = some V := (by rw [rB4.cell 0]; rfl); have fB4 := rB4.free 0)
        obtain ⟨V', hV'⟩ : ∃ V', Value.slice (some ⟨g4, 0, none⟩) (ol.length + 1) c4 = V' := ⟨_, rfl⟩
        have hVb : V'.ownBlock = some g4 := by rw [← hV']; rfl
        rw [hV'] at hown4 ⊢
        clear hV'
        have kS := (Kept.refl [P + 2] W4).set (p := ⟨P + 2, 0, none⟩) (.inl (by simp)) V'
        have k4 : Kept ((P + 2) :: V.ownBlock.toList) w3 _ := hk4.chain kS (by intro i hi _; exact List.mem_cons_of_mem _ hi) (by simp)
        have kA : Kept ((P + 2) :: V.ownBlock.toList) W _ := kk.chain k4 (by simp) (by intro i hi _; exact hi)
        have hgP : g4 ≠ P + 2 ∧ g4 ≠ P + 3 := by
          rcases hat4 with h' | h'
          · have := hge _ h'; omega
          · omega
        have hgo : V.ownBlock = some g4 ∨ w3.heap.size ≤ g4 := hat4
        refine ⟨KeepsFrom.of_keptC kA ?_, KeepsL.of_kept kA ?_ ?_, HFX.out, ⟨V', ol ++ [⟨⟨oat, ⟨oar, okd, oty, onn⟩, oks, ovs⟩, ka, kc, va, vc⟩], ?_, ?_, ?_, ?_⟩, ?_, ?_⟩
        · intro s hs
          rcases List.mem_cons.1 hs with rfl | hs
          · left; omega
          · rw [Option.mem_toList] at hs; exact .inr (HBLK.out _ hs).2
        · intro k hk; have := hroad k hk; omega
        · intro k hk hm
          rcases List.mem_cons.1 hm with rfl | hm
          · exact (htl _ hk).1 rfl
          · rw [Option.mem_toList] at hm; have := hge _ hm; have := hroad k hk; omega
        · simpa using rB4.set 0 V'
        · exact hown4.keptS kS (by rw [hVb]; intro j hj; cases hj; simpa using hgP.1)
        · intro x hx
          rcases List.mem_append.1 hx with hx | hx
          · have h1 := (hold x hx).mono (Y := fun b => (V.ownBlock ≠ some b ∧ b ≠ P + 2 ∧ b ≠ P + 3) ∧ b ≠ g4) (by
              intro b hb h
              refine ⟨h, ?_⟩
              rintro rfl
              rcases hgo with h' | h'
              · exact h.1 h'
              · omega)
            exact (h1.kept k4 (by
              intro b hb h
              rcases List.mem_cons.1 hb with rfl | hb
              · exact h.1.2.1 rfl
              · rw [Option.mem_toList] at hb; exact h.1.1 hb)).mono (by
              intro b _ h
              rw [hVb]
              exact ⟨fun e => h.2 (by cases e; rfl), h.1.2⟩)
          · obtain rfl := List.mem_singleton.1 hx
            have h1 := hnew.mono (Y := fun b => W.heap.size ≤ b ∧ b ≠ g4) (by
              intro b hb h
              refine ⟨h, ?_⟩
              rintro rfl
              rcases hgo with h' | h'
              · have := hlt _ h'; omega
              · omega)
            exact (h1.kept k4 (by
              intro b hb h
              rcases List.mem_cons.1 hb with rfl | hb
              · have := h.1; omega
              · rw [Option.mem_toList] at hb; have := hlt _ hb; have := h.1; omega)).mono (by
              intro b _ h
              rw [hVb]
              exact ⟨fun e => h.2 (by cases e; rfl), by have := h.1; omega, by have := h.1; omega⟩)
        · rw [HAP.out, List.map_append, List.map_append, HMP.out]; simp [HT.out]
        · have rC4 := rC.kept k4 (by
            intro hm
            rcases List.mem_cons.1 hm with h | hm
            · omega
            · rw [Option.mem_toList] at hm; have := hge _ hm; omega)
          exact rC4
        · exact hkk.chain kA (by simp) (by
            intro i hi hl
            rcases List.mem_cons.1 hi with rfl | hi
            · simp
            · rw [Option.mem_toList] at hi; have := hge _ hi; omega)
      · have hs' : (r2 != sz) = true := by simpa using hs
        rw [if_pos ⟨trivial, fun h => hs h.symm⟩] at ht
        have HT := Lib.hid ht
        clear ht
        gi_wp2
        have kE := (kk.any (S := [P + 3])).set (p := ⟨P + 3, 0, none⟩) (.inl (by simp)) (.int .i64 11)
        refine ⟨KeepsFrom.of_keptC kE (by intro s hs; left; simp at hs; omega), rfl, pre0, (r1, r2), HAP.out, HFE.out, by rw [HT.out]; exact (by decide : (11 : Int) ≠ 0), ?_, hkk.trans (kE.mono (by simp))⟩
        rw [HT.out]
        simpa using rC.set 0 (.int .i64 11)
    · have he' : (e1 != 0) = true := by simpa using he
      have ht := HT.out
      rw [if_neg (fun h => he h.1)] at ht
      have HT := Lib.hid ht
      clear ht
      clear hB hC c0 c1 hown hli
      gi_wp2
      have kE := (kk3.any (S := [P + 3])).set (p := ⟨P + 3, 0, none⟩) (.inl (by simp)) (.int .i64 e1)
      refine ⟨KeepsFrom.of_keptC kE (by intro s hs; left; simp at hs; omega), rfl, pre0, (r1, r2), HAP.out, HFE.out, by rw [HT.out]; exact he, ?_, hkk.trans (kE.mono (by simp))⟩
      rw [HT.out]
      simpa using hC3.set 0 (.int .i64 e1)
  case done =>
    rintro D ys W hD hys ⟨hfe, ⟨V, ol, hB, hown, hli, hmp⟩, hC, hkk⟩ hK
    rw [hys] at hfe hmp
    have HR := Lib.hid (objsB_none hfe)
    have HMP := Lib.hid hmp
    obtain ⟨a, c, rfl, hsl, hA⟩ := hown.slice ObL.cells_length
    have cB : W.cell? ⟨P + 2, 0, none⟩ = some (.slice a ol.length c) := by rw [hB.cell 0]; rfl
    have cC : W.cell? ⟨P + 3, 0, none⟩ = some (.int .i64 0) := by rw [hC.cell 0]; rfl
    have hKc : ∀ v : Value, ∀ off : Nat, W.cell? ⟨D, off, none⟩ ≠ some v := by
      intro v off h
      obtain ⟨o, ho, hc⟩ := isCells_of_cell h
      simp at ho; rw [hK] at ho; cases ho; cases hc
    have kP : Kept [D] W (W.putObj D (.deferred none)) := (Kept.refl [D] W).put (r := D) (.inl (by simp)) (.deferred none)
    clear hfe hmp hys
    gi_wp2
    try rw [Exit.noGoto_ret]
    refine ⟨by simp, .inl ⟨_, _, rfl, run_takeDeferred hK, ?_⟩⟩
    have kD : Kept [P + 2, P + 3] W0 (W.putObj D (.deferred none)) := hkk.put (.inr hD) _
    refine ⟨_, results_tmp2 rfl _ _ _, ?_⟩
    have hg : W.grownBy (W.putObj D (.deferred none)) (some D) := ⟨kP.os, kP.tape, kP.output, kP.size, fun k hk hne => kP.block k hk (by intro hm; simp at hm; exact hne (by rw [hm]))⟩
    have hgr : ∀ r, some D = some r → ∃ o : Obj, W.heap[r]? = some o ∧ o.isCells = false := fun r hr => by cases hr; exact ⟨_, hK, rfl⟩
    rw [HR.out]
    refine ⟨a, c, ol, HMP.out, rfl, ?_, fun x hx => Lies.mono (X := fun b => Value.ownBlock (.slice a ol.length c) ≠ some b ∧ b ≠ P + 2 ∧ b ≠ P + 3) ⟨(hli x hx).1.grown hg hgr, (hli x hx).2.grown hg hgr⟩ (fun _ _ _ => trivial), k0.chain kD (by simp) (by have := HP.out; simp; omega)⟩
    rcases hsl with h | ⟨b', off, rfl, hb, hc⟩
    · exact .inl h
    · cases ol with
      | nil => exact .inl rfl
      | cons y t => exact SlS.keptS (.inr ⟨b', off, rfl, hb, hc⟩) kP (by
          intro b2 o2 e
          cases e
          intro hm
          obtain rfl := List.mem_singleton.1 hm
          exact hKc (.int .i64 y.o.at_) _ (hc 0 y rfl 0 (by omega)))
  case stop =>
    rintro D k pre W hD ⟨t, ht⟩ ⟨rfl, q, r, hq, hfe, hne, hC, hkk⟩ hK
    rw [hq, List.append_assoc] at ht
    have HR := Lib.hid (firstE_met hfe hne ht.symm)
    have cC : W.cell? ⟨P + 3, 0, none⟩ = some (.int .i64 (thingB xs ls r).2) := by rw [hC.cell 0]; rfl
    obtain ⟨er, her⟩ : ∃ er, (thingB xs ls r).2 = er := ⟨_, rfl⟩
    rw [her] at cC HR hne
    have hne' : (er != 0) = true := by simpa using hne
    clear her hfe hq ht hC
    have hKd : ∀ n, (W.drewN n).heap[D]? = some (.deferred (some [])) := fun n => by
      have : (W.drewN n).heap = W.heap := by
        induction n with
        | zero => rfl
        | succ n ih => exact ih
      rw [this]; exact hK
    gi_wp2
    gi_quiet (fail)
    gi_wp2
    try rw [Exit.noGoto_ret]
    refine ⟨by simp, .inl ⟨_, _, rfl, run_takeDeferred (hKd _), ?_⟩⟩
    have kD := fun n o => (hkk.drewN n).put (r := D) (.inr hD) o
    refine ⟨_, results_tmp2 rfl _ _ _, ?_⟩
    rw [HR.out]
    exact ⟨none, 0, [], rfl, rfl, .inl rfl, by simp, k0.chain (kD _ _) (by simp) (by have := HP.out; simp; omega)⟩

theorem walkObjects_any (b g : Nat) (xs : List Int) (R : Option Addr) (rc : Nat) (rs : List RunZ) (A : Option Addr) (cap : Nat) (l : List Ty) (w : World) (hm : IsMem w b g xs) (hu : ∀ z ∈ xs, 0 ≤ z ∧ z < 18446744073709551616)
    (hr : SlS cellsZ 2 w R rs) (hrs : ∀ r ∈ rs, -9223372036854775808 ≤ r.1 ∧ r.1 ≤ 9223372036854775807) (hrl : rs.length ≤ 1099511627776) (hs : SlD w A l) (hx : ∀ t ∈ l, t.ks.length ≤ 100) :
    Calls Try.prog 12 #[.pointer (some ⟨b, 0, none⟩), .slice R rs.length rc, .slice A l.length cap] w (ObjsAns (objsB xs (l.map Ty.ks) rs) w) :=
  (callsIn_wide (n := 3)).1 (walkObjects_in 3 (by omega) b g xs R rc rs A cap l w hm hu hr hrs hrl hs hx)

set_option maxRecDepth 100000 in
set_option maxHeartbeats 2000000 in
theorem walkObjects_nil (R : Value) (A : Option Addr) (al ac : Nat) (w : World) :
    Calls Try.prog 12 #[.pointer none, R, .slice A al ac] w (fun e w' => e = .returned (.tuple #[.slice none 0 0, .int .i64 1]) ∧ Kept [] w w') := by
  have k0 := ((Kept.refl [] w).alloc (.cells #[.pointer none] 27)).alloc (.cells #[.slice A al ac] 23)
  refine (callsIn_wide (n := 3)).1 (callsIn_of_wp_marks Try.func12 rfl trivial ?_ rfl)
  simp only [Try.ntmps12, List.size_toArray, List.length_cons, List.length_nil, Nat.reduceAdd, Nat.reduceSub, Array.replicate_succ, Array.replicate_zero, List.push_toArray, List.append_toArray, List.nil_append, List.cons_append]
  gi_wp2
  refine wpIn_scope_wide ?_
  gi_wp2
  try rw [Exit.noGoto_ret]
  exact ⟨_, results_tmp2 rfl _ _ _, rfl, k0⟩
end Go.Proofs.Ythnoohghjcfghaa
