/- Package ops: Get. -/
import Derived.Test.YtpeekhlccjoioaaOpsChunk
import Derived.Test.YtpeekhlccjoioaaOpsRefGet
namespace Go.Proofs.Ytpeekhlccjoioaa
open Go.RowKit Go.Shelf

attribute [local go_sem] Oper.semAt_some
attribute [local simp] wide_fn
attribute [local go_sem] wide_fn

/-- What Get answers. -/
def GetPost (bs : List Int) (w : World) (e : Ending) (w' : World) : Prop :=
  Kept [] w w' ∧ ((bs.length % 25 ≠ 0 ∧ e = .returned (.tuple #[.slice none 0 0, .int .i64 10])) ∨
    (bs.length % 25 = 0 ∧ ∃ a c, e = .returned (.tuple #[.slice a (bs.length / 25) c, .int .i64 0]) ∧ SlS opC 4 w' a (opsR bs (bs.length / 25))))

/-- append of one thing of several cells, as one step of a region inside a fence. -/
theorem wpIn_append_z {F : Fence} {nF : Nat} {α : Type} {c : α → List Value} {k : Nat} {e : TypeId} {P : Program} {w : World} {o : Oper} {a : Act} {K : Act → World → Prop} {Q : Exit → Act → World → Prop} (s x : Operand) (t : TypeId)
    (ho : o.op = .call { callee := .builtin .append, args := #[s, x], argTypes := #[t, t] }) (B : Nat) (i : TypeInfo) (z : Value) (bytes : Nat) (ht : P.underlying t = some (.slice e)) (hi : P.info? e = some i) (hz : i.zero = some z)
    (hsize : i.size = k) (hby : i.bytes = bytes) (hzs : z.cells.size = k) (hk0 : 0 < k) (hb : bytes ≤ 96) (v : Value) (xs : List α) (y : α) (hc : (c y).length = k) (h1 : ∀ u ∈ c y, u.oneCell' = true)
    (hs : a.eval s = v) (E : Nat) (hx : a.eval x = .slice (some ⟨E, 0, none⟩) 1 1) (rE : Row w E e (c y)) (hown : OwnS e c k w B v xs) (hB : B ≤ w.heap.size) (hl : xs.length ≤ 1099511627776)
    (h : ∀ g' c' w', OwnS e c k w' B (.slice (some ⟨g', 0, none⟩) (xs.length + 1) c') (xs ++ [y]) → Kept (v.ownBlock.toList) w w' → (v.ownBlock = some g' ∨ w.heap.size ≤ g') → K (a.put o.dst (.slice (some ⟨g', 0, none⟩) (xs.length + 1) c')) w') : o.wpIn F nF P a w K Q := by
  have hbytes : (xs.length + 1) * bytes ≤ 140737488355328 := Nat.le_trans (Nat.mul_le_mul (show xs.length + 1 ≤ 1099511627777 by omega) hb) (by omega)
  obtain ⟨v', w', hr, hown', hg, _, hat⟩ := run_append_own_at (P := P) w B t o.type e i z k bytes ht hi hz hsize hby hzs hk0 v xs.length (flatS c xs) hown
    ⟨E, 0, none⟩ 1 1 (c y) (by rw [hc, Nat.one_mul]) (fun j u hu => by rw [add_none, Nat.zero_add]; exact (rE.cell j).trans hu) h1 (by unfold maxLen; omega) hbytes hB
  unfold Oper.wpIn
  refine ⟨?_, ?_⟩
  · simp [Oper.about, ho, resolve, Target.leads]
  · rw [Oper.semAt_eq F.round _ _ (by rw [ho]; intro c hc'; cases hc')]
    unfold execOp
    simp only [ho, resolve, invoke, builtin, Sem.run_bind, Sem.run_pure, Result.andThen_ok, List.map_toArray, List.map_cons, List.map_nil, hs, hx, hr]
    rcases hown'.2 with ⟨_, h0⟩ | ⟨g', cap', cur, rfl, _⟩
    · omega
    · refine h g' cap' w' (by unfold OwnS; rw [flatS_snoc]; simpa using hown') (Kept.of_own hg) ?_
      rcases hat with h' | h'
      · exact .inl h'.symm
      · right
        have : g' = w.heap.size := by simpa [Value.ownBlock] using h'
        rw [this]; exact Nat.le_refl _

set_option maxRecDepth 100000 in
theorem opsGet_short (A : Option Addr) (bs : List Int) (c : Nat) (w : World) (h25 : bs.length % 25 ≠ 0) :
    Calls Try.prog 8 #[.slice A bs.length c] w (GetPost bs w) := by
  obtain ⟨N, hn⟩ : ∃ N, bs.length = N := ⟨_, rfl⟩
  have hmod : ((N : Int).tmod 25) = ((N % 25 : Nat) : Int) := (Int.ofNat_tmod N 25).symm
  have H25 := Lib.hid h25
  rw [hn] at h25 ⊢
  have hpos : (((N % 25 : Nat) : Int) != 0) = true := by rw [bne_iff_ne]; omega
  generalize N % 25 = r at hmod hpos
  clear h25 hn
  go_enter Try.func8, Try.ntmps8
  go_wp2
  go_ret2
  exact ⟨Kept.refl _ _, .inl ⟨H25.out, rfl⟩⟩

/-- What the loop holds: the slice in its variable's block O. -/
def OutO (O G0 : Nat) (W0 : World) (L : List OpN) (W : World) : Prop :=
  (∃ V, Row W O 22 [V] ∧ OwnS 39 opC 4 W G0 V L ∧ (∀ j, V.ownBlock = some j → j = G0 ∨ W0.heap.size ≤ j)) ∧ Kept [O, G0] W0 W
theorem OutO.own {β : Type} (f : β → List OpN) (O G0 : Nat) (W0 : World) : OwnFrom W0.heap.size (fun (s : β) W => OutO O G0 W0 (f s) W) := by
  rintro s W W' row ⟨⟨V, h1, h2, h3⟩, h4⟩ hg hr
  refine ⟨⟨V, Own.from (own_row (fun _ : Unit => [V])) W0.heap.size () W W' row h1 hg hr, ?_, h3⟩, ownFrom_kept (β := Unit) (Nat.le_refl _) () W W' row h4 hg hr⟩
  exact Own.from (OwnS.own (β := Unit) (fun _ => V) (fun _ => f s)) W0.heap.size () W W' row h2 hg hr
theorem opC_one (y : OpN) : ∀ u ∈ opC y, u.oneCell' = true := by intro u hu; simp [opC] at hu; rcases hu with rfl | rfl | rfl | rfl <;> rfl
theorem opC_eq (x : OpN) : Value.agg (opC x).toArray = Value.agg #[.int .i64 x.k, .int .u64 x.a, .int .u64 x.b, .int .u64 x.c] := rfl

set_option maxRecDepth 100000 in
set_option maxHeartbeats 4000000 in
theorem opsGet_in (n : Nat) (h1 : 2 ≤ n) (A : Option Addr) (bs : List Int) (c : Nat) (w : World) (hb : ByB bs) (hs : Sl w .u8 A bs) (hm : bs.length ≤ 2500) (hc : bs.length ≤ c) (hcm : c ≤ maxLen) (h25 : bs.length % 25 = 0) :
    CallsIn Fence.wide n Try.prog 8 #[.slice A bs.length c] w (GetPost bs w) := by
  obtain ⟨i0, hi, hz0, hz1, hz2⟩ := info_parts Try.infoU39
  obtain ⟨N, hn⟩ : ∃ N, bs.length = N := ⟨_, rfl⟩
  have hmod : ((N : Int).tmod 25) = ((N % 25 : Nat) : Int) := (Int.ofNat_tmod N 25).symm
  have hdiv : ((N : Int).tdiv 25) = ((N / 25 : Nat) : Int) := (Int.ofNat_tdiv N 25).symm
  have HN := Lib.hid hn
  rw [hn] at hm hc h25 ⊢
  obtain ⟨k, hk⟩ : ∃ k, N = 25 * k := ⟨N / 25, by omega⟩
  have hmod0 : ((N : Int).tmod 25) = 0 := by rw [hmod, h25]; rfl
  have hdk : ((N : Int).tdiv 25) = (k : Int) := by rw [hdiv]; omega
  have hkb : k ≤ 100 := by omega
  have hwk : wrap64 (k : Int) = (k : Int) := IntWalk.wrap64_in _ (by omega)
  have HK := Lib.hid hk
  have H25 := Lib.hid h25
  have HK2 : Hid (N / 25 = k) := by show _ = _; omega
  have hdd : ∀ k : Nat, ((Fence.wide).depth.isSome = true → 1 ≤ k) := fun k h => by cases h
  clear hmod hdiv hn hk h25
  refine callsIn_of_wp_marks Try.func8 rfl trivial ?_ rfl
  simp only [Try.ntmps8, List.size_toArray, List.length_cons, List.length_nil, Nat.reduceAdd, Nat.reduceSub, Array.replicate_succ, Array.replicate_zero, List.push_toArray, List.append_toArray, List.nil_append, List.cons_append]
  gi_wp2_with (first | (refine wpListIn_make_own _ rfl _ _ 22 rfl w.heap.size 39 i0 (.agg #[.int .i64 0, .int .u64 0, .int .u64 0, .int .u64 0]) 4 Try.underlying22 hi hz0 hz1 .i64 .i64 _ k rfl rfl rfl (by rw [hz2]; omega) (by unfold maxLen; omega) (Nat.le_refl _) ?_; intro w1 hown1 hg1) | fail)
  refine ⟨hdd _, (chunk_in Fence.wide (n - 1) trivial rfl A N c _).mono ?_⟩
  rintro e w' ⟨rfl, rfl⟩
  have hOw : OwnS 39 opC 4 w1 w.heap.size (.slice (some ⟨w.heap.size, 0, none⟩) 0 k) ([] : List OpN) := hown1
  have k1 := Kept.of_grown0 hg1
  have hG1 := own_lt hown1
  obtain ⟨W0, hW0, hz, k0, r0, r1, r2⟩ := three_new w1 (.cells #[.slice (some ⟨w.heap.size, 0, none⟩) 0 k] 22) (.cells #[.slice A N c] 24) (.cells #[.int .i64 25] 3)
  have q0 : Row W0 w1.heap.size 22 [.slice (some ⟨w.heap.size, 0, none⟩) 0 k] := r0
  have q1 : Row W0 (w1.heap.size + 1) 24 [.slice A N c] := r1
  have q2 : Row W0 (w1.heap.size + 2) 3 [.int .i64 25] := r2
  have hO0 := hOw.keptS k0 (by simp)
  simp only [World.size_alloc, Nat.add_assoc, Nat.reduceAdd]
  rw [hW0]
  have hk0 := k1.trans k0
  obtain ⟨b, off, hA2⟩ : ∃ b off, 0 < k → A = some ⟨b, off, none⟩ ∧ b < w.heap.size := by
    rcases hs with h | ⟨b, off, e, hbl, _⟩
    · refine ⟨0, 0, fun hk => ?_⟩
      have e1 := HN.out; have e2 := HK.out
      rw [h] at e1; simp at e1; omega
    · exact ⟨b, off, fun _ => ⟨e, hbl⟩⟩
  have hA := fun h => (hA2 h).1
  have hbl := fun h => (hA2 h).2
  clear hA2
  have hsW := hs.kept hk0
  obtain ⟨O, hO⟩ : ∃ O, w1.heap.size = O := ⟨_, rfl⟩
  obtain ⟨G0, hG0⟩ : ∃ G, w.heap.size = G := ⟨_, rfl⟩
  rw [hO] at q0 q1 q2 hz hG1 ⊢
  rw [hG0] at q0 hO0 hG1 hbl
  have HG0 := Lib.hid hG0
  clear r0 r1 r2 hW0 hown1 hOw hg1 k1 k0 hs hO hG0
  clear w1
  have q1' : Row W0 (O + 1) 24 [.slice A (25 * k) c] := by rw [← HK.out]; exact q1
  gi_wp2_with fail
  refine wpIn_range_some 5 rfl (by omega) rfl trivial (enters_of Try.func20 (by kernel_rfl) rfl) (chunk1_stops (n - 1) (O + 1) (O + 2) b off k c A hA (by omega) (by rw [← HK.out]; exact hc) hcm W0 q1' q2) KeepsL.trans (KeepsL.put (by simp; omega))
    (fun pre W => OutO O G0 W0 (pre.map (fun x : PcI k => opR bs (25 * x.1))) W)
    (fun _ _ _ => False)
    (OutO.own _ _ _ _) (fun _ _ _ _ _ h _ _ => h) ⟨⟨_, q0, hO0, by intro j hj; cases hj; exact .inl rfl⟩, Kept.refl _ _⟩ ?assign ?body ?done ?stop
  case assign =>
    intro l x W K hK
    simp only [pcV, List.setIfInBounds_toArray, List.set_cons_succ, List.set_cons_zero] at hK ⊢
    gi_wp2
    exact hK
  case body =>
    rintro l pre ⟨p, hp⟩ W ⟨⟨V, hB, hown, hVb⟩, hkk⟩ hlt
    have HMAP : Hid ((pre ++ [(⟨p, hp⟩ : PcI k)]).map (fun x : PcI k => opR bs (25 * x.1)) = pre.map (fun x : PcI k => opR bs (25 * x.1)) ++ [opR bs (25 * p)]) := by show _ = _; rw [List.map_append]; rfl
    obtain ⟨L, hL⟩ : ∃ L, pre.map (fun x : PcI k => opR bs (25 * x.1)) = L := ⟨_, rfl⟩
    have hLl : L.length ≤ 100 := by rw [← hL, List.length_map]; omega
    rw [hL] at hown HMAP
    clear hL
    obtain rfl := hA (by omega)
    have hpp : 25 * p + 25 ≤ bs.length := by have := HN.out; have := HK.out; omega
    have HB : Hid (opR ((bs.drop (25 * p)).take 25) 0 = opR bs (25 * p)) := by
      show _ = _
      have e : ∀ q, q + 8 ≤ 25 → (((bs.drop (25 * p)).take 25).drop q).take 8 = (bs.drop (25 * p + q)).take 8 := fun q hq => by
        rw [List.drop_take, List.take_take, List.drop_drop, Nat.min_eq_left (by omega)]
      unfold opR
      simp only [Nat.zero_add]
      rw [e 1 (by omega), e 9 (by omega), e 17 (by omega), List.getElem?_take, if_pos (by omega), List.getElem?_drop, Nat.add_zero]
    have HOP : Hid (∀ W', Kept [] W W' → Calls Try.prog 16 #[.slice (some ⟨b, off + 25 * p, none⟩) 25 25] W' fun e w' => e = .returned (.agg (opC (opR bs (25 * p))).toArray) ∧ Kept [] W' w') := by
      intro W' hk'
      rw [← HB.out]
      have hsl : Sl W .u8 (some ⟨b, off, none⟩) bs := by
        refine hsW.keptS hkk ?_
        intro b' off' e
        cases e
        have := hbl (by omega)
        simp; omega
      exact opOf_any b (off + 25 * p) _ W' (fun x hx => hb x (List.mem_of_mem_drop (List.mem_of_mem_take hx))) (by simp; omega) (((hsl.kept hk').from (25 * p)).take 25)
    generalize opR bs (25 * p) = y at HOP HMAP
    have hVO : V.ownBlock ≠ some O := fun e => by rcases hVb O e with h | h <;> omega
    have HVb := Lib.hid hVb
    have cB : W.drew.cell? ⟨O, 0, none⟩ = some V := by simpa using hB.drew.cell 0
    have kW := (Kept.refl [] W).drew
    have hBd := hB.drew
    have hownd := hown.keptS kW (by simp)
    have hWz := hkk.size
    have HBLK := Lib.hid (own_block hown)
    have HEND : Hid (∀ W' g3 c3, Kept (O :: V.ownBlock.toList) W W' → Row W' O 22 [.slice (some ⟨g3, 0, none⟩) (L.length + 1) c3] → OwnS 39 opC 4 W' G0 (.slice (some ⟨g3, 0, none⟩) (L.length + 1) c3) (L ++ [y]) → (g3 = G0 ∨ W0.heap.size ≤ g3) →
        KeepsFrom W0.heap.size W W' ∧ KeepsL [O + 1, O + 2] W W' ∧ OutO O G0 W0 ((pre ++ [(⟨p, hp⟩ : PcI k)]).map (fun x : PcI k => opR bs (25 * x.1))) W') := by
      intro W' g3 c3 kA rB ho hg
      have hin : ∀ i, i ∈ O :: V.ownBlock.toList → i = O ∨ i = G0 ∨ W0.heap.size ≤ i := by
        intro i hi
        rcases List.mem_cons.1 hi with rfl | hi
        · exact .inl rfl
        · rw [Option.mem_toList] at hi; exact .inr (HVb.out i hi)
      refine ⟨KeepsFrom.of_keptC kA ?_, KeepsL.of_kept kA ?_ ?_, ⟨⟨_, rB, by rw [HMAP.out]; exact ho, by intro j hj; cases hj; exact hg⟩, hkk.chain kA (by intro i hi _; exact hi) ?_⟩⟩
      · intro s hs
        rcases List.mem_cons.1 hs with rfl | hs
        · left; omega
        · rw [Option.mem_toList] at hs; exact .inr (HBLK.out _ hs).2
      · intro i hi; simp at hi; omega
      · intro i hi hm
        rcases hin i hm with h | h | h <;> simp at hi <;> omega
      · intro i hi hl
        rcases hin i hi with h | h | h
        · simp [h]
        · simp [h]
        · omega
    clear hB hown hkk hVb HBLK
    have hB := hBd
    have hown := hownd
    clear hBd hownd
    have hk := kW
    simp only [pcV, List.setIfInBounds_toArray, List.set_cons_succ, List.set_cons_zero]
    gi_wp2_with fail
    refine wpIn_region_any (by kernel_rfl) ?_
    change wpAnyIn _ _ _ _ _ _ _ _ _ (World.drew _)
    generalize W.drew = wd at hB hown hk kW cB ⊢
    refine wpAnyIn_ready (rs := [0, 1]) (by kernel_rfl) (by simp) ?_
    refine AllReadyIn.cons rfl (fun K hK => ?_) (AllReadyIn.cons rfl (fun K hK => ?_) AllReadyIn.nil)
    · rw [if_pos (by rfl)]
      go_simp
      refine hK _ _ ?_
      clear hK K cB
      refine wpAnyIn_ready (rs := [1]) (by kernel_rfl) (by simp) ?_
      refine AllReadyIn.cons rfl (fun K hK => ?_) AllReadyIn.nil
      rw [if_pos (by rfl)]
      go_simp
      refine hK _ _ ?_
      clear hK K
      refine wpAnyIn_ready (rs := [2]) (by kernel_rfl) (by simp) ?_
      refine AllReadyIn.cons rfl (fun K hK => ?_) AllReadyIn.nil
      rw [if_pos (by rfl)]
      go_simp
      refine ⟨hdd _, CallsIn.inRound _ ((callsIn_wide.2 (HOP.out wd hk)).mono ?_)⟩
      rintro e w2 ⟨rfl, kn⟩
      have hk := hk.trans kn
      have hB := hB.kept kn (by simp)
      have hown := hown.keptS kn (by simp)
      have kW := kW.trans kn
      have cB : w2.cell? ⟨O, 0, none⟩ = some V := by simpa using hB.cell 0
      refine hK _ _ ?_
      clear hK K kn
      refine wpAnyIn_ready (rs := [3]) (by kernel_rfl) (by simp) ?_
      refine AllReadyIn.cons rfl (fun K hK => ?_) AllReadyIn.nil
      rw [if_pos (by rfl)]
      have rE := Row.new w2 39 (opC y)
      have kn := (Kept.refl [] w2).alloc (.cells (opC y).toArray 39)
      have hk := hk.trans kn
      have hB := hB.kept kn (by simp)
      have hown := hown.keptS kn (by simp)
      have kW := kW.trans kn
      obtain ⟨E, hE⟩ : ∃ E, w2.heap.size = E := ⟨_, rfl⟩
      rw [hE] at rE
      go_simp
      refine hK _ _ ?_
      clear hK K kn
      change wpAnyIn _ _ _ _ _ _ _ _ _ (w2.alloc (.cells (opC y).toArray 39))
      clear cB
      generalize w2.alloc (.cells (opC y).toArray 39) = w3 at *
      have cB : w3.cell? ⟨O, 0, none⟩ = some V := by simpa using hB.cell 0
      refine wpAnyIn_ready (rs := [4]) (by kernel_rfl) (by simp) (AllReadyIn.cons rfl (fun K hK => ?_) AllReadyIn.nil)
      rw [if_pos (by rfl)]
      refine wpIn_append_z (c := opC) (k := 4) _ _ 22 rfl G0 i0 _ 32 Try.underlying22 hi hz0 hz1 hz2 rfl (by omega) (by omega) V L y rfl (opC_one y) rfl E (by rw [← hE]; rfl) rE hown (by have := kW.size; have := hk.size; omega) (by omega) ?_
      intro g3 c3 w4 ho3 hk3 hat3
      refine hK _ _ ?_
      clear hK K
      have hB4 := hB.kept hk3 (by rw [Option.mem_toList]; exact hVO)
      have cB4 : w4.cell? ⟨O, 0, none⟩ = some V := by simpa using hB4.cell 0
      have fB4 := hB4.free 0
      have rB5 := hB4.set 0 (.slice (some ⟨g3, 0, none⟩) (L.length + 1) c3)
      have kS := (Kept.refl [O] w4).set (p := ⟨O, 0, none⟩) (.inl (by simp)) (.slice (some ⟨g3, 0, none⟩) (L.length + 1) c3)
      refine wpAnyIn_ready (rs := [5]) (by kernel_rfl) (by simp) (AllReadyIn.cons rfl (fun K hK => ?_) AllReadyIn.nil)
      rw [if_pos (by rfl)]
      go_simp
      refine hK _ _ ?_
      clear hK K
      refine wpAnyIn_done (by kernel_rfl) ?_ _
      have kA : Kept (O :: V.ownBlock.toList) W _ := (kW.chain hk3 (U := O :: V.ownBlock.toList) (by simp) (by intro i hi _; exact List.mem_cons_of_mem _ hi)).chain kS (by intro i hi _; exact hi) (by simp)
      exact HEND.out _ g3 c3 kA rB5 (ho3.keptS kS (by simp [Value.ownBlock]; intro e; subst e; rcases hat3 with h' | h'; exact hVO h'; have := hB.lt; have := kW.size; omega)) (by rcases hat3 with h' | h'; exact (HVb.out g3 h'); right; have := hk.size; omega)
    · rw [if_pos (by rfl)]
      go_simp
      refine hK _ _ ?_
      clear hK K
      refine wpAnyIn_ready (rs := [0, 2]) (by kernel_rfl) (by simp) ?_
      refine AllReadyIn.cons rfl (fun K hK => ?_) (AllReadyIn.cons rfl (fun K hK => ?_) AllReadyIn.nil)
      · rw [if_pos (by rfl)]
        go_simp
        refine hK _ _ ?_
        clear hK K cB
        refine wpAnyIn_ready (rs := [2]) (by kernel_rfl) (by simp) ?_
        refine AllReadyIn.cons rfl (fun K hK => ?_) AllReadyIn.nil
        rw [if_pos (by rfl)]
        go_simp
        refine ⟨hdd _, CallsIn.inRound _ ((callsIn_wide.2 (HOP.out wd hk)).mono ?_)⟩
        rintro e w2 ⟨rfl, kn⟩
        have hk := hk.trans kn
        have hB := hB.kept kn (by simp)
        have hown := hown.keptS kn (by simp)
        have kW := kW.trans kn
        have cB : w2.cell? ⟨O, 0, none⟩ = some V := by simpa using hB.cell 0
        refine hK _ _ ?_
        clear hK K kn
        refine wpAnyIn_ready (rs := [3]) (by kernel_rfl) (by simp) ?_
        refine AllReadyIn.cons rfl (fun K hK => ?_) AllReadyIn.nil
        rw [if_pos (by rfl)]
        have rE := Row.new w2 39 (opC y)
        have kn := (Kept.refl [] w2).alloc (.cells (opC y).toArray 39)
        have hk := hk.trans kn
        have hB := hB.kept kn (by simp)
        have hown := hown.keptS kn (by simp)
        have kW := kW.trans kn
        obtain ⟨E, hE⟩ : ∃ E, w2.heap.size = E := ⟨_, rfl⟩
        rw [hE] at rE
        go_simp
        refine hK _ _ ?_
        clear hK K kn
        change wpAnyIn _ _ _ _ _ _ _ _ _ (w2.alloc (.cells (opC y).toArray 39))
        clear cB
        generalize w2.alloc (.cells (opC y).toArray 39) = w3 at *
        have cB : w3.cell? ⟨O, 0, none⟩ = some V := by simpa using hB.cell 0
        refine wpAnyIn_ready (rs := [4]) (by kernel_rfl) (by simp) (AllReadyIn.cons rfl (fun K hK => ?_) AllReadyIn.nil)
        rw [if_pos (by rfl)]
        refine wpIn_append_z (c := opC) (k := 4) _ _ 22 rfl G0 i0 _ 32 Try.underlying22 hi hz0 hz1 hz2 rfl (by omega) (by omega) V L y rfl (opC_one y) rfl E (by rw [← hE]; rfl) rE hown (by have := kW.size; have := hk.size; omega) (by omega) ?_
        intro g3 c3 w4 ho3 hk3 hat3
        refine hK _ _ ?_
        clear hK K
        have hB4 := hB.kept hk3 (by rw [Option.mem_toList]; exact hVO)
        have cB4 : w4.cell? ⟨O, 0, none⟩ = some V := by simpa using hB4.cell 0
        have fB4 := hB4.free 0
        have rB5 := hB4.set 0 (.slice (some ⟨g3, 0, none⟩) (L.length + 1) c3)
        have kS := (Kept.refl [O] w4).set (p := ⟨O, 0, none⟩) (.inl (by simp)) (.slice (some ⟨g3, 0, none⟩) (L.length + 1) c3)
        refine wpAnyIn_ready (rs := [5]) (by kernel_rfl) (by simp) (AllReadyIn.cons rfl (fun K hK => ?_) AllReadyIn.nil)
        rw [if_pos (by rfl)]
        go_simp
        refine hK _ _ ?_
        clear hK K
        refine wpAnyIn_done (by kernel_rfl) ?_ _
        have kA : Kept (O :: V.ownBlock.toList) W _ := (kW.chain hk3 (U := O :: V.ownBlock.toList) (by simp) (by intro i hi _; exact List.mem_cons_of_mem _ hi)).chain kS (by intro i hi _; exact hi) (by simp)
        exact HEND.out _ g3 c3 kA rB5 (ho3.keptS kS (by simp [Value.ownBlock]; intro e; subst e; rcases hat3 with h' | h'; exact hVO h'; have := hB.lt; have := kW.size; omega)) (by rcases hat3 with h' | h'; exact (HVb.out g3 h'); right; have := hk.size; omega)
      · rw [if_pos (by rfl)]
        go_simp
        refine ⟨hdd _, CallsIn.inRound _ ((callsIn_wide.2 (HOP.out wd hk)).mono ?_)⟩
        rintro e w2 ⟨rfl, kn⟩
        have hk := hk.trans kn
        have hB := hB.kept kn (by simp)
        have hown := hown.keptS kn (by simp)
        have kW := kW.trans kn
        have cB : w2.cell? ⟨O, 0, none⟩ = some V := by simpa using hB.cell 0
        refine hK _ _ ?_
        clear hK K kn
        refine wpAnyIn_ready (rs := [0, 3]) (by kernel_rfl) (by simp) ?_
        refine AllReadyIn.cons rfl (fun K hK => ?_) (AllReadyIn.cons rfl (fun K hK => ?_) AllReadyIn.nil)
        · rw [if_pos (by rfl)]
          go_simp
          refine hK _ _ ?_
          clear hK K cB
          refine wpAnyIn_ready (rs := [3]) (by kernel_rfl) (by simp) ?_
          refine AllReadyIn.cons rfl (fun K hK => ?_) AllReadyIn.nil
          rw [if_pos (by rfl)]
          have rE := Row.new w2 39 (opC y)
          have kn := (Kept.refl [] w2).alloc (.cells (opC y).toArray 39)
          have hk := hk.trans kn
          have hB := hB.kept kn (by simp)
          have hown := hown.keptS kn (by simp)
          have kW := kW.trans kn
          obtain ⟨E, hE⟩ : ∃ E, w2.heap.size = E := ⟨_, rfl⟩
          rw [hE] at rE
          go_simp
          refine hK _ _ ?_
          clear hK K kn
          change wpAnyIn _ _ _ _ _ _ _ _ _ (w2.alloc (.cells (opC y).toArray 39))
          clear cB
          generalize w2.alloc (.cells (opC y).toArray 39) = w3 at *
          have cB : w3.cell? ⟨O, 0, none⟩ = some V := by simpa using hB.cell 0
          refine wpAnyIn_ready (rs := [4]) (by kernel_rfl) (by simp) (AllReadyIn.cons rfl (fun K hK => ?_) AllReadyIn.nil)
          rw [if_pos (by rfl)]
          refine wpIn_append_z (c := opC) (k := 4) _ _ 22 rfl G0 i0 _ 32 Try.underlying22 hi hz0 hz1 hz2 rfl (by omega) (by omega) V L y rfl (opC_one y) rfl E (by rw [← hE]; rfl) rE hown (by have := kW.size; have := hk.size; omega) (by omega) ?_
          intro g3 c3 w4 ho3 hk3 hat3
          refine hK _ _ ?_
          clear hK K
          have hB4 := hB.kept hk3 (by rw [Option.mem_toList]; exact hVO)
          have cB4 : w4.cell? ⟨O, 0, none⟩ = some V := by simpa using hB4.cell 0
          have fB4 := hB4.free 0
          have rB5 := hB4.set 0 (.slice (some ⟨g3, 0, none⟩) (L.length + 1) c3)
          have kS := (Kept.refl [O] w4).set (p := ⟨O, 0, none⟩) (.inl (by simp)) (.slice (some ⟨g3, 0, none⟩) (L.length + 1) c3)
          refine wpAnyIn_ready (rs := [5]) (by kernel_rfl) (by simp) (AllReadyIn.cons rfl (fun K hK => ?_) AllReadyIn.nil)
          rw [if_pos (by rfl)]
          go_simp
          refine hK _ _ ?_
          clear hK K
          refine wpAnyIn_done (by kernel_rfl) ?_ _
          have kA : Kept (O :: V.ownBlock.toList) W _ := (kW.chain hk3 (U := O :: V.ownBlock.toList) (by simp) (by intro i hi _; exact List.mem_cons_of_mem _ hi)).chain kS (by intro i hi _; exact hi) (by simp)
          exact HEND.out _ g3 c3 kA rB5 (ho3.keptS kS (by simp [Value.ownBlock]; intro e; subst e; rcases hat3 with h' | h'; exact hVO h'; have := hB.lt; have := kW.size; omega)) (by rcases hat3 with h' | h'; exact (HVb.out g3 h'); right; have := hk.size; omega)
        · rw [if_pos (by rfl)]
          have rE := Row.new w2 39 (opC y)
          have kn := (Kept.refl [] w2).alloc (.cells (opC y).toArray 39)
          have hk := hk.trans kn
          have hB := hB.kept kn (by simp)
          have hown := hown.keptS kn (by simp)
          have kW := kW.trans kn
          obtain ⟨E, hE⟩ : ∃ E, w2.heap.size = E := ⟨_, rfl⟩
          rw [hE] at rE
          go_simp
          refine hK _ _ ?_
          clear hK K kn
          change wpAnyIn _ _ _ _ _ _ _ _ _ (w2.alloc (.cells (opC y).toArray 39))
          clear cB
          generalize w2.alloc (.cells (opC y).toArray 39) = w3 at *
          have cB : w3.cell? ⟨O, 0, none⟩ = some V := by simpa using hB.cell 0
          refine wpAnyIn_ready (rs := [0]) (by kernel_rfl) (by simp) ?_
          refine AllReadyIn.cons rfl (fun K hK => ?_) AllReadyIn.nil
          rw [if_pos (by rfl)]
          go_simp
          refine hK _ _ ?_
          clear hK K cB
          refine wpAnyIn_ready (rs := [4]) (by kernel_rfl) (by simp) (AllReadyIn.cons rfl (fun K hK => ?_) AllReadyIn.nil)
          rw [if_pos (by rfl)]
          refine wpIn_append_z (c := opC) (k := 4) _ _ 22 rfl G0 i0 _ 32 Try.underlying22 hi hz0 hz1 hz2 rfl (by omega) (by omega) V L y rfl (opC_one y) rfl E (by rw [← hE]; rfl) rE hown (by have := kW.size; have := hk.size; omega) (by omega) ?_
          intro g3 c3 w4 ho3 hk3 hat3
          refine hK _ _ ?_
          clear hK K
          have hB4 := hB.kept hk3 (by rw [Option.mem_toList]; exact hVO)
          have cB4 : w4.cell? ⟨O, 0, none⟩ = some V := by simpa using hB4.cell 0
          have fB4 := hB4.free 0
          have rB5 := hB4.set 0 (.slice (some ⟨g3, 0, none⟩) (L.length + 1) c3)
          have kS := (Kept.refl [O] w4).set (p := ⟨O, 0, none⟩) (.inl (by simp)) (.slice (some ⟨g3, 0, none⟩) (L.length + 1) c3)
          refine wpAnyIn_ready (rs := [5]) (by kernel_rfl) (by simp) (AllReadyIn.cons rfl (fun K hK => ?_) AllReadyIn.nil)
          rw [if_pos (by rfl)]
          go_simp
          refine hK _ _ ?_
          clear hK K
          refine wpAnyIn_done (by kernel_rfl) ?_ _
          have kA : Kept (O :: V.ownBlock.toList) W _ := (kW.chain hk3 (U := O :: V.ownBlock.toList) (by simp) (by intro i hi _; exact List.mem_cons_of_mem _ hi)).chain kS (by intro i hi _; exact hi) (by simp)
          exact HEND.out _ g3 c3 kA rB5 (ho3.keptS kS (by simp [Value.ownBlock]; intro e; subst e; rcases hat3 with h' | h'; exact hVO h'; have := hB.lt; have := kW.size; omega)) (by rcases hat3 with h' | h'; exact (HVb.out g3 h'); right; have := hk.size; omega)
  case done =>
    rintro D ys W hD hys ⟨⟨V, hB, hown, hVb⟩, hkk⟩ hK
    have HMAP : Hid (ys.map (fun x : PcI k => opR bs (25 * x.1)) = opsR bs k) := by
      show _ = _
      unfold opsR
      rw [← hys, List.map_map]; rfl
    rw [HMAP.out] at hown
    have hO2 : OwnS 39 opC 4 (W.putObj D (.deferred none)) G0 V (opsR bs k) := by
      have kP : Kept [D] W (W.putObj D (.deferred none)) := (Kept.refl [D] W).put (r := D) (.inl (by simp)) (.deferred none)
      exact OwnS.own (β := Unit) (fun _ => V) (fun _ => opsR bs k) () W _ (some D) hown ⟨kP.os, kP.tape, kP.output, kP.size, fun k hk hne => kP.block k hk (by intro hm; simp at hm; exact hne (by rw [hm]))⟩ (fun r hr => by cases hr; exact ⟨_, hK, rfl⟩)
    obtain ⟨a, c', rfl, hsl, _⟩ := hO2.slice opC_len
    have cB : W.cell? ⟨O, 0, none⟩ = some (.slice a (opsR bs k).length c') := by rw [hB.cell 0]; rfl
    rw [opsR_len] at cB
    have kD : Kept [O, G0] W0 (W.putObj D (.deferred none)) := hkk.put (.inr hD) _
    have hGw := HG0.out
    clear hys hown hO2 hVb
    gi_wp2
    refine ⟨by simp, .inl ⟨_, _, rfl, run_takeDeferred hK, ?_⟩⟩
    refine ⟨_, results_tmp2 rfl _ _ _, ?_⟩
    have e1 := HN.out
    have e2 := HK2.out
    refine ⟨hk0.chain kD (by simp) (by intro i hi hl; simp at hi; omega), .inr ⟨by rw [e1]; exact H25.out, a, c', ?_, ?_⟩⟩
    · rw [e1, e2]; rfl
    · rw [e1, e2]; exact hsl
  case stop =>
    rintro D k pre W _ _ h _
    exact h.elim

theorem opsGet_any (A : Option Addr) (bs : List Int) (c : Nat) (w : World) (hb : ByB bs) (hs : Sl w .u8 A bs) (hm : bs.length ≤ 2500) (hc : bs.length ≤ c) (hcm : c ≤ maxLen) :
    Calls Try.prog 8 #[.slice A bs.length c] w (GetPost bs w) := by
  by_cases h : bs.length % 25 = 0
  · exact (callsIn_wide (n := 3)).1 (opsGet_in 3 (by omega) A bs c w hb hs hm hc hcm h)
  · exact opsGet_short A bs c w h
end Go.Proofs.Ytpeekhlccjoioaa
