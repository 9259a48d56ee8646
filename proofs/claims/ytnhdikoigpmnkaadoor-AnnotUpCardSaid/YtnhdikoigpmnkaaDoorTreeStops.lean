/- Package tree: walk: the walk's iterator has its contract. -/
import Derived.Test.YtnhdikoigpmnkaaDoorTreeIter
import Derived.Stop.RegionWithIn
namespace Go.Proofs.YtnhdikoigpmnkaaDoor
open Go.RowKit Go.Shelf

attribute [local go_sem] Oper.semAt_some

theorem run_store_func {P : Program} {w : World} {a : Addr} {m : Mode} (f : Fn) (x y : Array Value) : (store a (.func f x y) m).run P w = stored P w a (.func f x y) m := run_store P w a _ m rfl
attribute [local go_sem] run_store_func

theorem info_ints : (Tryd.prog.info? 34).map (fun i => (i.zero, i.size, i.bytes)) = some (some (.slice none 0 0), 1, 24) := by kernel_rfl
/-- 'append(s[:0], nil...)'. -/
theorem append_none (w : World) (g : Nat) (c : Nat) (ty : TypeId) : (Builtin.append_ #[79, 79] ty #[.slice (some ⟨g, 0, none⟩) 0 c, .slice none 0 0]).run Tryd.prog w = .ok (.slice (some ⟨g, 0, none⟩) 0 c) w := by
  obtain ⟨i0, hi, hz0, hz1, hz2⟩ := info_parts info_ints
  simp [Builtin.append_, run_underlying Tryd.underlying79, sizeOf, typeInfo, hi, Builtin.lenOf, Builtin.firstCells, storeCells, loadCells, loadCellsFrom]
theorem reverseNil_any (w : World) : Calls Tryd.prog 41 #[.slice none 0 0] w fun e w' => e = .returned (.tuple #[]) ∧ w = w' := by
  go_enter Tryd.func41, Tryd.ntmps41
  go_wp2
  refine wp_loop_rounds 1 ?_
  rw [rounds_succ]
  go_wp2
  go_end0
  exact ⟨rfl, rfl⟩

/-- What walk leaves: the closure, on a map of slices of its own. -/
def WalkPost (rs : List Rw) (w : World) (e : Ending) (w' : World) : Prop :=
  ∃ K b, e = .returned (.func (.func 39) #[] #[.pointer (some ⟨K, 0, none⟩)]) ∧ Row w' K 76 [.map (some b)] ∧ IsKids w' w.heap.size K b rs ∧ w'.heap.size = K + 1 ∧ Kept [] w w'

theorem treeWalk_any (p g : Nat) (rs : List Rw) (w : World) (h : IsTree w p g rs) (hr : rs.Pairwise (fun a b => a.1 < b.1)) (hn : rs.length < 1099511627776) :
    Calls Tryd.prog 28 #[.pointer (some ⟨p, 0, none⟩)] w (WalkPost rs w) := by
  go_enter Tryd.func28, Tryd.ntmps28
  go_wp2_with fail
  refine (treeAllKids_any p g rs w h hr hn).mono ?_
  rintro e w1 ⟨b, rfl, hK, hk⟩
  go_wp2
  go_ret
  refine ⟨w1.heap.size, b, rfl, Row.new w1 76 [.map (some b)], hK.same (by simp) (fun k _ h2 => Below.heap_alloc w1 _ k h2), by simp, hk.alloc _⟩

theorem KidSl.kept {lo hi : Nat} {W W' : World} {a : Option Addr} {xs : List Int} (h : KidSl lo hi W a xs) (hk : Kept [] W W') (hh : hi ≤ W.heap.size) : KidSl lo hi W' a xs := by
  rcases h with h | ⟨gg, rfl, h1, h2, hc⟩
  · exact .inl h
  · exact .inr ⟨gg, rfl, h1, h2, fun j hj => (World.cell?_of_block (w := W) (a := ⟨gg, j, none⟩) (hk.block gg (by omega) (by simp))).trans (hc j hj)⟩
theorem grown_of {W W' : World} (h : Kept [] W W') : W.grownBy W' none := ⟨h.os, h.tape, h.output, h.size, fun k hk _ => h.block k hk (by simp)⟩
theorem HandPost.more {n₀ : Nat} {S : List Nat} {rs : List Rw} {J Jx : List I64 → World → Prop} {pre : List I64} {z : Int} {W W' : World} {e : Ending} (h : HandPost n₀ S rs J Jx pre z W e W') :
    ∃ more, e = .returned (.tuple #[.slice none 0 0, .bool more]) ∧ ((more = true ∧ ∃ ws, raw ws = walkB rs z ∧ J (pre ++ ws) W') ∨ (more = false ∧ ∃ q t, raw q ++ t = walkB rs z ∧ Jx (pre ++ q) W')) := by
  rcases h with ⟨rfl, ws, h1, h2, _⟩ | ⟨rfl, q, t, h1, h2⟩
  · exact ⟨true, rfl, .inl ⟨rfl, ws, h1, h2⟩⟩
  · exact ⟨false, rfl, .inr ⟨rfl, q, t, h1, h2⟩⟩
def lenV : Value → Nat
  | .slice _ m _ => m
  | _ => 0

set_option maxRecDepth 100000 in
set_option maxHeartbeats 4000000 in
theorem walk1_in {k : Nat} {rs : List Rw} (hf : Fine k rs) (hk : k < 1000) (hfit : ∀ r ∈ rs, Fit64 r.1 ∧ Fit64 r.2)
    (n₀ : Nat) (S : List Nat) (l K lo hi b n : Nat) (J Jx : List I64 → World → Prop) (W : World) (hn : n₀ ≤ W.heap.size) (hJ : AbidesFrom W.heap.size J) (hSn : ∀ s ∈ S, s < n₀) (hKS : K ∉ S) (hS : ∀ s ∈ S, s < lo ∨ hi ≤ s) (hin : hi ≤ n₀)
    (hY : ∀ pre x W, J pre W → pre.length < (walkB rs 0).length → YieldAt Fence.wide (n - 1) Tryd.prog l #[.int .i64 x.1] W fun e W' =>
      (e = .returned (.bool true) ∧ J (pre ++ [x]) W' ∧ KeptC n₀ S W W') ∨ (e = .returned (.bool false) ∧ Jx (pre ++ [x]) W'))
    (hK : Row W K 76 [.map (some b)]) (hkids : IsKids W lo hi b rs) (h0 : J [] W) :
    CallsIn Fence.wide n Tryd.prog 39 #[.func (.yield l) #[] #[], .pointer (some ⟨K, 0, none⟩)] W fun e W' => (∃ v, e = .returned v) ∧
      ((∃ ys, raw ys = walkB rs 0 ∧ J ys W') ∨ (∃ pre, (∃ t, raw pre ++ t = walkB rs 0) ∧ Jx pre W')) := by
  have hdd : ∀ k : Nat, ((Fence.wide).depth.isSome = true → 1 ≤ k) := fun k h => by cases h
  obtain ⟨d, hd0, hdp⟩ := hf.rank
  have rY := (Row.new W 51 [.func (.yield l) #[] #[]]).alloc (.cells #[.func (.func 40) #[] #[.pointer (some ⟨W.heap.size, 0, none⟩), .pointer (some ⟨W.heap.size + 1, 0, none⟩), .pointer (some ⟨K, 0, none⟩)]] 78)
  have rH := Row.new (W.alloc (.cells #[.func (.yield l) #[] #[]] 51)) 78 [.func (.func 40) #[] #[.pointer (some ⟨W.heap.size, 0, none⟩), .pointer (some ⟨W.heap.size + 1, 0, none⟩), .pointer (some ⟨K, 0, none⟩)]]
  have k3 : Kept [] W _ := ((Kept.refl [] W).alloc (.cells #[.func (.yield l) #[] #[]] 51)).alloc (.cells #[.func (.func 40) #[] #[.pointer (some ⟨W.heap.size, 0, none⟩), .pointer (some ⟨W.heap.size + 1, 0, none⟩), .pointer (some ⟨K, 0, none⟩)]] 78)
  rw [World.size_alloc] at rH
  have z3 : ((W.alloc (.cells #[.func (.yield l) #[] #[]] 51)).alloc (.cells #[.func (.func 40) #[] #[.pointer (some ⟨W.heap.size, 0, none⟩), .pointer (some ⟨W.heap.size + 1, 0, none⟩), .pointer (some ⟨K, 0, none⟩)]] 78)).heap.size = W.heap.size + 2 := by simp
  have rK3 := hK.kept k3 (by simp)
  have hkids3 := hkids.same k3.size (fun j _ h2 => k3.block j (by have := hkids.size; omega) (by simp))
  have cK : ((W.alloc (.cells #[.func (.yield l) #[] #[]] 51)).alloc (.cells #[.func (.func 40) #[] #[.pointer (some ⟨W.heap.size, 0, none⟩), .pointer (some ⟨W.heap.size + 1, 0, none⟩), .pointer (some ⟨K, 0, none⟩)]] 78)).cell? ⟨K, 0, none⟩ = some (.map (some b)) := by rw [rK3.cell 0]; rfl
  obtain ⟨a0, c0, hlook, hsl⟩ := hkids3.look (z := 0) (by simp [Fit64])
  refine callsIn_of_wp Tryd.func39 rfl trivial ?_ rfl
  simp only [Tryd.ntmps39, List.size_toArray, List.length_cons, List.length_nil, Nat.reduceAdd, Nat.reduceSub, Array.replicate_succ, Array.replicate_zero, List.push_toArray, List.append_toArray, List.nil_append, List.cons_append]
  gi_wp2
  generalize ((W.alloc (.cells #[.func (.yield l) #[] #[]] 51)).alloc (.cells #[.func (.func 40) #[] #[.pointer (some ⟨W.heap.size, 0, none⟩), .pointer (some ⟨W.heap.size + 1, 0, none⟩), .pointer (some ⟨K, 0, none⟩)]] 78)) = W3 at rH rY k3 z3 rK3 hkids3 hlook hsl ⊢
  have rA := Row.new W3 34 [.slice a0 (kidsB rs 0).length c0]
  have kA : Kept [] W3 _ := (Kept.refl [] W3).alloc (.cells #[.slice a0 (kidsB rs 0).length c0] 34)
  have hlk : Kept [] W _ := k3.trans kA
  have rY4 := rY.kept kA (by simp)
  have rH4 := rH.kept kA (by simp)
  have rK4 := rK3.kept kA (by simp)
  have hkids4 := hkids3.same kA.size (fun j _ h2 => kA.block j (by have := hkids3.size; omega) (by simp))
  have hsl4 : KidSl lo hi _ a0 (kidsB rs 0) := hsl.kept kA hkids3.size
  have hJ4 := hJ [] W _ none h0 (grown_of hlk) (fun r e => by cases e)
  obtain ⟨A, hA⟩ : ∃ A, W.heap.size + 2 = A := ⟨_, rfl⟩
  rw [z3] at rA
  rw [hA] at rA ⊢
  generalize W3.alloc (.cells #[.slice a0 (kidsB rs 0).length c0] 34) = W4 at rA kA hlk rY4 rH4 rK4 hkids4 hsl4 hJ4 ⊢
  clear cK kA rY rH rK3 hkids3 hsl hlook k3 z3 hA
  have hkd := hlk.drew
  have cH : W4.cell? ⟨W.heap.size + 1, 0, none⟩ = some (.func (.func 40) #[] #[.pointer (some ⟨W.heap.size, 0, none⟩), .pointer (some ⟨W.heap.size + 1, 0, none⟩), .pointer (some ⟨K, 0, none⟩)]) := by rw [rH4.cell 0]; rfl
  have cA : W4.cell? ⟨A, 0, none⟩ = some (.slice a0 (kidsB rs 0).length c0) := by rw [rA.cell 0]; rfl
  have hEd : Env n₀ S l W.heap.size (W.heap.size + 1) K lo hi b rs W4.drew := ⟨rY4.drew, rH4.drew, rK4.drew, hkids4.same (Nat.le_refl _) (fun _ _ _ => rfl), fun h => by have := hSn _ h; omega, fun h => by have := hSn _ h; omega, hKS, hS, hin⟩
  have hJd := hJ [] W4 W4.drew none hJ4 (grown_of (Kept.refl [] W4).drew) (fun r e => by cases e)
  have hsld : KidSl lo hi W4.drew a0 (kidsB rs 0) := hsl4
  have HH := hand_in hf hk hfit d hdp n₀ S l W.heap.size (W.heap.size + 1) K lo hi b (walkB rs 0).length J Jx (fun m pre x W hj hl => YieldAt.anyD rfl m (hY pre x W hj hl)) 0 (n - 1) [] 1000 a0 c0 W4.drew hEd hsld hJd (by simp) (by omega) (by omega) (by omega)
  have HHid := Lib.hid (HH.mono (fun e W' h => HandPost.more h))
  clear HH hY rY4 rH4 rK4 hkids4 hsl4 hsld hEd hJd h0 hlk hkd
  gi_loopw [4] (fun v wr => ∃ m : Nat, v = .slice (some ⟨A, 0, none⟩) m 1 ∧ ((m = 1 ∧ wr = W4) ∨ (m = 0 ∧ ∃ ws, raw ws = walkB rs 0 ∧ J ws wr))) (fun v _ => lenV v)
  case atStart => exact ⟨1, rfl, .inl ⟨rfl, rfl⟩⟩
  case round =>
    obtain ⟨m, rfl, ⟨rfl, rfl⟩ | ⟨rfl, ws, hws, hJw⟩⟩ := hrel
    · gi_wp2
      gi_region_with (refine ⟨trivial, hdd _, HHid.out.mono ?_⟩; rintro e W5 ⟨more, rfl, hmore⟩)
      all_goals
        rcases hmore with ⟨rfl, ws, hws, hJ5⟩ | ⟨rfl, q, t, hqt, hx5⟩
        · have happ := append_none W5 A 1
          have HW := Lib.hid hws
          clear hws
          gi_wp2
          refine ⟨trivial, hdd _, (callsIn_wide.2 (reverseNil_any W5)).mono ?_⟩
          rintro e W6 ⟨rfl, rfl⟩
          gi_wp2
          exact ⟨⟨0, rfl, .inr ⟨rfl, ws, HW.out, hJ5⟩⟩, by simp [lenV]⟩
        · gi_wp2
          refine bodyPost_ret (results_none rfl _ _ _) rfl ?_
          exact ⟨⟨_, rfl⟩, .inr ⟨q, ⟨t, hqt⟩, hx5⟩⟩
    · gi_wp2
      go_end0
      exact ⟨⟨_, rfl⟩, .inl ⟨ws, hws, hJw⟩⟩

/-- The walk, handed on: all of it, in order; or its beginning. -/
theorem walk1_stops {k : Nat} {rs : List Rw} (hf : Fine k rs) (hk : k < 1000) (hfit : ∀ r ∈ rs, Fit64 r.1 ∧ Fit64 r.2)
    (S : List Nat) (K lo hi b n : Nat) (w : World) (hSn : ∀ s ∈ S, s < w.heap.size) (hKS : K ∉ S) (hS : ∀ s ∈ S, s < lo ∨ hi ≤ s) (hK : Row w K 76 [.map (some b)]) (hkids : IsKids w lo hi b rs) :
    SeqStopsK Fence.wide n Tryd.prog 39 #[.pointer (some ⟨K, 0, none⟩)] (fun x : I64 => #[Value.int .i64 x.1]) (KeptC w.heap.size S) (fun ys => raw ys = walkB rs 0) (fun pre => ∃ t, raw pre ++ t = walkB rs 0) (walkB rs 0).length w :=
  fun l J Jx W hW hJ _ hY h0 => walk1_in hf hk hfit w.heap.size S l K lo hi b n J Jx W hW.size hJ hSn hKS hS hkids.size hY ((hW.block K hK.lt).trans hK) (hkids.same hW.size (fun j _ h2 => hW.block j (by have := hkids.size; omega))) h0
end Go.Proofs.YtnhdikoigpmnkaaDoor
