/- Package ops: operations and bytes as plain things. -/
import Derived.Test.YtpeekhlccjoioaaDoorStructs
import Derived.Laws.BytesArg
namespace Go.Proofs.YtpeekhlccjoioaaDoor
open Go.RowKit

/-- An operation. -/
structure OpN where
  k : Int
  a : Nat
  b : Nat
  c : Nat
def opC (x : OpN) : List Value := [.int .i64 x.k, .int .u64 x.a, .int .u64 x.b, .int .u64 x.c]
theorem opC_len (x : OpN) : (opC x).length = 4 := rfl
/-- Its numbers are numbers of 64 bits. -/
def OpN.Fit (x : OpN) : Prop := x.a < 18446744073709551616 ∧ x.b < 18446744073709551616 ∧ x.c < 18446744073709551616
/-- May it not be? -/
def OpN.bad (x : OpN) : Bool := decide (x.k < 0) || decide (255 < x.k)

/-- A number's n lowest bytes, the lowest first. -/
def numB : Nat → Nat → List Int
  | 0, _ => []
  | n + 1, v => ((v % 256 : Nat) : Int) :: numB n (v / 256)
/-- The number of some bytes. -/
def valB : List Int → Nat
  | [] => 0
  | x :: l => x.toNat + 256 * valB l
/-- They are bytes. -/
def ByB (l : List Int) : Prop := ∀ x ∈ l, 0 ≤ x ∧ x < 256

theorem numB_len : ∀ n v, (numB n v).length = n
  | 0, _ => rfl
  | n + 1, v => by simp [numB, numB_len n]
theorem numB_by : ∀ n v, ByB (numB n v)
  | 0, _ => by intro x hx; cases hx
  | n + 1, v => by
    intro x hx
    rcases List.mem_cons.1 hx with rfl | hx
    · omega
    · exact numB_by n _ x hx
theorem numB_snoc : ∀ n v, numB (n + 1) v = numB n v ++ [((v / 256 ^ n % 256 : Nat) : Int)]
  | 0, v => by simp [numB]
  | n + 1, v => by
    have h := numB_snoc n (v / 256)
    rw [show numB (n + 1 + 1) v = ((v % 256 : Nat) : Int) :: numB (n + 1) (v / 256) from rfl, h, Nat.div_div_eq_div_mul, show 256 * 256 ^ n = 256 ^ (n + 1) by rw [Nat.pow_succ, Nat.mul_comm]]
    rfl
theorem valB_numB : ∀ n v, v < 256 ^ n → valB (numB n v) = v
  | 0, v, h => by simp at h; simp [numB, valB, h]
  | n + 1, v, h => by
    have : v / 256 < 256 ^ n := by rw [Nat.div_lt_iff_lt_mul (by omega)]; rw [Nat.pow_succ] at h; exact h
    simp only [numB, valB, valB_numB n _ this, Int.toNat_natCast]
    omega
theorem valB_lt : ∀ l, ByB l → valB l < 256 ^ l.length
  | [], _ => by simp [valB]
  | x :: l, h => by
    have h1 := valB_lt l (fun y hy => h y (by simp [hy]))
    have h2 := h x (by simp)
    have h3 : x.toNat < 256 := by omega
    simp only [valB, List.length_cons, Nat.pow_succ]
    omega
theorem numB_valB : ∀ l, ByB l → numB l.length (valB l) = l
  | [], _ => rfl
  | x :: l, h => by
    have h1 := numB_valB l (fun y hy => h y (by simp [hy]))
    have h2 := h x (by simp)
    simp only [valB, List.length_cons, numB]
    rw [show (x.toNat + 256 * valB l) / 256 = valB l by omega, h1, show ((x.toNat + 256 * valB l) % 256 : Nat) = x.toNat by omega]
    congr 1
    omega
theorem valB_snoc : ∀ (l : List Int) (x : Int), valB (l ++ [x]) = valB l + x.toNat * 256 ^ l.length
  | [], x => by simp [valB]
  | y :: l, x => by
    simp only [List.cons_append, valB, valB_snoc l x, List.length_cons, Nat.pow_succ]
    rw [Nat.mul_add, Nat.add_assoc, show x.toNat * (256 ^ l.length * 256) = 256 * (x.toNat * 256 ^ l.length) by rw [Nat.mul_comm (256 ^ l.length), ← Nat.mul_assoc, Nat.mul_comm x.toNat 256, Nat.mul_assoc]]

/-- An operation's bytes; those of operations. -/
def opB (x : OpN) : List Int := x.k :: (numB 8 x.a ++ (numB 8 x.b ++ numB 8 x.c))
def opsB (l : List OpN) : List Int := l.flatMap opB
theorem opB_len (x : OpN) : (opB x).length = 25 := by simp [opB, numB_len]
theorem opsB_nil : opsB [] = [] := rfl
theorem opsB_snoc (l : List OpN) (x : OpN) : opsB (l ++ [x]) = opsB l ++ opB x := by simp [opsB]
theorem opsB_mid (l : List OpN) (x : OpN) (m : List OpN) : opsB (l ++ x :: m) = opsB l ++ (opB x ++ opsB m) := by simp [opsB]
theorem opsB_len : ∀ l, (opsB l).length = 25 * l.length
  | [] => rfl
  | x :: l => by
    have := opsB_len l
    simp only [opsB, List.flatMap_cons, List.length_append, opB_len, List.length_cons] at this ⊢
    omega
/-- The operation of the 25 bytes that stand at a place; those of bytes. -/
def opR (bs : List Int) (p : Nat) : OpN := ⟨bs[p]?.getD 0, valB ((bs.drop (p + 1)).take 8), valB ((bs.drop (p + 9)).take 8), valB ((bs.drop (p + 17)).take 8)⟩
def opsR (bs : List Int) (n : Nat) : List OpN := (List.range n).map (fun i => opR bs (25 * i))
theorem opsR_zero (bs : List Int) : opsR bs 0 = [] := rfl
theorem opsR_succ (bs : List Int) (n : Nat) : opsR bs (n + 1) = opsR bs n ++ [opR bs (25 * n)] := by simp [opsR, List.range_succ]
theorem opsR_len (bs : List Int) (n : Nat) : (opsR bs n).length = n := by simp [opsR]
theorem take_pad (l m : List Int) (h : l.length = 8) : (l ++ m).take 8 = l := by rw [List.take_append_of_le_length (by omega), List.take_of_length_le (by omega)]
theorem opR_opB (pre : List Int) (x : OpN) (post : List Int) (hx : x.Fit) : opR (pre ++ (opB x ++ post)) pre.length = x := by
  have h0 : (pre ++ (opB x ++ post))[pre.length]?.getD 0 = x.k := by
    rw [List.getElem?_append_right (Nat.le_refl _), Nat.sub_self]; rfl
  have hd : ∀ n, (pre ++ (opB x ++ post)).drop (pre.length + n) = (opB x ++ post).drop n := fun n => by rw [List.drop_append, List.drop_eq_nil_of_le (by omega)]; simp
  have e8 : (256 : Nat) ^ 8 = 18446744073709551616 := by decide
  obtain ⟨k, a, b, c⟩ := x
  obtain ⟨ha, hb, hc⟩ := hx
  simp only at ha hb hc
  unfold opR
  rw [h0, hd, hd, hd]
  have l1 : ((opB ⟨k, a, b, c⟩ ++ post).drop 1).take 8 = numB 8 a := by
    show ((numB 8 a ++ (numB 8 b ++ numB 8 c)) ++ post).take 8 = _
    rw [List.append_assoc, take_pad _ _ (numB_len _ _)]
  have l2 : ((opB ⟨k, a, b, c⟩ ++ post).drop 9).take 8 = numB 8 b := by
    show (((numB 8 a ++ (numB 8 b ++ numB 8 c)) ++ post).drop 8).take 8 = _
    rw [List.append_assoc, List.drop_left' (numB_len _ _), List.append_assoc, take_pad _ _ (numB_len _ _)]
  have l3 : ((opB ⟨k, a, b, c⟩ ++ post).drop 17).take 8 = numB 8 c := by
    show (((numB 8 a ++ (numB 8 b ++ numB 8 c)) ++ post).drop 16).take 8 = _
    rw [show 16 = 8 + 8 from rfl, ← List.drop_drop, List.append_assoc, List.drop_left' (numB_len _ _), List.append_assoc, List.drop_left' (numB_len _ _), take_pad _ _ (numB_len _ _)]
  rw [l1, l2, l3, valB_numB 8 a (by omega), valB_numB 8 b (by omega), valB_numB 8 c (by omega)]
theorem opR_ext {bs bs' : List Int} {p : Nat} (h : bs.drop p = bs'.drop p) : opR bs p = opR bs' p := by
  have hd : ∀ n, bs.drop (p + n) = bs'.drop (p + n) := fun n => by rw [← List.drop_drop, h, List.drop_drop]
  have h0 : bs[p]? = bs'[p]? := by
    have := congrArg (·[0]?) h
    simpa using this
  unfold opR
  rw [h0, hd, hd, hd]
theorem opsR_opsB (l : List OpN) (hl : ∀ x ∈ l, x.Fit) : opsR (opsB l) l.length = l := by
  apply List.ext_getElem?
  intro i
  unfold opsR
  by_cases hi : i < l.length
  · rw [List.getElem?_map, List.getElem?_range hi, List.getElem?_eq_getElem hi]
    have hs : l = l.take i ++ (l[i] :: l.drop (i + 1)) := by simp
    have hb : opsB l = opsB (l.take i) ++ (opB l[i] ++ opsB (l.drop (i + 1))) := (congrArg opsB hs).trans (opsB_mid _ _ _)
    have hp : (opsB (l.take i)).length = 25 * i := by rw [opsB_len, List.length_take, Nat.min_eq_left (by omega)]
    have := opR_opB (opsB (l.take i)) l[i] (opsB (l.drop (i + 1))) (hl _ (List.getElem_mem hi))
    rw [← hb, hp] at this
    simp [this]
  · rw [List.getElem?_eq_none (by simpa using hi), List.getElem?_eq_none (by omega)]
theorem opB_opR (bs : List Int) (p : Nat) (hb : ByB bs) (hp : p + 25 ≤ bs.length) : opB (opR bs p) = (bs.drop p).take 25 := by
  have e : ∀ q, q + 8 ≤ bs.length → numB 8 (valB ((bs.drop q).take 8)) = (bs.drop q).take 8 := by
    intro q hq
    have hl : ((bs.drop q).take 8).length = 8 := by simp; omega
    have := numB_valB ((bs.drop q).take 8) (fun x hx => hb x (List.mem_of_mem_drop (List.mem_of_mem_take hx)))
    rwa [hl] at this
  unfold opB opR
  simp only
  rw [e _ (by omega), e _ (by omega), e _ (by omega)]
  rw [show (bs.drop p).take 25 = bs[p]'(by omega) :: ((bs.drop (p + 1)).take 24) by rw [List.drop_eq_getElem_cons (by omega), List.take_succ_cons]]
  rw [show (bs.drop (p + 1)).take 24 = (bs.drop (p + 1)).take 8 ++ (((bs.drop (p + 9)).take 8) ++ ((bs.drop (p + 17)).take 8)) from by
    rw [show (24 : Nat) = 8 + 16 from rfl, List.take_add, List.drop_drop, show (16 : Nat) = 8 + 8 from rfl, List.take_add, List.drop_drop]]
  rw [List.getElem?_eq_getElem (by omega)]
  rfl
theorem opsB_opsR (bs : List Int) (hb : ByB bs) : ∀ n, 25 * n ≤ bs.length → opsB (opsR bs n) = bs.take (25 * n)
  | 0, _ => by simp [opsR_zero, opsB_nil]
  | n + 1, h => by
    rw [opsR_succ, opsB_snoc, opsB_opsR bs hb n (by omega), opB_opR bs _ hb (by omega), show 25 * (n + 1) = 25 * n + 25 by omega, List.take_add]
theorem opR_fit (bs : List Int) (p : Nat) (hb : ByB bs) : (opR bs p).Fit := by
  have e8 : (256 : Nat) ^ 8 = 18446744073709551616 := by decide
  have h : ∀ q, valB ((bs.drop q).take 8) < 18446744073709551616 := by
    intro q
    have h1 := valB_lt ((bs.drop q).take 8) (fun x hx => hb x (List.mem_of_mem_drop (List.mem_of_mem_take hx)))
    have h2 : ((bs.drop q).take 8).length ≤ 8 := by simp; omega
    have h3 := Nat.pow_le_pow_right (show 0 < 256 by omega) h2
    omega
  exact ⟨h _, h _, h _⟩
theorem opR_good (bs : List Int) (p : Nat) (hb : ByB bs) : (opR bs p).bad = false := by
  have : 0 ≤ bs[p]?.getD 0 ∧ bs[p]?.getD 0 ≤ 255 := by
    cases h : bs[p]? with
    | none => simp
    | some x => have := hb x (List.mem_of_getElem? h); simp only [Option.getD_some]; omega
  unfold OpN.bad opR
  simp only
  rw [decide_eq_false (by omega), decide_eq_false (by omega)]
  rfl
end Go.Proofs.YtpeekhlccjoioaaDoor
