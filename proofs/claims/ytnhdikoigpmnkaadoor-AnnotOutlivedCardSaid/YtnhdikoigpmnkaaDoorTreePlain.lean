/- Trees, as plain lists of a number and its parent, rising by numbers. -/
import Derived.Test.YtnhdikoigpmnkaaDoorKept
namespace Go.Proofs.YtnhdikoigpmnkaaDoor

/-- One, and its parent. -/
abbrev Rw := Int × Int
def idsT (rs : List Rw) : List Int := rs.map (·.1)
/-- Its parent; 0. -/
def parB (rs : List Rw) (z : Int) : Int := ((rs.find? fun r => decide (r.1 = z)).map (·.2)).getD 0
/-- Those whose parent it is. -/
def kidsB (rs : List Rw) (z : Int) : List Int := (rs.filter fun r => decide (r.2 = z)).map (·.1)
/-- One more, in its place. -/
def insB (rs : List Rw) (x : Rw) : List Rw := (rs.takeWhile fun r => decide (r.1 < x.1)) ++ x :: (rs.dropWhile fun r => decide (r.1 < x.1))
def delB (rs : List Rw) (z : Int) : List Rw := rs.filter fun r => !decide (r.1 = z)
/-- The walk below one, so many levels deep. -/
def walkF (rs : List Rw) : Nat → Int → List Int
  | 0, _ => []
  | n + 1, z => (kidsB rs z).flatMap fun x => x :: walkF rs n x
theorem walkF_succ (rs : List Rw) (n : Nat) (z : Int) : walkF rs (n + 1) z = (kidsB rs z).flatMap fun x => x :: walkF rs n x := rfl
def walkB (rs : List Rw) (z : Int) : List Int := walkF rs 1000 z

/-- A tree of which no line is longer than k, of at most k. -/
structure Fine (k : Nat) (rs : List Rw) : Prop where
  rise : rs.Pairwise (fun a b => a.1 < b.1)
  pos : ∀ r ∈ rs, 1 ≤ r.1
  len : rs.length ≤ k
  up : ∀ r ∈ rs, r.2 = 0 ∨ r.2 ∈ idsT rs
  rank : ∃ d : Int → Nat, d 0 = 0 ∧ ∀ r ∈ rs, d r.2 < d r.1 ∧ d r.1 ≤ k

theorem mem_ids {rs : List Rw} {z : Int} : z ∈ idsT rs ↔ ∃ p, (z, p) ∈ rs := by
  simp [idsT]
theorem mem_kids {rs : List Rw} {z x : Int} : x ∈ kidsB rs z ↔ (x, z) ∈ rs := by
  simp only [kidsB, List.mem_map, List.mem_filter, decide_eq_true_eq]
  constructor
  · rintro ⟨⟨a, b⟩, ⟨h1, h2⟩, h3⟩
    simp only at h2 h3
    subst h2; subst h3; exact h1
  · intro h; exact ⟨(x, z), ⟨h, rfl⟩, rfl⟩
theorem rise_uniq : ∀ {rs : List Rw}, rs.Pairwise (fun a b => a.1 < b.1) → ∀ {z p q : Int}, (z, p) ∈ rs → (z, q) ∈ rs → p = q
  | [], _, z, p, q, h, _ => by simp at h
  | r :: rs, h, z, p, q, h1, h2 => by
    obtain ⟨ha, hb⟩ := List.pairwise_cons.1 h
    rcases List.mem_cons.1 h1 with e1 | e1 <;> rcases List.mem_cons.1 h2 with e2 | e2
    · rw [← e1] at e2; exact (Prod.mk.inj e2).2.symm
    · have := ha _ e2; rw [← e1] at this; simp at this
    · have := ha _ e1; rw [← e2] at this; simp at this
    · exact rise_uniq hb e1 e2
theorem par_of_mem {rs : List Rw} (hr : rs.Pairwise (fun a b => a.1 < b.1)) {z p : Int} (h : (z, p) ∈ rs) : parB rs z = p := by
  unfold parB
  cases hf : rs.find? fun r => decide (r.1 = z) with
  | none =>
    have := List.find?_eq_none.1 hf _ h
    simp at this
  | some r =>
    have h1 := List.mem_of_find?_eq_some hf
    have h2 := List.find?_some hf
    simp only [decide_eq_true_eq] at h2
    obtain ⟨a, b⟩ := r
    simp only at h2
    subst h2
    simpa using rise_uniq hr h1 h
theorem par_of_not {rs : List Rw} {z : Int} (h : z ∉ idsT rs) : parB rs z = 0 := by
  unfold parB
  rw [List.find?_eq_none.2 (fun r hr => by simp; intro e; subst e; exact h (List.mem_map_of_mem hr))]
  rfl
theorem mem_par {k : Nat} {rs : List Rw} (hf : Fine k rs) {z : Int} (h : z ∈ idsT rs) : (z, parB rs z) ∈ rs := by
  obtain ⟨p, hp⟩ := mem_ids.1 h
  rw [par_of_mem hf.rise hp]; exact hp
theorem kids_iff {k : Nat} {rs : List Rw} (hf : Fine k rs) {z x : Int} : x ∈ kidsB rs z ↔ x ∈ idsT rs ∧ parB rs x = z := by
  rw [mem_kids]
  constructor
  · intro h; exact ⟨mem_ids.2 ⟨_, h⟩, par_of_mem hf.rise h⟩
  · rintro ⟨h, rfl⟩; exact mem_par hf h
theorem kids_rise {rs : List Rw} (hr : rs.Pairwise (fun a b => a.1 < b.1)) (z : Int) : (kidsB rs z).Pairwise (· < ·) :=
  List.pairwise_map.2 ((hr.filter _).imp (fun h => h))
theorem kids_len (rs : List Rw) (z : Int) : (kidsB rs z).length ≤ rs.length := by
  unfold kidsB; rw [List.length_map]; exact List.length_filter_le _ _

section
variable {k : Nat} {rs : List Rw}
theorem walkF_none (d : Int → Nat) (hd : ∀ r ∈ rs, d r.2 < d r.1 ∧ d r.1 ≤ k) (z : Int) (hz : k ≤ d z) : ∀ n, walkF rs n z = []
  | 0 => rfl
  | n + 1 => by
    have : kidsB rs z = [] := List.eq_nil_iff_forall_not_mem.2 (fun x hx => by have := hd _ (mem_kids.1 hx); simp at this; omega)
    simp [walkF, this]
theorem walkF_eq (d : Int → Nat) (hd : ∀ r ∈ rs, d r.2 < d r.1 ∧ d r.1 ≤ k) : ∀ (n m : Nat) (z : Int), k - d z ≤ n → k - d z ≤ m → walkF rs n z = walkF rs m z
  | 0, m, z, hn, _ => by rw [walkF_none d hd z (by omega) m]; rfl
  | n + 1, 0, z, _, hm => by rw [walkF_none d hd z (by omega) (n + 1)]; rfl
  | n + 1, m + 1, z, hn, hm => by
    simp only [walkF]
    rw [List.flatMap_def, List.flatMap_def]
    congr 1
    refine List.map_congr_left (fun x hx => ?_)
    have := hd _ (mem_kids.1 hx)
    simp only at this
    rw [walkF_eq d hd n m x (by omega) (by omega)]
theorem walkF_same (d : Int → Nat) (hd : ∀ r ∈ rs, d r.2 < d r.1 ∧ d r.1 ≤ k) (m : Nat) (hk : k ≤ m) (z : Int) : walkF rs (m + 1) z = (kidsB rs z).flatMap fun x => x :: walkF rs (m + 1) x := by
  rw [walkF_succ, List.flatMap_def, List.flatMap_def]
  congr 1
  refine List.map_congr_left (fun x hx => ?_)
  have := hd _ (mem_kids.1 hx)
  simp only at this
  rw [walkF_eq d hd m (m + 1) x (by omega) (by omega)]
theorem Fine.walk (hf : Fine k rs) (hk : k < 1000) (z : Int) : walkB rs z = (kidsB rs z).flatMap fun x => x :: walkB rs x := by
  obtain ⟨d, h0, hd⟩ := hf.rank
  exact walkF_same d hd 999 (by omega) z
theorem Fine.ind (hf : Fine k rs) {P : Int → Prop} (step : ∀ z, (∀ y ∈ kidsB rs z, P y) → P z) (z : Int) : P z := by
  obtain ⟨d, h0, hd⟩ := hf.rank
  suffices ∀ n z, k - d z ≤ n → P z from this _ z (Nat.le_refl _)
  intro n
  induction n with
  | zero =>
    intro z hz
    refine step z (fun y hy => ?_)
    have := hd _ (mem_kids.1 hy)
    simp only at this
    omega
  | succ n ih =>
    intro z hz
    refine step z (fun y hy => ih y ?_)
    have := hd _ (mem_kids.1 hy)
    simp only at this
    omega
/-- Upwards. -/
theorem Fine.indUp (hf : Fine k rs) {P : Int → Prop} (step : ∀ z, z ∈ idsT rs → (parB rs z ∈ idsT rs → P (parB rs z)) → P z) (z : Int) (hz : z ∈ idsT rs) : P z := by
  obtain ⟨d, h0, hd⟩ := hf.rank
  suffices ∀ n z, z ∈ idsT rs → d z ≤ n → P z from this _ z hz (Nat.le_refl _)
  intro n
  induction n with
  | zero =>
    intro z hz hn
    have := hd _ (mem_par hf hz)
    simp only at this
    omega
  | succ n ih =>
    intro z hz hn
    refine step z hz (fun hp => ih _ hp ?_)
    have := hd _ (mem_par hf hz)
    simp only at this
    omega
theorem Fine.mem_walk (hf : Fine k rs) (hk : k < 1000) {x z : Int} : x ∈ walkB rs z ↔ ∃ y ∈ kidsB rs z, x = y ∨ x ∈ walkB rs y := by
  rw [hf.walk hk z]; simp
theorem Fine.walk_ids (hf : Fine k rs) (hk : k < 1000) {x z : Int} (h : x ∈ walkB rs z) : x ∈ idsT rs := by
  revert h
  refine hf.ind (P := fun z => x ∈ walkB rs z → x ∈ idsT rs) (fun z ih h => ?_) z
  obtain ⟨y, hy, rfl | h'⟩ := (hf.mem_walk hk).1 h
  · exact ((kids_iff hf).1 hy).1
  · exact ih y hy h'
/-- One is below z just if its parent is z, or below z. -/
theorem Fine.below (hf : Fine k rs) (hk : k < 1000) {x z : Int} (hx : x ∈ idsT rs) : x ∈ walkB rs z ↔ (parB rs x = z ∨ parB rs x ∈ walkB rs z) := by
  refine hf.ind (P := fun z => x ∈ walkB rs z ↔ (parB rs x = z ∨ parB rs x ∈ walkB rs z)) (fun z ih => ?_) z
  rw [hf.mem_walk hk]
  constructor
  · rintro ⟨y, hy, rfl | h⟩
    · exact .inl ((kids_iff hf).1 hy).2
    · rcases (ih y hy).1 h with e | e
      · exact .inr ((hf.mem_walk hk).2 ⟨y, hy, .inl e⟩)
      · exact .inr ((hf.mem_walk hk).2 ⟨y, hy, .inr e⟩)
  · rintro (e | e)
    · exact ⟨x, (kids_iff hf).2 ⟨hx, e⟩, .inl rfl⟩
    · obtain ⟨y, hy, e | h⟩ := (hf.mem_walk hk).1 e
      · exact ⟨y, hy, .inr ((ih y hy).2 (.inl e))⟩
      · exact ⟨y, hy, .inr ((ih y hy).2 (.inr h))⟩
theorem Fine.pos' (hf : Fine k rs) {x : Int} (h : x ∈ idsT rs) : 1 ≤ x := by
  obtain ⟨p, hp⟩ := mem_ids.1 h
  exact hf.pos _ hp
theorem Fine.walk_all (hf : Fine k rs) (hk : k < 1000) {x : Int} : x ∈ walkB rs 0 ↔ x ∈ idsT rs := by
  refine ⟨hf.walk_ids hk, fun h => ?_⟩
  refine hf.indUp (P := fun x => x ∈ walkB rs 0) (fun z hz ih => ?_) x h
  rw [hf.below hk hz]
  rcases hf.up _ (mem_par hf hz) with e | e
  · exact .inl e
  · exact .inr (ih e)
/-- One and all below it. -/
def subT (rs : List Rw) (z : Int) : List Int := z :: walkB rs z
theorem Fine.sub_iff (hf : Fine k rs) (hk : k < 1000) {x z : Int} (hx : x ∈ idsT rs) : x ∈ subT rs z ↔ (x = z ∨ parB rs x ∈ subT rs z) := by
  simp only [subT, List.mem_cons]
  rw [hf.below hk hx]
theorem Fine.sub_trans (hf : Fine k rs) (hk : k < 1000) {x y z : Int} (h1 : x ∈ subT rs y) (h2 : y ∈ subT rs z) : x ∈ subT rs z := by
  rcases List.mem_cons.1 h1 with rfl | h1'
  · exact h2
  have hx := hf.walk_ids hk h1'
  revert h1
  refine hf.indUp (P := fun x => x ∈ subT rs y → x ∈ subT rs z) (fun x hx ih h => ?_) x hx
  rcases (hf.sub_iff hk hx).1 h with rfl | h
  · exact h2
  · refine (hf.sub_iff hk hx).2 (.inr ?_)
    rcases hf.up _ (mem_par hf hx) with e | e
    · simp only at e
      rw [e] at h ⊢
      rcases List.mem_cons.1 h with rfl | h'
      · exact h2
      · have := hf.pos' (hf.walk_ids hk h'); omega
    · exact ih e h
theorem Fine.deeper (hf : Fine k rs) (hk : k < 1000) {d : Int → Nat} (hd : ∀ r ∈ rs, d r.2 < d r.1 ∧ d r.1 ≤ k) {x z : Int} (h : x ∈ walkB rs z) : d z < d x := by
  revert h
  refine hf.ind (P := fun z => x ∈ walkB rs z → d z < d x) (fun z ih h => ?_) z
  obtain ⟨y, hy, rfl | h'⟩ := (hf.mem_walk hk).1 h
  · exact (hd _ (mem_kids.1 hy)).1
  · have := (hd _ (mem_kids.1 hy)).1
    have := ih y hy h'
    simp only at *
    omega
theorem Fine.anti (hf : Fine k rs) (hk : k < 1000) {x y : Int} (h1 : x ∈ subT rs y) (h2 : y ∈ subT rs x) : x = y := by
  obtain ⟨d, h0, hd⟩ := hf.rank
  rcases List.mem_cons.1 h1 with e | h1
  · exact e
  rcases List.mem_cons.1 h2 with e | h2
  · exact e.symm
  have := hf.deeper hk hd h1
  have := hf.deeper hk hd h2
  omega
theorem Fine.comparable (hf : Fine k rs) (hk : k < 1000) {w x y : Int} (hw : w ∈ idsT rs) (h1 : w ∈ subT rs x) (h2 : w ∈ subT rs y) : x ∈ subT rs y ∨ y ∈ subT rs x := by
  revert h1 h2
  refine hf.indUp (P := fun w => w ∈ subT rs x → w ∈ subT rs y → x ∈ subT rs y ∨ y ∈ subT rs x) (fun w hw ih h1 h2 => ?_) w hw
  rcases (hf.sub_iff hk hw).1 h1 with rfl | h1'
  · exact .inl h2
  rcases (hf.sub_iff hk hw).1 h2 with rfl | h2'
  · exact .inr h1
  rcases hf.up _ (mem_par hf hw) with e | e
  · simp only at e
    rw [e] at h1' h2'
    rcases List.mem_cons.1 h1' with e1 | h1'
    · rw [← e1]; exact .inl h2'
    · have := hf.pos' (hf.walk_ids hk h1'); omega
  · exact ih e h1' h2'
theorem Fine.nodup (hf : Fine k rs) (hk : k < 1000) (z : Int) : (walkB rs z).Nodup := by
  refine hf.ind (P := fun z => (walkB rs z).Nodup) (fun z ih => ?_) z
  obtain ⟨d, h0, hd⟩ := hf.rank
  rw [hf.walk hk z]
  refine List.pairwise_flatMap.2 ⟨fun y hy => ?_, ?_⟩
  · refine List.pairwise_cons.2 ⟨fun x hx e => ?_, ih y hy⟩
    have := hf.deeper hk hd hx
    rw [e] at this; omega
  · refine (List.Pairwise.and_mem.1 (kids_rise hf.rise z)).imp ?_
    rintro a b ⟨ha, hb, hab⟩ x hx y hy rfl
    have hxi : x ∈ idsT rs := by
      rcases List.mem_cons.1 hx with e | e
      · rw [e]; exact ((kids_iff hf).1 ha).1
      · exact hf.walk_ids hk e
    have hda := (hd _ (mem_kids.1 ha)).1
    have hdb := (hd _ (mem_kids.1 hb)).1
    simp only at hda hdb
    have pa := ((kids_iff hf).1 ha)
    have pb := ((kids_iff hf).1 hb)
    rcases hf.comparable hk hxi hx hy with h | h
    · rcases List.mem_cons.1 h with e | h
      · omega
      · rcases (hf.below hk pa.1).1 h with e | e
        · rw [pa.2] at e; rw [e] at hdb; omega
        · rw [pa.2] at e; have := hf.deeper hk hd e; omega
    · rcases List.mem_cons.1 h with e | h
      · omega
      · rcases (hf.below hk pb.1).1 h with e | e
        · rw [pb.2] at e; rw [e] at hda; omega
        · rw [pb.2] at e; have := hf.deeper hk hd e; omega
theorem Fine.nodup_sub (hf : Fine k rs) (hk : k < 1000) (z : Int) : (subT rs z).Nodup := by
  obtain ⟨d, h0, hd⟩ := hf.rank
  refine List.pairwise_cons.2 ⟨fun x hx e => ?_, hf.nodup hk z⟩
  have := hf.deeper hk hd hx
  rw [e] at this; omega
theorem Fine.ids_nodup (hf : Fine k rs) : (idsT rs).Nodup := List.pairwise_map.2 (hf.rise.imp (fun h => by omega))
theorem Fine.perm (hf : Fine k rs) (hk : k < 1000) : (walkB rs 0).Perm (idsT rs) :=
  (List.perm_ext_iff_of_nodup (hf.nodup hk 0) hf.ids_nodup).2 fun _ => hf.walk_all hk
theorem Fine.walk_len (hf : Fine k rs) (hk : k < 1000) : (walkB rs 0).length = rs.length := by
  rw [(hf.perm hk).length_eq]; simp [idsT]
/-- Where one stands: what is ahead, it and all below it, what is behind. -/
theorem Fine.stands (hf : Fine k rs) (hk : k < 1000) {x z : Int} (h : x ∈ walkB rs z) : ∃ pre post, walkB rs z = pre ++ subT rs x ++ post := by
  revert h
  refine hf.ind (P := fun z => x ∈ walkB rs z → ∃ pre post, walkB rs z = pre ++ subT rs x ++ post) (fun z ih h => ?_) z
  obtain ⟨y, hy, h'⟩ := (hf.mem_walk hk).1 h
  obtain ⟨k1, k2, hk12⟩ := List.append_of_mem hy
  rw [hf.walk hk z, hk12]
  simp only [List.flatMap_append, List.flatMap_cons]
  rcases h' with rfl | h'
  · exact ⟨k1.flatMap fun x => x :: walkB rs x, k2.flatMap fun x => x :: walkB rs x, by simp [subT]⟩
  · obtain ⟨pre, post, e⟩ := ih y hy h'
    exact ⟨(k1.flatMap fun x => x :: walkB rs x) ++ y :: pre, post ++ k2.flatMap fun x => x :: walkB rs x, by rw [e]; simp⟩
end
end Go.Proofs.YtnhdikoigpmnkaaDoor
