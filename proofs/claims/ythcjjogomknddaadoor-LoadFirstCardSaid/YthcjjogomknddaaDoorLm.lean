/-
  Tasks put on nodes, on none too many: the bound, the first node that has fewer, what follows. Nothing of the program is imported.
-/
namespace Go.Proofs.YthcjjogomknddaaDoor.Pure

/-- The bound: five times t by four times n, up. -/
def boundN (t n : Nat) : Nat := (5 * t + (4 * n - 1)) / (4 * n)
theorem bound_ge {n : Nat} (t : Nat) (hn : 0 < n) : 5 * t ≤ 4 * n * boundN t n := by
  have h := Nat.div_add_mod (5 * t + (4 * n - 1)) (4 * n)
  have h2 := Nat.mod_lt (5 * t + (4 * n - 1)) (show 0 < 4 * n by omega)
  unfold boundN
  generalize (5 * t + (4 * n - 1)) / (4 * n) = b at *
  generalize 4 * n * b = c at *
  omega
theorem bound_lt {n t k : Nat} (hn : 0 < n) (hk : k < boundN t n) : 4 * n * k < 5 * t := by
  have h := Nat.div_mul_le_self (5 * t + (4 * n - 1)) (4 * n)
  unfold boundN at hk
  have h2 : (k + 1) * (4 * n) ≤ (5 * t + (4 * n - 1)) / (4 * n) * (4 * n) := Nat.mul_le_mul_right _ hk
  rw [Nat.add_mul, Nat.one_mul, Nat.mul_comm k] at h2
  omega
theorem bound_is {n t k : Nat} (hn : 0 < n) (h1 : 5 * t ≤ 4 * n * k) (h2 : ∀ j, j < k → 4 * n * j < 5 * t) : boundN t n = k := by
  rcases Nat.lt_trichotomy (boundN t n) k with h | h | h
  · have := h2 _ h
    have := bound_ge t hn
    omega
  · exact h
  · have := bound_lt hn h
    omega
theorem bound_zero {n : Nat} (hn : 0 < n) : boundN 0 n = 0 := bound_is hn (by simp) (fun j hj => absurd hj (Nat.not_lt_zero j))
theorem bound_pos {t n : Nat} (hn : 0 < n) : 0 < boundN t n ↔ 0 < t := by
  constructor
  · intro h
    have := bound_lt hn h
    omega
  · intro h
    rcases Nat.eq_zero_or_pos (boundN t n) with h0 | h0
    · have := bound_ge t hn
      rw [h0] at this; omega
    · exact h0
theorem bound_more {t u n : Nat} (hn : 0 < n) (h : t ≤ u) : boundN t n ≤ boundN u n := by
  rcases Nat.lt_or_ge (boundN u n) (boundN t n) with h1 | h1
  · have h2 := bound_lt hn h1
    have h3 := bound_ge u hn
    omega
  · exact h1
theorem bound_fewer {t n m : Nat} (hn : 0 < n) (h : n ≤ m) : boundN t m ≤ boundN t n := by
  rcases Nat.lt_or_ge (boundN t n) (boundN t m) with h1 | h1
  · have h2 := bound_lt (by omega : 0 < m) h1
    have h3 := bound_ge t hn
    have h4 : 4 * n * boundN t n ≤ 4 * m * boundN t n := Nat.mul_le_mul_right _ (by omega)
    omega
  · exact h1
theorem bound_next {t n : Nat} (hn : 0 < n) : boundN (t + 1) n ≤ boundN t n + 2 := by
  rcases Nat.lt_or_ge (boundN t n + 2) (boundN (t + 1) n) with h1 | h1
  · have h2 := bound_lt hn h1
    have h3 := bound_ge t hn
    rw [Nat.mul_add] at h2
    omega
  · exact h1
theorem bound_holds {t n : Nat} (hn : 0 < n) : t ≤ boundN t n * n := by
  have h := bound_ge t hn
  rw [show 4 * n * boundN t n = 4 * (boundN t n * n) by rw [Nat.mul_assoc, Nat.mul_comm n]] at h
  omega
theorem bound_le {t n : Nat} (hn : 0 < n) : boundN t n ≤ 2 * t := by
  rcases Nat.lt_or_ge (2 * t) (boundN t n) with h | h
  · have h2 := bound_lt hn h
    have h3 : 4 * 1 * (2 * t) ≤ 4 * n * (2 * t) := Nat.mul_le_mul_right _ (by omega)
    omega
  · exact h

/-- What is put: a task, a node. -/
structure Pu where
  t : ByteArray
  n : Int
deriving DecidableEq
def zu : Pu := ⟨⟨#[]⟩, 0⟩
def pu (l : List Pu) (j : Nat) : Pu := l.getD j zu
theorem pu_lt (l : List Pu) {j : Nat} (h : j < l.length) : pu l j = l[j] := by simp [pu, h]
/-- How many a node has. -/
def cnt (l : List Pu) (x : Int) : Nat := l.countP fun p => p.n == x
theorem cnt_nil (x : Int) : cnt [] x = 0 := rfl
theorem cnt_snoc (l : List Pu) (p : Pu) (x : Int) : cnt (l ++ [p]) x = cnt l x + if p.n = x then 1 else 0 := by
  unfold cnt
  rw [List.countP_append, List.countP_singleton]
  by_cases h : p.n = x <;> simp [h]
theorem cnt_append (l m : List Pu) (x : Int) : cnt (l ++ m) x = cnt l x + cnt m x := List.countP_append
theorem cnt_take (l : List Pu) (k : Nat) (x : Int) : cnt (l.take k) x ≤ cnt l x := (List.take_sublist k l).countP_le
theorem cnt_le (l : List Pu) (x : Int) : cnt l x ≤ l.length := List.countP_le_length

/-! ### there is a node that has fewer -/
def sumI (xs : List Int) (f : Int → Nat) : Nat := (xs.map f).sum
theorem sumI_add (xs : List Int) (f g : Int → Nat) : sumI xs (fun x => f x + g x) = sumI xs f + sumI xs g := by
  induction xs with
  | nil => rfl
  | cons x r ih =>
    unfold sumI at *
    simp only [List.map_cons, List.sum_cons] at *
    omega
theorem sum_zero (l : List Nat) (h : ∀ x ∈ l, x = 0) : l.sum = 0 := by
  induction l with
  | nil => rfl
  | cons x r ih => rw [List.sum_cons, h x (by simp), ih fun y hy => h y (by simp [hy])]
theorem sumI_one {xs : List Int} (hn : xs.Nodup) (y : Int) (hy : y ∈ xs) : sumI xs (fun x => if y = x then 1 else 0) = 1 := by
  induction xs with
  | nil => simp at hy
  | cons x r ih =>
    rw [List.nodup_cons] at hn
    unfold sumI at *
    simp only [List.map_cons, List.sum_cons]
    by_cases h : y = x
    · subst h
      have h0 : (r.map fun x => if y = x then 1 else 0).sum = 0 := by
        apply sum_zero
        intro z hz
        obtain ⟨a, ha, rfl⟩ := List.mem_map.1 hz
        rw [if_neg (fun e => hn.1 (by rw [e]; exact ha))]
      rw [if_pos rfl, h0]
    · rw [if_neg h, ih hn.2 (by rcases List.mem_cons.1 hy with h1 | h1; exact absurd h1 h; exact h1)]
theorem sumI_cnt {xs : List Int} (hn : xs.Nodup) : ∀ l : List Pu, (∀ p ∈ l, p.n ∈ xs) → sumI xs (cnt l) = l.length := by
  intro l
  induction l with
  | nil =>
    intro _
    unfold sumI
    rw [sum_zero]
    · rfl
    · intro z hz
      obtain ⟨a, _, rfl⟩ := List.mem_map.1 hz
      rfl
  | cons p r ih =>
    intro h
    have e : cnt (p :: r) = fun x => cnt r x + if p.n = x then 1 else 0 := by
      funext x
      unfold cnt
      rw [List.countP_cons]
      by_cases h : p.n = x <;> simp [h]
    rw [e, sumI_add, sumI_one hn _ (h p (by simp)), ih (fun q hq => h q (by simp [hq])), List.length_cons]
theorem sumI_ge {xs : List Int} {f : Int → Nat} {m : Nat} (h : ∀ x ∈ xs, m ≤ f x) : m * xs.length ≤ sumI xs f := by
  induction xs with
  | nil => simp [sumI]
  | cons x r ih =>
    have h1 := ih fun y hy => h y (by simp [hy])
    have h2 := h x (by simp)
    unfold sumI at *
    simp only [List.map_cons, List.sum_cons, List.length_cons, Nat.mul_add, Nat.mul_one]
    omega
theorem some_fewer {xs : List Int} (hn : xs.Nodup) {l : List Pu} (hl : ∀ p ∈ l, p.n ∈ xs) {m : Nat} (hm : l.length < m * xs.length) : ∃ x ∈ xs, cnt l x < m := by
  apply Classical.byContradiction
  intro hc
  have : m * xs.length ≤ sumI xs (cnt l) := sumI_ge fun x hx => by
    rcases Nat.lt_or_ge (cnt l x) m with h | h
    · exact absurd ⟨x, hx, h⟩ hc
    · exact h
  rw [sumI_cnt hn l hl] at this
  omega

/-! ### put one by one -/
/-- The place in a walk of the first one that has fewer. -/
def atF (W : List Int) (out : List Pu) (m : Nat) : Nat := W.findIdx fun x => decide (cnt out x < m)
def nextF (W : List Int) (out : List Pu) (m : Nat) : Int := W.getD (atF W out m) 0
def asg (W : ByteArray → List Int) (m : Nat) (l : List ByteArray) : List Pu := l.foldl (fun out t => out ++ [⟨t, nextF (W t) out m⟩]) []
theorem asg_snoc (W : ByteArray → List Int) (m : Nat) (l : List ByteArray) (t : ByteArray) : asg W m (l ++ [t]) = asg W m l ++ [⟨t, nextF (W t) (asg W m l) m⟩] := by simp [asg]
theorem asgA (W : ByteArray → List Int) (m : Nat) (l : List ByteArray) : ∀ out : List Pu, (l.foldl (fun out t => out ++ [⟨t, nextF (W t) out m⟩]) out).take out.length = out := by
  induction l with
  | nil => intro out; simp
  | cons t r ih =>
    intro out
    have h := ih (out ++ [⟨t, nextF (W t) out m⟩])
    simp only [List.foldl_cons]
    have h2 := congrArg (List.take out.length) h
    rw [List.take_take, Nat.min_eq_left (by simp)] at h2
    rw [h2]; simp
theorem asg_len (W : ByteArray → List Int) (m : Nat) (l : List ByteArray) : (asg W m l).length = l.length := by
  unfold asg
  have : ∀ (l : List ByteArray) (out : List Pu), (l.foldl (fun out t => out ++ [⟨t, nextF (W t) out m⟩]) out).length = out.length + l.length := by
    intro l
    induction l with
    | nil => intro out; rfl
    | cons t r ih => intro out; rw [List.foldl_cons, ih]; simp; omega
  rw [this]; simp
/-- Those behind play no part. -/
theorem asg_take (W : ByteArray → List Int) (m : Nat) (l : List ByteArray) (k : Nat) : (asg W m l).take k = asg W m (l.take k) := by
  rcases Nat.lt_or_ge k l.length with h | h
  · have e : asg W m l = (l.drop k).foldl (fun out t => out ++ [⟨t, nextF (W t) out m⟩]) (asg W m (l.take k)) := by
      unfold asg
      rw [← List.foldl_append, List.take_append_drop]
    have h2 := asgA W m (l.drop k) (asg W m (l.take k))
    rw [asg_len, List.length_take, Nat.min_eq_left (by omega)] at h2
    rw [e]; exact h2
  · rw [List.take_of_length_le (by rw [asg_len]; exact h), List.take_of_length_le h]
theorem asg_at (W : ByteArray → List Int) (m : Nat) (l : List ByteArray) {i : Nat} (h : i < l.length) : pu (asg W m l) i = ⟨l.getD i ⟨#[]⟩, nextF (W (l.getD i ⟨#[]⟩)) (asg W m (l.take i)) m⟩ := by
  have h1 := asg_take W m l (i + 1)
  have e : l.take (i + 1) = l.take i ++ [l.getD i ⟨#[]⟩] := by rw [List.take_succ_eq_append_getElem h]; simp [List.getD, h]
  rw [e, asg_snoc] at h1
  have hl : (asg W m (l.take i)).length = i := by rw [asg_len, List.length_take, Nat.min_eq_left (by omega)]
  have h2 : pu ((asg W m l).take (i + 1)) i = pu (asg W m (l.take i) ++ [⟨l.getD i ⟨#[]⟩, nextF (W (l.getD i ⟨#[]⟩)) (asg W m (l.take i)) m⟩]) i := congrArg (fun z => pu z i) h1
  have h3 : pu ((asg W m l).take (i + 1)) i = pu (asg W m l) i := by simp [pu, List.getD]
  rw [h3] at h2
  rw [h2]
  show (asg W m (l.take i) ++ [_]).getD i zu = _
  rw [List.getD_eq_getElem?_getD, List.getElem?_append_right (by omega), hl, Nat.sub_self]
  rfl

section
variable {W : ByteArray → List Int} {xs : List Int} {m : Nat} {l : List ByteArray}
/-- Where all walks are of the same nodes, and there is room. -/
structure Room (W : ByteArray → List Int) (xs : List Int) (m : Nat) (l : List ByteArray) : Prop where
  nodup : xs.Nodup
  walk : ∀ t ∈ l, ∀ x, x ∈ W t ↔ x ∈ xs
  room : l.length ≤ m * xs.length
theorem Room.take (h : Room W xs m l) (k : Nat) : Room W xs m (l.take k) := ⟨h.nodup, fun t ht => h.walk t (List.mem_of_mem_take ht), by rw [List.length_take]; have := h.room; omega⟩
theorem getD_in (l : List ByteArray) {i : Nat} (h : i < l.length) : l.getD i ⟨#[]⟩ ∈ l := by
  have e : l.getD i ⟨#[]⟩ = l[i] := by simp [List.getD, h]
  rw [e]; exact List.getElem_mem h
theorem asg_nodes (h : Room W xs m l) : ∀ k, k ≤ l.length → ∀ p ∈ asg W m (l.take k), p.n ∈ xs := by
  intro k
  induction k with
  | zero => intro _ p hp; simp [asg] at hp
  | succ k ih =>
    intro hk p hp
    have e : l.take (k + 1) = l.take k ++ [l.getD k ⟨#[]⟩] := by rw [List.take_succ_eq_append_getElem (by omega)]; simp [List.getD, show k < l.length by omega]
    rw [e, asg_snoc] at hp
    rcases List.mem_append.1 hp with hp | hp
    · exact ih (by omega) p hp
    · rw [List.mem_singleton.1 hp]
      have hr : (asg W m (l.take k)).length < m * xs.length := by rw [asg_len, List.length_take]; have := h.room; omega
      obtain ⟨x, hx, hc⟩ := some_fewer h.nodup (ih (by omega)) hr
      have hf : (W (l.getD k ⟨#[]⟩)).findIdx (fun x => decide (cnt (asg W m (l.take k)) x < m)) < (W (l.getD k ⟨#[]⟩)).length :=
        List.findIdx_lt_length_of_exists ⟨x, (h.walk _ (getD_in l (show k < l.length by omega)) x).2 hx, by simpa using hc⟩
      refine (h.walk _ (getD_in l (show k < l.length by omega)) _).1 ?_
      show nextF _ _ _ ∈ _
      have e2 : nextF (W (l.getD k ⟨#[]⟩)) (asg W m (l.take k)) m = (W (l.getD k ⟨#[]⟩))[(W (l.getD k ⟨#[]⟩)).findIdx (fun x => decide (cnt (asg W m (l.take k)) x < m))] := by
        unfold nextF atF
        rw [List.getD_eq_getElem?_getD, List.getElem?_eq_getElem hf]
        rfl
      rw [e2]
      exact List.getElem_mem hf
/-- The first one that has fewer is there. -/
theorem asg_found (h : Room W xs m l) {k : Nat} (hk : k < l.length) :
    atF (W (l.getD k ⟨#[]⟩)) (asg W m (l.take k)) m < (W (l.getD k ⟨#[]⟩)).length ∧ cnt (asg W m (l.take k)) (nextF (W (l.getD k ⟨#[]⟩)) (asg W m (l.take k)) m) < m ∧
    ∀ j, j < atF (W (l.getD k ⟨#[]⟩)) (asg W m (l.take k)) m → m ≤ cnt (asg W m (l.take k)) ((W (l.getD k ⟨#[]⟩)).getD j 0) := by
  have hr : (asg W m (l.take k)).length < m * xs.length := by rw [asg_len, List.length_take]; have := h.room; omega
  obtain ⟨x, hx, hc⟩ := some_fewer h.nodup (asg_nodes h k (by omega)) hr
  have hf : (W (l.getD k ⟨#[]⟩)).findIdx (fun x => decide (cnt (asg W m (l.take k)) x < m)) < (W (l.getD k ⟨#[]⟩)).length :=
    List.findIdx_lt_length_of_exists ⟨x, (h.walk _ (getD_in l hk) x).2 hx, by simpa using hc⟩
  refine ⟨hf, ?_, fun j hj => ?_⟩
  · have := List.findIdx_getElem (w := hf)
    unfold nextF atF
    rw [List.getD, List.getElem?_eq_getElem hf]
    simpa using of_decide_eq_true this
  · have h2 := List.not_of_lt_findIdx hj
    have hj2 : j < (W (l.getD k ⟨#[]⟩)).length := Nat.lt_trans hj hf
    rw [List.getD, List.getElem?_eq_getElem hj2]
    simpa using h2
/-- On none too many. -/
theorem asg_most (h : Room W xs m l) (x : Int) : ∀ k, k ≤ l.length → cnt (asg W m (l.take k)) x ≤ m := by
  intro k
  induction k with
  | zero => intro _; simp [asg, cnt]
  | succ k ih =>
    intro hk
    have e : l.take (k + 1) = l.take k ++ [l.getD k ⟨#[]⟩] := by rw [List.take_succ_eq_append_getElem (by omega)]; simp [List.getD, show k < l.length by omega]
    rw [e, asg_snoc, cnt_snoc]
    have h1 := ih (by omega)
    have h2 := (asg_found h (k := k) (by omega)).2.1
    split
    · rename_i he
      have he' : nextF (W (l.getD k ⟨#[]⟩)) (asg W m (l.take k)) m = x := he
      rw [he'] at h2; omega
    · omega
/-- First come: all ahead in its walk have as many as may be. -/
theorem asg_first (h : Room W xs m l) {i : Nat} (hi : i < l.length) {j : Nat} (hj : j < atF (W (l.getD i ⟨#[]⟩)) (asg W m (l.take i)) m) : cnt (asg W m l) ((W (l.getD i ⟨#[]⟩)).getD j 0) = m := by
  have h1 := (asg_found h hi).2.2 j hj
  have h2 := asg_most h ((W (l.getD i ⟨#[]⟩)).getD j 0) l.length (Nat.le_refl _)
  rw [List.take_length] at h2
  have h3 := cnt_take (asg W m l) i ((W (l.getD i ⟨#[]⟩)).getD j 0)
  rw [asg_take] at h3
  omega
end
/-- A task by itself. -/
theorem asg_one (W : ByteArray → List Int) {m : Nat} (hm : 0 < m) (t : ByteArray) {x : Int} {r : List Int} (hw : W t = x :: r) : asg W m [t] = [⟨t, x⟩] := by
  show [Pu.mk t (nextF (W t) [] m)] = _
  have : atF (x :: r) [] m = 0 := by unfold atF; rw [List.findIdx_cons]; simp [cnt_nil, hm]
  rw [hw]
  unfold nextF
  rw [this]
  rfl
/-- All on one. -/
theorem asg_all (W : ByteArray → List Int) (m : Nat) (l : List ByteArray) (x : Int) (hw : ∀ t ∈ l, W t = [x]) (hm : l.length ≤ m) : cnt (asg W m l) x = l.length := by
  have h : Room W [x] m l := ⟨by simp, fun t ht y => by rw [hw t ht], by simpa using hm⟩
  have h1 := asg_nodes h l.length (Nat.le_refl _)
  rw [List.take_length] at h1
  unfold cnt
  rw [List.countP_eq_length.2 (fun p hp => by have := h1 p hp; rw [List.mem_singleton] at this; simpa using this), asg_len]
end Go.Proofs.YthcjjogomknddaaDoor.Pure
