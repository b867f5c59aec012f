/-
  A ring of points, as mathematics: points in order, a key's place, the walk around, with a node less. Nothing of the program is imported.
-/
import Derived.Test.YthcjjogomknddaaDoorNums
import Derived.Test.YthcjjogomknddaaDoorFMath
namespace Go.Proofs.YthcjjogomknddaaDoor.Pure

/-- A point: its sum, its node, its number. -/
structure Pt where
  h : Int
  n : Int
  i : Int
deriving DecidableEq, Repr

def z3 : Pt := ⟨0, 0, 0⟩
def pt (l : List Pt) (j : Nat) : Pt := l.getD j z3
theorem pt_lt (l : List Pt) {j : Nat} (h : j < l.length) : pt l j = l[j] := by simp [pt, h]
theorem pt_mem (l : List Pt) {j : Nat} (h : j < l.length) : pt l j ∈ l := by rw [pt_lt l h]; exact List.getElem_mem h
/-- Does a point come ahead of another one? -/
def ltP (a b : Pt) : Bool := decide (a.h < b.h ∨ (a.h = b.h ∧ (a.n < b.n ∨ (a.n = b.n ∧ a.i < b.i))))
theorem ltP_iff (a b : Pt) : ltP a b = true ↔ (a.h < b.h ∨ (a.h = b.h ∧ (a.n < b.n ∨ (a.n = b.n ∧ a.i < b.i)))) := decide_eq_true_iff
theorem ltP_false (a b : Pt) : ltP a b = false ↔ ¬(a.h < b.h ∨ (a.h = b.h ∧ (a.n < b.n ∨ (a.n = b.n ∧ a.i < b.i)))) := decide_eq_false_iff_not
theorem ltP_irrefl (a : Pt) : ltP a a = false := by rw [ltP_false]; omega
theorem ltP_trans {a b c : Pt} (h1 : ltP a b = true) (h2 : ltP b c = true) : ltP a c = true := by rw [ltP_iff] at *; omega
theorem ltP_eq {a b : Pt} (h1 : ltP a b = false) (h2 : ltP b a = false) : a = b := by
  rw [ltP_false] at *
  obtain ⟨ah, an, ai⟩ := a
  obtain ⟨bh, bn, bi⟩ := b
  simp only at *
  have : ah = bh := by omega
  have : an = bn := by omega
  have : ai = bi := by omega
  simp [*]
theorem ltP_h {a b : Pt} (h : ltP a b = true) : a.h ≤ b.h := by rw [ltP_iff] at h; omega

/-- Points rise. -/
def RiseP (l : List Pt) : Prop := l.Pairwise fun a b => ltP a b = true
theorem rise_adj {l : List Pt} (h : ∀ i, i + 1 < l.length → ltP (pt l i) (pt l (i + 1)) = true) : RiseP l := by
  unfold RiseP
  rw [List.pairwise_iff_getElem]
  intro i j hi hj hij
  obtain ⟨d, rfl⟩ : ∃ d, j = i + 1 + d := ⟨j - (i + 1), by omega⟩
  clear hij
  induction d with
  | zero => have := h i hj; rwa [pt_lt l hi, pt_lt l hj] at this
  | succ d ih =>
    have h1 := ih (by omega)
    have h2 := h (i + 1 + d) (by omega)
    rw [pt_lt l (by omega), pt_lt l (by omega)] at h2
    exact ltP_trans h1 h2
theorem rise_at {l : List Pt} (h : RiseP l) {i j : Nat} (hij : i < j) (hj : j < l.length) : ltP (pt l i) (pt l j) = true := by
  have := (List.pairwise_iff_getElem.1 h) i j (by omega) hj hij
  rwa [pt_lt l (by omega), pt_lt l hj]
theorem rise_nodup {l : List Pt} (h : RiseP l) : l.Nodup := by
  unfold RiseP at h
  rw [List.nodup_iff_pairwise_ne]
  exact h.imp fun hab e => by rw [e, ltP_irrefl] at hab; cases hab
theorem rise_uniq {a b : List Pt} (hp : a.Perm b) (ha : RiseP a) (hb : RiseP b) : a = b :=
  List.Perm.eq_of_pairwise (le := fun x y => ltP x y = true) (fun x y _ _ h1 h2 => absurd (ltP_trans h1 h2) (by rw [ltP_irrefl]; decide)) ha hb hp
theorem rise_filter {l : List Pt} (p : Pt → Bool) (h : RiseP l) : RiseP (l.filter p) := List.Pairwise.filter p h

/-- May a ring's points be? -/
def mayB (l : List Pt) : Bool := decide (l.length ≤ 2048) && (l.all fun p => decide (0 ≤ p.n) && decide (p.n < 64)) && decide (∀ i, i < l.length - 1 → ltP (pt l i) (pt l (i + 1)) = true)
theorem mayB_iff (l : List Pt) : mayB l = true ↔ l.length ≤ 2048 ∧ ∀ j, j < l.length → 0 ≤ (pt l j).n ∧ (pt l j).n < 64 ∧ (0 < j → ltP (pt l (j - 1)) (pt l j) = true) := by
  unfold mayB
  simp only [Bool.and_eq_true, decide_eq_true_iff, List.all_eq_true]
  constructor
  · rintro ⟨⟨h1, h2⟩, h3⟩
    refine ⟨h1, fun j hj => ?_⟩
    have := h2 _ (pt_mem l hj)
    refine ⟨this.1, this.2, fun h0 => ?_⟩
    have := h3 (j - 1) (by omega)
    rwa [show j - 1 + 1 = j by omega] at this
  · rintro ⟨h1, h2⟩
    refine ⟨⟨h1, fun p hp => ?_⟩, fun i hi => ?_⟩
    · obtain ⟨j, hj, rfl⟩ := List.getElem_of_mem hp
      have := h2 j hj
      rw [pt_lt l hj] at this
      exact ⟨this.1, this.2.1⟩
    · have := (h2 (i + 1) (by omega)).2.2 (by omega)
      simpa using this
theorem may_rise {l : List Pt} (h : mayB l = true) : RiseP l := rise_adj fun i hi => by
  have := (((mayB_iff l).1 h).2 (i + 1) hi).2.2 (by omega)
  simpa using this
theorem may_of {l : List Pt} (h1 : l.length ≤ 2048) (h2 : ∀ p ∈ l, 0 ≤ p.n ∧ p.n < 64) (h3 : RiseP l) : mayB l = true := by
  rw [mayB_iff]
  refine ⟨h1, fun j hj => ?_⟩
  have := h2 _ (pt_mem l hj)
  exact ⟨this.1, this.2, fun h0 => rise_at h3 (by omega) hj⟩

/-- The first point whose sum is no less. -/
def posP (l : List Pt) (h : Int) : Nat := l.findIdx fun p => decide (h ≤ p.h)
theorem posP_le (l : List Pt) (h : Int) : posP l h ≤ l.length := List.findIdx_le_length
theorem posP_lt (l : List Pt) (h : Int) {j : Nat} (hj : j < posP l h) : (pt l j).h < h := by
  have hl : j < l.length := Nat.lt_of_lt_of_le hj (posP_le l h)
  have := List.not_of_lt_findIdx hj
  rw [pt_lt l hl]
  simpa using this
theorem posP_ge {l : List Pt} (hr : RiseP l) (h : Int) {j : Nat} (h1 : posP l h ≤ j) (h2 : j < l.length) : h ≤ (pt l j).h := by
  have hp : posP l h < l.length := by omega
  have e : h ≤ (pt l (posP l h)).h := by
    have := List.findIdx_getElem (p := fun p : Pt => decide (h ≤ p.h)) (xs := l) (w := hp)
    rw [pt_lt l hp]
    exact of_decide_eq_true this
  rcases Nat.lt_or_ge (posP l h) j with h3 | h3
  · have := ltP_h (rise_at hr h3 h2); omega
  · rwa [show j = posP l h by omega]
/-- A key's place. -/
def placeP (l : List Pt) (h : Int) : Nat := posP l h % l.length
theorem place_lt {l : List Pt} (h : Int) (hl : 0 < l.length) : placeP l h < l.length := by exact Nat.mod_lt _ hl
theorem place_eq {l : List Pt} (h : Int) (hl : 0 < l.length) : placeP l h = if posP l h < l.length then posP l h else 0 := by
  have := posP_le l h
  unfold placeP
  split
  · rw [Nat.mod_eq_of_lt (by assumption)]
  · rw [show posP l h = l.length by omega, Nat.mod_self]

/-- The points from a key's place on, around. -/
def rot (l : List Pt) (h : Int) : List Pt := l.drop (posP l h) ++ l.take (posP l h)
theorem rot_len (l : List Pt) (h : Int) : (rot l h).length = l.length := by
  have := posP_le l h
  simp [rot]; omega
theorem rot_at (l : List Pt) (h : Int) (i : Nat) (hi : i < l.length) : pt (rot l h) i = pt l ((placeP l h + i) % l.length) := by
  have hp := posP_le l h
  have hl : 0 < l.length := by omega
  rw [place_eq h hl]
  split
  · rename_i hlt
    by_cases hc : posP l h + i < l.length
    · rw [Nat.mod_eq_of_lt hc]
      simp only [pt, rot, List.getD]
      rw [List.getElem?_append_left (by simp; omega), List.getElem?_drop]
    · have e : (posP l h + i) % l.length = posP l h + i - l.length := by
        rw [Nat.mod_eq_sub_mod (by omega), Nat.mod_eq_of_lt (by omega)]
      rw [e]
      simp only [pt, rot, List.getD]
      rw [List.getElem?_append_right (by simp; omega)]
      simp only [List.length_drop]
      rw [List.getElem?_take_of_lt (by omega), show i - (l.length - posP l h) = posP l h + i - l.length by omega]
  · rename_i hlt
    have e : posP l h = l.length := by omega
    rw [Nat.zero_add, Nat.mod_eq_of_lt hi]
    simp [pt, rot, e, List.getD]
theorem rot_perm (l : List Pt) (h : Int) : (rot l h).Perm l := by
  unfold rot
  exact List.perm_append_comm.trans (by rw [List.take_append_drop])
theorem rot_parts {l : List Pt} (hr : RiseP l) (h : Int) : rot l h = (l.filter fun p => decide (h ≤ p.h)) ++ l.filter fun p => decide (p.h < h) := by
  have h1 : ∀ p ∈ l.take (posP l h), p.h < h := fun p hp => by
    obtain ⟨j, hj, rfl⟩ := List.getElem_of_mem hp
    have hj' : j < posP l h ∧ j < l.length := by simp at hj; omega
    have := posP_lt l h hj'.1
    rw [pt_lt l hj'.2] at this
    simpa using this
  have h2 : ∀ p ∈ l.drop (posP l h), h ≤ p.h := fun p hp => by
    obtain ⟨j, hj, rfl⟩ := List.getElem_of_mem hp
    have hj' : posP l h + j < l.length := by simp at hj; omega
    have := posP_ge hr h (j := posP l h + j) (by omega) hj'
    rw [pt_lt l hj'] at this
    simpa using this
  have e1 : l.filter (fun p => decide (h ≤ p.h)) = l.drop (posP l h) := by
    conv => lhs; rw [← List.take_append_drop (posP l h) l]
    rw [List.filter_append, List.filter_eq_nil_iff.2 (fun p hp => by have := h1 p hp; simp; omega), List.nil_append, List.filter_eq_self.2 (fun p hp => by simpa using h2 p hp)]
  have e2 : l.filter (fun p => decide (p.h < h)) = l.take (posP l h) := by
    conv => lhs; rw [← List.take_append_drop (posP l h) l]
    rw [List.filter_append, List.filter_eq_self.2 (fun p hp => by simpa using h1 p hp), List.filter_eq_nil_iff.2 (fun p hp => by have := h2 p hp; simp; omega), List.append_nil]
  rw [e1, e2]; rfl
theorem rot_filter {l : List Pt} (hr : RiseP l) (h : Int) (p : Pt → Bool) : rot (l.filter p) h = (rot l h).filter p := by
  rw [rot_parts (rise_filter p hr), rot_parts hr, List.filter_append, List.filter_filter, List.filter_filter, List.filter_filter, List.filter_filter]
  congr 1
  · congr 1; funext x; exact Bool.and_comm _ _
  · congr 1; funext x; exact Bool.and_comm _ _

/-- Each once, in the order in which they come. -/
def nubA (acc : List Int) : List Int → List Int
  | [] => acc
  | x :: r => nubA (if x ∈ acc then acc else acc ++ [x]) r
def nub (l : List Int) : List Int := nubA [] l
theorem nubA_append (a l m : List Int) : nubA a (l ++ m) = nubA (nubA a l) m := by
  induction l generalizing a with
  | nil => rfl
  | cons x r ih => exact ih _
theorem nub_snoc (l : List Int) (x : Int) : nub (l ++ [x]) = if x ∈ nub l then nub l else nub l ++ [x] := by
  unfold nub
  rw [nubA_append]
  rfl
theorem nubA_mem (l : List Int) : ∀ (a : List Int) (x : Int), x ∈ nubA a l ↔ x ∈ a ∨ x ∈ l := by
  induction l with
  | nil => intro a x; simp [nubA]
  | cons y r ih =>
    intro a x
    rw [nubA, ih]
    by_cases hy : y ∈ a
    · rw [if_pos hy]
      simp only [List.mem_cons]
      constructor
      · rintro (h | h)
        · exact .inl h
        · exact .inr (.inr h)
      · rintro (h | h | h)
        · exact .inl h
        · exact .inl (h ▸ hy)
        · exact .inr h
    · rw [if_neg hy]
      simp only [List.mem_append, List.mem_cons, List.not_mem_nil, or_false]
      constructor
      · rintro ((h | h) | h)
        · exact .inl h
        · exact .inr (.inl h)
        · exact .inr (.inr h)
      · rintro (h | h | h)
        · exact .inl (.inl h)
        · exact .inl (.inr h)
        · exact .inr h
theorem nub_mem (l : List Int) (x : Int) : x ∈ nub l ↔ x ∈ l := by
  unfold nub
  rw [nubA_mem]
  simp
theorem nubA_nodup (l : List Int) : ∀ a : List Int, a.Nodup → (nubA a l).Nodup := by
  induction l with
  | nil => intro a h; exact h
  | cons y r ih =>
    intro a h
    rw [nubA]
    apply ih
    split
    · exact h
    · rename_i hy
      rw [List.nodup_append]
      refine ⟨h, by simp, fun b hb c hc => ?_⟩
      rw [List.mem_singleton.1 hc]
      rintro rfl
      exact hy hb
theorem nub_nodup (l : List Int) : (nub l).Nodup := nubA_nodup l [] List.nodup_nil
theorem nubA_filter (q : Int → Bool) (l : List Int) : ∀ a : List Int, nubA (a.filter q) (l.filter q) = (nubA a l).filter q := by
  induction l with
  | nil => intro a; rfl
  | cons y r ih =>
    intro a
    rw [nubA, List.filter_cons]
    rcases hq : q y with _ | _
    · rw [if_neg (by simp)]
      rw [← ih]
      congr 1
      split
      · rfl
      · rw [List.filter_append]; simp [hq]
    · rw [if_pos rfl, nubA, ← ih]
      congr 1
      by_cases hy : y ∈ a
      · rw [if_pos hy, if_pos (List.mem_filter.2 ⟨hy, hq⟩)]
      · rw [if_neg hy, if_neg (fun h => hy (List.mem_filter.1 h).1), List.filter_append]
        simp [hq]
theorem nub_filter (q : Int → Bool) (l : List Int) : nub (l.filter q) = (nub l).filter q := nubA_filter q l []
theorem nubA_head (l : List Int) : ∀ (x : Int) (a : List Int), ∃ r, nubA (x :: a) l = x :: r := by
  induction l with
  | nil => intro x a; exact ⟨a, rfl⟩
  | cons y r ih =>
    intro x a
    rw [nubA]
    split
    · exact ih x a
    · exact ih x (a ++ [y])
theorem nub_head (x : Int) (l : List Int) : ∃ r, nub (x :: l) = x :: r := by
  unfold nub
  rw [nubA]
  simp only [List.not_mem_nil, if_false, List.nil_append]
  exact nubA_head l x []
theorem nub_le (l : List Int) : (nub l).length ≤ l.length :=
  (nub_nodup l).length_le_of_subset fun x hx => (nub_mem l x).1 hx

/-- Whose points come from a key's place on, around; each once. -/
def rotN (l : List Pt) (h : Int) : List Int := (rot l h).map (·.n)
def walkP (l : List Pt) (h : Int) : List Int := nub (rotN l h)
def ownP (l : List Pt) (h : Int) : Int := (pt l (placeP l h)).n
theorem rotN_len (l : List Pt) (h : Int) : (rotN l h).length = l.length := by simp [rotN, rot_len]
theorem rotN_at (l : List Pt) (h : Int) (i : Nat) (hi : i < l.length) : (rotN l h).getD i 0 = (pt l ((placeP l h + i) % l.length)).n := by
  rw [← rot_at l h i hi]
  have : i < (rot l h).length := by rw [rot_len]; exact hi
  simp [rotN, pt, List.getD, this]
theorem walk_step (l : List Pt) (h : Int) (i : Nat) (hi : i < l.length) :
    nub ((rotN l h).take (i + 1)) = if (rotN l h).getD i 0 ∈ nub ((rotN l h).take i) then nub ((rotN l h).take i) else nub ((rotN l h).take i) ++ [(rotN l h).getD i 0] := by
  rw [take_snoc _ i (by rw [rotN_len]; exact hi), nub_snoc]
theorem walk_mem (l : List Pt) (h : Int) (x : Int) : x ∈ walkP l h ↔ x ∈ l.map (·.n) := by
  unfold walkP
  rw [nub_mem]
  exact ((rot_perm l h).map _).mem_iff
theorem walk_nodup (l : List Pt) (h : Int) : (walkP l h).Nodup := nub_nodup _
theorem walk_filter {l : List Pt} (hr : RiseP l) (h : Int) (q : Int → Bool) : walkP (l.filter fun p => q p.n) h = (walkP l h).filter q := by
  unfold walkP rotN
  rw [rot_filter hr, ← nub_filter, List.filter_map]
  rfl
theorem walk_head {l : List Pt} (h : Int) (hl : 0 < l.length) : ∃ r, walkP l h = ownP l h :: r := by
  have h0 := rotN_at l h 0 hl
  rw [Nat.add_zero, Nat.mod_eq_of_lt (place_lt h hl)] at h0
  unfold walkP ownP
  rcases hr : rotN l h with _ | ⟨x, r⟩
  · have := rotN_len l h; rw [hr] at this; simp at this; omega
  · rw [hr] at h0
    simp at h0
    rw [← h0]
    exact nub_head x r
end Go.Proofs.YthcjjogomknddaaDoor.Pure
