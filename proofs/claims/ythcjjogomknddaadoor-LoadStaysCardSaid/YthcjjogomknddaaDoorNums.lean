/-
  Nodes' numbers, turns, and who is asked next, as mathematics: nothing of the program is imported.
-/
import Derived.Test.YthcjjogomknddaaDoorMath
namespace Go.Proofs.YthcjjogomknddaaDoor.Pure

/-- Numbers of nodes, none twice. -/
def Nums (xs : List Int) : Prop := (∀ x, x ∈ xs → 0 ≤ x ∧ x < 64) ∧ xs.Nodup
instance (xs : List Int) : Decidable (Nums xs) := by unfold Nums; infer_instance
def numsB (xs : List Int) : Bool := decide (Nums xs)
theorem numsB_iff (xs : List Int) : numsB xs = true ↔ Nums xs := decide_eq_true_iff
theorem nums_nil : numsB [] = true := by decide
theorem nums_sub {xs ys : List Int} (h : xs.Sublist ys) (hy : numsB ys = true) : numsB xs = true := by
  rw [numsB_iff] at *
  exact ⟨fun x hx => hy.1 x (h.subset hx), hy.2.sublist h⟩
theorem nums_perm {xs ys : List Int} (h : xs.Perm ys) (hy : numsB ys = true) : numsB xs = true := by
  rw [numsB_iff] at *
  exact ⟨fun x hx => hy.1 x (h.subset hx), h.nodup_iff.2 hy.2⟩
theorem nums_take (xs : List Int) (k : Nat) (h : numsB xs = true) : numsB (xs.take k) = true := nums_sub (List.take_sublist k xs) h
theorem nums_drop (xs : List Int) (k : Nat) (h : numsB xs = true) : numsB (xs.drop k) = true := nums_sub (List.drop_sublist k xs) h
theorem getD_mem (xs : List Int) (k : Nat) (h : k < xs.length) : xs.getD k 0 ∈ xs := by
  have e : xs.getD k 0 = xs[k] := by simp [List.getD, h]
  rw [e]
  exact List.getElem_mem h
theorem take_snoc (xs : List Int) (k : Nat) (h : k < xs.length) : xs.take (k + 1) = xs.take k ++ [xs.getD k 0] := by
  have e : xs.getD k 0 = xs[k] := by simp [List.getD, h]
  rw [List.take_succ_eq_append_getElem h, e]
theorem nums_snoc (xs : List Int) (k : Nat) (h : k < xs.length) (h0 : numsB (xs.take k) = true) (h1 : 0 ≤ xs.getD k 0) (h2 : xs.getD k 0 < 64) (h3 : xs.getD k 0 ∉ xs.take k) : numsB (xs.take (k + 1)) = true := by
  rw [numsB_iff] at *
  rw [take_snoc xs k h]
  refine ⟨fun x hx => ?_, ?_⟩
  · rcases List.mem_append.1 hx with hx | hx
    · exact h0.1 x hx
    · rw [List.mem_singleton.1 hx]; exact ⟨h1, h2⟩
  · rw [List.nodup_append]
    refine ⟨h0.2, by simp, fun a ha b hb => ?_⟩
    rw [List.mem_singleton.1 hb]
    rintro rfl
    exact h3 ha
theorem nums_not (xs : List Int) (k : Nat) (h : k < xs.length) (hb : xs.getD k 0 < 0 ∨ 64 ≤ xs.getD k 0 ∨ xs.getD k 0 ∈ xs.take k) : numsB xs = false := by
  rcases hn : numsB xs with _ | _
  · rfl
  · have h1 := (numsB_iff xs).1 hn
    have h2 := h1.1 _ (getD_mem xs k h)
    rcases hb with hb | hb | hb
    · omega
    · omega
    · have h3 := (numsB_iff _).1 (nums_take xs (k + 1) hn)
      rw [take_snoc xs k h, Nums, List.nodup_append] at h3
      exact absurd rfl (h3.2.2.2 _ hb _ (List.mem_singleton.2 rfl))
theorem nums_len (xs : List Int) (h : numsB xs = true) : xs.length ≤ 64 := by
  rw [numsB_iff] at h
  have : xs ⊆ (List.range 64).map Int.ofNat := fun x hx => by
    have := h.1 x hx
    refine List.mem_map.2 ⟨x.toNat, List.mem_range.2 (by omega), ?_⟩
    show ((x.toNat : Nat) : Int) = x
    omega
  have := h.2.length_le_of_subset this
  simpa using this

/-- Which numbers are met: 64 marks. -/
def mkB (xs : List Int) (j : Nat) : Bool := decide ((j : Int) ∈ xs)
def marks (xs : List Int) : List Bool := (List.range 64).map (mkB xs)
theorem marks_len (xs : List Int) : (marks xs).length = 64 := by simp [marks]
theorem marks_at (xs : List Int) (j : Nat) (h : j < 64) : (marks xs).getD j false = mkB xs j := by simp [marks, List.getD, h]
theorem marks_nil : marks [] = List.replicate 64 false := by decide
theorem marks_snoc (xs : List Int) (k v : Nat) (h : k < xs.length) (hv : xs.getD k 0 = (v : Int)) (h64 : v < 64) : (marks (xs.take k)).set v true = marks (xs.take (k + 1)) := by
  apply List.ext_getElem?
  intro j
  rw [List.getElem?_set, take_snoc xs k h, hv]
  by_cases hj : j < 64
  · simp only [marks, mkB, List.length_map, List.length_range, List.getElem?_map, List.getElem?_range hj, Option.map_some]
    by_cases e : v = j
    · subst e; simp [hj]
    · have e' : ¬ (j : Int) = (v : Int) := by omega
      simp [e, e']
  · have e : ¬ v = j := by omega
    simp [marks, e, hj]

/-- May a turn be? -/
def okT (xs : List Int) (p : Int) : Bool := numsB xs && (decide (0 ≤ p) && decide (p ≤ (xs.length : Int)))
theorem okT_iff (xs : List Int) (p : Int) : okT xs p = true ↔ numsB xs = true ∧ 0 ≤ p ∧ p ≤ (xs.length : Int) := by simp [okT]
/-- Do numbers rise? -/
def risesB (xs : List Int) : Bool := decide (∀ i, i < xs.length - 1 → xs.getD i 0 ≤ xs.getD (i + 1) 0)
theorem risesB_iff (xs : List Int) : risesB xs = true ↔ ∀ i, i < xs.length - 1 → xs.getD i 0 ≤ xs.getD (i + 1) 0 := decide_eq_true_iff
def strictB (xs : List Int) : Bool := decide (∀ i, i < xs.length - 1 → xs.getD i 0 < xs.getD (i + 1) 0)
theorem strictB_iff (xs : List Int) : strictB xs = true ↔ ∀ i, i < xs.length - 1 → xs.getD i 0 < xs.getD (i + 1) 0 := decide_eq_true_iff
/-- May nodes be? -/
def nodesB (xs : List Int) : Bool := numsB xs && risesB xs
theorem nodes_strict (xs : List Int) : (strictB xs && (decide (xs.length ≤ 64) && numsB xs)) = nodesB xs := by
  rw [Bool.eq_iff_iff]
  simp only [nodesB, Bool.and_eq_true, decide_eq_true_iff, strictB_iff, risesB_iff]
  constructor
  · rintro ⟨h1, h2, h3⟩
    exact ⟨h3, fun i hi => by have := h1 i hi; omega⟩
  · rintro ⟨h1, h2⟩
    refine ⟨fun i hi => ?_, nums_len xs h1, h1⟩
    have h3 := h2 i hi
    have h4 := ((numsB_iff xs).1 h1).2
    rw [List.nodup_iff_pairwise_ne, List.pairwise_iff_getElem] at h4
    have h5 := h4 i (i + 1) (by omega) (by omega) (by omega)
    have e0 : xs.getD i 0 = xs[i] := by simp [List.getD, show i < xs.length by omega]
    have e1 : xs.getD (i + 1) 0 = xs[i + 1] := by simp [List.getD, show i + 1 < xs.length by omega]
    rw [e0, e1] at h3 ⊢
    omega
theorem nodesB_nums {xs : List Int} (h : nodesB xs = true) : numsB xs = true := by
  simp only [nodesB, Bool.and_eq_true] at h
  exact h.1

/-- Who is asked next: the node, the order, how many of it were asked, and the dice's place. -/
def nx (L : List UInt8) (l T : List Int) (p a : Nat) : Int × List Int × Nat × Nat :=
  match (T.drop p).findIdx? (fun x => l.contains x) with
  | some i => (T.getD (p + i) 0, T, p + i + 1, a)
  | none => ((shufAll L a l).1.getD 0 0, (shufAll L a l).1, 1, (shufAll L a l).2)
theorem nx_found (L : List UInt8) (l T : List Int) (p a i : Nat) (h0 : p ≤ i) (h1 : i < T.length) (h2 : l.contains (T.getD i 0) = true) (h3 : ∀ j, p ≤ j → j < i → l.contains (T.getD j 0) = false) :
    nx L l T p a = (T.getD i 0, T, i + 1, a) := by
  have e : (T.drop p).findIdx? (fun x => l.contains x) = some (i - p) := by
    rw [List.findIdx?_eq_some_iff_getElem]
    refine ⟨by simp; omega, ?_, fun j hj => ?_⟩
    · have e : T.getD i 0 = T[p + (i - p)] := by rw [List.getD, List.getElem?_eq_getElem h1]; simp; congr 1; omega
      rw [List.getElem_drop, ← e]
      exact h2
    · have := h3 (p + j) (by omega) (by omega)
      have e : T.getD (p + j) 0 = T[p + j] := by simp [List.getD, show p + j < T.length by omega]
      rw [List.getElem_drop, ← e, this]
      simp
  unfold nx
  rw [e]
  simp only
  rw [show p + (i - p) = i by omega]
theorem nx_none (L : List UInt8) (l T : List Int) (p a : Nat) (h : ∀ j, p ≤ j → j < T.length → l.contains (T.getD j 0) = false) :
    nx L l T p a = ((shufAll L a l).1.getD 0 0, (shufAll L a l).1, 1, (shufAll L a l).2) := by
  have e : (T.drop p).findIdx? (fun x => l.contains x) = none := by
    rw [List.findIdx?_eq_none_iff]
    intro x hx
    obtain ⟨j, hj, rfl⟩ := List.getElem_of_mem hx
    have hj' : p + j < T.length := by simp at hj; omega
    have := h (p + j) (by omega) hj'
    have e : T.getD (p + j) 0 = T[p + j] := by simp [List.getD, hj']
    rw [List.getElem_drop, ← e, this]
  unfold nx
  rw [e]
/-- Either someone is found, or nobody. -/
theorem nx_cases (l T : List Int) (p : Nat) : (∃ i, p ≤ i ∧ i < T.length ∧ l.contains (T.getD i 0) = true ∧ ∀ j, p ≤ j → j < i → l.contains (T.getD j 0) = false) ∨ (∀ j, p ≤ j → j < T.length → l.contains (T.getD j 0) = false) := by
  rcases e : (T.drop p).findIdx? (fun x => l.contains x) with _ | i
  · right
    rw [List.findIdx?_eq_none_iff] at e
    intro j hj hlt
    have e2 : T.getD j 0 = (T.drop p)[j - p]'(by simp; omega) := by
      rw [List.getElem_drop, List.getD, List.getElem?_eq_getElem hlt]; simp; congr 1; omega
    rw [e2]
    exact e _ (List.getElem_mem _)
  · left
    rw [List.findIdx?_eq_some_iff_getElem] at e
    obtain ⟨hi, h1, h2⟩ := e
    have hi' : p + i < T.length := by simp at hi; omega
    refine ⟨p + i, by omega, hi', ?_, fun j hj hlt => ?_⟩
    · have e : T.getD (p + i) 0 = T[p + i] := by simp [List.getD, hi']
      rw [e, ← List.getElem_drop (h := hi)]
      exact h1
    · have e : T.getD j 0 = (T.drop p)[j - p]'(by simp; omega) := by
        rw [List.getElem_drop, List.getD, List.getElem?_eq_getElem (by omega)]; simp; congr 1; omega
      rw [e]
      simpa using h2 (j - p) (by omega)

/-- What Next answers. -/
structure Ans where
  n : Int
  T : List Int
  p : Int
  a : Int
  e : Int
def ans (L : List UInt8) (a : Int) (T : List Int) (p : Int) (l : List Int) : Ans :=
  if (okT T p && (nodesB l && (decide (0 ≤ a) && decide (a ≤ (L.length : Int))))) = true then
    if l = [] then ⟨0, T, p, a, 6⟩ else ⟨(nx L l T p.toNat a.toNat).1, (nx L l T p.toNat a.toNat).2.1, (nx L l T p.toNat a.toNat).2.2.1, (nx L l T p.toNat a.toNat).2.2.2, 0⟩
  else ⟨0, T, p, a, 1⟩
theorem ans_bad (L : List UInt8) (a : Int) (T : List Int) (p : Int) (l : List Int) (h : okT T p = false ∨ nodesB l = false ∨ a < 0 ∨ (L.length : Int) < a) : ans L a T p l = ⟨0, T, p, a, 1⟩ := by
  unfold ans
  rw [if_neg]
  intro hh
  simp only [Bool.and_eq_true, decide_eq_true_iff] at hh
  rcases h with h | h | h | h
  · rw [h] at hh; exact absurd hh.1 (by simp)
  · rw [h] at hh; exact absurd hh.2.1 (by simp)
  · omega
  · omega
theorem ans_nil (L : List UInt8) (a : Int) (T : List Int) (p : Int) (h1 : okT T p = true) (h3 : 0 ≤ a) (h4 : a ≤ (L.length : Int)) : ans L a T p [] = ⟨0, T, p, a, 6⟩ := by
  unfold ans
  rw [if_pos (by simp [h1, show nodesB [] = true by decide, h3, h4]), if_pos rfl]
theorem ans_ok (L : List UInt8) (a : Nat) (T : List Int) (p : Nat) (l : List Int) (h1 : okT T p = true) (h2 : nodesB l = true) (h4 : a ≤ L.length) (h5 : l ≠ []) :
    ans L a T p l = ⟨(nx L l T p a).1, (nx L l T p a).2.1, (nx L l T p a).2.2.1, (nx L l T p a).2.2.2, 0⟩ := by
  unfold ans
  rw [if_pos (by simp [h1, h2]; omega), if_neg h5]
  rfl
end Go.Proofs.YthcjjogomknddaaDoor.Pure
