/-
  Nodes' numbers, turns, and who is asked next, as mathematics: nothing of the program is imported.
-/
import Derived.Test.YtdbndkccgpmkbaaMath
namespace Go.Proofs.Ytdbndkccgpmkbaa.Pure

/-- Numbers of nodes, none twice. -/
def Nums (xs : List Int) : Prop := (∀ x, x ∈ xs → 0 ≤ x ∧ x < 64) ∧ xs.Nodup
instance (xs : List Int) : Decidable (Nums xs) := by unfold Nums; infer_instance
def numsB (xs : List Int) : Bool := decide (Nums xs)
theorem numsB_iff (xs : List Int) : numsB xs = true ↔ Nums xs := decide_eq_true_iff
theorem nums_nil : numsB [] = true := by decide
theorem nums_sub {xs ys : List Int} (h : xs.Sublist ys) (hy : numsB ys = true) : numsB xs = true := by
  rw [numsB_iff] at *
  exact ⟨fun x hx => hy.1 x (h.subset hx), hy.2.sublist h⟩
theorem nums_take (xs : List Int) (k : Nat) (h : numsB xs = true) : numsB (xs.take k) = true := nums_sub (List.take_sublist k xs) h
theorem getD_mem (xs : List Int) (k : Nat) (h : k < xs.length) : xs.getD k 0 ∈ xs := by
  have e : xs.getD k 0 = xs[k] := by simp [List.getD, h]
  rw [e]
  exact List.getElem_mem h
theorem take_snoc (xs : List Int) (k : Nat) (h : k < xs.length) : xs.take (k + 1) = xs.take k ++ [xs.getD k 0] := by
  have e : xs.getD k 0 = xs[k] := by simp [List.getD, h]
  rw [List.take_succ_eq_append_getElem h, e]
theorem nums_snoc (xs : List Int) (k : Nat) (h : k < xs.length) (h0 : numsB (xs.take k) = true) (h1 : 0 ≤ xs.getD k 0) (h2 : xs.getD k 0 < 64) (h3 : xs.getD k 0 ∉ xs.take k) : numsB (xs.take (k + 1)) = true := by
  rw [numsB_iff] at *
  rw [take_snoc xs k h]
  refine ⟨fun x hx => ?_, ?_⟩
  · rcases List.mem_append.1 hx with hx | hx
    · exact h0.1 x hx
    · rw [List.mem_singleton.1 hx]; exact ⟨h1, h2⟩
  · rw [List.nodup_append]
    refine ⟨h0.2, by simp, fun a ha b hb => ?_⟩
    rw [List.mem_singleton.1 hb]
    rintro rfl
    exact h3 ha
theorem nums_not (xs : List Int) (k : Nat) (h : k < xs.length) (hb : xs.getD k 0 < 0 ∨ 64 ≤ xs.getD k 0 ∨ xs.getD k 0 ∈ xs.take k) : numsB xs = false := by
  rcases hn : numsB xs with _ | _
  · rfl
  · have h1 := (numsB_iff xs).1 hn
    have h2 := h1.1 _ (getD_mem xs k h)
    rcases hb with hb | hb | hb
    · omega
    · omega
    · have h3 := (numsB_iff _).1 (nums_take xs (k + 1) hn)
      rw [take_snoc xs k h, Nums, List.nodup_append] at h3
      exact absurd rfl (h3.2.2.2 _ hb _ (List.mem_singleton.2 rfl))
/-- Which numbers are met: 64 marks. -/
def mkB (xs : List Int) (j : Nat) : Bool := decide ((j : Int) ∈ xs)
def marks (xs : List Int) : List Bool := (List.range 64).map (mkB xs)
theorem marks_len (xs : List Int) : (marks xs).length = 64 := by simp [marks]
theorem marks_at (xs : List Int) (j : Nat) (h : j < 64) : (marks xs).getD j false = mkB xs j := by simp [marks, List.getD, h]
theorem marks_nil : marks [] = List.replicate 64 false := by decide
theorem marks_snoc (xs : List Int) (k v : Nat) (h : k < xs.length) (hv : xs.getD k 0 = (v : Int)) (h64 : v < 64) : (marks (xs.take k)).set v true = marks (xs.take (k + 1)) := by
  apply List.ext_getElem?
  intro j
  rw [List.getElem?_set, take_snoc xs k h, hv]
  by_cases hj : j < 64
  · simp only [marks, mkB, List.length_map, List.length_range, List.getElem?_map, List.getElem?_range hj, Option.map_some]
    by_cases e : v = j
    · subst e; simp [hj]
    · have e' : ¬ (j : Int) = (v : Int) := by omega
      simp [e, e']
  · have e : ¬ v = j := by omega
    simp [marks, e, hj]

/-- Do numbers rise? -/
def risesB (xs : List Int) : Bool := decide (∀ i, i < xs.length - 1 → xs.getD i 0 ≤ xs.getD (i + 1) 0)
theorem risesB_iff (xs : List Int) : risesB xs = true ↔ ∀ i, i < xs.length - 1 → xs.getD i 0 ≤ xs.getD (i + 1) 0 := decide_eq_true_iff
/-- May nodes be? -/
def nodesB (xs : List Int) : Bool := numsB xs && risesB xs
end Go.Proofs.Ytdbndkccgpmkbaa.Pure
