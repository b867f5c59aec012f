/-
  Texts in their order: the model's '<' and '==' on texts as ltS; tasks' names, and what is put, that may be. Str is load's.
-/
import Derived.Test.YtdbndkccgpmkbaaStr
import Derived.Sort.Walk0
import Derived.Lib.Strings
namespace Go.Proofs.Ytdbndkccgpmkbaa.Pure
open Go.Proofs

theorem less_is (x y : ByteArray) : Op.bytesLess x.toList y.toList = ltS x y := by
  rw [bytesLess_eq, Lib.toList_data, Lib.toList_data]
  rfl
theorem eq_is (x y : ByteArray) : (x.toList == y.toList) = decide (x = y) := by
  rw [Lib.toList_data, Lib.toList_data]
  by_cases h : x = y
  · subst h; simp
  · rw [decide_eq_false h, beq_eq_false_iff_ne]
    exact fun e => h (bytes_ext e)
theorem leq_is (x y : ByteArray) : (Op.bytesLess x.toList y.toList || (x.toList == y.toList)) = !ltS y x := by
  rw [less_is, eq_is]
  cases h1 : ltS x y with
  | true => rw [ltS_asymm h1]; rfl
  | false =>
    cases h2 : ltS y x with
    | true =>
      rw [decide_eq_false fun e => ltS_ne h2 e.symm]
      rfl
    | false =>
      rw [decide_eq_true (ltS_total h1 h2)]
      rfl
def zba : ByteArray := ⟨#[]⟩
def ba (l : List ByteArray) (j : Nat) : ByteArray := l.getD j zba
theorem ba_lt (l : List ByteArray) {j : Nat} (h : j < l.length) : ba l j = l[j] := by simp [ba, h]
/-- Each above the one ahead of it: then they rise. -/
theorem rise_next {l : List ByteArray} (h : ∀ i, i + 1 < l.length → ltS (ba l i) (ba l (i + 1)) = true) : RiseK l := by
  unfold RiseK
  rw [List.pairwise_iff_getElem]
  intro i j hi hj hij
  obtain ⟨d, rfl⟩ : ∃ d, j = i + 1 + d := ⟨j - (i + 1), by omega⟩
  clear hij
  induction d with
  | zero => have := h i hj; rwa [ba_lt l hi, ba_lt l hj] at this
  | succ d ih =>
    have h1 := ih (by omega)
    have h2 := h (i + 1 + d) (by omega)
    rw [ba_lt l (by omega), ba_lt l (by omega)] at h2
    exact ltS_trans h1 h2
theorem rise_two {l : List ByteArray} (h : RiseK l) {i j : Nat} (hij : i < j) (hj : j < l.length) : ltS (ba l i) (ba l j) = true := by
  have := (List.pairwise_iff_getElem.1 h) i j (by omega) hj hij
  rwa [ba_lt l (by omega), ba_lt l hj]
/-- One name is well: it may be one, and is above the one ahead of it. -/
def nextB (nm : ByteArray → Bool) (l : List ByteArray) (i : Nat) : Bool := nm (ba l i) && (decide (i = 0) || ltS (ba l (i - 1)) (ba l i))
def tasksB (nm : ByteArray → Bool) (l : List ByteArray) : Bool := decide (l.length ≤ 100) && (List.range l.length).all (nextB nm l)
theorem tasksB_iff (nm : ByteArray → Bool) (l : List ByteArray) : tasksB nm l = true ↔ l.length ≤ 100 ∧ (∀ t ∈ l, nm t = true) ∧ RiseK l := by
  unfold tasksB nextB
  simp only [Bool.and_eq_true, decide_eq_true_eq, List.all_eq_true, List.mem_range, Bool.or_eq_true]
  constructor
  · rintro ⟨h1, h2⟩
    refine ⟨h1, fun t ht => ?_, rise_next fun i hi => ?_⟩
    · obtain ⟨i, hi, rfl⟩ := List.mem_iff_getElem.1 ht
      have := (h2 i hi).1
      rwa [ba_lt l hi] at this
    · rcases (h2 (i + 1) hi).2 with h | h
      · omega
      · exact h
  · rintro ⟨h1, h2, h3⟩
    refine ⟨h1, fun i hi => ⟨?_, ?_⟩⟩
    · rw [ba_lt l hi]
      exact h2 _ (List.getElem_mem hi)
    · rcases Nat.eq_zero_or_pos i with h | h
      · exact Or.inl h
      · exact Or.inr (rise_two h3 (by omega) hi)
theorem tasksB_bad {nm : ByteArray → Bool} {l : List ByteArray} {i : Nat} (hi : i < l.length) (h : nextB nm l i = false) : tasksB nm l = false := by
  cases ht : tasksB nm l with
  | false => rfl
  | true =>
    unfold tasksB at ht
    rw [Bool.and_eq_true, List.all_eq_true] at ht
    rw [ht.2 i (List.mem_range.2 hi)] at h
    cases h
theorem tasksB_many {nm : ByteArray → Bool} {l : List ByteArray} (h : 100 < l.length) : tasksB nm l = false := by
  unfold tasksB
  rw [decide_eq_false (by omega)]
  rfl
theorem tasksB_good {nm : ByteArray → Bool} {l : List ByteArray} (h : l.length ≤ 100) (k : ∀ i, i < l.length → nextB nm l i = true) : tasksB nm l = true := by
  unfold tasksB
  rw [Bool.and_eq_true, List.all_eq_true]
  exact ⟨decide_eq_true h, fun i hi => k i (List.mem_range.1 hi)⟩
end Go.Proofs.Ytdbndkccgpmkbaa.Pure
