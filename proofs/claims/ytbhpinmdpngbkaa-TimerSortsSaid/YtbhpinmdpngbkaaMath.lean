/-
  Timers, their order, and lists of them: plain mathematics, no memory.
-/
namespace Go.Proofs.Ytbhpinmdpngbkaa.Pure

/-- A timer: At, Kind, Who, N. -/
structure Tm where
  a : Int
  k : Int
  o : Int
  n : Int

theorem Tm.eq_iff (x y : Tm) : x = y ↔ x.a = y.a ∧ x.k = y.k ∧ x.o = y.o ∧ x.n = y.n := by
  cases x; cases y; simp

instance : DecidableEq Tm := fun x y => decidable_of_iff _ (Tm.eq_iff x y).symm

/-- Does x come ahead of y? -/
def Ahead (x y : Tm) : Prop := x.a < y.a ∨ (x.a = y.a ∧ (x.k < y.k ∨ (x.k = y.k ∧ (x.o < y.o ∨ (x.o = y.o ∧ x.n < y.n)))))
instance (x y : Tm) : Decidable (Ahead x y) := by unfold Ahead; infer_instance
def lt (x y : Tm) : Bool := decide (Ahead x y)

theorem lt_iff (x y : Tm) : lt x y = true ↔ Ahead x y := by simp [lt]
theorem lt_not (x y : Tm) : lt x y = false ↔ ¬ Ahead x y := by simp [lt]

theorem lt_irrefl (x : Tm) : lt x x = false := by rw [lt_not]; unfold Ahead; omega
theorem lt_asymm {x y : Tm} (h : lt x y = true) : lt y x = false := by rw [lt_iff] at h; rw [lt_not]; unfold Ahead at *; omega
theorem lt_trans {x y z : Tm} (h : lt x y = true) (g : lt y z = true) : lt x z = true := by rw [lt_iff] at *; unfold Ahead at *; omega
/-- x is not behind y. -/
def le (x y : Tm) : Bool := !lt y x
theorem le_iff (x y : Tm) : le x y = true ↔ ¬ Ahead y x := by simp [le, lt]
theorem le_refl (x : Tm) : le x x = true := by simp [le, lt_irrefl]
theorem le_trans {x y z : Tm} (h : le x y = true) (g : le y z = true) : le x z = true := by rw [le_iff] at *; unfold Ahead at *; omega
theorem le_total (x y : Tm) : (le x y || le y x) = true := by
  rw [Bool.or_eq_true, le_iff, le_iff]; unfold Ahead; omega
theorem le_antisymm {x y : Tm} (h : le x y = true) (g : le y x = true) : x = y := by
  rw [le_iff] at h g; rw [Tm.eq_iff]; unfold Ahead at *; omega
theorem le_of_lt {x y : Tm} (h : lt x y = true) : le x y = true := by simp [le, lt_asymm h]
theorem le_at {x y : Tm} (h : le x y = true) : x.a ≤ y.a := by rw [le_iff] at h; unfold Ahead at h; omega
theorem lt_or_eq {x y : Tm} (h : le x y = true) : lt x y = true ∨ x = y := by
  rw [le_iff] at h; rw [lt_iff, Tm.eq_iff]; unfold Ahead at *; omega
theorem eq_of_not_lt {x y : Tm} (h : lt x y = false) (g : lt y x = false) : x = y := le_antisymm (by simp [le, g]) (by simp [le, h])

/-- Lists in order. -/
def Sorted (l : List Tm) : Prop := l.Pairwise fun x y => le x y = true
/-- A list in order: the one that its timers make. -/
def srt (l : List Tm) : List Tm := l.mergeSort le
theorem srt_sorted (l : List Tm) : Sorted (srt l) := List.pairwise_mergeSort (le := le) (fun _ _ _ => le_trans) le_total l
theorem srt_perm (l : List Tm) : (srt l).Perm l := List.mergeSort_perm l le
theorem srt_len (l : List Tm) : (srt l).length = l.length := (srt_perm l).length_eq
theorem sorted_unique {l m : List Tm} (hl : Sorted l) (hm : Sorted m) (h : l.Perm m) : l = m := h.eq_of_pairwise (fun _ _ _ _ => le_antisymm) hl hm
theorem srt_of_sorted {l : List Tm} (h : Sorted l) : srt l = l := sorted_unique (srt_sorted l) h (srt_perm l)
theorem srt_congr {l m : List Tm} (h : l.Perm m) : srt l = srt m := sorted_unique (srt_sorted l) (srt_sorted m) (((srt_perm l).trans h).trans (srt_perm m).symm)
theorem srt_eq {l m : List Tm} (h : Sorted m) (hp : m.Perm l) : srt l = m := sorted_unique (srt_sorted l) h ((srt_perm l).trans hp.symm)

def zt : Tm := ⟨0, 0, 0, 0⟩
/-- Each is not behind the one after it: in order. -/
theorem sorted_of_steps (l : List Tm) (h : ∀ i, i + 1 < l.length → lt (l.getD (i + 1) zt) (l.getD i zt) = false) : Sorted l := by
  induction l with
  | nil => exact List.Pairwise.nil
  | cons x r ih =>
    refine List.Pairwise.cons ?_ (ih fun i hi => h (i + 1) (by simpa using hi))
    have hs : Sorted r := ih fun i hi => h (i + 1) (by simpa using hi)
    rcases r with _ | ⟨y, r'⟩
    · simp
    · have h0 : lt y x = false := by simpa using h 0 (by simp)
      have hxy : le x y = true := by simp [le, h0]
      intro z hz
      rcases List.mem_cons.1 hz with rfl | hz
      · exact hxy
      · exact le_trans hxy ((List.pairwise_cons.1 hs).1 z hz)
theorem Sorted.steps {l : List Tm} (h : Sorted l) (i : Nat) (hi : i + 1 < l.length) : lt (l.getD (i + 1) zt) (l.getD i zt) = false := by
  have := List.pairwise_iff_getElem.1 h i (i + 1) (by omega) hi (by omega)
  simpa [List.getD, hi, show i < l.length by omega, le] using this
theorem Sorted.at_ {l : List Tm} (h : Sorted l) (i j : Nat) (hij : i ≤ j) (hj : j < l.length) : le (l.getD i zt) (l.getD j zt) = true := by
  rcases Nat.lt_or_eq_of_le hij with hlt | rfl
  · have := List.pairwise_iff_getElem.1 h i j (by omega) hj hlt
    simpa [List.getD, hj, show i < l.length by omega] using this
  · exact le_refl _
def sortedB (l : List Tm) : Bool := decide (∀ i, i < l.length → i + 1 < l.length → lt (l.getD (i + 1) zt) (l.getD i zt) = false)
theorem sortedB_iff (l : List Tm) : sortedB l = true ↔ Sorted l := by
  unfold sortedB
  rw [decide_eq_true_iff]
  exact ⟨fun h => sorted_of_steps l fun i hi => h i (by omega) hi, fun h i _ hi => h.steps i hi⟩
end Go.Proofs.Ytbhpinmdpngbkaa.Pure
