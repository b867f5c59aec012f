/-
  How often a node's news are to be told yet: what is added counts, what is told counts once less.
-/
import Derived.Test.YtipepmnnjhhjbaaFairMath
namespace Go.Proofs.Ytipepmnnjhhjbaa
open Go.Sort Go.RowKit Go.Proofs.Ytipepmnnjhhjbaa.Pure

/-- How often the news of k are to be told yet. -/
def leftK (q : List Td) (k : Int) : Int := (q.map fun x => if x.w = k then x.l else 0).sum
theorem leftK_nil (k : Int) : leftK [] k = 0 := rfl
theorem leftK_cons (x : Td) (q : List Td) (k : Int) : leftK (x :: q) k = (if x.w = k then x.l else 0) + leftK q k := by simp [leftK]
theorem leftK_append (a b : List Td) (k : Int) : leftK (a ++ b) k = leftK a k + leftK b k := by simp [leftK]
theorem leftK_perm {a b : List Td} (h : a.Perm b) (k : Int) : leftK a k = leftK b k := by
  unfold leftK
  induction h with
  | nil => rfl
  | cons x _ ih => simp [ih]
  | swap x y l => simp; omega
  | trans _ _ i1 i2 => exact i1.trans i2
theorem leftK_dec (s : List Td) (k : Int) : leftK (s.map dec1) k = leftK s k - ((s.map Td.w).count k : Int) := by
  induction s with
  | nil => rfl
  | cons x s ih =>
    rw [List.map_cons, leftK_cons, leftK_cons, ih, List.map_cons, List.count_cons]
    have e1 : (dec1 x).w = x.w := rfl
    have e2 : (dec1 x).l = x.l - 1 := rfl
    rw [e1, e2]
    by_cases h : x.w = k
    · simp [h]; omega
    · simp [h]
theorem leftK_yet (s : List Td) (k : Int) : leftK (yet s) k = leftK s k := by
  induction s with
  | nil => rfl
  | cons x s ih =>
    unfold yet at *
    rw [List.filter_cons]
    by_cases h : yetB x = true
    · rw [if_pos h, leftK_cons, leftK_cons, ih]
    · rw [if_neg h, leftK_cons, ih]
      have : x.l = 0 := by simpa [yetB] using h
      rw [this]
      simp
theorem leftK_rest (q : List Td) (m : Nat) (k : Int) : (((tellN q m).map Nw.w).count k : Int) + leftK (tellR q m) k = leftK q k := by
  have h1 := leftK_perm (srt_perm cfW (yet (stepL (srtT q) m))) k
  have h2 : leftK (srtT q) k = leftK q k := leftK_perm (srt_perm cfT q) k
  have h3 : leftK (tellR q m) k = leftK (srtOf cfW (yet (stepL (srtT q) m))) k := rfl
  rw [h3, h1, leftK_yet, tellN_w]
  unfold stepL
  rw [leftK_append, leftK_dec, ← h2]
  have : leftK (srtT q) k = leftK ((srtT q).take m) k + leftK ((srtT q).drop m) k := by rw [← leftK_append, List.take_append_drop]
  omega
theorem leftK_pos {q : List Td} (h : ∀ x ∈ q, 1 ≤ x.l) (k : Int) : 0 ≤ leftK q k ∧ (0 < leftK q k ↔ k ∈ q.map Td.w) := by
  induction q with
  | nil => simp [leftK_nil]
  | cons x q ih =>
    have hx := h x (by simp)
    have := ih (fun y hy => h y (by simp [hy]))
    rw [leftK_cons, List.map_cons, List.mem_cons, ← this.2]
    by_cases e : x.w = k
    · simp [e]; omega
    · simp [e, Ne.symm e]
      exact this.1
theorem leftK_le {q : List Td} (ha : Apart q) (b : Int) (h : ∀ x ∈ q, 1 ≤ x.l ∧ x.l ≤ b) (hb : 0 ≤ b) (k : Int) : leftK q k ≤ b := by
  induction q with
  | nil => simpa [leftK_nil] using hb
  | cons x q ih =>
    unfold Apart at ha
    rw [List.map_cons, List.nodup_cons] at ha
    have hx := h x (by simp)
    have h' : ∀ y ∈ q, 1 ≤ y.l ∧ y.l ≤ b := fun y hy => h y (by simp [hy])
    have := ih ha.2 h'
    rw [leftK_cons]
    by_cases e : x.w = k
    · have hp := (leftK_pos (fun y hy => (h' y hy).1) k)
      have : ¬ 0 < leftK q k := fun h => ha.1 (by rw [e]; exact hp.2.1 h)
      simp [e]
      omega
    · simpa [e] using this
/-- News that nothing is there of are one more. -/
theorem addQ_new {q : List Td} (x : Td) (hn : x.w ∉ q.map Td.w) : (addQ q x).Perm (x :: q) := by
  induction q with
  | nil => exact List.Perm.refl _
  | cons y r ih =>
    rw [List.map_cons, List.mem_cons] at hn
    unfold addQ
    split
    · exact (List.Perm.cons y (ih (fun h => hn (.inr h)))).trans (List.Perm.swap x y r)
    · rw [if_neg (fun e => hn (.inl e.symm))]
theorem sumT_ge {q : List Td} (h : ∀ x ∈ q, 1 ≤ x.l) : (q.length : Int) ≤ sumT q := by
  induction q with
  | nil => simp [sumT]
  | cons x q ih =>
    have hx := h x (by simp)
    have := ih (fun y hy => h y (by simp [hy]))
    unfold sumT at *
    simp only [List.map_cons, List.sum_cons, List.length_cons]
    omega
theorem sumT_le9 {q : List Td} (h : ∀ x ∈ q, x.l ≤ 9) : sumT q ≤ 9 * (q.length : Int) := by
  induction q with
  | nil => simp [sumT]
  | cons x q ih =>
    have hx := h x (by simp)
    have := ih (fun y hy => h y (by simp [hy]))
    unfold sumT at *
    simp only [List.map_cons, List.sum_cons, List.length_cons]
    omega
/-- Two lists of keys with the same keys, each once, are of one length. -/
theorem len_same {a b : List Int} (ha : a.Nodup) (hb : b.Nodup) (h : ∀ k, k ∈ a ↔ k ∈ b) : a.length = b.length :=
  ((List.perm_ext_iff_of_nodup ha hb).2 h).length_eq
end Go.Proofs.Ytipepmnnjhhjbaa
