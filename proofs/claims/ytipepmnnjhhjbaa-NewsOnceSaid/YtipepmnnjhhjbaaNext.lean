/-
  What is told next, as lists: sorted by turn, the first ones told once less, what is left sorted by whom.
-/
import Derived.Test.YtipepmnnjhhjbaaDel
namespace Go.Proofs.Ytipepmnnjhhjbaa
open Go.Sort Go.RowKit Go.Proofs.Ytipepmnnjhhjbaa.Pure

def srtT (q : List Td) : List Td := srtOf cfT q
def srtW (q : List Td) : List Td := srtOf cfW q
def dec1 (x : Td) : Td := ⟨x.w, x.i, x.s, x.l - 1⟩
/-- The first k told once less. -/
def stepL (s : List Td) (k : Nat) : List Td := (s.take k).map dec1 ++ s.drop k
/-- The news of the first k. -/
def tellL (s : List Td) (k : Nat) : List Nw := (s.take k).map Td.n
/-- What is told next, and the queue then. -/
def tellN (q : List Td) (k : Nat) : List Nw := tellL (srtT q) k
def tellR (q : List Td) (k : Nat) : List Td := srtW (yet (stepL (srtT q) k))

theorem srt_perm (cf : Td → Td → Int) (q : List Td) : (srtOf cf q).Perm q := List.mergeSort_perm q _
theorem srt_len (cf : Td → Td → Int) (q : List Td) : (srtOf cf q).length = q.length := (srt_perm cf q).length_eq
theorem stepL_len (s : List Td) (k : Nat) : (stepL s k).length = s.length := by simp [stepL]; omega
theorem tellL_len (s : List Td) (k : Nat) : (tellL s k).length = min k s.length := by simp [tellL]
theorem stepL_zero (s : List Td) : stepL s 0 = s := by simp [stepL]
theorem tellL_zero (s : List Td) : tellL s 0 = [] := by simp [tellL]
theorem tellL_succ (s : List Td) (k : Nat) (h : k < s.length) : tellL s (k + 1) = tellL s k ++ [(td s k).n] := by
  unfold tellL
  rw [List.take_succ_eq_append_getElem h, List.map_append, td_lt s h]
  rfl
theorem stepL_at (s : List Td) (k : Nat) (h : k < s.length) : td (stepL s k) k = td s k := by
  have hl : ((s.take k).map dec1).length = k := by simp; omega
  rw [td_lt _ (by rw [stepL_len]; exact h), td_lt s h]
  simp only [stepL]
  rw [List.getElem_append_right (by omega)]
  rw [List.getElem_drop]
  congr 1
  omega
theorem stepL_succ (s : List Td) (k : Nat) (h : k < s.length) : stepL s (k + 1) = (stepL s k).set k (dec1 (td s k)) := by
  have hl : ((s.take k).map dec1).length = k := by simp; omega
  unfold stepL
  rw [List.take_succ_eq_append_getElem h, List.map_append, List.set_append_right _ _ (by omega), hl, Nat.sub_self, List.drop_eq_getElem_cons h, List.set_cons_zero, td_lt s h]
  simp
theorem stepL_w (s : List Td) (k : Nat) : (stepL s k).map Td.w = s.map Td.w := by
  unfold stepL
  rw [List.map_append, List.map_map, show Td.w ∘ dec1 = Td.w from rfl, ← List.map_append, List.take_append_drop]

/-- No two of one node. -/
def Apart (q : List Td) : Prop := (q.map Td.w).Nodup
theorem apart_rise {q : List Td} (h : Rise q) : Apart q := by
  unfold Apart
  rw [List.nodup_iff_pairwise_ne, List.pairwise_map]
  exact List.Pairwise.imp (fun h => by omega) h
theorem apart_perm {q d : List Td} (h : d.Perm q) (ha : Apart q) : Apart d := ((h.map Td.w).nodup_iff).2 ha
theorem apart_step {s : List Td} (k : Nat) (h : Apart s) : Apart (stepL s k) := by unfold Apart; rw [stepL_w]; exact h
theorem apart_yet {s : List Td} (h : Apart s) : Apart (yet s) := by
  unfold Apart yet
  exact List.Nodup.sublist (List.Sublist.map _ List.filter_sublist) h
theorem apart_one {q : List Td} (h : Apart q) : ∀ x ∈ q, ∀ y ∈ q, x.w = y.w → x = y := by
  intro x hx y hy e
  obtain ⟨i, hi, rfl⟩ := List.getElem_of_mem hx
  obtain ⟨j, hj, rfl⟩ := List.getElem_of_mem hy
  have := (List.nodup_iff_pairwise_ne.1 h)
  rw [List.pairwise_map, List.pairwise_iff_getElem] at this
  rcases Nat.lt_trichotomy i j with a | a | a
  · exact absurd e (this i j hi hj a)
  · subst a; rfl
  · exact absurd e.symm (this j i hj hi a)
theorem tieT {q : List Td} (h : Apart q) : ∀ x ∈ q, ∀ y ∈ q, ltOf cfT x y = false → ltOf cfT y x = false → x = y := by
  intro x hx y hy h1 h2
  rw [ltT_iff] at h1 h2
  simp at h1 h2
  exact apart_one h x hx y hy (by omega)
theorem tieW {q : List Td} (h : Apart q) : ∀ x ∈ q, ∀ y ∈ q, ltOf cfW x y = false → ltOf cfW y x = false → x = y := by
  intro x hx y hy h1 h2
  rw [ltW_iff] at h1 h2
  simp at h1 h2
  exact apart_one h x hx y hy (by omega)
/-- What is sorted by whom rises. -/
theorem rise_srtW {q : List Td} (h : Apart q) : Rise (srtW q) := by
  have h2 : (srtOf cfW q).Pairwise fun x y => ltOf cfW y x = false := by
    have := List.pairwise_mergeSort (le := fun x y => !ltOf cfW y x) (fun a b c h h' => by simp at *; exact swoW.ntrans c b a h' h) (fun a b => by simp [ltW_iff]; omega) q
    exact this.imp (fun h => by simpa using h)
  have h3 : Apart (srtOf cfW q) := apart_perm (srt_perm _ _) h
  unfold Apart at h3
  rw [List.nodup_iff_pairwise_ne, List.pairwise_map] at h3
  unfold Rise srtW
  rw [List.pairwise_iff_getElem] at *
  intro i j hi hj hij
  have a := h2 i j hi hj hij
  have b := h3 i j hi hj hij
  rw [ltW_iff] at a
  simp at a
  omega
theorem srtW_rise {q : List Td} (h : Rise q) : srtW q = q := by
  symm
  refine srtOf_eq swoW (List.Perm.refl _) ?_ (tieW (apart_rise h))
  exact List.Pairwise.imp (fun {x y} h => by rw [ltW_iff]; simp; omega) h
/-- Sorted by turn: no later one comes ahead. -/
theorem srtT_sorted (q : List Td) : (srtT q).Pairwise fun x y => ltOf cfT y x = false := by
  have := List.pairwise_mergeSort (le := fun x y => !ltOf cfT y x) (fun a b c h h' => by simp at *; exact swoT.ntrans c b a h' h) (fun a b => by simp [ltT_iff]; omega) q
  exact this.imp (fun h => by simpa using h)
theorem yet_mem {x : Td} {s : List Td} : x ∈ yet s ↔ x ∈ s ∧ x.l ≠ 0 := by
  unfold yet
  rw [List.mem_filter]
  simp [yetB]
theorem stepL_mem {s : List Td} {k : Nat} {x : Td} (h : x ∈ stepL s k) : ∃ y ∈ s, x = y ∨ x = dec1 y := by
  unfold stepL at h
  rcases List.mem_append.1 h with h | h
  · obtain ⟨y, hy, rfl⟩ := List.mem_map.1 h
    exact ⟨y, List.mem_of_mem_take hy, .inr rfl⟩
  · exact ⟨x, List.mem_of_mem_drop h, .inl rfl⟩
theorem may_tellR {q : List Td} (h : mayQ q = true) (k : Nat) : mayQ (tellR q k) = true := by
  have ha := apart_yet (apart_step k (apart_perm (srt_perm cfT q) (apart_rise (mayQ_rise h))))
  refine mayQ_of (fun x hx => ?_) (rise_srtW ha)
  have hx1 := (srt_perm cfW _).mem_iff.1 hx
  obtain ⟨hx2, hl⟩ := yet_mem.1 hx1
  obtain ⟨y, hy, e⟩ := stepL_mem hx2
  have hy' := mayQ_all h y ((srt_perm cfT q).mem_iff.1 hy)
  rw [mayT_iff] at hy' ⊢
  rcases e with rfl | rfl
  · exact hy'
  · unfold dec1 at hl ⊢
    simp only at *
    omega
end Go.Proofs.Ytipepmnnjhhjbaa
