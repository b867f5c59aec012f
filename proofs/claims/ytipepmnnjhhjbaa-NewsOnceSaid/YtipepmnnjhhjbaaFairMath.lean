/-
  What is told next, counted: the sum of what is to be told yet falls by one for each news told; what is not told is to be told no oftener.
-/
import Derived.Test.YtipepmnnjhhjbaaAwake
namespace Go.Proofs.Ytipepmnnjhhjbaa
open Go.Sort Go.RowKit Go.Proofs.Ytipepmnnjhhjbaa.Pure

/-- How often all of them are to be told yet. -/
def sumT (q : List Td) : Int := (q.map Td.l).sum
theorem sumT_append (a b : List Td) : sumT (a ++ b) = sumT a + sumT b := by simp [sumT]
theorem sumT_succ (q : List Td) (k : Nat) (h : k < q.length) : sumT (q.take (k + 1)) = sumT (q.take k) + (td q k).l := by
  rw [List.take_succ_eq_append_getElem h, sumT_append, td_lt q h]
  simp [sumT]
theorem sumT_perm {a b : List Td} (h : a.Perm b) : sumT a = sumT b := by
  unfold sumT
  induction h with
  | nil => rfl
  | cons x _ ih => simp [ih]
  | swap x y l => simp; omega
  | trans _ _ i1 i2 => exact i1.trans i2
theorem sumT_dec (s : List Td) : sumT (s.map dec1) = sumT s - (s.length : Int) := by
  induction s with
  | nil => rfl
  | cons x s ih =>
    unfold sumT at *
    simp only [List.map_cons, List.sum_cons, List.length_cons]
    rw [ih]
    simp only [dec1]
    omega
theorem sumT_yet (s : List Td) : sumT (yet s) = sumT s := by
  induction s with
  | nil => rfl
  | cons x s ih =>
    unfold sumT yet at *
    rw [List.filter_cons]
    by_cases h : yetB x = true
    · rw [if_pos h]
      simp [ih]
    · rw [if_neg h]
      have : x.l = 0 := by simpa [yetB] using h
      simp [ih, this]
theorem sumT_step (s : List Td) (k : Nat) : sumT (stepL s k) = sumT s - ((min k s.length : Nat) : Int) := by
  unfold stepL
  rw [sumT_append, sumT_dec, List.length_take]
  have : sumT s = sumT (s.take k) + sumT (s.drop k) := by rw [← sumT_append, List.take_append_drop]
  omega
theorem sumT_rest (q : List Td) (k : Nat) : sumT (tellR q k) = sumT q - ((min k q.length : Nat) : Int) := by
  have h1 := sumT_perm (srt_perm cfW (yet (stepL (srtT q) k)))
  have h2 := sumT_perm (srt_perm cfT q)
  have h3 : (srtT q).length = q.length := srt_len cfT q
  show sumT (srtOf cfW (yet (stepL (srtT q) k))) = _
  rw [h1, sumT_yet, sumT_step, h3]
  have h4 : sumT (srtT q) = sumT q := h2
  omega
theorem sumT_le {q : List Td} (h : ∀ x ∈ q, 0 ≤ x.l ∧ x.l ≤ 64) (k : Nat) : 0 ≤ sumT (q.take k) ∧ sumT (q.take k) ≤ 64 * ((q.take k).length : Int) := by
  have h' : ∀ x ∈ q.take k, 0 ≤ x.l ∧ x.l ≤ 64 := fun x hx => h x (List.mem_of_mem_take hx)
  generalize q.take k = s at *
  induction s with
  | nil => simp [sumT]
  | cons x s ih =>
    have hx := h' x (by simp)
    have := ih (fun y hy => h' y (by simp [hy]))
    unfold sumT at *
    simp only [List.map_cons, List.sum_cons, List.length_cons]
    omega
/-- Taking none changes nothing. -/
theorem tellR_zero {q : List Td} (h : mayQ q = true) : tellR q 0 = q := by
  have hr := mayQ_rise h
  have hy : yet (srtT q) = srtT q := by
    unfold yet
    refine List.filter_eq_self.2 fun x hx => ?_
    have := mayQ_all h x ((srt_perm cfT q).mem_iff.1 hx)
    rw [mayT_iff] at this
    simp [yetB]
    omega
  unfold tellR
  rw [stepL_zero, hy]
  symm
  refine srtOf_eq swoW ((srt_perm cfT q).symm) ?_ (tieW (apart_perm (srt_perm cfT q) (apart_rise hr)))
  exact List.Pairwise.imp (fun {x y} h => by rw [ltW_iff]; simp; omega) hr
theorem tellN_zero (q : List Td) : tellN q 0 = [] := tellL_zero _
theorem tellN_len (q : List Td) (k : Nat) : (tellN q k).length = min k q.length := by
  unfold tellN
  rw [tellL_len]
  have : (srtT q).length = q.length := srt_len cfT q
  omega
theorem tellN_w (q : List Td) (k : Nat) : (tellN q k).map Nw.w = ((srtT q).take k).map Td.w := by
  unfold tellN tellL
  rw [List.map_map]
  rfl
/-- None is told twice in one go. -/
theorem tellN_nodup {q : List Td} (h : mayQ q = true) (k : Nat) : ((tellN q k).map Nw.w).Nodup := by
  rw [tellN_w]
  exact List.Nodup.sublist (List.Sublist.map _ (List.take_sublist k _)) (apart_perm (srt_perm cfT q) (apart_rise (mayQ_rise h)))
/-- What is told is to be told as often yet as anything that is not, or oftener. -/
theorem tellN_fair {q : List Td} (h : mayQ q = true) (k : Nat) (x y : Td) (hx : x ∈ q) (hy : y ∈ q) (nx : x.w ∉ (tellN q k).map Nw.w) (ny : y.w ∈ (tellN q k).map Nw.w) : x.l ≤ y.l := by
  rw [tellN_w] at nx ny
  have hp := srt_perm cfT q
  have hx' : x ∈ srtT q := hp.mem_iff.2 hx
  have hy' : y ∈ srtT q := hp.mem_iff.2 hy
  have hxd : x ∈ (srtT q).drop k := by
    rw [← List.take_append_drop k (srtT q)] at hx'
    rcases List.mem_append.1 hx' with h1 | h1
    · exact absurd (List.mem_map_of_mem h1) nx
    · exact h1
  have hyt : y ∈ (srtT q).take k := by
    obtain ⟨z, hz, e⟩ := List.mem_map.1 ny
    have := apart_one (apart_perm hp (apart_rise (mayQ_rise h))) z (List.mem_of_mem_take hz) y hy' e
    rwa [← this]
  have hs := srtT_sorted q
  rw [← List.take_append_drop k (srtT q), List.pairwise_append] at hs
  have := hs.2.2 y hyt x hxd
  rw [ltT_iff] at this
  simp at this
  omega
theorem told_bounds {q : List Td} (h : mayQ q = true) : ∀ x ∈ q, 1 ≤ x.l ∧ x.l ≤ 64 ∧ 0 ≤ x.w ∧ x.w < 64 := fun x hx => by
  have := mayQ_all h x hx
  rw [mayT_iff] at this
  omega
theorem tellN_mem {q : List Td} (h : mayQ q = true) (k : Nat) : ∀ w ∈ (tellN q k).map Nw.w, 0 ≤ w ∧ w < 64 := fun w hw => by
  rw [tellN_w] at hw
  obtain ⟨z, hz, rfl⟩ := List.mem_map.1 hw
  have := told_bounds h z ((srt_perm cfT q).mem_iff.1 (List.mem_of_mem_take hz))
  omega
theorem td_mem {q : List Td} {j : Nat} (h : j < q.length) : td q j ∈ q := by rw [td_lt q h]; exact List.getElem_mem h
theorem nw_w (l : List Nw) (j : Nat) (h : j < l.length) : (l.map Nw.w).take (j + 1) = (l.map Nw.w).take j ++ [(nw l j).w] ∧ (nw l j).w ∈ l.map Nw.w ∧ ((l.map Nw.w).Nodup → (nw l j).w ∉ (l.map Nw.w).take j) := by
  have e : nw l j = l[j] := by simp [nw, List.getD, h]
  have e1 : (l.map Nw.w).take (j + 1) = (l.map Nw.w).take j ++ [(nw l j).w] := by rw [List.take_succ_eq_append_getElem (by simpa using h), e]; simp
  refine ⟨e1, by rw [e]; exact List.mem_map_of_mem (List.getElem_mem h), fun hn hm => ?_⟩
  have := List.Nodup.sublist (List.take_sublist (j + 1) _) hn
  rw [e1, List.nodup_append] at this
  exact this.2.2 _ hm _ (by simp) rfl
end Go.Proofs.Ytipepmnnjhhjbaa
