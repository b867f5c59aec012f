/-
  The document's Take as lists: what is taken one by one is what is sorted by turn.
-/
import Derived.Test.YtipepmnnjhhjbaaRadd
namespace Go.Proofs.Ytipepmnnjhhjbaa
open Go.Sort Go.RowKit Go.Proofs.Ytipepmnnjhhjbaa.Pure

/-- Is it among the first m? -/
def inT (s : List Td) (m : Nat) (x : Td) : Bool := decide (x ∈ s.take m)
/-- What is left of it. -/
def fT (s : List Td) (m : Nat) (x : Td) : Td := if inT s m x = true then dec1 x else x
def takenL (q s : List Td) (m : Nat) : List Bool := q.map (inT s m)
def leftL (q s : List Td) (m : Nat) : List Td := q.map (fT s m)
def ahead (x y : Td) : Prop := y.l < x.l ∨ (x.l = y.l ∧ x.w < y.w)
theorem ahead_iff (x y : Td) : ltOf cfT x y = true ↔ ahead x y := by rw [ltT_iff, decide_eq_true_iff]; rfl
theorem ahead_not (x y : Td) : ltOf cfT x y = false ↔ ¬ahead x y := by rw [ltT_iff, decide_eq_false_iff_not]; rfl

theorem takenL_zero (q s : List Td) : takenL q s 0 = List.replicate q.length false := by
  unfold takenL
  apply List.ext_getElem
  · simp
  · intro i h1 h2
    simp [inT]
theorem leftL_zero (q s : List Td) : leftL q s 0 = q := by
  unfold leftL
  conv => rhs; rw [← List.map_id q]
  apply List.map_congr_left
  intro x _
  simp [fT, inT]
theorem takenL_len (q s : List Td) (m : Nat) : (takenL q s m).length = q.length := by simp [takenL]
theorem leftL_len (q s : List Td) (m : Nat) : (leftL q s m).length = q.length := by simp [leftL]
theorem takenL_at (q s : List Td) (m i : Nat) (h : i < q.length) : (takenL q s m).getD i false = inT s m (td q i) := by
  rw [td_lt q h]
  simp [takenL, List.getD, h]
theorem leftL_at (q s : List Td) (m i : Nat) (h : i < q.length) : td (leftL q s m) i = fT s m (td q i) := by
  rw [td_lt q h, td_lt _ (by rw [leftL_len]; exact h)]
  simp [leftL]
theorem inT_succ (s : List Td) (m : Nat) (h : m < s.length) (x : Td) : inT s (m + 1) x = (inT s m x || decide (x = td s m)) := by
  unfold inT
  rw [Bool.eq_iff_iff, Bool.or_eq_true, decide_eq_true_iff, decide_eq_true_iff, decide_eq_true_iff, List.take_succ_eq_append_getElem h, td_lt s h, List.mem_append, List.mem_singleton]
theorem nodup_at {q : List Td} (h : q.Nodup) {i j : Nat} (hi : i < q.length) (hj : j < q.length) (e : td q i = td q j) : i = j := by
  rw [td_lt q hi, td_lt q hj] at e
  rcases Nat.lt_trichotomy i j with a | a | a
  · exact absurd e ((List.pairwise_iff_getElem.1 (List.nodup_iff_pairwise_ne.1 h)) i j hi hj a)
  · exact a
  · exact absurd e.symm ((List.pairwise_iff_getElem.1 (List.nodup_iff_pairwise_ne.1 h)) j i hj hi a)
theorem takenL_succ {q s : List Td} {m b : Nat} (hq : q.Nodup) (hm : m < s.length) (hb : b < q.length) (e : td q b = td s m) : (takenL q s m).set b true = takenL q s (m + 1) := by
  apply List.ext_getElem
  · simp [takenL]
  · intro i h1 h2
    have hi : i < q.length := by rw [takenL_len] at h2; exact h2
    rw [List.getElem_set]
    by_cases hib : b = i
    · subst hib
      rw [if_pos rfl]
      simp only [takenL, List.getElem_map]
      rw [inT_succ s m hm, ← td_lt q hi, e]
      simp
    · rw [if_neg hib]
      simp only [takenL, List.getElem_map]
      rw [inT_succ s m hm, ← td_lt q hi, ← e]
      have : ¬td q i = td q b := fun h => hib (nodup_at hq hi hb h).symm
      simp [this]
theorem inT_fresh {s : List Td} {m : Nat} (hs : s.Nodup) (hm : m < s.length) : inT s m (td s m) = false := by
  unfold inT
  rw [decide_eq_false_iff_not]
  intro h
  obtain ⟨i, hi, e⟩ := List.getElem_of_mem h
  rw [List.length_take] at hi
  have e2 : td s i = td s m := by
    rw [← e, td_lt s (by omega)]
    simp
  have := nodup_at hs (by omega) hm e2
  omega
theorem leftL_succ {q s : List Td} {m b : Nat} (hq : q.Nodup) (hm : m < s.length) (hb : b < q.length) (e : td q b = td s m) : (leftL q s m).set b (dec1 (td q b)) = leftL q s (m + 1) := by
  apply List.ext_getElem
  · simp [leftL]
  · intro i h1 h2
    have hi : i < q.length := by rw [leftL_len] at h2; exact h2
    rw [List.getElem_set]
    by_cases hib : b = i
    · subst hib
      rw [if_pos rfl]
      simp only [leftL, List.getElem_map]
      unfold fT
      rw [inT_succ s m hm, ← td_lt q hi, e]
      simp
    · rw [if_neg hib]
      simp only [leftL, List.getElem_map]
      unfold fT
      rw [inT_succ s m hm, ← td_lt q hi, ← e]
      have : ¬td q i = td q b := fun h => hib (nodup_at hq hi hb h).symm
      simp [this]

/-- The one that is told next of the first i. -/
def Best (q s : List Td) (m i : Nat) (b : Int) : Prop :=
  i ≤ q.length ∧ ((b = -1 ∧ ∀ j, j < i → inT s m (td q j) = true) ∨ ∃ c : Nat, b = (c : Int) ∧ c < i ∧ inT s m (td q c) = false ∧ ∀ j, j < i → inT s m (td q j) = false → j ≠ c → ahead (td q c) (td q j))
theorem Best.start (q s : List Td) (m : Nat) : Best q s m 0 (-1) := ⟨Nat.zero_le _, .inl ⟨rfl, fun j hj => absurd hj (Nat.not_lt_zero j)⟩⟩
section
variable {q s : List Td} {m i : Nat} {b : Int}
theorem Best.skip (h : Best q s m i b) (hi : i < q.length) (ht : inT s m (td q i) = true) : Best q s m (i + 1) b := by
  obtain ⟨h0, h⟩ := h
  refine ⟨by omega, ?_⟩
  rcases h with ⟨h1, h2⟩ | ⟨c, h1, h2, h3, h4⟩
  · refine .inl ⟨h1, fun j hj => ?_⟩
    rcases Nat.lt_or_ge j i with a | a
    · exact h2 j a
    · obtain rfl : j = i := by omega
      exact ht
  · refine .inr ⟨c, h1, by omega, h3, fun j hj hf hne => ?_⟩
    rcases Nat.lt_or_ge j i with a | a
    · exact h4 j a hf hne
    · obtain rfl : j = i := by omega
      rw [ht] at hf; cases hf
theorem Best.first (h : Best q s m i b) (hi : i < q.length) (ht : inT s m (td q i) = false) (hb : b < 0) : Best q s m (i + 1) (i : Int) := by
  obtain ⟨h0, h⟩ := h
  refine ⟨by omega, .inr ⟨i, rfl, by omega, ht, fun j hj hf hne => ?_⟩⟩
  rcases h with ⟨h1, h2⟩ | ⟨c, h1, h2, h3, h4⟩
  · have := h2 j (by omega)
    rw [this] at hf; cases hf
  · omega
theorem Best.greater (h : Best q s m i b) (hi : i < q.length) (ht : inT s m (td q i) = false) (hb : 0 ≤ b) (hl : (td q b.toNat).l < (td q i).l) : Best q s m (i + 1) (i : Int) := by
  obtain ⟨h0, h⟩ := h
  refine ⟨by omega, .inr ⟨i, rfl, by omega, ht, fun j hj hf hne => ?_⟩⟩
  rcases h with ⟨h1, h2⟩ | ⟨c, h1, h2, h3, h4⟩
  · omega
  · have e : b.toNat = c := by omega
    rw [e] at hl
    by_cases hjc : j = c
    · subst hjc; exact .inl hl
    · have := h4 j (by omega) hf hjc
      unfold ahead at *
      omega
theorem Best.less (hr : Rise q) (h : Best q s m i b) (hi : i < q.length) (hb : 0 ≤ b) (hl : ¬(td q b.toNat).l < (td q i).l) : Best q s m (i + 1) b := by
  obtain ⟨h0, h⟩ := h
  refine ⟨by omega, ?_⟩
  rcases h with ⟨h1, h2⟩ | ⟨c, h1, h2, h3, h4⟩
  · omega
  · have e : b.toNat = c := by omega
    rw [e] at hl
    refine .inr ⟨c, h1, by omega, h3, fun j hj hf hne => ?_⟩
    rcases Nat.lt_or_ge j i with a | a
    · exact h4 j a hf hne
    · obtain rfl : j = i := by omega
      have := rise_lt hr h2 hi
      unfold ahead
      omega
theorem Best.lt (h : Best q s m i b) (hb : 0 ≤ b) : b.toNat < i ∧ b.toNat < q.length := by
  obtain ⟨h0, h⟩ := h
  rcases h with ⟨h1, _⟩ | ⟨c, h1, h2, _⟩ <;> omega
theorem Best.ge (h : Best q s m i b) : -1 ≤ b ∧ b < (i : Int) := by
  obtain ⟨h0, h⟩ := h
  rcases h with ⟨h1, _⟩ | ⟨c, h1, h2, _⟩ <;> omega
end
/-- At the end: it is the next one by turn. -/
theorem Best.end_ {q : List Td} {m : Nat} {b : Int} (hr : Rise q) (hm : m < q.length) (h : Best q (srtT q) m q.length b) : ∃ c : Nat, b = (c : Int) ∧ c < q.length ∧ td q c = td (srtT q) m := by
  have hp : (srtT q).Perm q := srt_perm cfT q
  have hsl : (srtT q).length = q.length := hp.length_eq
  have hqn := rise_nodup hr
  have hsn : (srtT q).Nodup := hp.nodup_iff.2 hqn
  have hms : m < (srtT q).length := by omega
  obtain ⟨i0, hi0, e0⟩ : ∃ i0, i0 < q.length ∧ td q i0 = td (srtT q) m := by
    obtain ⟨i, hi, e⟩ := List.getElem_of_mem (hp.mem_iff.1 (td_mem (srtT q) hms))
    exact ⟨i, hi, by rw [td_lt q hi, e]⟩
  have hf0 : inT (srtT q) m (td q i0) = false := by rw [e0]; exact inT_fresh hsn hms
  obtain ⟨_, h⟩ := h
  rcases h with ⟨_, h2⟩ | ⟨c, h1, h2, h3, h4⟩
  · have := h2 i0 hi0
    rw [hf0] at this; cases this
  · refine ⟨c, h1, h2, ?_⟩
    by_cases hc : i0 = c
    · subst hc; exact e0
    · exfalso
      have ha := h4 i0 hi0 hf0 hc
      rw [e0] at ha
      obtain ⟨j, hj, ej⟩ := List.getElem_of_mem (hp.mem_iff.2 (td_mem q h2))
      have hjm : m ≤ j := by
        rcases Nat.lt_or_ge j m with a | a
        · have : inT (srtT q) m (td q c) = true := by
            unfold inT
            rw [decide_eq_true_iff, ← ej]
            exact List.mem_iff_getElem.2 ⟨j, by rw [List.length_take]; omega, by simp⟩
          rw [this] at h3; cases h3
        · exact a
      have hne : m ≠ j := by
        intro e
        subst e
        exact hc (nodup_at hqn hi0 h2 (by rw [e0, td_lt _ hj, ej]))
      have := (List.pairwise_iff_getElem.1 (srtT_sorted q)) m j hms hj (by omega)
      rw [ej, ← td_lt _ hms, ahead_not] at this
      exact this ha
/-- What is left, one by one, is the queue then. -/
theorem left_rest {q : List Td} (hr : Rise q) (m : Nat) : yet (leftL q (srtT q) m) = tellR q m := by
  have hp : (srtT q).Perm q := srt_perm cfT q
  have hsn : (srtT q).Nodup := hp.nodup_iff.2 (rise_nodup hr)
  have hst : stepL (srtT q) m = (srtT q).map (fT (srtT q) m) := by
    apply List.ext_getElem
    · rw [stepL_len, List.length_map]
    · intro i h1 h2
      have hi : i < (srtT q).length := by rw [stepL_len] at h1; exact h1
      rw [List.getElem_map]
      unfold fT inT
      by_cases him : i < m
      · have : (srtT q)[i] ∈ (srtT q).take m := List.mem_iff_getElem.2 ⟨i, by rw [List.length_take]; omega, by simp⟩
        rw [if_pos (by simpa using this)]
        simp only [stepL]
        rw [List.getElem_append_left (by simp; omega)]
        simp
      · have hl : ((List.take m (srtT q)).map dec1).length ≤ i := by simp; omega
        have : ¬(srtT q)[i] ∈ (srtT q).take m := by
          intro h
          obtain ⟨j, hj, e⟩ := List.getElem_of_mem h
          rw [List.length_take] at hj
          have e2 : td (srtT q) j = td (srtT q) i := by
            rw [td_lt _ hi, ← e, td_lt _ (by omega)]
            simp
          have := nodup_at hsn (by omega) hi e2
          omega
        rw [if_neg (by simpa using this)]
        simp only [stepL]
        rw [List.getElem_append_right hl, List.getElem_drop]
        congr 1
        simp
        omega
  unfold tellR srtW
  refine srtOf_eq swoW ?_ ?_ (tieW (apart_yet (apart_step m (apart_perm hp (apart_rise hr)))))
  · rw [hst]
    unfold yet leftL
    exact (hp.symm.map _).filter _
  · have hr2 : Rise (leftL q (srtT q) m) := by
      unfold Rise leftL
      rw [List.pairwise_map]
      refine List.Pairwise.imp ?_ hr
      intro a b h
      unfold fT
      split <;> split <;> exact h
    refine List.Pairwise.imp ?_ (List.Pairwise.sublist List.filter_sublist hr2)
    intro x y h
    rw [ltW_iff]
    simp
    omega
/-- It is to be told yet, if it is to be told more than 0 times. -/
theorem left_pos {q : List Td} (hq : mayQ q = true) (m i : Nat) (hi : i < q.length) : 0 ≤ (td (leftL q (srtT q) m) i).l := by
  rw [leftL_at q _ m i hi]
  have := (mayT_iff _).1 (mayQ_all hq _ (td_mem q hi))
  unfold fT dec1
  split <;> simp <;> omega
end Go.Proofs.Ytipepmnnjhhjbaa
