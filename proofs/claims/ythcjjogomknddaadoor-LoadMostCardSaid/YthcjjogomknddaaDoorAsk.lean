/-
  Whoever is asked, one behind the other, as mathematics: each in its time.
-/
import Derived.Test.YthcjjogomknddaaDoorNums
namespace Go.Proofs.YthcjjogomknddaaDoor.Pure

/-- An order, how many of it were asked, and the dice's place. -/
structure Tn where
  T : List Int
  p : Nat
  a : Nat
def who (L : List UInt8) (l : List Int) (s : Tn) : Int := (nx L l s.T s.p s.a).1
def stp (L : List UInt8) (l : List Int) (s : Tn) : Tn := ⟨(nx L l s.T s.p s.a).2.1, (nx L l s.T s.p s.a).2.2.1, (nx L l s.T s.p s.a).2.2.2⟩
def run (L : List UInt8) (l : List Int) : Nat → Tn → Tn
  | 0, s => s
  | k + 1, s => stp L l (run L l k s)
def asked (L : List UInt8) (l : List Int) (s : Tn) (k : Nat) : List Int := (List.range k).map fun i => who L l (run L l i s)
/-- Those of the order that are left. -/
def left (l : List Int) (s : Tn) : List Int := (s.T.drop s.p).filter (fun x => l.contains x)
def OkS (L : List UInt8) (s : Tn) : Prop := numsB s.T = true ∧ s.p ≤ s.T.length ∧ s.a ≤ L.length

section
variable {L : List UInt8} {l : List Int} {s : Tn}
theorem OkS.t (h : OkS L s) : okT s.T (s.p : Int) = true := by
  rw [okT_iff]
  exact ⟨h.1, by omega, by have := h.2.1; omega⟩
theorem run_add (i j : Nat) (s : Tn) : run L l (i + j) s = run L l j (run L l i s) := by
  induction j with
  | zero => rfl
  | succ j ih => rw [← Nat.add_assoc]; show stp L l _ = stp L l _; rw [ih]
theorem asked_len (k : Nat) : (asked L l s k).length = k := by simp [asked]
theorem asked_succ (k : Nat) : asked L l s (k + 1) = asked L l s k ++ [who L l (run L l k s)] := by simp [asked, List.range_succ]
theorem asked_add (i j : Nat) : asked L l s (i + j) = asked L l s i ++ asked L l (run L l i s) j := by
  induction j with
  | zero => simp [asked]
  | succ j ih => rw [← Nat.add_assoc, asked_succ, ih, asked_succ, run_add, List.append_assoc]
theorem asked_mono {i j : Nat} (h : i ≤ j) {y : Int} (hy : y ∈ asked L l s i) : y ∈ asked L l s j := by
  obtain ⟨d, rfl⟩ := Nat.exists_eq_add_of_le h
  rw [asked_add]
  exact List.mem_append_left _ hy
theorem order_perm (a : Nat) (l : List Int) : (shufAll L a l).1.Perm l := shufAll_perm L a l
theorem contains_of_mem {x : Int} (h : x ∈ l) : l.contains x = true := by simpa using h
/-- One that is left is asked. -/
theorem left_cons (x : Int) (r : List Int) (hq : left l s = x :: r) : ∃ i, s.p ≤ i ∧ i < s.T.length ∧ s.T.getD i 0 = x ∧ l.contains x = true ∧ nx L l s.T s.p s.a = (x, s.T, i + 1, s.a) ∧ left l ⟨s.T, i + 1, s.a⟩ = r := by
  rcases nx_cases l s.T s.p with ⟨i, h1, h2, h3, h4⟩ | hn
  · have hd : s.T.drop s.p = (s.T.take i).drop s.p ++ s.T.getD i 0 :: s.T.drop (i + 1) := by
      have e : s.T.getD i 0 = s.T[i] := by simp [List.getD, h2]
      rw [e, ← List.drop_eq_getElem_cons h2]
      have : s.T = s.T.take i ++ s.T.drop i := (List.take_append_drop i s.T).symm
      rw [this, List.drop_append_of_le_length (by simp; omega)]
      simp
    have hf : ((s.T.take i).drop s.p).filter (fun x => l.contains x) = [] := by
      rw [List.filter_eq_nil_iff]
      intro y hy
      obtain ⟨j, hj, rfl⟩ := List.getElem_of_mem hy
      have hj' : s.p + j < i := by simp at hj; omega
      have := h4 (s.p + j) (by omega) hj'
      have e : s.T.getD (s.p + j) 0 = s.T[s.p + j] := by simp [List.getD, show s.p + j < s.T.length by omega]
      rw [List.getElem_drop, List.getElem_take, ← e, this]
      simp
    have hq' := hq
    unfold left at hq'
    rw [hd, List.filter_append, hf, List.nil_append, List.filter_cons_of_pos h3] at hq'
    injection hq' with e1 e2
    refine ⟨i, h1, h2, e1, by rw [← e1]; exact h3, ?_, e2⟩
    rw [nx_found L l s.T s.p s.a i h1 h2 h3 h4, e1]
  · have : left l s = [] := by
      unfold left
      rw [List.filter_eq_nil_iff]
      intro y hy
      obtain ⟨j, hj, rfl⟩ := List.getElem_of_mem hy
      have hj' : s.p + j < s.T.length := by simp at hj; omega
      have := hn (s.p + j) (by omega) hj'
      have e : s.T.getD (s.p + j) 0 = s.T[s.p + j] := by simp [List.getD, hj']
      rw [List.getElem_drop, ← e, this]
      simp
    rw [this] at hq
    cases hq
/-- Nobody is left: the nodes are shuffled. -/
theorem left_nil (hq : left l s = []) : nx L l s.T s.p s.a = ((shufAll L s.a l).1.getD 0 0, (shufAll L s.a l).1, 1, (shufAll L s.a l).2) := by
  refine nx_none L l s.T s.p s.a fun j hj hlt => ?_
  unfold left at hq
  rw [List.filter_eq_nil_iff] at hq
  have e : s.T.getD j 0 = (s.T.drop s.p)[j - s.p]'(by simp; omega) := by
    rw [List.getElem_drop, List.getD, List.getElem?_eq_getElem hlt]; simp; congr 1; omega
  rw [e]
  have h1 := hq _ (List.getElem_mem (l := s.T.drop s.p) (n := j - s.p) (by simp; omega))
  simpa only [Bool.not_eq_true] using h1

theorem step_cons {x : Int} {r : List Int} (hq : left l s = x :: r) : who L l s = x ∧ left l (stp L l s) = r := by
  obtain ⟨i, _, _, _, _, e, hr⟩ := left_cons (L := L) x r hq
  unfold who stp
  rw [e]
  exact ⟨rfl, hr⟩
/-- What is left is asked, in its order. -/
theorem left_run : ∀ k, k ≤ (left l s).length → left l (run L l k s) = (left l s).drop k ∧ asked L l s k = (left l s).take k := by
  intro k
  induction k with
  | zero => intro _; exact ⟨by simp [run], by simp [asked]⟩
  | succ k ih =>
    intro hk
    obtain ⟨h1, h2⟩ := ih (by omega)
    rw [List.drop_eq_getElem_cons (show k < (left l s).length by omega)] at h1
    obtain ⟨e1, e2⟩ := step_cons h1
    refine ⟨e2, ?_⟩
    rw [asked_succ, h2, e1, List.take_succ_eq_append_getElem (show k < (left l s).length by omega)]

/-- A whole order: one behind the other. -/
theorem whole (hq : left l s = []) : ∀ k, k < l.length → who L l (run L l k s) = (shufAll L s.a l).1.getD k 0 ∧ run L l (k + 1) s = ⟨(shufAll L s.a l).1, k + 1, (shufAll L s.a l).2⟩ := by
  intro k
  induction k with
  | zero =>
    intro _
    show who L l s = _ ∧ stp L l s = _
    unfold who stp
    rw [left_nil hq]
    exact ⟨rfl, rfl⟩
  | succ k ih =>
    intro hk
    obtain ⟨_, h2⟩ := ih (by omega)
    have hp := order_perm (L := L) s.a l
    have e : nx L l (shufAll L s.a l).1 (k + 1) (shufAll L s.a l).2 = ((shufAll L s.a l).1.getD (k + 1) 0, (shufAll L s.a l).1, k + 1 + 1, (shufAll L s.a l).2) := by
      refine nx_found L l _ (k + 1) _ (k + 1) (Nat.le_refl _) (by rw [hp.length_eq]; exact hk) ?_ (fun j h1 h2 => by omega)
      exact contains_of_mem (hp.subset (getD_mem _ _ (by rw [hp.length_eq]; exact hk)))
    constructor
    · rw [h2]; unfold who; rw [e]
    · show stp L l (run L l (k + 1) s) = _
      rw [h2]; unfold stp; rw [e]
theorem whole_asked (hq : left l s = []) : asked L l s l.length = (shufAll L s.a l).1 := by
  have hp := order_perm (L := L) s.a l
  apply List.ext_getElem?
  intro j
  rcases Nat.lt_or_ge j l.length with h | h
  · have := (whole (L := L) hq j h).1
    have e : (shufAll L s.a l).1.getD j 0 = (shufAll L s.a l).1[j]'(by rw [hp.length_eq]; exact h) := by simp [List.getD, show j < (shufAll L s.a l).1.length by rw [hp.length_eq]; exact h]
    rw [e] at this
    have e2 : (shufAll L s.a l).1[j]? = some ((shufAll L s.a l).1[j]'(by rw [hp.length_eq]; exact h)) := List.getElem?_eq_getElem _
    rw [e2, ← this]
    simp [asked, h]
  · rw [List.getElem?_eq_none (by rw [asked_len]; exact h), List.getElem?_eq_none (by rw [hp.length_eq]; exact h)]
/-- EACH IN ITS TIME. -/
theorem each (h : OkS L s) {y : Int} (hy : y ∈ l) : y ∈ asked L l s (2 * l.length - 1) := by
  have hn : l ≠ [] := by rintro rfl; cases hy
  have h0 : 0 < l.length := List.length_pos_iff.2 hn
  have hnd : (left l s).Nodup := by
    have := ((numsB_iff s.T).1 h.1).2
    exact (this.sublist (List.drop_sublist _ _)).sublist List.filter_sublist
  have hsub : left l s ⊆ l := fun x hx => by simpa using (List.mem_filter.1 hx).2
  have hle := hnd.length_le_of_subset hsub
  obtain ⟨h1, h2⟩ := left_run (L := L) (left l s).length (Nat.le_refl _)
  rw [List.take_of_length_le (Nat.le_refl _)] at h2
  rw [List.drop_of_length_le (Nat.le_refl _)] at h1
  rcases Nat.lt_or_ge (left l s).length l.length with hlt | hge
  · have hw := whole_asked (L := L) h1
    have hm : y ∈ asked L l s ((left l s).length + l.length) := by
      rw [asked_add]
      refine List.mem_append_right _ ?_
      rw [hw]
      exact (order_perm _ l).symm.subset hy
    exact asked_mono (by omega) hm
  · have hm : y ∈ left l s := by
      by_cases hc : y ∈ left l s
      · exact hc
      · have : (y :: left l s).Nodup := List.nodup_cons.2 ⟨hc, hnd⟩
        have := this.length_le_of_subset (List.cons_subset.2 ⟨hy, hsub⟩)
        simp at this
        omega
    rw [← h2] at hm
    exact asked_mono (by omega) hm
end

/-! ### nodes without one -/
/-! ### what hangs on nothing that is behind -/
end Go.Proofs.YthcjjogomknddaaDoor.Pure
