/-
  Whoever is asked, one behind the other, as mathematics: each in its time.
-/
import Derived.Test.YtphcmjhphoacgaaNums
namespace Go.Proofs.Ytphcmjhphoacgaa.Pure

/-- An order, how many of it were asked, and the dice's place. -/
structure Tn where
  T : List Int
  p : Nat
  a : Nat
def who (L : List UInt8) (l : List Int) (s : Tn) : Int := (nx L l s.T s.p s.a).1
def stp (L : List UInt8) (l : List Int) (s : Tn) : Tn := ⟨(nx L l s.T s.p s.a).2.1, (nx L l s.T s.p s.a).2.2.1, (nx L l s.T s.p s.a).2.2.2⟩
def run (L : List UInt8) (l : List Int) : Nat → Tn → Tn
  | 0, s => s
  | k + 1, s => stp L l (run L l k s)
def asked (L : List UInt8) (l : List Int) (s : Tn) (k : Nat) : List Int := (List.range k).map fun i => who L l (run L l i s)
/-- Those of the order that are left. -/
def left (l : List Int) (s : Tn) : List Int := (s.T.drop s.p).filter (fun x => l.contains x)
def OkS (L : List UInt8) (s : Tn) : Prop := numsB s.T = true ∧ s.p ≤ s.T.length ∧ s.a ≤ L.length

section
variable {L : List UInt8} {l : List Int} {s : Tn}
theorem OkS.t (h : OkS L s) : okT s.T (s.p : Int) = true := by
  rw [okT_iff]
  exact ⟨h.1, by omega, by have := h.2.1; omega⟩
theorem run_add (i j : Nat) (s : Tn) : run L l (i + j) s = run L l j (run L l i s) := by
  induction j with
  | zero => rfl
  | succ j ih => rw [← Nat.add_assoc]; show stp L l _ = stp L l _; rw [ih]
theorem run_one (s : Tn) : run L l 1 s = stp L l s := rfl
theorem asked_len (k : Nat) : (asked L l s k).length = k := by simp [asked]
theorem asked_succ (k : Nat) : asked L l s (k + 1) = asked L l s k ++ [who L l (run L l k s)] := by simp [asked, List.range_succ]
theorem asked_add (i j : Nat) : asked L l s (i + j) = asked L l s i ++ asked L l (run L l i s) j := by
  induction j with
  | zero => simp [asked]
  | succ j ih => rw [← Nat.add_assoc, asked_succ, ih, asked_succ, run_add, List.append_assoc]
theorem asked_get (i k : Nat) (h : i < k) : (asked L l s k).getD i 0 = who L l (run L l i s) := by simp [asked, List.getD, h]
theorem asked_mono {i j : Nat} (h : i ≤ j) {y : Int} (hy : y ∈ asked L l s i) : y ∈ asked L l s j := by
  obtain ⟨d, rfl⟩ := Nat.exists_eq_add_of_le h
  rw [asked_add]
  exact List.mem_append_left _ hy
/-- A stretch of what is asked is what is asked from there on. -/
theorem asked_part (i n k : Nat) (h : i + n ≤ k) : ((asked L l s k).take (i + n)).drop i = asked L l (run L l i s) n := by
  obtain ⟨d, rfl⟩ := Nat.exists_eq_add_of_le h
  have e1 : (asked L l s (i + n + d)).take (i + n) = asked L l s (i + n) := by
    rw [asked_add (i + n) d, List.take_append_of_le_length (by simp [asked_len]), List.take_of_length_le (by simp [asked_len])]
  rw [e1, asked_add, List.drop_append_of_le_length (by simp [asked_len]), List.drop_of_length_le (by simp [asked_len]), List.nil_append]

theorem order_perm (a : Nat) (l : List Int) : (shufAll L a l).1.Perm l := shufAll_perm L a l
theorem contains_of_mem {x : Int} (h : x ∈ l) : l.contains x = true := by simpa using h
theorem not_contains {x : Int} (h : x ∉ l) : l.contains x = false := by simpa using h

/-- One that is left is asked. -/
theorem left_cons (x : Int) (r : List Int) (hq : left l s = x :: r) : ∃ i, s.p ≤ i ∧ i < s.T.length ∧ s.T.getD i 0 = x ∧ l.contains x = true ∧ nx L l s.T s.p s.a = (x, s.T, i + 1, s.a) ∧ left l ⟨s.T, i + 1, s.a⟩ = r := by
  rcases nx_cases l s.T s.p with ⟨i, h1, h2, h3, h4⟩ | hn
  · have hd : s.T.drop s.p = (s.T.take i).drop s.p ++ s.T.getD i 0 :: s.T.drop (i + 1) := by
      have e : s.T.getD i 0 = s.T[i] := by simp [List.getD, h2]
      rw [e, ← List.drop_eq_getElem_cons h2]
      have : s.T = s.T.take i ++ s.T.drop i := (List.take_append_drop i s.T).symm
      rw [this, List.drop_append_of_le_length (by simp; omega)]
      simp
    have hf : ((s.T.take i).drop s.p).filter (fun x => l.contains x) = [] := by
      rw [List.filter_eq_nil_iff]
      intro y hy
      obtain ⟨j, hj, rfl⟩ := List.getElem_of_mem hy
      have hj' : s.p + j < i := by simp at hj; omega
      have := h4 (s.p + j) (by omega) hj'
      have e : s.T.getD (s.p + j) 0 = s.T[s.p + j] := by simp [List.getD, show s.p + j < s.T.length by omega]
      rw [List.getElem_drop, List.getElem_take, ← e, this]
      simp
    have hq' := hq
    unfold left at hq'
    rw [hd, List.filter_append, hf, List.nil_append, List.filter_cons_of_pos h3] at hq'
    injection hq' with e1 e2
    refine ⟨i, h1, h2, e1, by rw [← e1]; exact h3, ?_, e2⟩
    rw [nx_found L l s.T s.p s.a i h1 h2 h3 h4, e1]
  · have : left l s = [] := by
      unfold left
      rw [List.filter_eq_nil_iff]
      intro y hy
      obtain ⟨j, hj, rfl⟩ := List.getElem_of_mem hy
      have hj' : s.p + j < s.T.length := by simp at hj; omega
      have := hn (s.p + j) (by omega) hj'
      have e : s.T.getD (s.p + j) 0 = s.T[s.p + j] := by simp [List.getD, hj']
      rw [List.getElem_drop, ← e, this]
      simp
    rw [this] at hq
    cases hq
/-- Nobody is left: the nodes are shuffled. -/
theorem left_nil (hq : left l s = []) : nx L l s.T s.p s.a = ((shufAll L s.a l).1.getD 0 0, (shufAll L s.a l).1, 1, (shufAll L s.a l).2) := by
  refine nx_none L l s.T s.p s.a fun j hj hlt => ?_
  unfold left at hq
  rw [List.filter_eq_nil_iff] at hq
  have e : s.T.getD j 0 = (s.T.drop s.p)[j - s.p]'(by simp; omega) := by
    rw [List.getElem_drop, List.getD, List.getElem?_eq_getElem hlt]; simp; congr 1; omega
  rw [e]
  have h1 := hq _ (List.getElem_mem (l := s.T.drop s.p) (n := j - s.p) (by simp; omega))
  simpa only [Bool.not_eq_true] using h1

theorem stp_ok (h : OkS L s) (hl : numsB l = true) (hn : l ≠ []) : OkS L (stp L l s) := by
  rcases hq : left l s with _ | ⟨x, r⟩
  · unfold stp
    rw [left_nil hq]
    have hp := order_perm (L := L) s.a l
    refine ⟨nums_perm hp hl, ?_, ?_⟩
    · have := hp.length_eq
      have h0 : 0 < l.length := List.length_pos_iff.2 hn
      simp only
      omega
    · simp only
      rw [shufAll_at L s.a l h.2.2]
      omega
  · obtain ⟨i, h1, h2, _, _, e, _⟩ := left_cons (L := L) x r hq
    unfold stp
    rw [e]
    exact ⟨h.1, by simp only; omega, h.2.2⟩
theorem run_ok (h : OkS L s) (hl : numsB l = true) (hn : l ≠ []) (k : Nat) : OkS L (run L l k s) := by
  induction k with
  | zero => exact h
  | succ k ih => exact stp_ok ih hl hn
theorem step_cons {x : Int} {r : List Int} (hq : left l s = x :: r) : who L l s = x ∧ left l (stp L l s) = r := by
  obtain ⟨i, _, _, _, _, e, hr⟩ := left_cons (L := L) x r hq
  unfold who stp
  rw [e]
  exact ⟨rfl, hr⟩
theorem who_mem (hn : l ≠ []) : who L l s ∈ l := by
  rcases hq : left l s with _ | ⟨x, r⟩
  · unfold who
    rw [left_nil hq]
    have hp := order_perm (L := L) s.a l
    have h0 : 0 < l.length := List.length_pos_iff.2 hn
    exact hp.subset (getD_mem _ 0 (by rw [hp.length_eq]; exact h0))
  · rw [(step_cons hq).1]
    have : x ∈ left l s := by rw [hq]; simp
    unfold left at this
    simpa using (List.mem_filter.1 this).2

/-- What is left is asked, in its order. -/
theorem left_run : ∀ k, k ≤ (left l s).length → left l (run L l k s) = (left l s).drop k ∧ asked L l s k = (left l s).take k := by
  intro k
  induction k with
  | zero => intro _; exact ⟨by simp [run], by simp [asked]⟩
  | succ k ih =>
    intro hk
    obtain ⟨h1, h2⟩ := ih (by omega)
    rw [List.drop_eq_getElem_cons (show k < (left l s).length by omega)] at h1
    obtain ⟨e1, e2⟩ := step_cons h1
    refine ⟨e2, ?_⟩
    rw [asked_succ, h2, e1, List.take_succ_eq_append_getElem (show k < (left l s).length by omega)]

/-- A whole order: one behind the other. -/
theorem whole (hq : left l s = []) : ∀ k, k < l.length → who L l (run L l k s) = (shufAll L s.a l).1.getD k 0 ∧ run L l (k + 1) s = ⟨(shufAll L s.a l).1, k + 1, (shufAll L s.a l).2⟩ := by
  intro k
  induction k with
  | zero =>
    intro _
    show who L l s = _ ∧ stp L l s = _
    unfold who stp
    rw [left_nil hq]
    exact ⟨rfl, rfl⟩
  | succ k ih =>
    intro hk
    obtain ⟨_, h2⟩ := ih (by omega)
    have hp := order_perm (L := L) s.a l
    have e : nx L l (shufAll L s.a l).1 (k + 1) (shufAll L s.a l).2 = ((shufAll L s.a l).1.getD (k + 1) 0, (shufAll L s.a l).1, k + 1 + 1, (shufAll L s.a l).2) := by
      refine nx_found L l _ (k + 1) _ (k + 1) (Nat.le_refl _) (by rw [hp.length_eq]; exact hk) ?_ (fun j h1 h2 => by omega)
      exact contains_of_mem (hp.subset (getD_mem _ _ (by rw [hp.length_eq]; exact hk)))
    constructor
    · rw [h2]; unfold who; rw [e]
    · show stp L l (run L l (k + 1) s) = _
      rw [h2]; unfold stp; rw [e]
theorem whole_asked (hq : left l s = []) : asked L l s l.length = (shufAll L s.a l).1 := by
  have hp := order_perm (L := L) s.a l
  apply List.ext_getElem?
  intro j
  rcases Nat.lt_or_ge j l.length with h | h
  · have := (whole (L := L) hq j h).1
    have e : (shufAll L s.a l).1.getD j 0 = (shufAll L s.a l).1[j]'(by rw [hp.length_eq]; exact h) := by simp [List.getD, show j < (shufAll L s.a l).1.length by rw [hp.length_eq]; exact h]
    rw [e] at this
    have e2 : (shufAll L s.a l).1[j]? = some ((shufAll L s.a l).1[j]'(by rw [hp.length_eq]; exact h)) := List.getElem?_eq_getElem _
    rw [e2, ← this]
    simp [asked, h]
  · rw [List.getElem?_eq_none (by rw [asked_len]; exact h), List.getElem?_eq_none (by rw [hp.length_eq]; exact h)]
theorem whole_left (hq : left l s = []) (hn : l ≠ []) : left l (run L l l.length s) = [] ∧ (run L l l.length s).p = l.length := by
  have h0 : 0 < l.length := List.length_pos_iff.2 hn
  have hp := order_perm (L := L) s.a l
  have := (whole (L := L) hq (l.length - 1) (by omega)).2
  rw [show l.length - 1 + 1 = l.length by omega] at this
  rw [this]
  refine ⟨?_, rfl⟩
  unfold left
  simp only
  rw [List.drop_of_length_le (by rw [hp.length_eq]; omega)]
  rfl

/-- EACH IN ITS TIME. -/
theorem each (h : OkS L s) {y : Int} (hy : y ∈ l) : y ∈ asked L l s (2 * l.length - 1) := by
  have hn : l ≠ [] := by rintro rfl; cases hy
  have h0 : 0 < l.length := List.length_pos_iff.2 hn
  have hnd : (left l s).Nodup := by
    have := ((numsB_iff s.T).1 h.1).2
    exact (this.sublist (List.drop_sublist _ _)).sublist List.filter_sublist
  have hsub : left l s ⊆ l := fun x hx => by simpa using (List.mem_filter.1 hx).2
  have hle := hnd.length_le_of_subset hsub
  obtain ⟨h1, h2⟩ := left_run (L := L) (left l s).length (Nat.le_refl _)
  rw [List.take_of_length_le (Nat.le_refl _)] at h2
  rw [List.drop_of_length_le (Nat.le_refl _)] at h1
  rcases Nat.lt_or_ge (left l s).length l.length with hlt | hge
  · have hw := whole_asked (L := L) h1
    have hm : y ∈ asked L l s ((left l s).length + l.length) := by
      rw [asked_add]
      refine List.mem_append_right _ ?_
      rw [hw]
      exact (order_perm _ l).symm.subset hy
    exact asked_mono (by omega) hm
  · have hm : y ∈ left l s := by
      by_cases hc : y ∈ left l s
      · exact hc
      · have : (y :: left l s).Nodup := List.nodup_cons.2 ⟨hc, hnd⟩
        have := this.length_le_of_subset (List.cons_subset.2 ⟨hy, hsub⟩)
        simp at this
        omega
    rw [← h2] at hm
    exact asked_mono (by omega) hm
end

/-! ### nodes without one -/
theorem less_step (l : List Int) (k i : Nat) (hi : i < l.length) : (l.take (i + 1)).eraseIdx k = if i = k then (l.take i).eraseIdx k else (l.take i).eraseIdx k ++ [l.getD i 0] := by
  rw [take_snoc l i hi]
  have hlen : (l.take i).length = i := by simp; omega
  rcases Nat.lt_trichotomy k i with h | h | h
  · rw [if_neg (by omega), List.eraseIdx_append_of_lt_length (by omega)]
  · subst h
    rw [if_pos rfl, List.eraseIdx_append_of_length_le (by omega), hlen]
    have e : (l.take k).eraseIdx k = l.take k := List.eraseIdx_of_length_le (by omega)
    rw [e]
    simp
  · rw [if_neg (by omega), List.eraseIdx_append_of_length_le (by omega), show ([l.getD i 0] : List Int).eraseIdx (k - (l.take i).length) = [l.getD i 0] from List.eraseIdx_of_length_le (by simp; omega), List.eraseIdx_of_length_le (by omega)]
theorem less_not (l : List Int) (k : Nat) (h : k < l.length) (hl : numsB l = true) : l.getD k 0 ∉ l.eraseIdx k := by
  have e : l.getD k 0 = l[k] := by simp [List.getD, h]
  have h1 := ((numsB_iff l).1 hl).2
  rw [e, List.eraseIdx_eq_take_drop_succ]
  have h2 : l = l.take k ++ l[k] :: l.drop (k + 1) := by rw [← List.drop_eq_getElem_cons h, List.take_append_drop]
  rw [h2, List.nodup_append, List.nodup_cons] at h1
  intro hm
  rcases List.mem_append.1 hm with hm | hm
  · exact h1.2.2 _ hm _ List.mem_cons_self rfl
  · exact h1.2.1.1 hm
theorem rises_pair (l : List Int) : risesB l = true ↔ l.Pairwise (· ≤ ·) := by
  rw [risesB_iff, List.pairwise_iff_getElem]
  constructor
  · intro h i j hi hj hij
    obtain ⟨d, rfl⟩ := Nat.exists_eq_add_of_lt hij
    induction d with
    | zero =>
      have := h i (by omega)
      simpa [List.getD, show i < l.length by omega, show i + 1 < l.length by omega] using this
    | succ d ih =>
      have h1 := ih (by omega) (by omega)
      have h2 := h (i + d + 1) (by omega)
      have e1 : l.getD (i + d + 1) 0 = l[i + d + 1] := by simp [List.getD, show i + d + 1 < l.length by omega]
      have e2 : l.getD (i + d + 1 + 1) 0 = l[i + d + 1 + 1] := by simp [List.getD, show i + d + 1 + 1 < l.length by omega]
      rw [e1, e2] at h2
      exact Int.le_trans h1 h2
  · intro h i hi
    have := h i (i + 1) (by omega) (by omega) (by omega)
    simpa [List.getD, show i < l.length by omega, show i + 1 < l.length by omega] using this
theorem nodes_sub {xs ys : List Int} (h : xs.Sublist ys) (hy : nodesB ys = true) : nodesB xs = true := by
  simp only [nodesB, Bool.and_eq_true, rises_pair] at *
  exact ⟨nums_sub h hy.1, hy.2.sublist h⟩

/-! ### what hangs on nothing that is behind -/
theorem nx_drop (L : List UInt8) (l T : List Int) (p a : Nat) : (nx L l (T.drop p) 0 a).1 = (nx L l T p a).1 ∧ (nx L l (T.drop p) 0 a).2.2.2 = (nx L l T p a).2.2.2 := by
  unfold nx
  rw [List.drop_zero]
  rcases (T.drop p).findIdx? (fun x => l.contains x) with _ | i
  · exact ⟨rfl, rfl⟩
  · simp [List.getD]
theorem okT_drop {T : List Int} {p : Nat} (h : okT T p = true) : okT (T.drop p) 0 = true := by
  rw [okT_iff] at *
  exact ⟨nums_drop T p h.1, by omega, by omega⟩
theorem ans_drop (L : List UInt8) (a : Int) (T : List Int) (p : Nat) (l : List Int) (h : okT T p = true) :
    (ans L a (T.drop p) 0 l).n = (ans L a T p l).n ∧ (ans L a (T.drop p) 0 l).a = (ans L a T p l).a ∧ (ans L a (T.drop p) 0 l).e = (ans L a T p l).e := by
  unfold ans
  rw [h, okT_drop h]
  by_cases hc : (true && (nodesB l && (decide (0 ≤ a) && decide (a ≤ (L.length : Int))))) = true
  · rw [if_pos hc, if_pos hc]
    by_cases hl : l = []
    · rw [if_pos hl, if_pos hl]; exact ⟨rfl, rfl, rfl⟩
    · rw [if_neg hl, if_neg hl]
      obtain ⟨h1, h2⟩ := nx_drop L l T p a.toNat
      simp only [Int.toNat_natCast, Int.toNat_zero]
      exact ⟨h1, by rw [h2], trivial⟩
  · rw [if_neg hc, if_neg hc]; exact ⟨rfl, rfl, rfl⟩
/-- With an error all is as it was; else the turn may be, and who is asked stands in it. -/
theorem ans_kept (L : List UInt8) (a : Int) (T : List Int) (p : Int) (l : List Int) :
    ((ans L a T p l).e ≠ 0 → (ans L a T p l).T = T ∧ (ans L a T p l).p = p ∧ (ans L a T p l).a = a) ∧
    ((ans L a T p l).e = 0 → okT (ans L a T p l).T (ans L a T p l).p = true ∧ 1 ≤ (ans L a T p l).p ∧ (ans L a T p l).p ≤ ((ans L a T p l).T.length : Int) ∧ (ans L a T p l).T.getD ((ans L a T p l).p - 1).toNat 0 = (ans L a T p l).n) := by
  unfold ans
  by_cases hc : (okT T p && (nodesB l && (decide (0 ≤ a) && decide (a ≤ (L.length : Int))))) = true
  · rw [if_pos hc]
    by_cases hl : l = []
    · rw [if_pos hl]
      exact ⟨fun _ => ⟨rfl, rfl, rfl⟩, fun h => by simp at h⟩
    · rw [if_neg hl]
      refine ⟨fun h => absurd rfl h, fun _ => ?_⟩
      simp only [Bool.and_eq_true, decide_eq_true_iff] at hc
      obtain ⟨h1, h2, h3, h4⟩ := hc
      obtain ⟨t1, t2, t3⟩ := (okT_iff T p).1 h1
      have ho : OkS L (⟨T, p.toNat, a.toNat⟩ : Tn) := ⟨t1, by simp only; omega, by simp only; omega⟩
      have hs := stp_ok (l := l) ho (nodesB_nums h2) hl
      have ht := hs.t
      simp only [stp] at ht
      refine ⟨ht, ?_⟩
      have hn0 : 0 < l.length := List.length_pos_iff.2 hl
      rcases hq : left l (⟨T, p.toNat, a.toNat⟩ : Tn) with _ | ⟨x, r⟩
      · have e := left_nil (L := L) hq
        simp only at e ⊢
        rw [e]
        refine ⟨by simp, ?_, by simp⟩
        simp only
        rw [shufAll_len]
        omega
      · obtain ⟨i, i1, i2, i3, _, e, _⟩ := left_cons (L := L) x r hq
        simp only at e i1 i2 i3 ⊢
        rw [e]
        refine ⟨by simp only; omega, by simp only; omega, ?_⟩
        simp only
        rw [show (((i + 1 : Nat) : Int) - 1).toNat = i by omega, i3]
  · rw [if_neg hc]
    exact ⟨fun _ => ⟨rfl, rfl, rfl⟩, fun h => by simp at h⟩
end Go.Proofs.Ytphcmjhphoacgaa.Pure
