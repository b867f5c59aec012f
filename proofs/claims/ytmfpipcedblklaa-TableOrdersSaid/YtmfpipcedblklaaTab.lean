/-
  Tables as lists: which may be, which places are picked, what is applied, what is merged.
-/
import Derived.Test.YtmfpipcedblklaaMath
namespace Go.Proofs.Ytmfpipcedblklaa.Pure

def mayT (l : List Kn) : Bool := decide (1 ≤ l.length) && (decide (l.length ≤ 64) && mayL l)
theorem mayT_iff (l : List Kn) : mayT l = true ↔ 1 ≤ l.length ∧ l.length ≤ 64 ∧ mayL l = true := by simp [mayT]
/-- The places that are picked. -/
def pick (p : Nat → Bool) (n : Nat) : List Nat := (List.range n).filter p
theorem pick_succ (p : Nat → Bool) (n : Nat) : pick p (n + 1) = pick p n ++ (if p n = true then [n] else []) := by
  unfold pick
  rw [List.range_succ, List.filter_append]
  congr 1
  by_cases h : p n = true <;> simp [h]
theorem pick_zero (p : Nat → Bool) : pick p 0 = [] := rfl
theorem pick_length (p : Nat → Bool) (n : Nat) : (pick p n).length ≤ n := by
  have := List.length_filter_le p (List.range n)
  simpa [pick] using this
theorem pick_congr {p q : Nat → Bool} {n : Nat} (h : ∀ j, j < n → p j = q j) : pick p n = pick q n := by
  unfold pick
  exact List.filter_congr fun j hj => h j (List.mem_range.1 hj)
theorem mem_pick {p : Nat → Bool} {n j : Nat} : j ∈ pick p n ↔ j < n ∧ p j = true := by simp [pick]
theorem pick_none {p : Nat → Bool} {n : Nat} (h : ∀ j, j < n → p j = false) : pick p n = [] := by
  unfold pick
  rw [List.filter_eq_nil_iff]
  intro j hj
  rw [h j (List.mem_range.1 hj)]
  simp
theorem pick_nodup (p : Nat → Bool) (n : Nat) : (pick p n).Nodup := List.nodup_range.sublist List.filter_sublist
theorem pick_rise (p : Nat → Bool) (n : Nat) : (pick p n).Pairwise (· < ·) := List.pairwise_lt_range.sublist List.filter_sublist
theorem count_pick (p : Nat → Bool) (n j : Nat) : (pick p n).count j = if j < n ∧ p j = true then 1 else 0 := by
  by_cases h : j < n ∧ p j = true
  · rw [if_pos h]
    have h1 := List.nodup_iff_count.1 (pick_nodup p n) j
    have h2 := List.count_pos_iff.2 (mem_pick.2 h)
    omega
  · rw [if_neg h]
    exact List.count_eq_zero.2 fun hm => h (mem_pick.1 hm)

def upP (l : List Kn) (j : Nat) : Bool := (kn l j).s == 0 || (kn l j).s == 1
def upL (l : List Kn) : List Nat := pick (upP l) l.length
def othP (me : Int) (l : List Kn) (j : Nat) : Bool := !((j : Int) == me) && !((kn l j).s == 3)
def othL (me : Int) (l : List Kn) : List Nat := pick (othP me l) l.length
def behP (t o : List Kn) (j : Nat) : Bool := beatsB (kn o j) (kn t j)
def behL (t o : List Kn) : List Nat := pick (behP t o) o.length
/-- What is applied. -/
def appL (l : List Kn) (who : Nat) (k : Kn) : List Kn := l.set who (stepK (kn l who) k)
/-- Some of the places laid anew. -/
def setAll (t o : List Kn) (is : List Nat) : List Kn := is.foldl (fun l i => l.set i (kn o i)) t
/-- What is merged, as far as place k. -/
def merK (k : Nat) (t o : List Kn) : List Kn := (List.range t.length).map fun j => if j < k then stepK (kn t j) (kn o j) else kn t j
def merL (t o : List Kn) : List Kn := merK t.length t o

theorem kn_set (l : List Kn) (i j : Nat) (x : Kn) (hi : i < l.length) : kn (l.set i x) j = if j = i then x else kn l j := by
  unfold kn
  rw [List.getD_eq_getElem?_getD, List.getD_eq_getElem?_getD, List.getElem?_set]
  by_cases h : i = j
  · subst h; simp [hi]
  · rw [if_neg h, if_neg (fun e => h e.symm)]
theorem ext_kn {a b : List Kn} (hl : a.length = b.length) (h : ∀ j, j < a.length → kn a j = kn b j) : a = b := by
  apply List.ext_getElem hl
  intro j h1 h2
  have := h j h1
  simpa [kn, h1, h2] using this
theorem kn_mem {l : List Kn} {j : Nat} (h : j < l.length) : kn l j ∈ l := by
  have : kn l j = l[j] := by simp [kn, h]
  rw [this]; exact List.getElem_mem h
theorem len_app (l : List Kn) (who : Nat) (k : Kn) : (appL l who k).length = l.length := by simp [appL]
theorem kn_app (l : List Kn) (who j : Nat) (k : Kn) (h : who < l.length) : kn (appL l who k) j = if j = who then stepK (kn l who) k else kn l j := kn_set l who j _ h
theorem may_app {l : List Kn} {who : Nat} {k : Kn} (h : mayL l = true) (hw : who < l.length) : mayL (appL l who k) = true := by
  rw [mayL_iff] at h ⊢
  intro j hj
  rw [len_app] at hj
  rw [kn_app l who j k hw]
  split
  · exact stepK_may (h _ hw)
  · exact h j hj
theorem mayT_app {l : List Kn} {who : Nat} {k : Kn} (h : mayT l = true) (hw : who < l.length) : mayT (appL l who k) = true := by
  rw [mayT_iff] at h ⊢
  rw [len_app]
  exact ⟨h.1, h.2.1, may_app h.2.2 hw⟩
def FitL (l : List Kn) : Prop := ∀ x ∈ l, Fit x
theorem FitL.at_ {l : List Kn} (h : FitL l) (j : Nat) : Fit (kn l j) := by
  by_cases hj : j < l.length
  · exact h _ (kn_mem hj)
  · have : kn l j = z0 := by simp [kn, List.getElem?_eq_none (Nat.le_of_not_lt hj)]
    rw [this]; exact fit_z0
theorem fit_of {l : List Kn} (h : ∀ j, j < l.length → Fit (kn l j)) : FitL l := fun x hx => by
  obtain ⟨j, hj, rfl⟩ := List.getElem_of_mem hx
  have := h j hj
  simpa [kn, hj] using this
theorem fit_app {l : List Kn} {who : Nat} {k : Kn} (h : FitL l) (hk : Fit k) (hw : who < l.length) : FitL (appL l who k) := fit_of fun j hj => by
  rw [kn_app l who j k hw]
  split
  · exact stepK_fit (h.at_ _) hk
  · exact h.at_ j
theorem FitL.take {l : List Kn} (h : FitL l) (k : Nat) : FitL (l.take k) := fun x hx => h x (List.mem_of_mem_take hx)

theorem len_set (t o : List Kn) (is : List Nat) : (setAll t o is).length = t.length := by
  unfold setAll
  induction is generalizing t with
  | nil => rfl
  | cons i r ih => rw [List.foldl_cons, ih]; simp
theorem kn_setAll (t o : List Kn) (is : List Nat) (h : ∀ i ∈ is, i < t.length) (j : Nat) : kn (setAll t o is) j = if j ∈ is then kn o j else kn t j := by
  unfold setAll
  induction is generalizing t with
  | nil => simp
  | cons i r ih =>
    rw [List.foldl_cons, ih _ (fun x hx => by rw [List.length_set]; exact h x (by simp [hx]))]
    have hi := h i (by simp)
    by_cases hj : j ∈ r
    · rw [if_pos hj, if_pos (by simp [hj])]
    · rw [if_neg hj, kn_set t i j _ hi]
      by_cases e : j = i
      · subst e; simp
      · rw [if_neg e, if_neg (by simp [e, hj])]
theorem setAll_succ (t o : List Kn) (is : List Nat) (k : Nat) (h : k < is.length) : setAll t o (is.take (k + 1)) = (setAll t o (is.take k)).set (is.getD k 0) (kn o (is.getD k 0)) := by
  unfold setAll
  rw [List.take_succ_eq_append_getElem h, List.foldl_append]
  simp [List.getD, h]
theorem len_merK (k : Nat) (t o : List Kn) : (merK k t o).length = t.length := by simp [merK]
theorem kn_merK (k : Nat) (t o : List Kn) (j : Nat) (h : j < t.length) : kn (merK k t o) j = if j < k then stepK (kn t j) (kn o j) else kn t j := by
  unfold merK
  simp [kn, h]
theorem len_merL (t o : List Kn) : (merL t o).length = t.length := len_merK _ t o
theorem kn_merL (t o : List Kn) (j : Nat) (h : j < t.length) : kn (merL t o) j = stepK (kn t j) (kn o j) := by
  unfold merL
  rw [kn_merK _ t o j h, if_pos h]
theorem merK_zero (t o : List Kn) : merK 0 t o = t := ext_kn (len_merK _ _ _) fun j hj => by
  rw [len_merK] at hj
  rw [kn_merK _ t o j hj, if_neg (Nat.not_lt_zero j)]
theorem merK_succ (t o : List Kn) (k : Nat) (h : k < t.length) : appL (merK k t o) k (kn o k) = merK (k + 1) t o := ext_kn (by rw [len_app, len_merK, len_merK]) fun j hj => by
  rw [len_app, len_merK] at hj
  rw [kn_app _ _ _ _ (by rw [len_merK]; exact h), kn_merK _ t o j hj, kn_merK _ t o j hj, kn_merK _ t o k h, if_neg (Nat.lt_irrefl k)]
  by_cases e : j = k
  · subst e; simp
  · rw [if_neg e]
    by_cases hjk : j < k
    · rw [if_pos hjk, if_pos (by omega)]
    · rw [if_neg hjk, if_neg (by omega)]
theorem setAll_beh (t o : List Kn) (hl : t.length = o.length) : setAll t o (behL t o) = merL t o := ext_kn (by rw [len_set, len_merL]) fun j hj => by
  rw [len_set] at hj
  rw [kn_setAll _ _ _ (fun i hi => by have := mem_pick.1 hi; omega), kn_merL t o j hj]
  unfold stepK
  by_cases h : beatsB (kn o j) (kn t j) = true
  · have hm : j ∈ behL t o := mem_pick.2 ⟨by omega, h⟩
    rw [if_pos h, if_pos hm]
  · have hm : ¬j ∈ behL t o := fun hm => h (mem_pick.1 hm).2
    rw [if_neg h, if_neg hm]
theorem may_mer {t o : List Kn} (ht : mayL t = true) : mayL (merL t o) = true := by
  rw [mayL_iff] at ht ⊢
  intro j hj
  rw [len_merL] at hj
  rw [kn_merL t o j hj]
  exact stepK_may (ht j hj)
theorem mayT_mer {t o : List Kn} (h : mayT t = true) : mayT (merL t o) = true := by
  rw [mayT_iff] at h ⊢
  rw [len_merL]
  exact ⟨h.1, h.2.1, may_mer h.2.2⟩
theorem fit_mer {t o : List Kn} (ht : FitL t) (ho : FitL o) : FitL (merL t o) := fit_of fun j hj => by
  rw [len_merL] at hj
  rw [kn_merL t o j hj]
  exact stepK_fit (ht.at_ _) (ho.at_ _)
theorem may_at {l : List Kn} (h : mayL l = true) {j : Nat} (hj : j < l.length) : mayK (kn l j) = true := (mayL_iff l).1 h j hj
theorem beats_self (x : Kn) : beatsB x x = false := by
  rcases h : mayK x with _ | _
  · simp [beatsB, h]
  · rw [beats_key h h]; simp
theorem stepK_self (x : Kn) : stepK x x = x := by unfold stepK; rw [beats_self]; rfl
/-- What is merged hangs on no order. -/
theorem mer_comm {a b : List Kn} (hl : a.length = b.length) (ha : mayL a = true) (hb : mayL b = true) : merL a b = merL b a := ext_kn (by rw [len_merL, len_merL, hl]) fun j hj => by
  rw [len_merL] at hj
  rw [kn_merL a b j hj, kn_merL b a j (by omega)]
  exact stepK_comm (may_at ha hj) (may_at hb (by omega))
theorem mer_self (a : List Kn) : merL a a = a := ext_kn (len_merL _ _) fun j hj => by
  rw [len_merL] at hj
  rw [kn_merL a a j hj, stepK_self]
theorem mer_assoc {a b c : List Kn} (hab : a.length = b.length) (hbc : b.length = c.length) (ha : mayL a = true) (hb : mayL b = true) (hc : mayL c = true) : merL (merL a b) c = merL a (merL b c) :=
  ext_kn (by rw [len_merL, len_merL, len_merL]) fun j hj => by
    rw [len_merL, len_merL] at hj
    rw [kn_merL _ c j (by rw [len_merL]; exact hj), kn_merL a b j hj, kn_merL a _ j hj, kn_merL b c j (by omega)]
    have h1 := may_at ha hj
    have h2 := may_at hb (show j < b.length by omega)
    have h3 := may_at hc (show j < c.length by omega)
    have h12 := stepK_may (k := kn b j) h1
    have h23 := stepK_may (k := kn c j) h2
    refine key_inj (stepK_may h12) (stepK_may h1) ?_
    rw [stepK_key h12 h3, stepK_key h1 h2, stepK_key h1 h23, stepK_key h2 h3]
    omega
theorem beh_mer_left {a b : List Kn} (hl : a.length = b.length) (ha : mayL a = true) (hb : mayL b = true) : behL (merL a b) a = [] := pick_none fun j hj => by
  unfold behP
  rw [kn_merL a b j hj, beats_key (may_at ha hj) (stepK_may (may_at ha hj)), stepK_key (may_at ha hj) (may_at hb (by omega))]
  simp; omega
theorem beh_mer_right {a b : List Kn} (hl : a.length = b.length) (ha : mayL a = true) (hb : mayL b = true) : behL (merL a b) b = [] := pick_none fun j hj => by
  unfold behP
  rw [kn_merL a b j (by omega), beats_key (may_at hb hj) (stepK_may (may_at ha (by omega))), stepK_key (may_at ha (by omega)) (may_at hb hj)]
  simp; omega
/-- Is another one there then? -/
def newB (l : List Kn) (who : Nat) (k : Kn) : Bool := !(stepK (kn l who) k == kn l who)
theorem newB_iff (l : List Kn) (who : Nat) (k : Kn) : newB l who k = beatsB k (kn l who) := by
  unfold newB stepK
  rcases h : beatsB k (kn l who) with _ | _
  · simp
  · simp
    intro e
    rw [e, beats_self] at h
    cases h
end Go.Proofs.Ytmfpipcedblklaa.Pure
