/-
  A new table, node by node dead; a node that leaves, and comes back; what is told of how many, as plain lists.
-/
import Derived.Test.YtmfpipcedblklaaTab
namespace Go.Proofs.Ytmfpipcedblklaa.Pure

def dd : Kn := ⟨0, 2⟩
/-- n nodes, the first i of which are dead. -/
def nod (n i : Nat) : List Kn := (List.range n).map fun j => if j < i then dd else z0
theorem nod_len (n i : Nat) : (nod n i).length = n := by simp [nod]
theorem nod_kn {n i j : Nat} (h : j < n) : kn (nod n i) j = if j < i then dd else z0 := by simp [nod, kn, h]
theorem nod_zero (n : Nat) : nod n 0 = List.replicate n z0 := by
  apply ext_kn (by rw [nod_len, List.length_replicate])
  intro j hj
  rw [nod_len] at hj
  rw [nod_kn hj, if_neg (Nat.not_lt_zero j)]
  simp [kn, hj]
theorem nod_may {n : Nat} (i : Nat) (h : 1 ≤ n ∧ n ≤ 64) : mayT (nod n i) = true := by
  rw [mayT_iff, nod_len, mayL_iff, nod_len]
  refine ⟨h.1, h.2, fun j hj => ?_⟩
  rw [nod_kn hj]
  split <;> rfl
theorem nod_fit (n i : Nat) : FitL (nod n i) := fit_of fun j hj => by
  rw [nod_len] at hj
  rw [nod_kn hj]
  split <;> exact ⟨by decide, by decide⟩
theorem nod_app {n i : Nat} (h : i < n) : appL (nod n i) i dd = nod n (i + 1) := by
  apply ext_kn (by rw [len_app, nod_len, nod_len])
  intro j hj
  rw [len_app, nod_len] at hj
  rw [kn_app _ _ _ _ (by rw [nod_len]; exact h), nod_kn hj, nod_kn hj, nod_kn h, if_neg (Nat.lt_irrefl i)]
  by_cases e : j = i
  · subst e; simp; rfl
  · rw [if_neg e]
    by_cases hji : j < i
    · rw [if_pos hji, if_pos (by omega)]
    · rw [if_neg hji, if_neg (by omega)]
theorem nod_new {n i : Nat} (h : i < n) : newB (nod n i) i dd = true := by
  unfold newB
  rw [nod_kn h, if_neg (Nat.lt_irrefl i)]
  rfl
/-- From i on. -/
theorem from_len (i n : Nat) : (pick (fun j => decide (i ≤ j)) n).length = n - i := by
  induction n with
  | zero => simp [pick_zero]
  | succ n ih =>
    rw [pick_succ, List.length_append, ih]
    by_cases h : i ≤ n
    · simp [h]; omega
    · simp [h]; omega
theorem from_first (i n : Nat) (h : i < n) : (pick (fun j => decide (i ≤ j)) n).getD 0 0 = i := by
  induction n with
  | zero => omega
  | succ n ih =>
    rw [pick_succ]
    by_cases e : i = n
    · subst e
      have : pick (fun j => decide (i ≤ j)) i = [] := pick_none fun j hj => by simp; omega
      rw [this]; simp
    · have h1 := ih (by omega)
      have h2 := from_len i n
      rw [List.getD, List.getElem?_append_left (by omega)]
      exact h1
theorem nod_up (n i : Nat) : upL (nod n i) = pick (fun j => decide (i ≤ j)) n := by
  unfold upL
  rw [nod_len]
  refine pick_congr fun j hj => ?_
  unfold upP
  rw [nod_kn hj]
  by_cases h : j < i
  · rw [if_pos h]; simp [dd]; omega
  · rw [if_neg h]; simp [z0]; omega
theorem nod_up_len (n i : Nat) : (upL (nod n i)).length = n - i := by rw [nod_up, from_len]
theorem but_len (f n : Nat) : (pick (fun j => !((j : Int) == (f : Int))) n).length = n - (if f < n then 1 else 0) := by
  induction n with
  | zero => simp [pick_zero]
  | succ n ih =>
    rw [pick_succ, List.length_append, ih]
    by_cases e : f = n
    · subst e; simp
    · have : ((n : Int) == (f : Int)) = false := by simp; omega
      rw [this]
      by_cases h : f < n
      · rw [if_pos h, if_pos (show f < n + 1 by omega)]; simp; omega
      · rw [if_neg h, if_neg (show ¬f < n + 1 by omega)]; simp
theorem nod_oth {n i : Nat} (f : Int) : othL f (nod n i) = pick (fun j => !((j : Int) == f)) n := by
  unfold othL
  rw [nod_len]
  refine pick_congr fun j hj => ?_
  unfold othP
  rw [nod_kn hj]
  split <;> simp [dd, z0]
theorem nod_oth_len (n i f : Nat) : (othL (f : Int) (nod n i)).length = n - (if f < n then 1 else 0) := by rw [nod_oth, but_len]
theorem nod_all_len (n i : Nat) : (othL (-1) (nod n i)).length = n := by
  rw [nod_oth]
  have : pick (fun j => !((j : Int) == -1)) n = pick (fun j => decide (0 ≤ j)) n := pick_congr fun j hj => by simp
  rw [this, from_len]
  rfl

/-! ### what another one knows better, node by node -/
theorem getD_mem {is : List Nat} {j : Nat} (h : j < is.length) : is.getD j 0 ∈ is := by simp [List.getD, h]
theorem beh_at {t o : List Kn} {j : Nat} (h : j < (behL t o).length) : (behL t o).getD j 0 < o.length ∧ beatsB (kn o ((behL t o).getD j 0)) (kn t ((behL t o).getD j 0)) = true := mem_pick.1 (getD_mem h)
theorem beh_rise {t o : List Kn} {j : Nat} (h : j + 1 < (behL t o).length) : (behL t o).getD j 0 < (behL t o).getD (j + 1) 0 := by
  have := List.pairwise_iff_getElem.1 (pick_rise (behP t o) o.length) j (j + 1) (by unfold behL at h; omega) h (by omega)
  unfold behL at h ⊢
  simpa [List.getD, h, show j < (pick (behP t o) o.length).length by omega] using this
theorem not_ahead {is : List Nat} (hn : is.Nodup) {j : Nat} (h : j < is.length) : ¬is.getD j 0 ∈ is.take j := by
  intro hm
  obtain ⟨i, hi, e⟩ := List.getElem_of_mem hm
  rw [List.length_take] at hi
  rw [List.getElem_take] at e
  have e2 : is.getD j 0 = is[j] := by simp [List.getD, h]
  rw [e2] at e
  have := (List.getElem_inj hn).1 e
  omega
theorem beh_step {t o : List Kn} (hl : t.length = o.length) {j : Nat} (h : j < (behL t o).length) :
    appL (setAll t o ((behL t o).take j)) ((behL t o).getD j 0) (kn o ((behL t o).getD j 0)) = setAll t o ((behL t o).take (j + 1)) ∧ newB (setAll t o ((behL t o).take j)) ((behL t o).getD j 0) (kn o ((behL t o).getD j 0)) = true := by
  obtain ⟨h1, h2⟩ := beh_at h
  have hm := not_ahead (pick_nodup (behP t o) o.length) h
  have hk : kn (setAll t o ((behL t o).take j)) ((behL t o).getD j 0) = kn t ((behL t o).getD j 0) := by
    rw [kn_setAll _ _ _ (fun i hi => by have := (mem_pick.1 (List.mem_of_mem_take hi)).1; omega)]
    exact if_neg hm
  rw [newB_iff, hk]
  refine ⟨?_, h2⟩
  unfold appL
  rw [hk, setAll_succ _ _ _ _ h]
  unfold stepK
  rw [if_pos h2]
theorem may_setAll {t o : List Kn} (ht : mayL t = true) (ho : mayL o = true) (is : List Nat) (h : ∀ i ∈ is, i < t.length ∧ i < o.length) : mayL (setAll t o is) = true := by
  rw [mayL_iff] at ht ho ⊢
  intro j hj
  rw [len_set] at hj
  rw [kn_setAll _ _ _ (fun i hi => (h i hi).1)]
  split
  · rename_i hm; exact ho j (h j hm).2
  · exact ht j hj
theorem fit_setAll {t o : List Kn} (ht : FitL t) (ho : FitL o) (is : List Nat) (h : ∀ i ∈ is, i < t.length) : FitL (setAll t o is) := fit_of fun j _ => by
  rw [kn_setAll _ _ _ h]
  split
  · exact ho.at_ j
  · exact ht.at_ j
end Go.Proofs.Ytmfpipcedblklaa.Pure
