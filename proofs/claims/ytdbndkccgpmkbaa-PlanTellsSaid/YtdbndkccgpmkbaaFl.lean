/-
  What follows of Diff, Apply and Back as they answer.
-/
import Derived.Test.YtdbndkccgpmkbaaLw
namespace Go.Proofs.Ytdbndkccgpmkbaa
open Go.Proofs.Ytdbndkccgpmkbaa.Pure
abbrev NmB : ByteArray → Prop := fun t => nameB t = true
theorem dE_zero {a b : List Pu} (h : dE a b = 0) : OkP NmB a ∧ OkP NmB b ∧ (difP a b).length ≤ 100 ∧ dR a b = difP a b := by
  have h0 := h
  unfold dE at h
  split at h
  · rename_i h1
    rw [Bool.and_eq_true] at h1
    split at h
    · cases h
    · rename_i h2
      exact ⟨(putB_iff a).1 h1.1, (putB_iff b).1 h1.2, by simpa using h2, by unfold dR; rw [if_pos h0]⟩
  · cases h
theorem dE_of {a b : List Pu} (h1 : OkP NmB a) (h2 : OkP NmB b) (h : (difP a b).length ≤ 100) : dE a b = 0 := by
  unfold dE
  rw [(putB_iff a).2 h1, (putB_iff b).2 h2, decide_eq_false (by omega)]
  rfl
theorem dR_of {a b : List Pu} (h : ¬ dE a b = 0) : dR a b = [] := by unfold dR; rw [if_neg h]
theorem aE_zero {a : List Pu} {l : List Mv} (h : aE a l = 0) : OkP NmB a ∧ OkM NmB l ∧ staB a l = false ∧ (apP a l).length ≤ 100 ∧ aR a l = apP a l := by
  have h0 := h
  unfold aE at h
  split at h
  · rename_i h1
    rw [Bool.and_eq_true] at h1
    split at h
    · cases h
    · rename_i h2
      split at h
      · cases h
      · rename_i h3
        exact ⟨(putB_iff a).1 h1.1, (movB_iff l).1 h1.2, by simpa using h2, by simpa using h3, by unfold aR; rw [if_pos h0]⟩
  · cases h
theorem aE_of {a : List Pu} {l : List Mv} (h1 : OkP NmB a) (h2 : OkM NmB l) (h3 : staB a l = false) (h : (apP a l).length ≤ 100) : aE a l = 0 ∧ aR a l = apP a l := by
  have : aE a l = 0 := by
    unfold aE
    rw [(putB_iff a).2 h1, (movB_iff l).2 h2, h3, decide_eq_false (by omega)]
    rfl
  exact ⟨this, by unfold aR; rw [if_pos this]⟩
theorem aR_of {a : List Pu} {l : List Mv} (h : ¬ aE a l = 0) : aR a l = [] := by unfold aR; rw [if_neg h]
theorem aR_len (a : List Pu) (l : List Mv) : (aR a l).length ≤ 100000 := by
  by_cases hz : aE a l = 0
  · have := (aE_zero hz).2.2.2.1
    rw [(aE_zero hz).2.2.2.2]; omega
  · rw [aR_of hz]; simp
theorem bE_zero {l : List Mv} (h : bE l = 0) : OkM NmB l ∧ bR l = backP l := by
  unfold bE at h
  unfold bR
  split at h
  · rename_i h1
    exact ⟨(movB_iff l).1 h1, by rw [if_pos h1]⟩
  · cases h
theorem bE_of {l : List Mv} (h : OkM NmB l) : bE l = 0 ∧ bR l = backP l := by
  have := (movB_iff l).2 h
  unfold bE bR
  rw [if_pos this, if_pos this]
  exact ⟨rfl, rfl⟩
theorem bE_not {l : List Mv} (h : ¬ bE l = 0) : bE l = 1 ∧ bR l = [] := by
  unfold bE at h ⊢
  unfold bR
  split at h
  · exact absurd rfl h
  · rename_i h1
    rw [if_neg h1, if_neg h1]
    exact ⟨rfl, rfl⟩
/-- One comes to be the other. -/
theorem makes {a b : List Pu} (h : dE a b = 0) : OkP NmB a ∧ OkP NmB b ∧ OkM NmB (dR a b) ∧ (aE a (dR a b) = 0 ∧ aR a (dR a b) = b) ∧ (bE (dR a b) = 0 ∧ bR (dR a b) = backP (dR a b)) ∧
    OkM NmB (backP (dR a b)) ∧ (aE b (backP (dR a b)) = 0 ∧ aR b (backP (dR a b)) = a) ∧ (dE b a = 0 ∧ dR b a = backP (dR a b)) := by
  obtain ⟨h1, h2, h3, h4⟩ := dE_zero h
  rw [h4]
  have hd := difP_ok h1 h2 h3
  have hk := backP_ok hd
  have m1 := difP_makes h1.lo h2.rise h2.lo
  have m2 := difP_unmakes h1.rise h1.lo h2.lo
  refine ⟨h1, h2, hd, ?_, bE_of hd, hk, ?_, ?_⟩
  · have := aE_of h1 hd (difP_fresh a b) (by rw [m1]; exact h2.len)
    rw [m1] at this
    exact this
  · have := aE_of h2 hk m2.1 (by rw [m2.2]; exact h1.len)
    rw [m2.2] at this
    exact this
  · have hb := difP_back a b
    have h5 : dE b a = 0 := dE_of h2 h1 (by rw [hb, backP_len]; exact h3)
    exact ⟨h5, by rw [(dE_zero h5).2.2.2, hb]⟩
/-- Without any one of them it does not come to be. -/
theorem fewest {a b : List Pu} (h : dE a b = 0) {k : Nat} (hk : k < (dR a b).length) : OkM NmB ((dR a b).take k ++ (dR a b).drop (k + 1)) ∧
    (aE a ((dR a b).take k ++ (dR a b).drop (k + 1)) = 9 ∨ aE a ((dR a b).take k ++ (dR a b).drop (k + 1)) = 0 ∧ ¬ aR a ((dR a b).take k ++ (dR a b).drop (k + 1)) = b) ∧ ¬ a = b := by
  obtain ⟨h1, h2, h3, h4⟩ := dE_zero h
  rw [h4] at hk ⊢
  have hl := less_ok (difP_ok h1 h2 h3) k
  obtain ⟨g1, g2, g3⟩ := difP_less h1.lo h2.lo hk
  refine ⟨hl, ?_, g3⟩
  by_cases hn : (apP a ((difP a b).take k ++ (difP a b).drop (k + 1))).length ≤ 100
  · obtain ⟨e1, e2⟩ := aE_of h1 hl g1 hn
    exact .inr ⟨e1, by rw [e2]; exact g2⟩
  · refine .inl ?_
    unfold aE
    rw [(putB_iff a).2 h1, (movB_iff _).2 hl, g1, decide_eq_true (by omega)]
    rfl
theorem same_none {a b : List Pu} (h : dE a b = 0) (hn : (dR a b).length = 0) : a = b := by
  obtain ⟨h1, h2, _, h4⟩ := dE_zero h
  rw [h4] at hn
  exact difP_none h1.rise h2.rise h1.lo h2.lo (List.eq_nil_of_length_eq_zero hn)
/-- What was moved is not where it was. -/
theorem stale {a : List Pu} {l : List Mv} (h : aE a l = 0) : OkP NmB (aR a l) ∧ OkM NmB l ∧ (¬ l = [] → aE (aR a l) l = 8 ∧ aR (aR a l) l = []) ∧ (l = [] → aR a l = a ∧ aE (aR a l) l = 0) := by
  obtain ⟨h1, h2, h3, h4, h5⟩ := aE_zero h
  rw [h5]
  have h6 := apP_ok h1 h2 h4
  refine ⟨h6, h2, fun hn => ?_, fun hn => ?_⟩
  · have hs := apP_stale (a := a) h1.lo h2.rise h2.glo h2.ne hn
    have he : aE (apP a l) l = 8 := by
      unfold aE
      rw [(putB_iff _).2 h6, (movB_iff _).2 h2, hs]
      rfl
    exact ⟨he, aR_of (by rw [he]; decide)⟩
  · subst hn
    have := apP_nil h1.rise h1.lo
    rw [this]
    refine ⟨rfl, ?_⟩
    exact (aE_of h1 h2 rfl (by rw [this]; exact h1.len)).1
/-- Moves applied, and then back. -/
theorem backs {a : List Pu} {l : List Mv} (h : bE l = 0) : OkM NmB l ∧ OkM NmB (bR l) ∧ bE (bR l) = 0 ∧ bR (bR l) = l ∧ (aE a l = 0 → OkP NmB (aR a l) ∧ aE (aR a l) (bR l) = 0 ∧ aR (aR a l) (bR l) = a) := by
  obtain ⟨h1, h2⟩ := bE_zero h
  rw [h2]
  have hk := backP_ok h1
  obtain ⟨b1, b2⟩ := bE_of hk
  refine ⟨h1, hk, b1, by rw [b2, backP_twice], fun ha => ?_⟩
  obtain ⟨g1, _, g3, g4, g5⟩ := aE_zero ha
  rw [g5]
  have h6 := apP_ok g1 h1 g4
  obtain ⟨m1, m2⟩ := apP_back g1.rise g1.lo h1.rise h1.glo h1.flo g3
  have := aE_of h6 hk m1 (by rw [m2]; exact g1.len)
  rw [m2] at this
  exact ⟨h6, this⟩
theorem backs_not {l : List Mv} (h : ¬ bE l = 0) : bE l = 1 ∧ bR l = [] ∧ bE (bR l) = 0 := by
  obtain ⟨h1, h2⟩ := bE_not h
  exact ⟨h1, h2, by rw [h2]; decide +kernel⟩
/-- From one to a second, and to a third. -/
theorem through {a b c : List Pu} (h1 : dE a b = 0) (h2 : dE b c = 0) (h3 : dE a c = 0) : (dR a c).length ≤ (dR a b).length + (dR b c).length ∧
    ∀ k, k < (dR a c).length → (∃ j, j < (dR a b).length ∧ (mv (dR a b) j).t = (mv (dR a c) k).t) ∨ ∃ j, j < (dR b c).length ∧ (mv (dR b c) j).t = (mv (dR a c) k).t := by
  rw [(dE_zero h1).2.2.2, (dE_zero h2).2.2.2, (dE_zero h3).2.2.2]
  refine ⟨difP_fewer a b c, fun k hk => ?_⟩
  rcases difP_through (b := b) (List.getElem_mem hk) with ⟨m, hm, e⟩ | ⟨m, hm, e⟩
  · obtain ⟨j, hj, rfl⟩ := List.mem_iff_getElem.1 hm
    exact .inl ⟨j, hj, by rw [mv_lt _ hj, mv_lt _ hk]; exact e⟩
  · obtain ⟨j, hj, rfl⟩ := List.mem_iff_getElem.1 hm
    exact .inr ⟨j, hj, by rw [mv_lt _ hj, mv_lt _ hk]; exact e⟩
end Go.Proofs.Ytdbndkccgpmkbaa
