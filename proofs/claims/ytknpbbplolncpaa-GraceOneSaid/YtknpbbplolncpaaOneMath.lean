/-
  One doubt a node, as mathematics.
-/
import Derived.Test.YtknpbbplolncpaaRaiseMath
namespace Go.Proofs.Ytknpbbplolncpaa.Pure

/-- The incarnation that a node is doubted of. -/
def incOf : List Dt → Int → Option Int
  | [], _ => none
  | x :: r, k => if x.w = k then some x.i else incOf r k
theorem inc_none {l : List Dt} {k : Int} (h : ∀ x ∈ l, x.w ≠ k) : incOf l k = none := by
  induction l with
  | nil => rfl
  | cons x r ih =>
    unfold incOf
    rw [if_neg (h x (by simp)), ih fun y hy => h y (List.mem_cons_of_mem _ hy)]
theorem inc_at {l : List Dt} (h : l.Pairwise (fun x y => x.w < y.w)) : ∀ x ∈ l, incOf l x.w = some x.i := by
  induction l with
  | nil => intro x hx; cases hx
  | cons y r ih =>
    rw [List.pairwise_cons] at h
    intro x hx
    unfold incOf
    rcases List.mem_cons.1 hx with rfl | hx
    · rw [if_pos rfl]
    · rw [if_neg (by have := h.1 x hx; omega)]
      exact ih h.2 x hx
theorem clear_may {l : List Dt} (h : mayD l = true) (who inc : Int) : mayD (clearD l who inc) = true := by
  obtain ⟨h1, h2, h3⟩ := may_mem h
  refine may_of (fun x hx => h1 x (List.mem_filter.1 hx).1) (fun x hx => h2 x (List.mem_filter.1 hx).1) (h3.sublist List.filter_sublist)
theorem clear_not {l : List Dt} {who inc : Int} (h : l.Pairwise (fun x y => x.w < y.w)) (hn : ∀ i, incOf l who = some i → inc < i) : clearD l who inc = l := by
  unfold clearD
  rw [List.filter_eq_self]
  intro x hx
  by_cases hw : x.w = who
  · have h1 := inc_at h x hx
    rw [hw] at h1
    have := hn _ h1
    simp [goneB]; omega
  · simp [goneB, hw]
theorem clear_is {l : List Dt} {who inc i : Int} (h : l.Pairwise (fun x y => x.w < y.w)) (hi : incOf l who = some i) (hle : i ≤ inc) :
    (∀ k, incOf (clearD l who inc) k = if k = who then none else incOf l k) ∧ (clearD l who inc).length = l.length - 1 := by
  induction l with
  | nil => cases hi
  | cons x r ih =>
    rw [List.pairwise_cons] at h
    unfold incOf at hi
    by_cases hw : x.w = who
    · rw [if_pos hw] at hi
      have hxi := Option.some.inj hi
      have hr : clearD r who inc = r := clear_not h.2 fun j hj => by
        rw [inc_none (fun y hy => by have := h.1 y hy; omega)] at hj
        cases hj
      have e : clearD (x :: r) who inc = r := by
        unfold clearD at hr ⊢
        rw [List.filter_cons_of_neg (by simp [goneB, hw]; omega), hr]
      rw [e]
      refine ⟨fun k => ?_, by simp⟩
      by_cases hk : k = who
      · rw [if_pos hk, inc_none (fun y hy => by have := h.1 y hy; omega)]
      · rw [if_neg hk]
        conv => rhs; unfold incOf
        rw [if_neg (by omega)]
    · rw [if_neg hw] at hi
      obtain ⟨i1, i2⟩ := ih h.2 hi
      have e : clearD (x :: r) who inc = x :: clearD r who inc := by
        unfold clearD
        rw [List.filter_cons_of_pos (by simp [goneB, hw])]
      have hpos : 0 < r.length := by
        rcases r with _ | ⟨y, r⟩
        · cases hi
        · simp
      rw [e]
      refine ⟨fun k => ?_, by rw [List.length_cons, List.length_cons, i2]; omega⟩
      conv => lhs; unfold incOf
      conv => rhs; unfold incOf
      by_cases hk : x.w = k
      · rw [if_pos hk, if_neg (by omega), if_pos hk]
      · rw [if_neg hk, if_neg hk, i1]
theorem ins_memD {who inc b now : Int} {l : List Dt} {x : Dt} (h : x ∈ insD who inc b now l) : x ∈ l ∨ x = ⟨who, inc, now, [b]⟩ ∨ ∃ y ∈ l, y.w = who ∧ x = mergeD who inc b now y := by
  induction l with
  | nil => exact .inr (.inl (List.mem_singleton.1 h))
  | cons y r ih =>
    unfold insD at h
    split at h
    · rcases List.mem_cons.1 h with rfl | h
      · exact .inl (by simp)
      · rcases ih h with h | h | ⟨z, hz, h⟩
        · exact .inl (List.mem_cons_of_mem _ h)
        · exact .inr (.inl h)
        · exact .inr (.inr ⟨z, List.mem_cons_of_mem _ hz, h⟩)
    · split at h
      · rename_i hw
        rcases List.mem_cons.1 h with rfl | h
        · exact .inr (.inr ⟨y, by simp, hw, rfl⟩)
        · exact .inl (List.mem_cons_of_mem _ h)
      · rcases List.mem_cons.1 h with rfl | h
        · exact .inr (.inl rfl)
        · exact .inl h
theorem merge_w {who inc b now : Int} {y : Dt} (h : y.w = who) : (mergeD who inc b now y).w = who := by
  unfold mergeD
  split
  · rfl
  · split <;> exact h
theorem ins_pairD {who inc b now : Int} {l : List Dt} (h : l.Pairwise (fun x y => x.w < y.w)) : (insD who inc b now l).Pairwise (fun x y => x.w < y.w) := by
  induction l with
  | nil => simp [insD]
  | cons y r ih =>
    rw [List.pairwise_cons] at h
    unfold insD
    split
    · rename_i hy
      rw [List.pairwise_cons]
      refine ⟨fun z hz => ?_, ih h.2⟩
      rcases ins_memD hz with hz | rfl | ⟨u, _, hu, rfl⟩
      · exact h.1 z hz
      · exact hy
      · rw [merge_w hu]; exact hy
    · split
      · rename_i hw
        rw [List.pairwise_cons]
        exact ⟨fun z hz => by rw [merge_w hw]; have := h.1 z hz; omega, h.2⟩
      · rename_i h1 h2
        rw [List.pairwise_cons]
        refine ⟨fun z hz => ?_, List.pairwise_cons.2 h⟩
        show who < z.w
        rcases List.mem_cons.1 hz with rfl | hz
        · omega
        · have := h.1 z hz; omega
theorem raise_may {l : List Dt} {who inc b now : Int} (h : mayD l = true) (hw : 0 ≤ who ∧ who < 64) (hb : 0 ≤ b ∧ b < 64) (ht : 0 ≤ now ∧ now ≤ 1099511627776) : mayD (raiseD l who inc b now) = true := by
  rw [raise_ins]
  obtain ⟨h1, h2, h3⟩ := may_mem h
  have hone : OkD ⟨who, inc, now, [b]⟩ := ⟨ht, by simp, by rw [rise_pair]; simp; omega⟩
  refine may_of (fun x hx => ?_) (fun x hx => ?_) (ins_pairD h3)
  · rcases ins_memD hx with hx | rfl | ⟨u, hu, hw, rfl⟩
    · exact h1 x hx
    · exact hone
    · have hok := h1 u hu
      unfold mergeD
      split
      · exact hone
      · split
        · refine ⟨hok.1, ?_, ?_⟩
          · show withN u.b b ≠ []
            rw [with_ins]
            intro e
            have := (ins_mem b u.b b).2 (.inl rfl)
            rw [e] at this
            cases this
          · show riseB (withN u.b b) = true
            rw [with_ins]
            exact ins_rise b hok.2.2 hb
        · exact hok
  · rcases ins_memD hx with hx | rfl | ⟨u, hu, hw', rfl⟩
    · exact h2 x hx
    · exact hw
    · rw [merge_w hw']; exact hw
theorem raise_is {l : List Dt} {who inc b now : Int} (h : l.Pairwise (fun x y => x.w < y.w)) :
    (∀ k, incOf (insD who inc b now l) k = if k = who then some (match incOf l who with | none => inc | some i => if i < inc then inc else i) else incOf l k) ∧
    (insD who inc b now l).length = if (incOf l who).isSome = true then l.length else l.length + 1 := by
  induction l with
  | nil =>
    refine ⟨fun k => ?_, rfl⟩
    show (if who = k then some inc else none) = _
    by_cases hk : k = who
    · rw [if_pos hk.symm, if_pos hk]; rfl
    · rw [if_neg (fun e => hk e.symm), if_neg hk]; rfl
  | cons x r ih =>
    rw [List.pairwise_cons] at h
    obtain ⟨i1, i2⟩ := ih h.2
    by_cases hlt : x.w < who
    · have e : insD who inc b now (x :: r) = x :: insD who inc b now r := by rw [insD, if_pos hlt]
      have e2 : incOf (x :: r) who = incOf r who := by rw [incOf, if_neg (by omega)]
      rw [e, e2]
      refine ⟨fun k => ?_, ?_⟩
      · conv => lhs; unfold incOf
        rw [i1]
        by_cases hk : x.w = k
        · rw [if_pos hk, if_neg (by omega), show incOf (x :: r) k = some x.i by rw [incOf, if_pos hk]]
        · rw [if_neg hk, show incOf (x :: r) k = incOf r k by rw [incOf, if_neg hk]]
      · rw [List.length_cons, i2, List.length_cons]
        split <;> rfl
    · by_cases hw : x.w = who
      · have e : insD who inc b now (x :: r) = mergeD who inc b now x :: r := by rw [insD, if_neg hlt, if_pos hw]
        have e2 : incOf (x :: r) who = some x.i := by rw [incOf, if_pos hw]
        rw [e, e2]
        refine ⟨fun k => ?_, rfl⟩
        conv => lhs; unfold incOf
        rw [merge_w hw]
        by_cases hk : k = who
        · rw [if_pos hk.symm, if_pos hk]
          congr 1
          unfold mergeD
          by_cases hi : x.i < inc
          · simp [hi]
          · simp only [hi, if_false]
            split <;> rfl
        · rw [if_neg (fun e => hk e.symm), if_neg hk]
          conv => rhs; unfold incOf
          rw [if_neg (by omega)]
      · have e : insD who inc b now (x :: r) = ⟨who, inc, now, [b]⟩ :: x :: r := by rw [insD, if_neg hlt, if_neg hw]
        have e2 : incOf (x :: r) who = none := inc_none fun y hy => by
          rcases List.mem_cons.1 hy with rfl | hy
          · exact hw
          · have := h.1 y hy; omega
        rw [e, e2]
        refine ⟨fun k => ?_, rfl⟩
        conv => lhs; unfold incOf
        by_cases hk : k = who
        · rw [if_pos (show who = k from hk.symm), if_pos hk]
        · rw [if_neg (show ¬who = k from fun e => hk e.symm), if_neg hk]
end Go.Proofs.Ytknpbbplolncpaa.Pure
