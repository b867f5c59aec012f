/-
  All names of some, rising, each once, found one by one: the least that is above the last one. As mathematics.
-/
import Derived.Test.YtdbndkccgpmkbaaStr
namespace Go.Proofs.Ytdbndkccgpmkbaa.Pure

/-- Is a text above all that stand? -/
def candB (o : List ByteArray) (x : ByteArray) : Bool := decide (o.length = 0) || ltS (o.getD (o.length - 1) ⟨#[]⟩) x
/-- One more is looked at: the least so far. -/
def stepB (o : List ByteArray) (acc : Option ByteArray) (x : ByteArray) : Option ByteArray :=
  match acc with
  | none => if candB o x then some x else none
  | some b => if candB o x && ltS x b then some x else some b
def bestB (o l : List ByteArray) : Option ByteArray := l.foldl (stepB o) none
theorem bestB_snoc (o l : List ByteArray) (x : ByteArray) : bestB o (l ++ [x]) = stepB o (bestB o l) x := by simp [bestB]
theorem bestB_next (o l : List ByteArray) {i : Nat} (h : i < l.length) : bestB o (l.take (i + 1)) = stepB o (bestB o (l.take i)) (l.getD i ⟨#[]⟩) := by
  rw [List.take_succ_eq_append_getElem h, bestB_snoc]
  simp [List.getD, h]
theorem bestB_at (o l : List ByteArray) : ∀ i, i ≤ l.length → (bestB o (l.take i) = none → ∀ j, j < i → candB o (l.getD j ⟨#[]⟩) = false) ∧
    ∀ x, bestB o (l.take i) = some x → (∃ j, j < i ∧ l.getD j ⟨#[]⟩ = x) ∧ candB o x = true ∧ ∀ j, j < i → candB o (l.getD j ⟨#[]⟩) = true → ltS (l.getD j ⟨#[]⟩) x = false := by
  intro i
  induction i with
  | zero => intro _; exact ⟨fun _ j hj => absurd hj (Nat.not_lt_zero j), fun x hx => (by cases hx)⟩
  | succ i ih =>
    intro hi
    obtain ⟨h1, h2⟩ := ih (by omega)
    rw [bestB_next o l (by omega)]
    obtain ⟨a, ha⟩ : ∃ a, l.getD i ⟨#[]⟩ = a := ⟨_, rfl⟩
    have hsp : ∀ (Q : Nat → Prop), (∀ j, j < i → Q j) → Q i → ∀ j, j < i + 1 → Q j := fun Q q1 q2 j hj => by
      rcases Nat.lt_or_ge j i with h | h
      · exact q1 j h
      · have : j = i := by omega
        rw [this]; exact q2
    rw [ha]
    rcases hb : bestB o (l.take i) with _ | b
    · have h1 := h1 hb
      unfold stepB
      simp only
      rcases hc : candB o a with _ | _
      · exact ⟨fun _ => hsp _ h1 (by rw [ha]; exact hc), fun x hx => (by simp at hx)⟩
      · refine ⟨fun h => (by simp at h), fun x hx => ?_⟩
        simp only [if_true, Option.some.injEq] at hx
        subst hx
        refine ⟨⟨i, by omega, ha⟩, hc, hsp _ (fun j hj hjc => ?_) (fun _ => by rw [ha]; exact ltS_irrefl _)⟩
        rw [h1 j hj] at hjc; cases hjc
    · obtain ⟨⟨q, q1, q2⟩, m2, m3⟩ := h2 b hb
      unfold stepB
      simp only
      rcases hc : (candB o a && ltS a b) with _ | _
      · refine ⟨fun h => (by simp at h), fun x hx => ?_⟩
        simp only [Bool.false_eq_true, if_false, Option.some.injEq] at hx
        subst hx
        refine ⟨⟨q, by omega, q2⟩, m2, hsp _ m3 (fun hac => ?_)⟩
        rw [ha] at hac ⊢
        rw [hac, Bool.true_and] at hc
        exact hc
      · rw [Bool.and_eq_true] at hc
        refine ⟨fun h => (by simp at h), fun x hx => ?_⟩
        simp only [if_true, Option.some.injEq] at hx
        subst hx
        refine ⟨⟨i, by omega, ha⟩, hc.1, hsp _ (fun j hj hjc => ?_) (fun _ => by rw [ha]; exact ltS_irrefl _)⟩
        have h3 := m3 j hj hjc
        rcases h4 : ltS (l.getD j ⟨#[]⟩) a with _ | _
        · rfl
        · rw [ltS_trans h4 hc.2] at h3; cases h3
theorem bestB_is (o l : List ByteArray) : (bestB o l = none → ∀ y ∈ l, candB o y = false) ∧ ∀ x, bestB o l = some x → x ∈ l ∧ candB o x = true ∧ ∀ y ∈ l, candB o y = true → ltS y x = false := by
  obtain ⟨h1, h2⟩ := bestB_at o l l.length (Nat.le_refl _)
  rw [List.take_length] at h1 h2
  have hg : ∀ y ∈ l, ∃ j, j < l.length ∧ l.getD j ⟨#[]⟩ = y := fun y hy => by
    obtain ⟨j, hj, e⟩ := List.mem_iff_getElem.1 hy
    exact ⟨j, hj, by simp [List.getD, hj, e]⟩
  refine ⟨fun h y hy => ?_, fun x hx => ?_⟩
  · obtain ⟨j, hj, e⟩ := hg y hy
    rw [← e]; exact h1 h j hj
  · obtain ⟨⟨j, hj, e⟩, m2, m3⟩ := h2 x hx
    refine ⟨?_, m2, fun y hy hc => ?_⟩
    · rw [← e, List.getD, List.getElem?_eq_getElem hj]; exact List.getElem_mem hj
    · obtain ⟨q, hq, e⟩ := hg y hy
      rw [← e] at hc ⊢
      exact m3 q hq hc
/-- What stands is the beginning of all names: the next one, or the end. -/
theorem names_is {l : List ByteArray} {k : Nat} (hk : k ≤ (uniK l).length) :
    (bestB ((uniK l).take k) l = none → k = (uniK l).length) ∧ ∀ x, bestB ((uniK l).take k) l = some x → k < (uniK l).length ∧ (uniK l).take (k + 1) = (uniK l).take k ++ [x] := by
  have hlen : ((uniK l).take k).length = k := by rw [List.length_take]; omega
  have hc : ∀ y, candB ((uniK l).take k) y = true ↔ (k = 0 ∨ ∃ h : k - 1 < (uniK l).length, ltS (uniK l)[k - 1] y = true) := fun y => by
    unfold candB
    rw [hlen, Bool.or_eq_true, decide_eq_true_iff]
    rcases Nat.eq_zero_or_pos k with h0 | h0
    · simp [h0]
    · have h1 : k - 1 < (uniK l).length := by omega
      have e : ((uniK l).take k).getD (k - 1) ⟨#[]⟩ = (uniK l)[k - 1] := by
        rw [List.getD_eq_getElem?_getD, List.getElem?_take, if_pos (by omega), List.getElem?_eq_getElem h1]
        rfl
      rw [e]
      constructor
      · rintro (h | h)
        · exact Or.inl h
        · exact Or.inr ⟨h1, h⟩
      · rintro (h | ⟨_, h⟩)
        · exact Or.inl h
        · exact Or.inr h
  obtain ⟨h1, h2⟩ := bestB_is ((uniK l).take k) l
  refine ⟨fun h => uniK_end hk fun y hy hh => ?_, fun x hx => ?_⟩
  · have := h1 h y hy
    rw [(hc y).2 hh] at this; cases this
  · obtain ⟨m1, m2, m3⟩ := h2 x hx
    obtain ⟨h3, h4⟩ := uniK_next (k := k) m1 ((hc x).1 m2) (fun y hy hh => m3 y hy ((hc y).2 hh))
    refine ⟨h3, ?_⟩
    rw [List.take_succ_eq_append_getElem h3, h4]
end Go.Proofs.Ytdbndkccgpmkbaa.Pure
