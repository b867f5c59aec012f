/-
  A region that draws its order, whose first operations are quiet, and whose others come behind them all, in one order alone: walked once.
-/
import Derived.Test.YtlpnhpnigljlnaaDoorLast
namespace Go.Proofs.YtlpnhpnigljlnaaDoor
open Go.Sort Go.RowKit

/-- k of the tail's m operations are listed. -/
def marksT (n m k : Nat) : Array Bool := (List.replicate n true ++ (List.replicate k true ++ List.replicate (m - k) false)).toArray
/-- Number k is i, or waits for it, by whatever others. -/
def waitsB (l : List Oper) (i : Nat) : Nat → Nat → Bool
  | 0, k => k == i
  | f + 1, k => k == i || (match l[k]? with | some o => o.after.any fun e => Region.binds .any e && waitsB l i f e.on | none => false)
def tailsB (l tl : List Oper) : Bool :=
  Region.lexB .any l.toArray && backsB 0 l && ((List.range l.length).all fun i => tl.all fun s => s.after.any fun e => Region.binds .any e && (decide (l.length ≤ e.on) || waitsB l i l.length e.on)) &&
  ((List.range tl.length).all fun k => decide (Region.ready .any (l ++ tl).toArray (marksT l.length tl.length k) = [l.length + k])) && decide (Region.ready .any (l ++ tl).toArray (marksT l.length tl.length tl.length) = [])

section
variable {P : Program} {C : World → Prop} {l tl : List Oper}

/-- Who is listed waits for nobody who is not. -/
def Closed (l : List Oper) (A : Array Bool) : Prop := ∀ k o, l[k]? = some o → A.getD k false = true → ∀ e, e ∈ o.after → Region.binds .any e = true → A.getD e.on false = true
theorem waits_false {A : Array Bool} (hcl : Closed l A) {i : Nat} (hi : A.getD i false = false) : ∀ f k, waitsB l i f k = true → A.getD k false = false := by
  intro f
  induction f with
  | zero =>
    intro k h
    simp only [waitsB, beq_iff_eq] at h
    rw [h]; exact hi
  | succ f ih =>
    intro k h
    simp only [waitsB, Bool.or_eq_true, beq_iff_eq] at h
    rcases h with h | h
    · rw [h]; exact hi
    · rcases ho : l[k]? with _ | o
      · rw [ho] at h; cases h
      · rw [ho] at h
        obtain ⟨e, he, hb⟩ := Array.any_eq_true'.1 h
        simp only [Bool.and_eq_true] at hb
        rcases hk : A.getD k false with _ | _
        · rfl
        · have h1 := hcl k o ho hk e he hb.1
          rw [ih e.on hb.2] at h1
          cases h1

theorem app_in {A B : Array Bool} {i : Nat} (h : i < A.size) (d : Bool) : (A ++ B).getD i d = A.getD i d := by
  simp [Array.getElem?_append, h]
theorem app_false (A : Array Bool) (m i : Nat) : (A ++ Array.replicate m false).getD i false = A.getD i false := by
  rcases Nat.lt_or_ge i A.size with h | h
  · exact app_in h _
  · simp [Array.getElem?_append, show ¬ i < A.size by omega, Array.getElem?_replicate]
    split <;> rfl
theorem set_app {A B : Array Bool} {i : Nat} (h : i < A.size) : (A ++ B).setIfInBounds i true = A.setIfInBounds i true ++ B := by
  apply Array.ext_getElem?
  intro j
  rw [Array.getElem?_setIfInBounds]
  simp only [Array.getElem?_append, Array.size_append, Array.size_setIfInBounds, Array.getElem?_setIfInBounds]
  by_cases hij : i = j
  · subst hij
    simp [h]
    omega
  · simp [hij]
theorem front_app {i : Nat} (h : i < l.length) : (l ++ tl).toArray[i]? = l.toArray[i]? := by simp [List.getElem?_append_left h]
theorem ready_app {A : Array Bool} (hA : A.size = l.length) {i : Nat} (hi : i < l.length) : i ∈ Region.ready .any (l ++ tl).toArray (A ++ Array.replicate tl.length false) ↔ i ∈ Region.ready .any l.toArray A := by
  rw [mem_ready, mem_ready, front_app hi, app_in (by omega)]
  simp only [app_false]

/-- The tail, in its order. -/
theorem tail_any {Q' : Exit → Act → World → Prop} (hr : ∀ k, k < tl.length → Region.ready .any (l ++ tl).toArray (marksT l.length tl.length k) = [l.length + k]) (hr2 : Region.ready .any (l ++ tl).toArray (marksT l.length tl.length tl.length) = []) :
    ∀ (m k : Nat) (a : Act) (w : World), k + m = tl.length → wpList P (l ++ tl).toArray Q' (tl.drop k) a w → wpAny P .any (l ++ tl).toArray Q' m (marksT l.length tl.length k) a w := by
  intro m
  induction m with
  | zero =>
    intro k a w hk h
    obtain rfl : k = tl.length := by omega
    refine ⟨hr2, ?_⟩
    rw [List.drop_length] at h
    exact h
  | succ m ih =>
    intro k a w hk h
    refine ⟨fun h0 => (by rw [hr k (by omega)] at h0; cases h0), fun i hi => ?_⟩
    rw [hr k (by omega)] at hi
    obtain rfl : i = l.length + k := by simpa using hi
    have e : (marksT l.length tl.length k).setIfInBounds (l.length + k) true = marksT l.length tl.length (k + 1) := by
      unfold marksT
      rw [List.setIfInBounds_toArray]
      congr 1
      rw [List.set_append_right _ _ (by simp)]
      congr 1
      rw [List.set_append_right _ _ (by simp)]
      simp only [List.length_replicate]
      rw [show l.length + k - l.length - k = 0 by omega, show tl.length - k = (tl.length - (k + 1)) + 1 by omega, List.replicate_succ, List.set_cons_zero, List.replicate_succ', List.append_assoc]
      rfl
    rw [e]
    have hd : tl.drop k = tl[k]'(by omega) :: tl.drop (k + 1) := List.drop_eq_getElem_cons (by omega)
    rw [hd] at h
    unfold wpOp
    have hop : (l ++ tl).toArray[l.length + k]? = some (tl[k]'(by omega)) := by simp [show k < tl.length by omega]
    rw [hop]
    simp only
    simp only [wpList] at h
    split
    · rename_i hw
      rw [if_pos hw] at h
      rcases h with h | h
      · exact .inl (Oper.wp_mono (fun a1 w1 h1 => ih _ _ _ (by omega) h1) h)
      · exact .inr h
    · rename_i hw
      rw [if_neg hw] at h
      exact ih _ _ _ (by omega) h

theorem tails_any {Q : Act → Prop} {Q' : Exit → Act → World → Prop} (hB : tailsB l tl = true)
    (hQ : ∀ a w, C w → Q a → wpList P (l ++ tl).toArray Q' tl a w) :
    ∀ (f : Nat) (A : Array Bool) (a : Act) (w : World), A.size = l.length → A.toList.count false = f → C w → Closed l A → wpAnyQ P .any l.toArray C Q f A a → wpAny P .any (l ++ tl).toArray Q' (f + tl.length) (A ++ Array.replicate tl.length false) a w := by
  simp only [tailsB, Bool.and_eq_true, decide_eq_true_eq] at hB
  obtain ⟨⟨⟨⟨_, hback⟩, hall⟩, hr1⟩, hr2⟩ := hB
  have hr : ∀ k, k < tl.length → Region.ready .any (l ++ tl).toArray (marksT l.length tl.length k) = [l.length + k] := fun k hk => by simpa using List.all_eq_true.1 hr1 k (List.mem_range.2 hk)
  have full : ∀ A : Array Bool, A.size = l.length → A.toList.count false = 0 → A = Array.replicate l.length true := by
    intro A hA hc
    apply Array.ext_getElem?
    intro j
    have hm : false ∉ A.toList := List.count_eq_zero.1 hc
    rcases Nat.lt_or_ge j A.size with h | h
    · rcases hu : A[j] with _ | _
      · exact absurd (by rw [← hu]; simp) hm
      · rw [Array.getElem?_eq_getElem h, hu, Array.getElem?_replicate, if_pos (by omega)]
    · rw [Array.getElem?_eq_none h, Array.getElem?_eq_none (by simp; omega)]
  intro f
  induction f with
  | zero =>
    intro A a w hA hc hw _ h
    obtain rfl := full A hA hc
    have e : Array.replicate l.length true ++ Array.replicate tl.length false = marksT l.length tl.length 0 := by
      unfold marksT
      apply Array.ext'
      simp
    rw [e, Nat.zero_add]
    exact tail_any hr hr2 tl.length 0 a w (by omega) (by simpa using hQ a w hw h.2)
  | succ f ih =>
    intro A a w hA hc hw hcl h
    obtain ⟨j0, hj0, hf0, hmin⟩ : ∃ j, j < l.length ∧ A.getD j true = false ∧ ∀ i, i < j → A.getD i false = true := by
      have hm : false ∈ A.toList := List.count_pos_iff.1 (by omega)
      obtain ⟨j, hj, e⟩ := List.getElem_of_mem hm
      have hex : ∃ j, j < l.length ∧ A.getD j true = false := ⟨j, by simpa [hA] using hj, by simp at hj; simp [hj]; simpa using e⟩
      clear hj e
      have key : ∀ k, (∃ j, j < k ∧ j < l.length ∧ A.getD j true = false) → ∃ j, j < l.length ∧ A.getD j true = false ∧ ∀ i, i < j → A.getD i false = true := by
        intro k
        induction k with
        | zero => rintro ⟨j, h, _⟩; omega
        | succ k ihk =>
          rintro ⟨j, h1, h2, h3⟩
          by_cases hk : ∃ j, j < k ∧ j < l.length ∧ A.getD j true = false
          · exact ihk hk
          · refine ⟨j, h2, h3, fun i hi => ?_⟩
            have hiA : i < A.size := by omega
            rcases hu : A.getD i true with _ | _
            · exact absurd ⟨i, by omega, by omega, hu⟩ hk
            · simp [hiA] at hu ⊢; exact hu
      obtain ⟨j, h1, h2⟩ := hex
      exact key (j + 1) ⟨j, by omega, h1, h2⟩
    have hj0r : j0 ∈ Region.ready .any l.toArray A := by
      rw [mem_ready]
      refine ⟨hf0, l[j0], by simp [hj0], fun e he hb => hmin _ ?_⟩
      have := backsB_at l 0 j0 l[j0] hback (by simp [hj0])
      simp only [backB, Bool.and_eq_true, Array.all_eq_true_iff_forall_mem] at this
      have h2 := this.1 e he
      simp [hb] at h2
      omega
    rw [show f + 1 + tl.length = (f + tl.length) + 1 by omega]
    refine ⟨fun h0 => ?_, fun i hi => ?_⟩
    · have := (ready_app (tl := tl) hA hj0).2 hj0r
      rw [h0] at this
      cases this
    · have hil : i < l.length := by
        rcases Nat.lt_or_ge i l.length with h' | h'
        · exact h'
        · obtain ⟨_, o, ho, hao⟩ := mem_ready.1 hi
          have hlt : i < (l ++ tl).toArray.size := (Array.getElem?_eq_some_iff.1 ho).1
          have hlt2 : i < l.length + tl.length := by simpa using hlt
          have hos : (l ++ tl)[i]? = some o := by simpa using ho
          rw [List.getElem?_append_right h'] at hos
          have hmem : o ∈ tl := List.mem_of_getElem? hos
          have h1 := List.all_eq_true.1 (List.all_eq_true.1 hall j0 (List.mem_range.2 hj0)) o hmem
          obtain ⟨e, he, hb⟩ := Array.any_eq_true'.1 h1
          simp only [Bool.and_eq_true, Bool.or_eq_true, decide_eq_true_iff] at hb
          have h2 := hao e he hb.1
          rw [app_false] at h2
          rcases hb.2 with h4 | h4
          · have h5 : A[e.on]? = none := Array.getElem?_eq_none (by omega)
            simp [h5] at h2
          · rw [waits_false hcl (getD_both hf0) _ _ h4] at h2
            cases h2
      have hir := (ready_app hA hil).1 hi
      have hq := h.2 i hir
      have hiA : i < A.size := by omega
      rw [set_app hiA]
      have hun := (mem_ready.1 hir).1
      have hcf : (A.setIfInBounds i true).toList.count false = f := by
        have h3 : A.toList[i]'(by simpa using hiA) = false := by simp [hiA] at hun; simpa using hun
        rw [Array.toList_setIfInBounds, List.count_set (by simpa using hiA), h3, hc]
        rfl
      unfold qOp at hq
      unfold wpOp
      rw [front_app hil]
      have hio : l.toArray[i]? = some l[i] := by simp [hil]
      rw [hio] at hq ⊢
      simp only at hq ⊢
      have hwt : Region.wanted l[i] (yielded (l ++ tl).toArray a.tmps) = Region.wanted l[i] (yielded l.toArray a.tmps) := by
        have := backsB_at l 0 i l[i] hback (by simp [hil])
        simp only [backB, Bool.and_eq_true] at this
        have h2 := this.2
        unfold Region.wanted
        rcases hg : l[i].guard with _ | ⟨g, b⟩
        · rfl
        · rw [hg] at h2
          simp at h2
          simp only [yielded]
          rw [front_app (by omega)]
      rw [hwt]
      have step : ∀ a' w', C w' → wpAnyQ P .any l.toArray C Q f (A.setIfInBounds i true) a' → wpAny P .any (l ++ tl).toArray Q' (f + tl.length) (A.setIfInBounds i true ++ Array.replicate tl.length false) a' w' :=
        fun a' w' hw' h' => ih _ a' w' (by simp [hA]) hcf hw' (fun k o ho hk e he hb => by
          by_cases hki : i = k
          · subst hki
            have h3 := (mem_ready.1 hir).2
            obtain ⟨o', ho', hall'⟩ := h3
            have : o' = o := by rw [List.getElem?_toArray, ho] at ho'; exact (Option.some.inj ho').symm
            subst this
            have h4 := hall' e he hb
            by_cases h5 : i = e.on
            · rw [← h5]; simp [hiA]
            · simpa [Array.getElem?_setIfInBounds, h5] using h4
          · have h3 := hcl k o ho (by simpa [Array.getElem?_setIfInBounds, hki] using hk) e he hb
            by_cases h5 : i = e.on
            · rw [← h5]; simp [hiA]
            · simpa [Array.getElem?_setIfInBounds, h5] using h3) h'
      split
      · rename_i hw1
        rw [if_pos hw1] at hq
        exact .inl (Oper.wp_of_quiet hw step hq)
      · rename_i hw1
        rw [if_neg hw1] at hq
        exact step _ _ hw hq

/-- The region, entered: n operations that are quiet, and the others. -/
theorem ts_region {id : Nat} {Q : Exit → Act → World → Prop} {a : Act} {w : World} {L : List Oper} (n : Nat) (hm : P.follows .mixedOrders = true) (hB : (decide (n ≤ L.length) && tailsB (L.take n) (L.drop n)) = true)
    (h : Shut (wpQuiet P (L.take n).toArray (fun w' => ∃ p : Regrown, w' = grow (redrawn w p.d) p.os) (fun a' => ∀ w', Below w.heap.size w w' → wpList P L.toArray Q (L.drop n) a' w') (L.take n) a)) : (Code.region id L.toArray true).wp P Q a w := by
  simp only [Bool.and_eq_true, decide_eq_true_eq] at hB
  obtain ⟨hn, hB⟩ := hB
  have hB' := hB
  simp only [tailsB, Bool.and_eq_true] at hB'
  have hlex := hB'.1.1.1.1
  simp only [Region.lexB, Bool.and_eq_true] at hlex
  have hL : L.take n ++ L.drop n = L := List.take_append_drop n L
  have hq := wpAnyQ_lex (C := fun w' => ∃ p : Regrown, w' = grow (redrawn w p.d) p.os) (md := .any) hlex.1 (L.take n) 0 (Array.replicate (L.take n).length false) a (by simp) (by simpa using hlex.2) h.out
  refine wp_region_any hm ?_
  have hrep : Array.replicate L.toArray.size false = Array.replicate (L.take n).length false ++ Array.replicate (L.drop n).length false := by
    apply Array.ext'
    simp only [Array.toList_replicate, Array.toList_append, List.replicate_append_replicate, List.size_toArray]
    congr 1
    simp; omega
  have hsz : L.toArray.size = (L.take n).length + (L.drop n).length := by simp; omega
  rw [hrep, hsz]
  have := tails_any (P := P) (Q' := Q) hB (fun a' w' hw' h' => by
    obtain ⟨p, rfl⟩ := hw'
    have := h' _ (below_regrown w p.d p.os)
    rw [hL]
    exact this) (L.take n).length (Array.replicate (L.take n).length false) a (redrawn w (w.drawn + 1)) (by simp) (by simp) ⟨⟨w.drawn + 1, #[]⟩, by rw [grow_empty]⟩ (fun k o _ hk => by simp [Array.getElem?_replicate] at hk; split at hk <;> simp at hk) hq
  rw [hL] at this
  exact this
end
end Go.Proofs.YtlpnhpnigljlnaaDoor
