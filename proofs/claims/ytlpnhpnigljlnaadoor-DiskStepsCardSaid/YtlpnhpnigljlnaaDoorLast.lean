/-
  A region that draws its order, all of whose operations but the last are quiet, and whose last one waits for all others: walked once.
-/
import Derived.Test.YtlpnhpnigljlnaaDoorQt
namespace Go.Proofs.YtlpnhpnigljlnaaDoor
open Go.Sort Go.RowKit

/-- Operation o, at place i, waits for, and asks, what stands ahead of it alone. -/
def backB (i : Nat) (o : Oper) : Bool := (o.after.all fun e => !Region.binds .any e || decide (e.on < i)) && (match o.guard with | some (g, _) => decide (g < i) | none => true)
def backsB : Nat → List Oper → Bool
  | _, [] => true
  | i, o :: r => backB i o && backsB (i + 1) r
theorem backsB_at : ∀ (l : List Oper) (k i : Nat) (o : Oper), backsB k l = true → l[i]? = some o → backB (k + i) o = true
  | [], _, _, _, _, h => by simp at h
  | x :: r, k, 0, o, hb, h => by
    simp [backsB] at hb h
    subst h
    exact hb.1
  | x :: r, k, i + 1, o, hb, h => by
    simp [backsB] at hb h
    have := backsB_at r (k + 1) i o hb.2 h
    rwa [show k + 1 + i = k + (i + 1) by omega] at this
/-- The last one waits for all. -/
def lastB (l : List Oper) (s : Oper) : Bool :=
  Region.lexB .any l.toArray && backsB 0 l && ((List.range l.length).all fun i => s.after.any fun e => Region.binds .any e && e.on == i) &&
  decide (Region.ready .any (l ++ [s]).toArray ((Array.replicate l.length true).push false) = [l.length]) && decide (Region.ready .any (l ++ [s]).toArray ((Array.replicate l.length true).push true) = [])

section
variable {P : Program} {C : World → Prop} {l : List Oper} {s : Oper}

theorem getD_push_in {A : Array Bool} {i : Nat} (h : i < A.size) (d u : Bool) : (A.push u).getD i d = A.getD i d := by
  simp [Array.getElem?_push, h, Nat.ne_of_lt h]
theorem getD_push_false (A : Array Bool) (i : Nat) : (A.push false).getD i false = A.getD i false := by
  rcases Nat.lt_trichotomy i A.size with h | h | h
  · exact getD_push_in h _ _
  · subst h; simp
  · have h1 : (A.push false)[i]? = none := Array.getElem?_eq_none (by simp; omega)
    have h2 : A[i]? = none := Array.getElem?_eq_none (by omega)
    simp [h1, h2]
theorem set_push {A : Array Bool} {i : Nat} (h : i < A.size) (u : Bool) : (A.push u).setIfInBounds i true = (A.setIfInBounds i true).push u := by
  apply Array.ext_getElem?
  intro j
  rw [Array.getElem?_setIfInBounds]
  simp only [Array.getElem?_push, Array.size_push, Array.size_setIfInBounds, Array.getElem?_setIfInBounds]
  by_cases hij : i = j
  · subst hij
    simp [h, Nat.ne_of_lt h, show i < A.size + 1 by omega]
  · simp [hij]
theorem front_at {i : Nat} (h : i < l.length) : (l ++ [s]).toArray[i]? = l.toArray[i]? := by simp [List.getElem?_append_left h]
theorem ready_front {A : Array Bool} (hA : A.size = l.length) {i : Nat} (hi : i < l.length) : i ∈ Region.ready .any (l ++ [s]).toArray (A.push false) ↔ i ∈ Region.ready .any l.toArray A := by
  rw [mem_ready, mem_ready, front_at hi, getD_push_in (by omega)]
  simp only [getD_push_false]

theorem last_any {Q : Act → Prop} {Q' : Exit → Act → World → Prop} (hB : lastB l s = true)
    (hQ : ∀ a w, C w → Q a → wpOp P (l ++ [s]).toArray Q' l.length (fun a w => Q' .normal a w) a w) :
    ∀ (f : Nat) (A : Array Bool) (a : Act) (w : World), A.size = l.length → A.toList.count false = f → C w → wpAnyQ P .any l.toArray C Q f A a → wpAny P .any (l ++ [s]).toArray Q' (f + 1) (A.push false) a w := by
  simp only [lastB, Bool.and_eq_true, decide_eq_true_eq] at hB
  obtain ⟨⟨⟨⟨_, hback⟩, hall⟩, hr1⟩, hr2⟩ := hB
  have full : ∀ A : Array Bool, A.size = l.length → A.toList.count false = 0 → A = Array.replicate l.length true := by
    intro A hA hc
    apply Array.ext_getElem?
    intro j
    have hm : false ∉ A.toList := List.count_eq_zero.1 hc
    rcases Nat.lt_or_ge j A.size with h | h
    · rcases hu : A[j] with _ | _
      · exact absurd (by rw [← hu]; simp) hm
      · rw [Array.getElem?_eq_getElem h, hu, Array.getElem?_replicate, if_pos (by omega)]
    · rw [Array.getElem?_eq_none h, Array.getElem?_eq_none (by simp; omega)]
  intro f
  induction f with
  | zero =>
    intro A a w hA hc hw h
    obtain rfl := full A hA hc
    refine ⟨fun h0 => (by rw [hr1] at h0; cases h0), fun i hi => ?_⟩
    rw [hr1] at hi
    obtain rfl : i = l.length := by simpa using hi
    refine wpOp_mono (fun a' w' h' => ?_) (hQ a w hw h.2)
    have e : ((Array.replicate l.length true).push false).setIfInBounds l.length true = (Array.replicate l.length true).push true := by
      apply Array.ext_getElem?
      intro j
      rw [Array.getElem?_setIfInBounds]
      simp only [Array.getElem?_push, Array.size_push, Array.size_replicate]
      by_cases hij : l.length = j
      · subst hij; simp
      · simp [hij, Ne.symm hij]
    rw [e]
    exact ⟨hr2, h'⟩
  | succ f ih =>
    intro A a w hA hc hw h
    obtain ⟨j0, hj0, hf0, hmin⟩ : ∃ j, j < l.length ∧ A.getD j true = false ∧ ∀ i, i < j → A.getD i false = true := by
      have hm : false ∈ A.toList := List.count_pos_iff.1 (by omega)
      obtain ⟨j, hj, e⟩ := List.getElem_of_mem hm
      have hex : ∃ j, j < l.length ∧ A.getD j true = false := ⟨j, by simpa [hA] using hj, by simp at hj; simp [hj]; simpa using e⟩
      clear hj e
      have key : ∀ k, (∃ j, j < k ∧ j < l.length ∧ A.getD j true = false) → ∃ j, j < l.length ∧ A.getD j true = false ∧ ∀ i, i < j → A.getD i false = true := by
        intro k
        induction k with
        | zero => rintro ⟨j, h, _⟩; omega
        | succ k ihk =>
          rintro ⟨j, h1, h2, h3⟩
          by_cases hk : ∃ j, j < k ∧ j < l.length ∧ A.getD j true = false
          · exact ihk hk
          · refine ⟨j, h2, h3, fun i hi => ?_⟩
            have hiA : i < A.size := by omega
            rcases hu : A.getD i true with _ | _
            · exact absurd ⟨i, by omega, by omega, hu⟩ hk
            · simp [hiA] at hu ⊢; exact hu
      obtain ⟨j, h1, h2⟩ := hex
      exact key (j + 1) ⟨j, by omega, h1, h2⟩
    have hj0r : j0 ∈ Region.ready .any l.toArray A := by
      rw [mem_ready]
      refine ⟨hf0, l[j0], by simp [hj0], fun e he hb => hmin _ ?_⟩
      have := backsB_at l 0 j0 l[j0] hback (by simp [hj0])
      simp only [backB, Bool.and_eq_true, Array.all_eq_true_iff_forall_mem] at this
      have h2 := this.1 e he
      simp [hb] at h2
      omega
    refine ⟨fun h0 => ?_, fun i hi => ?_⟩
    · have := (ready_front (s := s) hA hj0).2 hj0r
      rw [h0] at this
      cases this
    · have hil : i < l.length := by
        rcases Nat.lt_or_ge i l.length with h' | h'
        · exact h'
        · obtain ⟨_, o, ho, hao⟩ := mem_ready.1 hi
          have hlt : i < (l ++ [s]).toArray.size := (Array.getElem?_eq_some_iff.1 ho).1
          obtain rfl : i = l.length := by simp at hlt; omega
          have hos : s = o := by simpa using ho
          subst hos
          have h1 := List.all_eq_true.1 hall j0 (List.mem_range.2 hj0)
          obtain ⟨e, he, hb⟩ := Array.any_eq_true'.1 h1
          simp only [Bool.and_eq_true, beq_iff_eq] at hb
          have h2 := hao e he hb.1
          rw [hb.2, getD_push_false, getD_both hf0] at h2
          cases h2
      have hir := (ready_front hA hil).1 hi
      have hq := h.2 i hir
      have hiA : i < A.size := by omega
      rw [set_push hiA]
      have hun := (mem_ready.1 hir).1
      have hcf : (A.setIfInBounds i true).toList.count false = f := by
        have h3 : A.toList[i]'(by simpa using hiA) = false := by simp [hiA] at hun; simpa using hun
        rw [Array.toList_setIfInBounds, List.count_set (by simpa using hiA), h3, hc]
        rfl
      unfold qOp at hq
      unfold wpOp
      rw [front_at hil]
      have hio : l.toArray[i]? = some l[i] := by simp [hil]
      rw [hio] at hq ⊢
      simp only at hq ⊢
      have hwt : Region.wanted l[i] (yielded (l ++ [s]).toArray a.tmps) = Region.wanted l[i] (yielded l.toArray a.tmps) := by
        have := backsB_at l 0 i l[i] hback (by simp [hil])
        simp only [backB, Bool.and_eq_true] at this
        have h2 := this.2
        unfold Region.wanted
        rcases hg : l[i].guard with _ | ⟨g, b⟩
        · rfl
        · rw [hg] at h2
          simp at h2
          simp only [yielded]
          rw [front_at (by omega)]
      rw [hwt]
      have step : ∀ a' w', C w' → wpAnyQ P .any l.toArray C Q f (A.setIfInBounds i true) a' → wpAny P .any (l ++ [s]).toArray Q' (f + 1) ((A.setIfInBounds i true).push false) a' w' :=
        fun a' w' hw' h' => ih _ a' w' (by simp [hA]) hcf hw' h'
      split
      · rename_i hw1
        rw [if_pos hw1] at hq
        exact .inl (Oper.wp_of_quiet hw step hq)
      · rename_i hw1
        rw [if_neg hw1] at hq
        exact step _ _ hw hq

/-- The region, entered. -/
theorem t_enter {id : Nat} {Q : Exit → Act → World → Prop} {a : Act} {w : World} (l : List Oper) (s : Oper) (hm : P.follows .mixedOrders = true) (hB : lastB l s = true)
    (h : Shut (wpQuiet P l.toArray (fun w' => ∃ p : Regrown, w' = grow (redrawn w p.d) p.os) (fun a' => ∀ w', Below w.heap.size w w' → wpList P (l ++ [s]).toArray Q [s] a' w') l a)) : (Code.region id (l ++ [s]).toArray true).wp P Q a w := by
  have hB' := hB
  simp only [lastB, Bool.and_eq_true] at hB'
  have hlex := hB'.1.1.1.1
  simp only [Region.lexB, Bool.and_eq_true] at hlex
  have hq := wpAnyQ_lex (C := fun w' => ∃ p : Regrown, w' = grow (redrawn w p.d) p.os) (md := .any) hlex.1 l 0 (Array.replicate l.length false) a (by simp) (by simpa using hlex.2) h.out
  refine wp_region_any hm ?_
  have hrep : Array.replicate (l ++ [s]).toArray.size false = (Array.replicate l.length false).push false := by simp [Array.replicate_succ]
  rw [hrep, show (l ++ [s]).toArray.size = l.length + 1 by simp]
  refine last_any hB (fun a' w' hw' h' => ?_) l.length _ a _ (by simp) (by simp) ⟨⟨w.drawn + 1, #[]⟩, by rw [grow_empty]; rfl⟩ hq
  obtain ⟨p, rfl⟩ := hw'
  have := h' _ (below_regrown w p.d p.os)
  unfold wpOp
  simp only [show (l ++ [s]).toArray[l.length]? = some s by simp]
  exact this

/-- The same, of a region as it is written: n operations, and one. -/
def tailB (L : List Oper) (n : Nat) : Bool := match L.drop n with | [s] => lastB (L.take n) s | _ => false
theorem tail_one (l : List Oper) : ∀ r : List Oper, (match r with | [s] => lastB l s | _ => false) = true → ∃ s, r = [s] ∧ lastB l s = true
  | [], h => by cases h
  | [s], h => ⟨s, rfl, h⟩
  | _ :: _ :: _, h => by cases h
theorem t_region {id : Nat} {Q : Exit → Act → World → Prop} {a : Act} {w : World} {L : List Oper} (n : Nat) (hm : P.follows .mixedOrders = true) (hB : tailB L n = true)
    (h : Shut (wpQuiet P (L.take n).toArray (fun w' => ∃ p : Regrown, w' = grow (redrawn w p.d) p.os) (fun a' => ∀ w', Below w.heap.size w w' → wpList P L.toArray Q (L.drop n) a' w') (L.take n) a)) : (Code.region id L.toArray true).wp P Q a w := by
  obtain ⟨s, hs, hl⟩ := tail_one (L.take n) (L.drop n) hB
  have hL : L.take n ++ [s] = L := by rw [← hs]; exact List.take_append_drop n L
  have := t_enter (P := P) (id := id) (Q := Q) (a := a) (w := w) (L.take n) s hm hl (by rw [hL, ← hs]; exact h)
  rwa [hL] at this
end
end Go.Proofs.YtlpnhpnigljlnaaDoor
