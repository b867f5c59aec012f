/-
  A region that draws its order, whose first operations come in one order alone but for what only reads, and whose others come behind them all: walked once.
-/
import Derived.Test.YtlpnhpnigljlnaaDoorSeq
import Derived.Test.YtlpnhpnigljlnaaDoorTail
namespace Go.Proofs.YtlpnhpnigljlnaaDoor
open Go.Sort Go.RowKit

/-- As Q, but N behind all. -/
def thenQ (Q : Exit → Act → World → Prop) (N : Act → World → Prop) : Exit → Act → World → Prop
  | .normal, a, w => N a w
  | e, a, w => Q e a w
theorem thenQ_wp {P : Program} {o : Oper} {a : Act} {w : World} {K : Act → World → Prop} {Q : Exit → Act → World → Prop} {N : Act → World → Prop} (h : o.wp P a w K (thenQ Q N)) : o.wp P a w K Q := by
  unfold Oper.wp at h ⊢
  generalize (execOp a.eval o).run P w = r at *
  unfold Oper.upon at h ⊢
  split at h <;> first | exact h | exact h.elim
def tailZ (l tl : List Oper) : Bool :=
  backsB 0 l && ((List.range l.length).all fun i => tl.all fun s => s.after.any fun e => Region.binds .any e && (decide (l.length ≤ e.on) || waitsB l i l.length e.on)) &&
  ((List.range tl.length).all fun k => decide (Region.ready .any (l ++ tl).toArray (marksT l.length tl.length k) = [l.length + k])) && decide (Region.ready .any (l ++ tl).toArray (marksT l.length tl.length tl.length) = [])
section
variable {P : Program} {S : World → Prop} {l tl : List Oper}
theorem tailz_any {Q' : Exit → Act → World → Prop} (hB : tailZ l tl = true) :
    ∀ (f : Nat) (A : Array Bool) (a : Act) (w : World), A.size = l.length → A.toList.count false = f → Closed l A → wpAnyH P .any l.toArray (thenQ Q' (fun a w => wpList P (l ++ tl).toArray Q' tl a w)) S f A a w → wpAny P .any (l ++ tl).toArray Q' (f + tl.length) (A ++ Array.replicate tl.length false) a w := by
  simp only [tailZ, Bool.and_eq_true, decide_eq_true_eq] at hB
  obtain ⟨⟨⟨hback, hall⟩, hr1⟩, hr2⟩ := hB
  have hr : ∀ k, k < tl.length → Region.ready .any (l ++ tl).toArray (marksT l.length tl.length k) = [l.length + k] := fun k hk => by simpa using List.all_eq_true.1 hr1 k (List.mem_range.2 hk)
  have full : ∀ A : Array Bool, A.size = l.length → A.toList.count false = 0 → A = Array.replicate l.length true := by
    intro A hA hc
    apply Array.ext_getElem?
    intro j
    have hm : false ∉ A.toList := List.count_eq_zero.1 hc
    rcases Nat.lt_or_ge j A.size with h | h
    · rcases hu : A[j] with _ | _
      · exact absurd (by rw [← hu]; simp) hm
      · rw [Array.getElem?_eq_getElem h, hu, Array.getElem?_replicate, if_pos (by omega)]
    · rw [Array.getElem?_eq_none h, Array.getElem?_eq_none (by simp; omega)]
  intro f
  induction f with
  | zero =>
    intro A a w hA hc _ h
    obtain rfl := full A hA hc
    have e : Array.replicate l.length true ++ Array.replicate tl.length false = marksT l.length tl.length 0 := by
      unfold marksT
      apply Array.ext'
      simp
    rw [e, Nat.zero_add]
    exact tail_any hr hr2 tl.length 0 a w (by omega) (by have h2 : wpList P (l ++ tl).toArray Q' tl a w := h.2; simpa using h2)
  | succ f ih =>
    intro A a w hA hc hcl h
    obtain ⟨j0, hj0, hf0, hmin⟩ : ∃ j, j < l.length ∧ A.getD j true = false ∧ ∀ i, i < j → A.getD i false = true := by
      have hm : false ∈ A.toList := List.count_pos_iff.1 (by omega)
      obtain ⟨j, hj, e⟩ := List.getElem_of_mem hm
      have hex : ∃ j, j < l.length ∧ A.getD j true = false := ⟨j, by simpa [hA] using hj, by simp at hj; simp [hj]; simpa using e⟩
      clear hj e
      have key : ∀ k, (∃ j, j < k ∧ j < l.length ∧ A.getD j true = false) → ∃ j, j < l.length ∧ A.getD j true = false ∧ ∀ i, i < j → A.getD i false = true := by
        intro k
        induction k with
        | zero => rintro ⟨j, h, _⟩; omega
        | succ k ihk =>
          rintro ⟨j, h1, h2, h3⟩
          by_cases hk : ∃ j, j < k ∧ j < l.length ∧ A.getD j true = false
          · exact ihk hk
          · refine ⟨j, h2, h3, fun i hi => ?_⟩
            have hiA : i < A.size := by omega
            rcases hu : A.getD i true with _ | _
            · exact absurd ⟨i, by omega, by omega, hu⟩ hk
            · simp [hiA] at hu ⊢; exact hu
      obtain ⟨j, h1, h2⟩ := hex
      exact key (j + 1) ⟨j, by omega, h1, h2⟩
    have hj0r : j0 ∈ Region.ready .any l.toArray A := by
      rw [mem_ready]
      refine ⟨hf0, l[j0], by simp [hj0], fun e he hb => hmin _ ?_⟩
      have := backsB_at l 0 j0 l[j0] hback (by simp [hj0])
      simp only [backB, Bool.and_eq_true, Array.all_eq_true_iff_forall_mem] at this
      have h2 := this.1 e he
      simp [hb] at h2
      omega
    rw [show f + 1 + tl.length = (f + tl.length) + 1 by omega]
    refine ⟨fun h0 => ?_, fun i hi => ?_⟩
    · have := (ready_app (tl := tl) hA hj0).2 hj0r
      rw [h0] at this
      cases this
    · have hil : i < l.length := by
        rcases Nat.lt_or_ge i l.length with h' | h'
        · exact h'
        · obtain ⟨_, o, ho, hao⟩ := mem_ready.1 hi
          have hlt : i < (l ++ tl).toArray.size := (Array.getElem?_eq_some_iff.1 ho).1
          have hlt2 : i < l.length + tl.length := by simpa using hlt
          have hos : (l ++ tl)[i]? = some o := by simpa using ho
          rw [List.getElem?_append_right h'] at hos
          have hmem : o ∈ tl := List.mem_of_getElem? hos
          have h1 := List.all_eq_true.1 (List.all_eq_true.1 hall j0 (List.mem_range.2 hj0)) o hmem
          obtain ⟨e, he, hb⟩ := Array.any_eq_true'.1 h1
          simp only [Bool.and_eq_true, Bool.or_eq_true, decide_eq_true_iff] at hb
          have h2 := hao e he hb.1
          rw [app_false] at h2
          rcases hb.2 with h4 | h4
          · have h5 : A[e.on]? = none := Array.getElem?_eq_none (by omega)
            simp [h5] at h2
          · rw [waits_false hcl (getD_both hf0) _ _ h4] at h2
            cases h2
      have hir := (ready_app hA hil).1 hi
      have hq := h.2 i hir
      have hiA : i < A.size := by omega
      rw [set_app hiA]
      have hun := (mem_ready.1 hir).1
      have hcf : (A.setIfInBounds i true).toList.count false = f := by
        have h3 : A.toList[i]'(by simpa using hiA) = false := by simp [hiA] at hun; simpa using hun
        rw [Array.toList_setIfInBounds, List.count_set (by simpa using hiA), h3, hc]
        rfl
      unfold wpOp at hq
      unfold wpOp
      rw [front_app hil]
      have hio : l.toArray[i]? = some l[i] := by simp [hil]
      rw [hio] at hq ⊢
      simp only at hq ⊢
      have hwt : Region.wanted l[i] (yielded (l ++ tl).toArray a.tmps) = Region.wanted l[i] (yielded l.toArray a.tmps) := by
        have := backsB_at l 0 i l[i] hback (by simp [hil])
        simp only [backB, Bool.and_eq_true] at this
        have h2 := this.2
        unfold Region.wanted
        rcases hg : l[i].guard with _ | ⟨g, b⟩
        · rfl
        · rw [hg] at h2
          simp at h2
          simp only [yielded]
          rw [front_app (by omega)]
      rw [hwt]
      have step : ∀ a' w', wpAnyH P .any l.toArray (thenQ Q' (fun a w => wpList P (l ++ tl).toArray Q' tl a w)) S f (A.setIfInBounds i true) a' w' → wpAny P .any (l ++ tl).toArray Q' (f + tl.length) (A.setIfInBounds i true ++ Array.replicate tl.length false) a' w' :=
        fun a' w' h' => ih _ a' w' (by simp [hA]) hcf (fun k o ho hk e he hb => by
          by_cases hki : i = k
          · subst hki
            have h3 := (mem_ready.1 hir).2
            obtain ⟨o', ho', hall'⟩ := h3
            have : o' = o := by rw [List.getElem?_toArray, ho] at ho'; exact (Option.some.inj ho').symm
            subst this
            have h4 := hall' e he hb
            by_cases h5 : i = e.on
            · rw [← h5]; simp [hiA]
            · simpa [Array.getElem?_setIfInBounds, h5] using h4
          · have h3 := hcl k o ho (by simpa [Array.getElem?_setIfInBounds, hki] using hk) e he hb
            by_cases h5 : i = e.on
            · rw [← h5]; simp [hiA]
            · simpa [Array.getElem?_setIfInBounds, h5] using h3) h'
      split
      · rename_i hw1
        rw [if_pos hw1] at hq
        rcases hq with hq | hq
        · exact .inl (Oper.wp_mono (fun a' w' h' => step a' w' h'.2) (thenQ_wp hq))
        · exact .inr hq
      · rename_i hw1
        rw [if_neg hw1] at hq
        exact step _ _ hq.2

/-- The region, entered: n operations in an order, and the others. -/
theorem zs_enter {id : Nat} {Q : Exit → Act → World → Prop} {a : Act} {w : World} {L : List Oper} (n : Nat) (p : List (Nat × Bool)) (S : World → Prop) (hm : P.follows .mixedOrders = true) (hsel : Region.noSelect (L.take n).toArray = true)
    (hB : (decide (n ≤ L.length) && (decide (p.length = n) && (seqB (L.take n).toArray p (Array.replicate n false) && tailZ (L.take n) (L.drop n)))) = true) (hQ : ∀ c a d v w, Q (.panic c) (a.put d v) w → Q (.panic c) a w) (hS : S w.drew)
    (h : Shut (wpSeq P (L.take n).toArray (thenQ Q (fun a w => wpList P L.toArray Q (L.drop n) a w)) S (pickL (L.take n) p) a w.drew)) : (Code.region id L.toArray true).wp P Q a w := by
  simp only [Bool.and_eq_true, decide_eq_true_eq] at hB
  obtain ⟨hn, hp, hseq, hT⟩ := hB
  have hL : L.take n ++ L.drop n = L := List.take_append_drop n L
  have hln : (L.take n).length = n := by simp; omega
  have hh := seq_held (P := P) (Q := thenQ Q (fun a w => wpList P L.toArray Q (L.drop n) a w)) (S := S) (l := L.take n) rfl hsel hQ p (Array.replicate n false) a w.drew hseq hS h.out
  rw [hp] at hh
  refine wp_region_any hm ?_
  have hrep : Array.replicate L.toArray.size false = Array.replicate (L.take n).length false ++ Array.replicate (L.drop n).length false := by
    apply Array.ext'
    simp only [Array.toList_replicate, Array.toList_append, List.replicate_append_replicate, List.size_toArray]
    congr 1
    simp; omega
  have hsz : L.toArray.size = (L.take n).length + (L.drop n).length := by simp; omega
  rw [hrep, hsz]
  have hh' : wpAnyH P .any (L.take n).toArray (thenQ Q (fun a w => wpList P (L.take n ++ L.drop n).toArray Q (L.drop n) a w)) S (L.take n).length (Array.replicate (L.take n).length false) a w.drew := by
    rw [hL, hln]; exact hh
  have := tailz_any (P := P) (S := S) (Q' := Q) hT (L.take n).length (Array.replicate (L.take n).length false) a w.drew (by simp) (by simp) (fun k o _ hk => by simp [Array.getElem?_replicate] at hk; split at hk <;> simp at hk) hh'
  rw [hL] at this
  exact this
end
end Go.Proofs.YtlpnhpnigljlnaaDoor
