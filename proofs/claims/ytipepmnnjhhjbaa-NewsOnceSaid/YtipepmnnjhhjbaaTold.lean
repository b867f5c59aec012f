/-
  What is told, and queues of it, as plain lists: which may be, where a node stands, what is added, what is told next.
-/
import Derived.Test.YtipepmnnjhhjbaaMath
import Derived.Sort.LotA
namespace Go.Proofs.Ytipepmnnjhhjbaa.Pure

/-- What is told: of whom, an incarnation, a state, and how often yet. -/
structure Td where
  w : Int
  i : Int
  s : Int
  l : Int
deriving DecidableEq, Repr
/-- News: of whom, an incarnation, a state. -/
structure Nw where
  w : Int
  i : Int
  s : Int
deriving DecidableEq, Repr
def zt : Td := ⟨0, 0, 0, 0⟩
def zn : Nw := ⟨0, 0, 0⟩
instance : Inhabited Td := ⟨zt⟩
instance : Inhabited Nw := ⟨zn⟩
def td (q : List Td) (j : Nat) : Td := q.getD j zt
def nw (q : List Nw) (j : Nat) : Nw := q.getD j zn
def Td.n (x : Td) : Nw := ⟨x.w, x.i, x.s⟩
def Td.k (x : Td) : Kn := ⟨x.i, x.s⟩
def Nw.k (x : Nw) : Kn := ⟨x.i, x.s⟩
def Nw.td (x : Nw) (l : Int) : Td := ⟨x.w, x.i, x.s, l⟩
def oneB (x : Nw) : Bool := decide (0 ≤ x.w) && decide (x.w < 64) && mayK x.k
def mayT (x : Td) : Bool := oneB x.n && decide (1 ≤ x.l) && decide (x.l ≤ 64)
/-- Who rises. -/
def Rise (q : List Td) : Prop := q.Pairwise fun x y => x.w < y.w
instance (q : List Td) : Decidable (Rise q) := inferInstanceAs (Decidable (q.Pairwise _))
def mayQ (q : List Td) : Bool := q.all mayT && decide (Rise q)

theorem td_lt (q : List Td) {j : Nat} (h : j < q.length) : td q j = q[j] := by simp [td, h]
theorem nw_lt (q : List Nw) {j : Nat} (h : j < q.length) : nw q j = q[j] := by simp [nw, h]
theorem td_mem (q : List Td) {j : Nat} (h : j < q.length) : td q j ∈ q := by rw [td_lt q h]; exact List.getElem_mem h
theorem nw_mem (q : List Nw) {j : Nat} (h : j < q.length) : nw q j ∈ q := by rw [nw_lt q h]; exact List.getElem_mem h
theorem td_take (q : List Td) (k j : Nat) (h : j < k) : td (q.take k) j = td q j := by simp [td, List.getD, h]
theorem nw_take (q : List Nw) (k j : Nat) (h : j < k) : nw (q.take k) j = nw q j := by simp [nw, List.getD, h]
theorem oneB_iff (x : Nw) : oneB x = true ↔ 0 ≤ x.w ∧ x.w < 64 ∧ 0 ≤ x.s ∧ x.s ≤ 3 := by
  unfold oneB
  simp only [Bool.and_eq_true, decide_eq_true_iff, mayK_iff]
  exact ⟨fun ⟨⟨a, b⟩, c, d⟩ => ⟨a, b, c, d⟩, fun ⟨a, b, c, d⟩ => ⟨⟨a, b⟩, c, d⟩⟩
theorem mayT_iff (x : Td) : mayT x = true ↔ 0 ≤ x.w ∧ x.w < 64 ∧ 0 ≤ x.s ∧ x.s ≤ 3 ∧ 1 ≤ x.l ∧ x.l ≤ 64 := by
  unfold mayT
  simp only [Bool.and_eq_true, decide_eq_true_iff, oneB_iff]
  exact ⟨fun ⟨⟨⟨a, b, c, d⟩, e⟩, f⟩ => ⟨a, b, c, d, e, f⟩, fun ⟨a, b, c, d, e, f⟩ => ⟨⟨⟨a, b, c, d⟩, e⟩, f⟩⟩
theorem mayT_td (x : Nw) (l : Int) : mayT (x.td l) = (oneB x && decide (1 ≤ l) && decide (l ≤ 64)) := rfl

/-- Rising, one by one. -/
theorem rise_iff (q : List Td) : Rise q ↔ ∀ j, j + 1 < q.length → (td q j).w < (td q (j + 1)).w := by
  unfold Rise
  rw [List.pairwise_iff_getElem]
  constructor
  · intro h j hj
    rw [td_lt q (by omega), td_lt q hj]
    exact h j (j + 1) (by omega) hj (by omega)
  · intro h
    have key : ∀ d i, i + d + 1 < q.length → (td q i).w < (td q (i + d + 1)).w := by
      intro d
      induction d with
      | zero => exact fun i hi => h i hi
      | succ d ih =>
        intro i hi
        have a := ih i (by omega)
        have b := h (i + d + 1) (by omega)
        have e : i + (d + 1) + 1 = i + d + 1 + 1 := by omega
        rw [e]
        omega
    intro i j hi hj hij
    have := key (j - i - 1) i (by omega)
    rw [show i + (j - i - 1) + 1 = j by omega] at this
    rw [← td_lt q hi, ← td_lt q hj]
    exact this
theorem mayQ_iff (q : List Td) : mayQ q = true ↔ (∀ j, j < q.length → mayT (td q j) = true) ∧ ∀ j, j + 1 < q.length → (td q j).w < (td q (j + 1)).w := by
  unfold mayQ
  rw [Bool.and_eq_true, decide_eq_true_iff, rise_iff, List.all_eq_true]
  constructor
  · exact fun ⟨a, b⟩ => ⟨fun j hj => a _ (td_mem q hj), b⟩
  · refine fun ⟨a, b⟩ => ⟨fun x hx => ?_, b⟩
    obtain ⟨j, hj, rfl⟩ := List.getElem_of_mem hx
    rw [← td_lt q hj]
    exact a j hj
theorem mayQ_all {q : List Td} (h : mayQ q = true) : ∀ x ∈ q, mayT x = true := by
  unfold mayQ at h
  rw [Bool.and_eq_true, List.all_eq_true] at h
  exact h.1
theorem mayQ_rise {q : List Td} (h : mayQ q = true) : Rise q := by
  unfold mayQ at h
  rw [Bool.and_eq_true, decide_eq_true_iff] at h
  exact h.2
theorem mayQ_of {q : List Td} (h : ∀ x ∈ q, mayT x = true) (hr : Rise q) : mayQ q = true := by
  unfold mayQ
  rw [Bool.and_eq_true, decide_eq_true_iff, List.all_eq_true]
  exact ⟨h, hr⟩
theorem rise_lt {q : List Td} (h : Rise q) {i j : Nat} (hij : i < j) (hj : j < q.length) : (td q i).w < (td q j).w := by
  rw [td_lt q (by omega), td_lt q hj]
  exact (List.pairwise_iff_getElem.1 h) i j (by omega) hj hij
/-- Of one node there is one thing. -/
theorem rise_one {q : List Td} (h : Rise q) {x y : Td} (hx : x ∈ q) (hy : y ∈ q) (e : x.w = y.w) : x = y := by
  obtain ⟨i, hi, rfl⟩ := List.getElem_of_mem hx
  obtain ⟨j, hj, rfl⟩ := List.getElem_of_mem hy
  rcases Nat.lt_trichotomy i j with a | a | a
  · have := (List.pairwise_iff_getElem.1 h) i j hi hj a; omega
  · subst a; rfl
  · have := (List.pairwise_iff_getElem.1 h) j i hj hi a; omega
theorem rise_nodup {q : List Td} (h : Rise q) : q.Nodup := by
  refine List.Pairwise.imp ?_ h
  intro a b hab e
  subst e
  omega
/-- There are no more than there are nodes. -/
theorem mayQ_len {q : List Td} (h : mayQ q = true) : q.length ≤ 64 := by
  have hr := mayQ_rise h
  have ha := mayQ_all h
  have key : ∀ j, j < q.length → (j : Int) ≤ (td q j).w := by
    intro j
    induction j with
    | zero => intro hj; have := (mayT_iff _).1 (ha _ (td_mem q hj)); simp only [Int.natCast_zero]; omega
    | succ j ih => intro hj; have := ih (by omega); have : (td q j).w < (td q (j + 1)).w := rise_lt hr (Nat.lt_succ_self j) hj; omega
  rcases Nat.eq_zero_or_pos q.length with e | e
  · omega
  · have a := key (q.length - 1) (by omega)
    have b := (mayT_iff _).1 (ha _ (td_mem q (j := q.length - 1) (by omega)))
    omega

/-! ### where a node stands, and what is added -/
/-- How many stand ahead of w. -/
def posQ : List Td → Int → Nat
  | [], _ => 0
  | y :: r, w => if y.w < w then posQ r w + 1 else 0
def addQ : List Td → Td → List Td
  | [], x => [x]
  | y :: r, x => if y.w < x.w then y :: addQ r x else if y.w = x.w then (if beatsB x.k y.k = true then x :: r else y :: r) else x :: y :: r
theorem posQ_le (q : List Td) (w : Int) : posQ q w ≤ q.length := by
  induction q with
  | nil => simp [posQ]
  | cons y r ih => unfold posQ; split <;> simp <;> omega
theorem posQ_lt (q : List Td) (w : Int) : ∀ j, j < posQ q w → (td q j).w < w := by
  induction q with
  | nil => intro j hj; simp [posQ] at hj
  | cons y r ih =>
    intro j hj
    unfold posQ at hj
    split at hj
    · rename_i h
      rcases j with _ | j
      · simpa [td] using h
      · have := ih j (by omega)
        simpa [td] using this
    · omega
theorem posQ_ge {q : List Td} (hr : Rise q) (w : Int) : ∀ j, posQ q w ≤ j → j < q.length → w ≤ (td q j).w := by
  induction q with
  | nil => intro j _ hj; simp at hj
  | cons y r ih =>
    intro j hj hl
    unfold posQ at hj
    have hr' : Rise r := (List.pairwise_cons.1 hr).2
    split at hj
    · rcases j with _ | j
      · omega
      · have := ih hr' j (by omega) (by simpa using hl)
        simpa [td] using this
    · rename_i h
      rcases j with _ | j
      · simpa [td] using (by omega : w ≤ y.w)
      · have h1 := (List.pairwise_cons.1 hr).1 (td r j) (td_mem r (by simpa using hl))
        have : td (y :: r) (j + 1) = td r j := by simp [td]
        rw [this]
        omega
/-- What stands at w's place is of w, or of a later one. -/
theorem addQ_eq {q : List Td} (hr : Rise q) (x : Td) : addQ q x =
    if posQ q x.w < q.length ∧ (td q (posQ q x.w)).w = x.w then (if beatsB x.k (td q (posQ q x.w)).k = true then q.set (posQ q x.w) x else q) else q.take (posQ q x.w) ++ x :: q.drop (posQ q x.w) := by
  induction q with
  | nil => simp [addQ, posQ]
  | cons y r ih =>
    have hr' : Rise r := (List.pairwise_cons.1 hr).2
    have e := ih hr'
    unfold addQ posQ
    by_cases h : y.w < x.w
    · rw [if_pos h, if_pos h, e]
      have e1 : td (y :: r) (posQ r x.w + 1) = td r (posQ r x.w) := by simp [td]
      rw [e1]
      by_cases h2 : posQ r x.w < r.length ∧ (td r (posQ r x.w)).w = x.w
      · have h3 : posQ r x.w + 1 < (y :: r).length ∧ (td r (posQ r x.w)).w = x.w := ⟨by simpa using h2.1, h2.2⟩
        rw [if_pos h2, if_pos h3]
        by_cases hB : beatsB x.k (td r (posQ r x.w)).k = true
        · rw [if_pos hB, if_pos hB]; simp
        · rw [if_neg hB, if_neg hB]
      · have h3 : ¬(posQ r x.w + 1 < (y :: r).length ∧ (td r (posQ r x.w)).w = x.w) := fun h3 => h2 ⟨by simpa using h3.1, h3.2⟩
        rw [if_neg h2, if_neg h3]
        simp
    · rw [if_neg h, if_neg h]
      have e1 : td (y :: r) 0 = y := by simp [td]
      rw [e1]
      by_cases h2 : y.w = x.w
      · have h3 : 0 < (y :: r).length ∧ y.w = x.w := ⟨by simp, h2⟩
        rw [if_pos h2, if_pos h3]
        by_cases hB : beatsB x.k y.k = true
        · rw [if_pos hB, if_pos hB]; simp
        · rw [if_neg hB, if_neg hB]
      · have h3 : ¬(0 < (y :: r).length ∧ y.w = x.w) := fun h3 => h2 h3.2
        rw [if_neg h2, if_neg h3]
        simp
theorem mem_addQ {q : List Td} {x y : Td} (h : y ∈ addQ q x) : y = x ∨ y ∈ q := by
  induction q with
  | nil => simp [addQ] at h; exact .inl h
  | cons z r ih =>
    unfold addQ at h
    split at h
    · rcases List.mem_cons.1 h with h | h
      · exact .inr (by simp [h])
      · rcases ih h with h | h
        · exact .inl h
        · exact .inr (by simp [h])
    · split at h
      · split at h
        · rcases List.mem_cons.1 h with h | h
          · exact .inl h
          · exact .inr (by simp [h])
        · exact .inr h
      · rcases List.mem_cons.1 h with h | h
        · exact .inl h
        · exact .inr h
theorem rise_addQ {q : List Td} (hr : Rise q) (x : Td) : Rise (addQ q x) := by
  induction q with
  | nil => simp [addQ, Rise]
  | cons y r ih =>
    have h1 := (List.pairwise_cons.1 hr).1
    have hr' : Rise r := (List.pairwise_cons.1 hr).2
    unfold addQ
    split
    · rename_i h
      refine List.pairwise_cons.2 ⟨fun z hz => ?_, ih hr'⟩
      rcases mem_addQ hz with rfl | hz
      · exact h
      · exact h1 z hz
    · rename_i h
      split
      · rename_i h2
        split
        · exact List.pairwise_cons.2 ⟨fun z hz => by have := h1 z hz; omega, hr'⟩
        · exact hr
      · rename_i h2
        refine List.pairwise_cons.2 ⟨fun z hz => ?_, hr⟩
        rcases List.mem_cons.1 hz with rfl | hz
        · omega
        · have := h1 z hz; omega
theorem may_addQ {q : List Td} (h : mayQ q = true) {x : Td} (hx : mayT x = true) : mayQ (addQ q x) = true :=
  mayQ_of (fun y hy => (mem_addQ hy).elim (fun e => by rw [e]; exact hx) (fun hy => mayQ_all h y hy)) (rise_addQ (mayQ_rise h) x)
theorem addQ_len (q : List Td) (x : Td) : q.length ≤ (addQ q x).length ∧ (addQ q x).length ≤ q.length + 1 := by
  induction q with
  | nil => simp [addQ]
  | cons y r ih =>
    unfold addQ
    split
    · simp; omega
    · split
      · split <;> simp
      · simp
end Go.Proofs.Ytipepmnnjhhjbaa.Pure
