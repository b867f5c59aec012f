/-
  Tables as lists: which may be, which places are picked, what is applied, what is merged.
-/

namespace Go.Proofs.YtjeepmdklbfgeaaDoor.Pure

/-- What is known: an incarnation, and a state. -/
structure Kn where
  i : Int
  s : Int
deriving DecidableEq, Repr

def z0 : Kn := ⟨0, 0⟩
def kn (l : List Kn) (j : Nat) : Kn := l.getD j z0
/-- May it be? -/
def mayK (x : Kn) : Bool := decide (0 ≤ x.s) && decide (x.s ≤ 3)
def mayL (l : List Kn) : Bool := l.all mayK
/-- An incarnation is one that there is. -/
def Fit (x : Kn) : Prop := 0 ≤ x.i ∧ x.i ≤ 18446744073709551615
/-- Is it ahead of the other one? -/
def over (a b : Kn) : Bool := decide (b.i < a.i ∨ (a.i = b.i ∧ b.s < a.s))
/-- Does one beat the other one? -/
def beatsB (a b : Kn) : Bool := mayK a && mayK b && over a b
/-- The one of two that counts: k, if it beats m. -/
def stepK (m k : Kn) : Kn := if beatsB k m = true then k else m
/-- What is joined. -/
def joinL (l : List Kn) : Kn := l.foldl stepK z0
/-- By which incarnation a node answers, and the error. -/
def refI (own : Int) (k : Kn) : Int × Int :=
  if mayK k = false then (0, 1) else if k.i < own ∨ (k.i = own ∧ k.s = 0) then (own, 0) else if k.i = 18446744073709551615 then (0, 4) else (k.i + 1, 0)

theorem mayK_iff (x : Kn) : mayK x = true ↔ 0 ≤ x.s ∧ x.s ≤ 3 := by unfold mayK; simp
theorem mayK_false (x : Kn) : mayK x = false ↔ ¬(0 ≤ x.s ∧ x.s ≤ 3) := by rw [← mayK_iff]; simp
theorem mayL_iff (l : List Kn) : mayL l = true ↔ ∀ j, j < l.length → mayK (kn l j) = true := by
  unfold mayL
  rw [List.all_eq_true]
  constructor
  · intro h j hj
    have : kn l j = l[j] := by simp [kn, hj]
    rw [this]
    exact h _ (List.getElem_mem hj)
  · intro h x hx
    obtain ⟨j, hj, rfl⟩ := List.getElem_of_mem hx
    have : kn l j = l[j] := by simp [kn, hj]
    rw [← this]
    exact h j hj
theorem kn_take (l : List Kn) (k j : Nat) (h : j < k) : kn (l.take k) j = kn l j := by simp [kn, List.getD, h]

/-- A number that grows with what counts. -/
def key (x : Kn) : Int := x.i * 4 + x.s
theorem over_key {a b : Kn} (ha : mayK a = true) (hb : mayK b = true) : over a b = decide (key b < key a) := by
  rw [mayK_iff] at ha hb
  unfold over key
  rw [Bool.eq_iff_iff, decide_eq_true_iff, decide_eq_true_iff]
  omega
theorem beats_key {a b : Kn} (ha : mayK a = true) (hb : mayK b = true) : beatsB a b = decide (key b < key a) := by
  unfold beatsB
  rw [ha, hb, over_key ha hb]
  rfl
theorem beats_iff {a b : Kn} (ha : mayK a = true) (hb : mayK b = true) : beatsB a b = true ↔ key b < key a := by rw [beats_key ha hb, decide_eq_true_iff]
theorem key_inj {a b : Kn} (ha : mayK a = true) (hb : mayK b = true) (h : key a = key b) : a = b := by
  rw [mayK_iff] at ha hb
  obtain ⟨ai, as⟩ := a
  obtain ⟨bi, bs⟩ := b
  unfold key at h
  simp only at *
  have : ai = bi := by omega
  subst this
  have : as = bs := by omega
  rw [this]
theorem may_z0 : mayK z0 = true := rfl
theorem key_z0 : key z0 = 0 := rfl
theorem fit_z0 : Fit z0 := ⟨by decide, by decide⟩
theorem key_pos {x : Kn} (h : mayK x = true) (hf : Fit x) : 0 ≤ key x := by
  rw [mayK_iff] at h
  have := hf.1
  unfold key
  omega

theorem stepK_may {m k : Kn} (hm : mayK m = true) : mayK (stepK m k) = true := by
  unfold stepK
  split
  · rename_i h
    unfold beatsB at h
    simp only [Bool.and_eq_true] at h
    exact h.1.1
  · exact hm
theorem stepK_fit {m k : Kn} (hm : Fit m) (hk : Fit k) : Fit (stepK m k) := by
  unfold stepK
  split
  · exact hk
  · exact hm
theorem stepK_key {m k : Kn} (hm : mayK m = true) (hk : mayK k = true) : key (stepK m k) = max (key m) (key k) := by
  unfold stepK
  rw [beats_key hk hm]
  by_cases h : key m < key k
  · rw [if_pos (by simpa using h)]; omega
  · rw [if_neg (by simpa using h)]; omega
theorem stepK_comm {a b : Kn} (ha : mayK a = true) (hb : mayK b = true) : stepK a b = stepK b a :=
  key_inj (stepK_may ha) (stepK_may hb) (by rw [stepK_key ha hb, stepK_key hb ha]; omega)
theorem stepK_z0 {k : Kn} (hk : mayK k = true) (hf : Fit k) : stepK z0 k = k :=
  key_inj (stepK_may may_z0) hk (by have := key_pos hk hf; rw [stepK_key may_z0 hk, key_z0]; omega)
theorem stepK_either (m k : Kn) : stepK m k = m ∨ stepK m k = k := by unfold stepK; split <;> simp

theorem join_may (l : List Kn) : mayK (joinL l) = true := by
  unfold joinL
  have : ∀ (l : List Kn) (m : Kn), mayK m = true → mayK (l.foldl stepK m) = true := by
    intro l
    induction l with
    | nil => exact fun _ h => h
    | cons x l ih => exact fun m h => ih _ (stepK_may h)
  exact this l _ may_z0
theorem join_fit (l : List Kn) (h : ∀ x ∈ l, Fit x) : Fit (joinL l) := by
  unfold joinL
  have : ∀ (l : List Kn) (m : Kn), (∀ x ∈ l, Fit x) → Fit m → Fit (l.foldl stepK m) := by
    intro l
    induction l with
    | nil => exact fun _ _ h => h
    | cons x l ih => exact fun m hl h => ih _ (fun y hy => hl y (by simp [hy])) (stepK_fit h (hl x (by simp)))
  exact this l _ h fit_z0
theorem join_take_succ (l : List Kn) (k : Nat) (h : k < l.length) : joinL (l.take (k + 1)) = stepK (joinL (l.take k)) (kn l k) := by
  unfold joinL
  rw [List.take_succ_eq_append_getElem h, List.foldl_append]
  simp [kn, h]
theorem join2 {a b : Kn} (ha : mayK a = true) (fa : Fit a) : joinL [a, b] = stepK a b := by
  show stepK (stepK z0 a) b = _
  rw [stepK_z0 ha fa]
theorem join3 {a b c : Kn} (ha : mayK a = true) (fa : Fit a) : joinL [a, b, c] = stepK (stepK a b) c := by
  show stepK (stepK (stepK z0 a) b) c = _
  rw [stepK_z0 ha fa]
/-- What is joined is as great as the greatest of them. -/
theorem key_join_le (l : List Kn) (hl : mayL l = true) (K : Int) (hK : 0 ≤ K) : key (joinL l) ≤ K ↔ ∀ j, j < l.length → key (kn l j) ≤ K := by
  have key2 : ∀ n, n ≤ l.length → (key (joinL (l.take n)) ≤ K ↔ ∀ j, j < n → key (kn l j) ≤ K) := by
    intro n
    induction n with
    | zero => intro _; simp [joinL, key_z0, hK]
    | succ n ih =>
      intro hn
      rw [join_take_succ l n (by omega), stepK_key (join_may _) ((mayL_iff l).1 hl n (by omega))]
      have := ih (by omega)
      constructor
      · intro h j hj
        by_cases e : j < n
        · exact this.1 (by omega) j e
        · obtain rfl : j = n := by omega
          omega
      · intro h
        have h1 := this.2 fun j hj => h j (by omega)
        have h2 := h n (by omega)
        omega
  have := key2 l.length (Nat.le_refl _)
  rwa [List.take_length] at this
theorem key_join_ge (l : List Kn) (hl : mayL l = true) (hf : ∀ x ∈ l, Fit x) (j : Nat) (hj : j < l.length) : key (kn l j) ≤ key (joinL l) := by
  have h0 : 0 ≤ key (joinL l) := key_pos (join_may l) (join_fit l hf)
  exact (key_join_le l hl _ h0).1 (Int.le_refl _) j hj

/-! ### a node's answer -/
theorem refI_bad {own : Int} {k : Kn} (h : mayK k = false) : refI own k = (0, 1) := by unfold refI; rw [if_pos h]
theorem refI_own {own : Int} {k : Kn} (h : mayK k = true) (hk : k.i < own ∨ (k.i = own ∧ k.s = 0)) : refI own k = (own, 0) := by unfold refI; rw [if_neg (by rw [h]; decide), if_pos hk]
theorem refI_large {own : Int} {k : Kn} (h : mayK k = true) (hk : ¬(k.i < own ∨ (k.i = own ∧ k.s = 0))) (hm : k.i = 18446744073709551615) : refI own k = (0, 4) := by unfold refI; rw [if_neg (by rw [h]; decide), if_neg hk, if_pos hm]
theorem refI_more {own : Int} {k : Kn} (h : mayK k = true) (hk : ¬(k.i < own ∨ (k.i = own ∧ k.s = 0))) (hm : ¬k.i = 18446744073709551615) : refI own k = (k.i + 1, 0) := by unfold refI; rw [if_neg (by rw [h]; decide), if_neg hk, if_neg hm]
end Go.Proofs.YtjeepmdklbfgeaaDoor.Pure

namespace Go.Proofs.YtjeepmdklbfgeaaDoor.Pure

/-- What is told of a node. -/
structure Nw where
  w : Int
  i : Int
  s : Int
  deriving DecidableEq
def zn : Nw := ⟨0, 0, 0⟩
def nw (q : List Nw) (j : Nat) : Nw := q.getD j zn
def Nw.k (x : Nw) : Kn := ⟨x.i, x.s⟩
def oneB (x : Nw) : Bool := decide (0 ≤ x.w) && decide (x.w < 64) && mayK x.k
theorem nw_lt (q : List Nw) {j : Nat} (h : j < q.length) : nw q j = q[j] := by simp [nw, h]
theorem nw_mem (q : List Nw) {j : Nat} (h : j < q.length) : nw q j ∈ q := by rw [nw_lt q h]; exact List.getElem_mem h
theorem nw_take (q : List Nw) (k j : Nat) (h : j < k) : nw (q.take k) j = nw q j := by simp [nw, List.getD, h]
theorem oneB_iff (x : Nw) : oneB x = true ↔ 0 ≤ x.w ∧ x.w < 64 ∧ 0 ≤ x.s ∧ x.s ≤ 3 := by
  unfold oneB
  simp [mayK_iff, Nw.k, and_assoc]
end Go.Proofs.YtjeepmdklbfgeaaDoor.Pure

namespace Go.Proofs.YtjeepmdklbfgeaaDoor.Pure

def mayT (l : List Kn) : Bool := decide (1 ≤ l.length) && (decide (l.length ≤ 64) && mayL l)
theorem mayT_iff (l : List Kn) : mayT l = true ↔ 1 ≤ l.length ∧ l.length ≤ 64 ∧ mayL l = true := by simp [mayT]
theorem ext_kn {a b : List Kn} (hl : a.length = b.length) (h : ∀ j, j < a.length → kn a j = kn b j) : a = b := by
  apply List.ext_getElem hl
  intro j h1 h2
  have := h j h1
  simpa [kn, h1, h2] using this
end Go.Proofs.YtjeepmdklbfgeaaDoor.Pure
