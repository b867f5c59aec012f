/-
  Texts in their order; lists that rise by a key; all names, each once: as mathematics. Imports nothing.
-/
namespace Go.Proofs.Ytdbndkccgpmkbaa.Pure

/-- Octet by octet. -/
def ltS (a b : ByteArray) : Bool := decide (a.data.toList < b.data.toList)
theorem ltS_irrefl (a : ByteArray) : ltS a a = false := by
  unfold ltS
  exact decide_eq_false (List.lt_irrefl _)
theorem ltS_trans {a b c : ByteArray} (h1 : ltS a b = true) (h2 : ltS b c = true) : ltS a c = true := by
  unfold ltS at *
  exact decide_eq_true (List.lt_trans (of_decide_eq_true h1) (of_decide_eq_true h2))
theorem ltS_asymm {a b : ByteArray} (h : ltS a b = true) : ltS b a = false := by
  cases h2 : ltS b a with
  | false => rfl
  | true =>
    have := ltS_trans h h2
    rw [ltS_irrefl] at this
    cases this
theorem ltS_ne {a b : ByteArray} (h : ltS a b = true) : ¬ a = b := fun e => by
  rw [e, ltS_irrefl] at h; cases h
theorem bytes_ext {a b : ByteArray} (h : a.data.toList = b.data.toList) : a = b := by
  cases a; cases b
  simp only at h
  exact congrArg _ (Array.toList_inj.1 h)
theorem ltS_total {a b : ByteArray} (h1 : ltS a b = false) (h2 : ltS b a = false) : a = b := by
  unfold ltS at *
  have h1 := of_decide_eq_false h1
  have h2 := of_decide_eq_false h2
  exact bytes_ext (List.le_antisymm (List.not_lt.1 h2) (List.not_lt.1 h1))

/-! ### lists that rise by a key -/
def RiseK (l : List ByteArray) : Prop := l.Pairwise fun x y => ltS x y = true
theorem riseK_nil : RiseK [] := List.Pairwise.nil
theorem riseK_cons {x : ByteArray} {l : List ByteArray} : RiseK (x :: l) ↔ (∀ y ∈ l, ltS x y = true) ∧ RiseK l := List.pairwise_cons
theorem riseK_nodup {l : List ByteArray} (h : RiseK l) : l.Nodup := by
  rw [List.nodup_iff_pairwise_ne]
  exact h.imp fun hab e => ltS_ne hab e
theorem riseK_key {α} {key : α → ByteArray} {a : List α} (ha : RiseK (a.map key)) {x y : α} (hx : x ∈ a) (hy : y ∈ a) (h : key x = key y) : x = y := by
  induction a with
  | nil => cases hx
  | cons z r ih =>
    rw [List.map_cons, riseK_cons] at ha
    rcases List.mem_cons.1 hx with e1 | h1 <;> rcases List.mem_cons.1 hy with e2 | h2
    · rw [e1, e2]
    · subst e1; exact absurd h (ltS_ne (ha.1 _ (List.mem_map_of_mem h2)))
    · subst e2; exact absurd h.symm (ltS_ne (ha.1 _ (List.mem_map_of_mem h1)))
    · exact ih ha.2 h1 h2
theorem riseK_ext {α} (key : α → ByteArray) : ∀ {a b : List α}, RiseK (a.map key) → RiseK (b.map key) → (∀ x, x ∈ a ↔ x ∈ b) → a = b
  | [], [], _, _, _ => rfl
  | [], y :: b, _, _, h => by simpa using h y
  | x :: a, [], _, _, h => by simpa using h x
  | x :: a, y :: b, ha, hb, h => by
    rw [List.map_cons, riseK_cons] at ha hb
    have exy : x = y := by
      rcases List.mem_cons.1 ((h x).1 (List.mem_cons_self ..)) with h1 | h1
      · exact h1
      rcases List.mem_cons.1 ((h y).2 (List.mem_cons_self ..)) with h2 | h2
      · exact h2.symm
      have h3 := ha.1 _ (List.mem_map_of_mem h2)
      have h4 := hb.1 _ (List.mem_map_of_mem h1)
      rw [ltS_asymm h3] at h4; cases h4
    subst exy
    refine congrArg _ (riseK_ext key ha.2 hb.2 fun z => ?_)
    constructor
    · intro hz
      rcases List.mem_cons.1 ((h z).1 (List.mem_cons_of_mem _ hz)) with e | h1
      · subst e; exact absurd rfl (ltS_ne (ha.1 _ (List.mem_map_of_mem hz)))
      · exact h1
    · intro hz
      rcases List.mem_cons.1 ((h z).2 (List.mem_cons_of_mem _ hz)) with e | h1
      · subst e; exact absurd rfl (ltS_ne (hb.1 _ (List.mem_map_of_mem hz)))
      · exact h1
theorem riseK_sub {α} {key : α → ByteArray} {a b : List α} (h : RiseK (b.map key)) (hs : a.Sublist b) : RiseK (a.map key) :=
  List.Pairwise.sublist (hs.map key) h

/-! ### all names, each once, rising -/
def insK (t : ByteArray) : List ByteArray → List ByteArray
  | [] => [t]
  | x :: r => if t = x then x :: r else if ltS t x = true then t :: x :: r else x :: insK t r
theorem insK_mem (t y : ByteArray) : ∀ l, y ∈ insK t l ↔ y = t ∨ y ∈ l
  | [] => by simp [insK]
  | x :: r => by
    unfold insK
    split
    · rename_i e; subst e; simp
    · split
      · simp
      · rw [List.mem_cons, insK_mem t y r, List.mem_cons]
        constructor
        · rintro (h | h | h) <;> simp [h]
        · rintro (h | h | h) <;> simp [h]
theorem insK_rise (t : ByteArray) : ∀ l, RiseK l → RiseK (insK t l)
  | [], _ => by simp [insK, RiseK]
  | x :: r, h => by
    unfold insK
    split
    · exact h
    · rename_i ne
      split
      · rename_i hl
        refine riseK_cons.2 ⟨fun y hy => ?_, h⟩
        rcases List.mem_cons.1 hy with rfl | hy
        · exact hl
        · exact ltS_trans hl ((riseK_cons.1 h).1 y hy)
      · rename_i hl
        refine riseK_cons.2 ⟨fun y hy => ?_, insK_rise t r (riseK_cons.1 h).2⟩
        rcases (insK_mem t y r).1 hy with rfl | hy
        · cases hx : ltS x y with
          | true => rfl
          | false => exact absurd (ltS_total (by simpa using hl) hx) ne
        · exact (riseK_cons.1 h).1 y hy
def uniK (l : List ByteArray) : List ByteArray := l.foldr insK []
theorem uniK_mem (y : ByteArray) (l : List ByteArray) : y ∈ uniK l ↔ y ∈ l := by
  induction l with
  | nil => simp [uniK]
  | cons x r ih =>
    have : uniK (x :: r) = insK x (uniK r) := rfl
    rw [this, insK_mem, ih, List.mem_cons]
theorem uniK_rise (l : List ByteArray) : RiseK (uniK l) := by
  induction l with
  | nil => exact riseK_nil
  | cons x r ih => exact insK_rise x _ ih
theorem uniK_of_rise {l : List ByteArray} (h : RiseK l) : uniK l = l :=
  riseK_ext (fun x => x) (by simpa using uniK_rise l) (by simpa using h) fun x => uniK_mem x l
theorem uniK_cong {a b : List ByteArray} (h : ∀ x, x ∈ a ↔ x ∈ b) : uniK a = uniK b :=
  riseK_ext (fun x => x) (by simpa using uniK_rise a) (by simpa using uniK_rise b) fun x => by rw [uniK_mem, uniK_mem, h]
/-- The least of all that are larger than the last that stands: the next. -/
theorem uniK_next {l : List ByteArray} {k : Nat} {t : ByteArray} (hm : t ∈ l) (h1 : k = 0 ∨ ∃ h : k - 1 < (uniK l).length, ltS (uniK l)[k - 1] t = true)
    (h2 : ∀ y ∈ l, (k = 0 ∨ ∃ h : k - 1 < (uniK l).length, ltS (uniK l)[k - 1] y = true) → ltS y t = false) : ∃ h : k < (uniK l).length, (uniK l)[k] = t := by
  obtain ⟨j, hj, ej⟩ := List.mem_iff_getElem.1 ((uniK_mem t l).2 hm)
  have hr := List.pairwise_iff_getElem.1 (uniK_rise l)
  have hkj : k ≤ j := by
    rcases h1 with rfl | ⟨h, h1⟩
    · omega
    · rcases Nat.lt_or_ge j k with hc | hc
      · exfalso
        rw [← ej] at h1
        rcases Nat.lt_or_ge j (k - 1) with hd | hd
        · have := hr j (k - 1) hj h hd
          rw [ltS_asymm this] at h1; cases h1
        · have : j = k - 1 := by omega
          subst this
          rw [ltS_irrefl] at h1; cases h1
      · exact hc
  rcases Nat.lt_or_ge k j with hc | hc
  · exfalso
    have hk : k < (uniK l).length := by omega
    have h3 := h2 (uniK l)[k] ((uniK_mem _ l).1 (List.getElem_mem hk)) (by
      rcases Nat.eq_zero_or_pos k with h0 | h0
      · exact Or.inl h0
      · exact Or.inr ⟨by omega, hr (k - 1) k (by omega) hk (by omega)⟩)
    have h4 := hr k j hk hj hc
    rw [ej, h3] at h4; cases h4
  · have : j = k := by omega
    subst this
    exact ⟨hj, ej⟩
theorem uniK_end {l : List ByteArray} {k : Nat} (hk : k ≤ (uniK l).length)
    (h : ∀ y ∈ l, ¬ (k = 0 ∨ ∃ h : k - 1 < (uniK l).length, ltS (uniK l)[k - 1] y = true)) : k = (uniK l).length := by
  rcases Nat.lt_or_ge k (uniK l).length with hc | hc
  · exfalso
    have hr := List.pairwise_iff_getElem.1 (uniK_rise l)
    refine h (uniK l)[k] ((uniK_mem _ l).1 (List.getElem_mem hc)) ?_
    rcases Nat.eq_zero_or_pos k with h0 | h0
    · exact Or.inl h0
    · exact Or.inr ⟨by omega, hr (k - 1) k (by omega) hc (by omega)⟩
  · omega
end Go.Proofs.Ytdbndkccgpmkbaa.Pure
