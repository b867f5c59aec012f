/-
  A vote: what is granted, how it begins again, what follows however it is asked: as mathematics. Nothing of the program is imported.
-/
namespace Go.Proofs.Ytlefnohcfnlejaa.Pure

/-- A vote. -/
structure Vt where
  e : Int
  t : Int
  u : Int
  w : Int
deriving DecidableEq
def newV : Vt := ⟨0, -1, 0, 0⟩
def nodeV (n : Int) : Bool := decide (0 ≤ n) && decide (n ≤ 63)
def mayV (v : Vt) : Bool := (decide (v.t = -1) || nodeV v.t) && decide (0 ≤ v.u) && decide (v.u ≤ 2199023255552) && decide (0 ≤ v.w) && decide (v.w ≤ 2199023255552)
theorem mayV_iff (v : Vt) : mayV v = true ↔ (-1 ≤ v.t ∧ v.t ≤ 63) ∧ 0 ≤ v.u ∧ v.u ≤ 2199023255552 ∧ 0 ≤ v.w ∧ v.w ≤ 2199023255552 := by
  unfold mayV nodeV
  simp only [Bool.and_eq_true, Bool.or_eq_true, decide_eq_true_eq]
  omega
/-- Is it granted? -/
def grB (v : Vt) (x e n : Int) : Bool :=
  if n < v.w ∨ e < v.e ∨ e = 0 then false else if v.t = -1 ∨ v.t = x then true else decide (e > v.e) && decide (n ≥ v.u)
theorem grB_iff (v : Vt) (x e n : Int) : grB v x e n = true ↔ v.w ≤ n ∧ v.e ≤ e ∧ ¬ e = 0 ∧ (v.t = -1 ∨ v.t = x ∨ v.e < e ∧ v.u ≤ n) := by
  unfold grB
  by_cases h1 : n < v.w ∨ e < v.e ∨ e = 0
  · rw [if_pos h1]
    constructor
    · intro h; cases h
    · intro h; omega
  · rw [if_neg h1]
    by_cases h2 : v.t = -1 ∨ v.t = x
    · rw [if_pos h2]
      refine ⟨fun _ => ?_, fun _ => rfl⟩
      omega
    · rw [if_neg h2]
      simp only [Bool.and_eq_true, decide_eq_true_eq]
      omega
/-- The document's words: what stands in the way. -/
theorem grB_not (v : Vt) (x e n : Int) (he : 0 ≤ e) (hv : 0 ≤ v.e) :
    grB v x e n = false ↔ n < v.w ∨ e < v.e ∨ e = 0 ∨ (e = v.e ∧ ¬ v.t = x ∧ ¬ v.t = -1) ∨ n < v.u ∧ ¬ v.t = x ∧ ¬ v.t = -1 := by
  have := grB_iff v x e n
  cases hg : grB v x e n with
  | true =>
    rw [hg] at this
    have := this.1 rfl
    constructor
    · intro h; cases h
    · intro h; omega
  | false =>
    rw [hg] at this
    have : ¬ (v.w ≤ n ∧ v.e ≤ e ∧ ¬ e = 0 ∧ (v.t = -1 ∨ v.t = x ∨ v.e < e ∧ v.u ≤ n)) := fun h => by have := this.2 h; cases this
    refine ⟨fun _ => ?_, fun _ => rfl⟩
    omega
def askV (T : Int) (v : Vt) (x e n : Int) : Vt := if grB v x e n = true then ⟨e, x, n + T, v.w⟩ else v
def resV (T e x n : Int) : Vt := ⟨e, x, 0, n + T⟩
theorem askV_yes {T : Int} {v : Vt} {x e n : Int} (h : grB v x e n = true) : askV T v x e n = ⟨e, x, n + T, v.w⟩ := by unfold askV; rw [if_pos h]
theorem askV_no {T : Int} {v : Vt} {x e n : Int} (h : grB v x e n = false) : askV T v x e n = v := by unfold askV; rw [if_neg (by rw [h]; decide)]

/-! ### however it is asked -/
/-- A step: from whom, for which epoch, how much later; again. -/
structure Sp where
  x : Int
  e : Int
  d : Int
  ag : Bool
def zsp : Sp := ⟨0, 0, 0, false⟩
def sp (l : List Sp) (i : Nat) : Sp := l.getD i zsp
theorem sp_lt (l : List Sp) {i : Nat} (h : i < l.length) : sp l i = l[i] := by simp [sp, h]
/-- One grant. -/
structure Gr where
  e : Int
  t : Int
  n : Int
deriving DecidableEq
/-- What is under way. -/
structure Py where
  v : Vt
  n : Int
  o : List Gr
  a : List Int
def p0 : Py := ⟨newV, 0, [], []⟩
def nowP (p : Py) (s : Sp) : Int := p.n + s.d
def stepP (T : Int) (p : Py) (s : Sp) : Py :=
  if s.ag = true then ⟨resV T p.v.e p.v.t (nowP p s), nowP p s, p.o, p.a ++ [nowP p s]⟩
  else ⟨askV T p.v s.x s.e (nowP p s), nowP p s, if grB p.v s.x s.e (nowP p s) = true then p.o ++ [⟨s.e, s.x, nowP p s⟩] else p.o, p.a⟩
def plyP (T : Int) (l : List Sp) : Nat → Py
  | 0 => p0
  | i + 1 => stepP T (plyP T l i) (sp l i)
theorem plyP_zero (T : Int) (l : List Sp) : plyP T l 0 = p0 := rfl
theorem plyP_succ (T : Int) (l : List Sp) (i : Nat) : plyP T l (i + 1) = stepP T (plyP T l i) (sp l i) := rfl
/-- A step's own bounds: as the law takes them. -/
structure SpO (s : Sp) : Prop where
  x0 : 0 ≤ s.x
  x4 : s.x < 4
  e0 : 0 ≤ s.e
  e16 : s.e < 16
  d0 : 0 ≤ s.d
  d16 : s.d < 16
/-- What holds at each time. -/
structure PyI (T : Int) (p : Py) : Prop where
  n0 : 0 ≤ p.n
  e0 : 0 ≤ p.v.e
  e16 : p.v.e < 16
  t : -1 ≤ p.v.t ∧ p.v.t < 4
  u : 0 ≤ p.v.u ∧ p.v.u ≤ p.n + T
  w : 0 ≤ p.v.w ∧ p.v.w ≤ p.n + T
  fr : ∀ g ∈ p.o, g.n ≤ p.n ∧ 0 ≤ g.t ∧ (g.n + T ≤ p.n ∨ g.t = p.v.t ∧ (g.n + T ≤ p.v.u ∨ g.n + T ≤ p.v.w))
  ep : ∀ g ∈ p.o, g.e ≤ p.v.e ∧ ¬ g.e = 0 ∧ (g.e = p.v.e → g.t = p.v.t)
  ag : ∀ a ∈ p.a, a ≤ p.n ∧ a + T ≤ p.v.w
  once : p.o.Pairwise fun g h => ¬ g.t = h.t → g.n + T ≤ h.n
  rise : p.o.Pairwise fun g h => g.e ≤ h.e ∧ (g.e = h.e → g.t = h.t)
  wait : ∀ g ∈ p.o, ∀ a ∈ p.a, g.n ≤ a ∨ a + T ≤ g.n
theorem pyI_zero {T : Int} (hT : 0 < T) : PyI T p0 where
  n0 := Int.le_refl 0
  e0 := Int.le_refl 0
  e16 := by decide
  t := by decide
  u := ⟨Int.le_refl 0, by show (0 : Int) ≤ 0 + T; omega⟩
  w := ⟨Int.le_refl 0, by show (0 : Int) ≤ 0 + T; omega⟩
  fr g hg := by cases hg
  ep g hg := by cases hg
  ag a ha := by cases ha
  once := List.Pairwise.nil
  rise := List.Pairwise.nil
  wait g hg := by cases hg
theorem pairwise_snoc {α} {r : α → α → Prop} {l : List α} {x : α} (h : l.Pairwise r) (hx : ∀ y ∈ l, r y x) : (l ++ [x]).Pairwise r := by
  rw [List.pairwise_append]
  refine ⟨h, List.pairwise_singleton _ _, fun y hy z hz => ?_⟩
  rw [List.mem_singleton] at hz
  subst hz
  exact hx y hy
theorem pyI_step {T : Int} (hT : 0 < T) {p : Py} (h : PyI T p) {s : Sp} (hs : SpO s) : PyI T (stepP T p s) := by
  obtain ⟨x0, x4, e0, e16, d0, d16⟩ := hs
  have hn : p.n ≤ nowP p s := by unfold nowP; omega
  have hw := h.n0
  unfold stepP
  generalize nowP p s = n at *
  by_cases hg : s.ag = true
  · rw [if_pos hg]
    refine ⟨by show 0 ≤ n; omega, h.e0, h.e16, h.t, ⟨Int.le_refl 0, ?_⟩, ⟨?_, Int.le_refl _⟩, fun g hg => ?_, h.ep, fun a ha => ?_, h.once, h.rise, fun g hg a ha => ?_⟩
    · show (0 : Int) ≤ n + T; omega
    · show (0 : Int) ≤ n + T; omega
    · obtain ⟨h1, h2, h3⟩ := h.fr g hg
      refine ⟨by show g.n ≤ n; omega, h2, ?_⟩
      show g.n + T ≤ n ∨ g.t = p.v.t ∧ (g.n + T ≤ 0 ∨ g.n + T ≤ n + T)
      rcases h3 with h3 | ⟨h3, _⟩
      · exact Or.inl (by omega)
      · exact Or.inr ⟨h3, Or.inr (by omega)⟩
    · show a ≤ n ∧ a + T ≤ n + T
      rcases List.mem_append.1 ha with ha | ha
      · have := h.ag a ha; omega
      · rw [List.mem_singleton] at ha; omega
    · rcases List.mem_append.1 ha with ha | ha
      · exact h.wait g hg a ha
      · rw [List.mem_singleton] at ha
        have := (h.fr g hg).1
        exact Or.inl (by omega)
  · rw [if_neg hg]
    cases hb : grB p.v s.x s.e n with
    | false =>
      rw [askV_no hb, if_neg (by decide)]
      exact ⟨by show 0 ≤ n; omega, h.e0, h.e16, h.t, ⟨h.u.1, by have := h.u.2; show p.v.u ≤ n + T; omega⟩, ⟨h.w.1, by have := h.w.2; show p.v.w ≤ n + T; omega⟩,
        fun g hg => by
          obtain ⟨h1, h2, h3⟩ := h.fr g hg
          refine ⟨by show g.n ≤ n; omega, h2, ?_⟩
          rcases h3 with h3 | h3
          · exact Or.inl (by show g.n + T ≤ n; omega)
          · exact Or.inr h3,
        h.ep, fun a ha => by have := h.ag a ha; show a ≤ n ∧ a + T ≤ p.v.w; omega, h.once, h.rise, h.wait⟩
    | true =>
      rw [askV_yes hb, if_pos rfl]
      obtain ⟨b1, b2, b3, b4⟩ := (grB_iff _ _ _ _).1 hb
      have key : ∀ g ∈ p.o, g.n + T ≤ n ∨ g.t = s.x := fun g hg => by
        obtain ⟨h1, h2, h3⟩ := h.fr g hg
        rcases h3 with h3 | ⟨h3, h4⟩
        · exact Or.inl (by omega)
        · rcases b4 with b4 | b4 | ⟨b4, b5⟩
          · omega
          · exact Or.inr (by omega)
          · exact Or.inl (by omega)
      have key2 : ∀ g ∈ p.o, g.e ≤ s.e ∧ (g.e = s.e → g.t = s.x) := fun g hg => by
        obtain ⟨h1, h2, h3⟩ := h.ep g hg
        have h4 := (h.fr g hg).2.1
        refine ⟨by omega, fun e => ?_⟩
        have := h3 (by omega)
        omega
      refine ⟨by show 0 ≤ n; omega, e0, e16, ⟨by show -1 ≤ s.x; omega, by show s.x < 4; omega⟩, ⟨by show 0 ≤ n + T; omega, Int.le_refl _⟩, ⟨h.w.1, by have := h.w.2; show p.v.w ≤ n + T; omega⟩,
        fun g hg => ?_, fun g hg => ?_, fun a ha => by have := h.ag a ha; show a ≤ n ∧ a + T ≤ p.v.w; omega, ?_, ?_, fun g hg a ha => ?_⟩
      · show g.n ≤ n ∧ 0 ≤ g.t ∧ (g.n + T ≤ n ∨ g.t = s.x ∧ (g.n + T ≤ n + T ∨ g.n + T ≤ p.v.w))
        rcases List.mem_append.1 hg with hg | hg
        · have h1 := (h.fr g hg).1
          have h2 := (h.fr g hg).2.1
          refine ⟨by omega, h2, ?_⟩
          rcases key g hg with h3 | h3
          · exact Or.inl h3
          · exact Or.inr ⟨h3, Or.inl (by omega)⟩
        · rw [List.mem_singleton] at hg
          subst hg
          exact ⟨Int.le_refl _, x0, Or.inr ⟨rfl, Or.inl (Int.le_refl _)⟩⟩
      · show g.e ≤ s.e ∧ ¬ g.e = 0 ∧ (g.e = s.e → g.t = s.x)
        rcases List.mem_append.1 hg with hg | hg
        · exact ⟨(key2 g hg).1, (h.ep g hg).2.1, (key2 g hg).2⟩
        · rw [List.mem_singleton] at hg
          subst hg
          exact ⟨Int.le_refl _, b3, fun _ => rfl⟩
      · refine pairwise_snoc h.once fun g hg ne => ?_
        show g.n + T ≤ n
        rcases key g hg with h3 | h3
        · exact h3
        · exact absurd h3 ne
      · exact pairwise_snoc h.rise fun g hg => key2 g hg
      · rcases List.mem_append.1 hg with hg | hg
        · exact h.wait g hg a ha
        · rw [List.mem_singleton] at hg
          subst hg
          have := h.ag a ha
          exact Or.inr (by show a + T ≤ n; omega)
theorem pyI_all {T : Int} (hT : 0 < T) {l : List Sp} (hl : ∀ s ∈ l, SpO s) : ∀ i, i ≤ l.length → PyI T (plyP T l i)
  | 0, _ => pyI_zero hT
  | i + 1, hi => by
    rw [plyP_succ]
    refine pyI_step hT (pyI_all hT hl i (by omega)) ?_
    rw [sp_lt l (by omega)]
    exact hl _ (List.getElem_mem _)
/-- How late it is at the most. -/
theorem plyP_now {T : Int} {l : List Sp} (hl : ∀ s ∈ l, SpO s) : ∀ i, i ≤ l.length → (plyP T l i).n ≤ 15 * i
  | 0, _ => by show (0 : Int) ≤ 15 * ((0 : Nat) : Int); omega
  | i + 1, hi => by
    have h := plyP_now hl i (T := T) (by omega)
    have hs := hl _ (List.getElem_mem (show i < l.length by omega))
    rw [← sp_lt l (by omega)] at hs
    have := hs.d16
    have e : (plyP T l (i + 1)).n = (plyP T l i).n + (sp l i).d := by
      rw [plyP_succ]
      unfold stepP
      split <;> rfl
    rw [e]
    omega
/-- No more than a grant, and a restart, a step. -/
theorem plyP_few (T : Int) (l : List Sp) : ∀ i, (plyP T l i).o.length ≤ i ∧ (plyP T l i).a.length ≤ i
  | 0 => ⟨Nat.le_refl 0, Nat.le_refl 0⟩
  | i + 1 => by
    have h := plyP_few T l i
    rw [plyP_succ]
    unfold stepP
    split
    · exact ⟨Nat.le_succ_of_le h.1, by show ((plyP T l i).a ++ [_]).length ≤ i + 1; rw [List.length_append]; simp only [List.length_singleton]; omega⟩
    · refine ⟨?_, Nat.le_succ_of_le h.2⟩
      show (if _ then (plyP T l i).o ++ [_] else (plyP T l i).o).length ≤ i + 1
      split
      · rw [List.length_append]; simp only [List.length_singleton]; omega
      · omega
/-- The times at which it begins again, as they are reckoned by the way. -/
theorem plyP_again (T : Int) (l : List Sp) (i : Nat) : (plyP T l (i + 1)).n = (plyP T l i).n + (sp l i).d ∧
    (plyP T l (i + 1)).a = if (sp l i).ag = true then (plyP T l i).a ++ [(plyP T l i).n + (sp l i).d] else (plyP T l i).a := by
  rw [plyP_succ]
  unfold stepP
  split <;> exact ⟨rfl, rfl⟩
/-- What stands there stays there. -/
theorem plyP_prefix (T : Int) (l : List Sp) (i : Nat) : ∀ j, i ≤ j → (plyP T l i).a <+: (plyP T l j).a
  | 0, h => by have : i = 0 := by omega
               subst this; exact List.prefix_refl _
  | j + 1, h => by
    rcases Nat.lt_or_ge i (j + 1) with hc | hc
    · refine (plyP_prefix T l i j (by omega)).trans ?_
      rw [(plyP_again T l j).2]
      split
      · exact List.prefix_append _ _
      · exact List.prefix_refl _
    · have : i = j + 1 := by omega
      subst this; exact List.prefix_refl _
theorem plyP_at (T : Int) (l : List Sp) {i k : Nat} (hi : i < k) (ha : (sp l i).ag = true) :
    (plyP T l k).a[(plyP T l i).a.length]? = some ((plyP T l i).n + (sp l i).d) := by
  have h := plyP_prefix T l (i + 1) k (by omega)
  rw [(plyP_again T l i).2, if_pos ha] at h
  obtain ⟨r, e⟩ := h
  rw [← e]
  simp

/-! ### as many ticks later -/
def addV (by_ : Int) (v : Vt) : Vt := ⟨v.e, v.t, v.u + by_, v.w + by_⟩
theorem grB_later (b : Int) (v : Vt) (x e n : Int) : grB (addV b v) x e (n + b) = grB v x e n := by
  have h1 := grB_iff (addV b v) x e (n + b)
  have h2 := grB_iff v x e n
  have h3 : (v.w + b ≤ n + b ∧ v.e ≤ e ∧ ¬ e = 0 ∧ (v.t = -1 ∨ v.t = x ∨ v.e < e ∧ v.u + b ≤ n + b)) ↔ (v.w ≤ n ∧ v.e ≤ e ∧ ¬ e = 0 ∧ (v.t = -1 ∨ v.t = x ∨ v.e < e ∧ v.u ≤ n)) := by omega
  exact Bool.eq_iff_iff.2 (h1.trans (h3.trans h2.symm))
theorem askV_later (T b : Int) (v : Vt) (x e n : Int) : askV T (addV b v) x e (n + b) = addV b (askV T v x e n) := by
  cases h : grB v x e n with
  | false => rw [askV_no h, askV_no (by rw [grB_later, h])]
  | true =>
    rw [askV_yes h, askV_yes (by rw [grB_later, h])]
    unfold addV
    simp only [Vt.mk.injEq, true_and]
    refine ⟨by omega, trivial⟩
/-- The same one, for the same epoch, again; another one for a later epoch, while it lasts: not. -/
theorem askV_again {T : Int} {v : Vt} {x e n : Int} (h : grB v x e n = true) : grB (askV T v x e n) x e (n + 1) = true ∧ askV T (askV T v x e n) x e (n + 1) = ⟨e, x, n + 1 + T, v.w⟩ := by
  obtain ⟨b1, b2, b3, b4⟩ := (grB_iff _ _ _ _).1 h
  have : grB (askV T v x e n) x e (n + 1) = true := by
    rw [askV_yes h, grB_iff]
    exact ⟨by show v.w ≤ n + 1; omega, Int.le_refl _, b3, Or.inr (Or.inl rfl)⟩
  exact ⟨this, by rw [askV_yes this, askV_yes h]⟩
theorem askV_other {T : Int} {v : Vt} {x y e f n : Int} (h : grB v x e n = true) (hx : ¬ x = -1) (hy : ¬ x = y) : grB (askV T v x e n) y f (n + T - 1) = false := by
  cases hg : grB (askV T v x e n) y f (n + T - 1) with
  | false => rfl
  | true =>
    rw [askV_yes h, grB_iff] at hg
    obtain ⟨_, _, _, h4⟩ := hg
    rcases h4 with h4 | h4 | ⟨_, h4⟩
    · exact absurd h4 hx
    · exact absurd h4 hy
    · have : n + T ≤ n + T - 1 := h4
      omega
end Go.Proofs.Ytlefnohcfnlejaa.Pure
