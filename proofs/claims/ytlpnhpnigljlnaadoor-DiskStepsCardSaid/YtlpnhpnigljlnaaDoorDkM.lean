/-
  A disk of two places: what it has, what is written, torn: as mathematics, over any way to lay down and to read a text of which no part is one.
-/
namespace Go.Proofs.YtlpnhpnigljlnaaDoor.Pure

/-- What is saved. -/
structure Sv where
  q : Int
  b : Int
  i : Int
  e : Int
  u : Int
deriving DecidableEq
structure Dk where
  a : ByteArray
  b : ByteArray
/-- To lay down, and to read: what is laid is read, what is read was laid; no part is read. -/
structure Wy (May : Sv → Prop) (lay : Sv → ByteArray) (P : ByteArray → Option Sv) : Prop where
  back : ∀ s, May s → P (lay s) = some s
  laid : ∀ t s, P t = some s → May s ∧ t = lay s
  part : ∀ s (c : Nat), May s → c < (lay s).size → P ⟨(lay s).data.take c⟩ = none
def secD (P : ByteArray → Option Sv) (d : Dk) : Bool :=
  match P d.b with
  | none => false
  | some y => match P d.a with
    | none => true
    | some x => decide (x.q < y.q)
def reaD (P : ByteArray → Option Sv) (d : Dk) : Option Sv := P (if secD P d = true then d.b else d.a)
def seqD (P : ByteArray → Option Sv) (d : Dk) : Int := match reaD P d with | none => 0 | some s => s.q
def nexD (P : ByteArray → Option Sv) (d : Dk) (s : Sv) : Sv := ⟨seqD P d + 1, s.b, s.i, s.e, s.u⟩
/-- The text put into the next place. -/
def intD (P : ByteArray → Option Sv) (d : Dk) (t : ByteArray) : Dk := if (reaD P d).isSome = true ∧ secD P d = false then ⟨d.a, t⟩ else ⟨t, d.b⟩
theorem rea_none {P : ByteArray → Option Sv} {d : Dk} (h : reaD P d = none) : P d.a = none ∧ P d.b = none := by
  unfold reaD secD at h
  cases hb : P d.b with
  | none =>
    rw [hb] at h
    simp only [Bool.false_eq_true, if_false] at h
    exact ⟨h, rfl⟩
  | some y =>
    rw [hb] at h
    cases ha : P d.a with
    | none =>
      rw [ha] at h
      simp only [if_true] at h
      rw [hb] at h; cases h
    | some x =>
      rw [ha] at h
      simp only at h
      split at h
      · rw [hb] at h; cases h
      · rw [ha] at h; cases h
/-- The three cases: nothing; in the first place; in the second one. -/
theorem rea_cases (P : ByteArray → Option Sv) (d : Dk) :
    (reaD P d = none ∧ P d.a = none ∧ P d.b = none ∧ ∀ t, intD P d t = ⟨t, d.b⟩) ∨
    (∃ s, reaD P d = some s ∧ P d.a = some s ∧ secD P d = false ∧ (∀ y, P d.b = some y → y.q ≤ s.q) ∧ ∀ t, intD P d t = ⟨d.a, t⟩) ∨
    (∃ s, reaD P d = some s ∧ P d.b = some s ∧ secD P d = true ∧ (∀ x, P d.a = some x → x.q < s.q) ∧ ∀ t, intD P d t = ⟨t, d.b⟩) := by
  cases hr : reaD P d with
  | none =>
    obtain ⟨h1, h2⟩ := rea_none hr
    exact Or.inl ⟨rfl, h1, h2, fun t => by unfold intD; rw [hr]; rfl⟩
  | some s =>
    refine Or.inr ?_
    cases hs : secD P d with
    | false =>
      refine Or.inl ⟨s, rfl, ?_, rfl, fun y hy => ?_, fun t => by unfold intD; rw [hr, hs]; rfl⟩
      · unfold reaD at hr
        rw [hs] at hr
        exact hr
      · unfold reaD at hr
        rw [hs] at hr
        have hr : P d.a = some s := hr
        unfold secD at hs
        rw [hy, hr] at hs
        have := of_decide_eq_false hs
        omega
    | true =>
      refine Or.inr ⟨s, rfl, ?_, rfl, fun x hx => ?_, fun t => by unfold intD; rw [hr, hs]; rfl⟩
      · unfold reaD at hr
        rw [hs] at hr
        exact hr
      · unfold reaD at hr
        rw [hs] at hr
        have hr : P d.b = some s := hr
        unfold secD at hs
        rw [hr, hx] at hs
        exact of_decide_eq_true hs
/-- What no text is put: what is read is what was read. -/
theorem rea_torn {P : ByteArray → Option Sv} {d : Dk} {t : ByteArray} (ht : P t = none) : reaD P (intD P d t) = reaD P d := by
  rcases rea_cases P d with ⟨h1, h2, h3, h4⟩ | ⟨s, h1, h2, h3, h4, h5⟩ | ⟨s, h1, h2, h3, h4, h5⟩
  · rw [h4, h1]
    unfold reaD secD
    simp only [h3, Bool.false_eq_true, if_false]
    exact ht
  · rw [h5, h1]
    unfold reaD secD
    simp only [ht, Bool.false_eq_true, if_false]
    exact h2
  · rw [h5, h1]
    unfold reaD secD
    simp only [h2, ht, if_true]
/-- What is written is read. -/
theorem rea_whole {P : ByteArray → Option Sv} {d : Dk} {t : ByteArray} {n : Sv} (ht : P t = some n) (hn : n.q = seqD P d + 1) : reaD P (intD P d t) = some n := by
  unfold seqD at hn
  rcases rea_cases P d with ⟨h1, h2, h3, h4⟩ | ⟨s, h1, h2, h3, h4, h5⟩ | ⟨s, h1, h2, h3, h4, h5⟩
  · rw [h4]
    unfold reaD secD
    simp only [h3, Bool.false_eq_true, if_false]
    exact ht
  · rw [h5]
    rw [h1] at hn
    have hd : decide (s.q < n.q) = true := decide_eq_true (by have : n.q = s.q + 1 := hn; omega)
    unfold reaD secD
    simp only [ht, h2, hd, if_true]
  · rw [h5]
    rw [h1] at hn
    have hd : decide (n.q < s.q) = false := decide_eq_false (by have : n.q = s.q + 1 := hn; omega)
    unfold reaD secD
    simp only [h2, ht, hd, Bool.false_eq_true, if_false]
/-- So many octets of it. -/
def cutD (t : ByteArray) (c : Nat) : ByteArray := if c < t.size then ⟨t.data.take c⟩ else t
def teaD (lay : Sv → ByteArray) (P : ByteArray → Option Sv) (d : Dk) (s : Sv) (c : Nat) : Dk := intD P d (cutD (lay (nexD P d s)) c)
/-- Before or behind, and nothing else. -/
theorem tears {May : Sv → Prop} {lay : Sv → ByteArray} {P : ByteArray → Option Sv} (w : Wy May lay P) {d : Dk} {s : Sv} (hm : May (nexD P d s)) (c : Nat) :
    (c < (lay (nexD P d s)).size ∧ reaD P (teaD lay P d s c) = reaD P d) ∨ ((lay (nexD P d s)).size ≤ c ∧ reaD P (teaD lay P d s c) = some (nexD P d s)) := by
  unfold teaD cutD
  by_cases h : c < (lay (nexD P d s)).size
  · rw [if_pos h]
    exact Or.inl ⟨h, rea_torn (w.part _ _ hm h)⟩
  · rw [if_neg h]
    exact Or.inr ⟨by omega, rea_whole (w.back _ hm) rfl⟩
/-- A torn text is another one: so the disk is another one, unless the part stood there. -/
theorem tea_same {lay : Sv → ByteArray} {P : ByteArray → Option Sv} {d : Dk} {s : Sv} {c : Nat} (h : (lay (nexD P d s)).size ≤ c) : teaD lay P d s c = intD P d (lay (nexD P d s)) := by
  unfold teaD cutD
  rw [if_neg (by omega)]
theorem int_inj {P : ByteArray → Option Sv} {d : Dk} {t u : ByteArray} (h : intD P d t = intD P d u) : t = u := by
  unfold intD at h
  split at h
  · injection h
  · injection h
theorem cut_ne {t : ByteArray} {c : Nat} (h : c < t.size) : ¬ cutD t c = t := by
  unfold cutD
  rw [if_pos h]
  intro e
  have := congrArg ByteArray.size e
  have h2 : (ByteArray.mk (t.data.take c)).size = min c t.data.size := by
    show (t.data.take c).size = _
    simp
  rw [h2] at this
  have h3 : t.size = t.data.size := rfl
  omega
/-- As the law asks: is the disk the whole one? -/
theorem tea_whole {lay : Sv → ByteArray} {P : ByteArray → Option Sv} {d : Dk} {s : Sv} {c m : Nat} (hm : (lay (nexD P d s)).size ≤ m) : teaD lay P d s c = teaD lay P d s m ↔ (lay (nexD P d s)).size ≤ c := by
  constructor
  · intro h
    rw [tea_same hm] at h
    rcases Nat.lt_or_ge c (lay (nexD P d s)).size with hc | hc
    · exact absurd (int_inj h) (cut_ne hc)
    · exact hc
  · intro h
    rw [tea_same h, tea_same hm]
/-- The place that has what is read stays. -/
theorem tea_about {P : ByteArray → Option Sv} {d : Dk} (t : ByteArray) : (reaD P d = none → (intD P d t).b = d.b) ∧ ((intD P d t).a = d.a ∨ (intD P d t).b = d.b) ∧
    (∀ s, reaD P d = some s → ((intD P d t).a = d.a ∧ P d.a = some s) ∨ ((intD P d t).b = d.b ∧ P d.b = some s)) := by
  rcases rea_cases P d with ⟨h1, h2, h3, h4⟩ | ⟨s, h1, h2, h3, h4, h5⟩ | ⟨s, h1, h2, h3, h4, h5⟩
  · rw [h4]
    exact ⟨fun _ => rfl, Or.inr rfl, fun s hs => by rw [h1] at hs; cases hs⟩
  · rw [h5]
    exact ⟨fun h => (by rw [h1] at h; cases h), Or.inl rfl, fun r hr => Or.inl ⟨rfl, by rw [h2, ← h1, hr]⟩⟩
  · rw [h5]
    exact ⟨fun _ => rfl, Or.inr rfl, fun r hr => Or.inr ⟨rfl, by rw [h2, ← h1, hr]⟩⟩
/-- Step by step: the numbers never fall. -/
theorem tea_seq {May : Sv → Prop} {lay : Sv → ByteArray} {P : ByteArray → Option Sv} (w : Wy May lay P) {d : Dk} {s : Sv} (hm : May (nexD P d s)) (c : Nat) : seqD P d ≤ seqD P (teaD lay P d s c) ∧ seqD P (teaD lay P d s c) ≤ seqD P d + 1 := by
  rcases tears w hm c with ⟨_, h⟩ | ⟨_, h⟩
  · have : seqD P (teaD lay P d s c) = seqD P d := by
      conv => lhs; unfold seqD
      rw [h]
      rfl
    omega
  · have : seqD P (teaD lay P d s c) = seqD P d + 1 := by
      conv => lhs; unfold seqD
      rw [h]
      rfl
    omega
end Go.Proofs.YtlpnhpnigljlnaaDoor.Pure
