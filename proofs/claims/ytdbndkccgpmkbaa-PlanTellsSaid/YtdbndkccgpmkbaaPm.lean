/-
  What is put, and what is moved: where two lists differ, what moves make of one, and back, as mathematics. Nothing of the program is imported.
-/
import Derived.Test.YtdbndkccgpmkbaaLm
import Derived.Test.YtdbndkccgpmkbaaStr
namespace Go.Proofs.Ytdbndkccgpmkbaa.Pure

/-! ### where a task is -/
def atP : List Pu → ByteArray → Int
  | [], _ => -1
  | p :: r, t => if p.t = t then p.n else atP r t
theorem atP_not {l : List Pu} {t : ByteArray} (h : ∀ p ∈ l, ¬ p.t = t) : atP l t = -1 := by
  induction l with
  | nil => rfl
  | cons p r ih =>
    unfold atP
    rw [if_neg (h p (List.mem_cons_self ..))]
    exact ih fun q hq => h q (List.mem_cons_of_mem _ hq)
theorem atP_mem {l : List Pu} (hr : RiseK (l.map (·.t))) {p : Pu} (hp : p ∈ l) : atP l p.t = p.n := by
  induction l with
  | nil => cases hp
  | cons q r ih =>
    rw [List.map_cons, riseK_cons] at hr
    unfold atP
    rcases List.mem_cons.1 hp with rfl | hp
    · rw [if_pos rfl]
    · rw [if_neg (ltS_ne (hr.1 _ (List.mem_map_of_mem hp)))]
      exact ih hr.2 hp
theorem atP_cases (l : List Pu) (t : ByteArray) : (∃ p ∈ l, p.t = t ∧ atP l t = p.n) ∨ (∀ p ∈ l, ¬ p.t = t) ∧ atP l t = -1 := by
  induction l with
  | nil => exact Or.inr ⟨fun p hp => (by cases hp), rfl⟩
  | cons q r ih =>
    by_cases e : q.t = t
    · exact Or.inl ⟨q, List.mem_cons_self .., e, by unfold atP; rw [if_pos e]⟩
    · rcases ih with ⟨p, hp, h1, h2⟩ | ⟨h1, h2⟩
      · exact Or.inl ⟨p, List.mem_cons_of_mem _ hp, h1, by unfold atP; rw [if_neg e]; exact h2⟩
      · refine Or.inr ⟨fun p hp => ?_, by unfold atP; rw [if_neg e]; exact h2⟩
        rcases List.mem_cons.1 hp with rfl | hp
        · exact e
        · exact h1 p hp
/-- What may be put, of names that may be. -/
structure OkP (Nm : ByteArray → Prop) (l : List Pu) : Prop where
  len : l.length ≤ 100
  rise : RiseK (l.map (·.t))
  nm : ∀ p ∈ l, Nm p.t
  lo : ∀ p ∈ l, 0 ≤ p.n
  hi : ∀ p ∈ l, p.n ≤ 63
theorem atP_lo {l : List Pu} (h : ∀ p ∈ l, 0 ≤ p.n) (t : ByteArray) : -1 ≤ atP l t := by
  rcases atP_cases l t with ⟨p, hp, _, e⟩ | ⟨_, e⟩
  · have := h p hp; omega
  · omega
theorem atP_hi {l : List Pu} (h : ∀ p ∈ l, p.n ≤ 63) (t : ByteArray) : atP l t ≤ 63 := by
  rcases atP_cases l t with ⟨p, hp, _, e⟩ | ⟨_, e⟩
  · have := h p hp; omega
  · omega
theorem mem_iff_atP {l : List Pu} (hr : RiseK (l.map (·.t))) (hl : ∀ p ∈ l, 0 ≤ p.n) (p : Pu) : p ∈ l ↔ 0 ≤ p.n ∧ atP l p.t = p.n := by
  constructor
  · exact fun hp => ⟨hl p hp, atP_mem hr hp⟩
  · intro h01
    have h0 := h01.1
    have h1 := h01.2
    rcases atP_cases l p.t with ⟨q, hq, h2, h3⟩ | ⟨_, h3⟩
    · have : q = p := by
        cases p; cases q
        simp only at h0 h1 h2 h3
        rw [h1] at h3
        rw [h2, ← h3]
      rwa [← this]
    · omega
theorem puts_ext {a b : List Pu} (ha : RiseK (a.map (·.t))) (hb : RiseK (b.map (·.t))) (la : ∀ p ∈ a, 0 ≤ p.n) (lb : ∀ p ∈ b, 0 ≤ p.n)
    (h : ∀ t, atP a t = atP b t) : a = b :=
  riseK_ext (·.t) ha hb fun p => by rw [mem_iff_atP ha la, mem_iff_atP hb lb, h]

/-! ### what differs -/
structure Mv where
  t : ByteArray
  f : Int
  g : Int
deriving DecidableEq
def zmv : Mv := ⟨⟨#[]⟩, 0, 0⟩
def mv (l : List Mv) (j : Nat) : Mv := l.getD j zmv
theorem mv_lt (l : List Mv) {j : Nat} (h : j < l.length) : mv l j = l[j] := by simp [mv, h]
/-- What may be moved, of names that may be. -/
structure OkM (Nm : ByteArray → Prop) (l : List Mv) : Prop where
  len : l.length ≤ 100
  rise : RiseK (l.map (·.t))
  nm : ∀ m ∈ l, Nm m.t
  flo : ∀ m ∈ l, -1 ≤ m.f
  fhi : ∀ m ∈ l, m.f ≤ 63
  glo : ∀ m ∈ l, -1 ≤ m.g
  ghi : ∀ m ∈ l, m.g ≤ 63
  ne : ∀ m ∈ l, ¬ m.f = m.g
def difF (a b : List Pu) (t : ByteArray) : Option Mv := if atP a t = atP b t then none else some ⟨t, atP a t, atP b t⟩
def namK (a b : List Pu) : List ByteArray := uniK (a.map (·.t) ++ b.map (·.t))
def difP (a b : List Pu) : List Mv := (namK a b).filterMap (difF a b)
theorem riseK_filterMap {β} {key : β → ByteArray} {f : ByteArray → Option β} (hf : ∀ t x, f t = some x → key x = t) :
    ∀ {l : List ByteArray}, RiseK l → RiseK ((l.filterMap f).map key)
  | [], _ => riseK_nil
  | t :: r, h => by
    have ih := riseK_filterMap hf (riseK_cons.1 h).2
    rw [List.filterMap_cons]
    split
    · exact ih
    · rename_i x hx
      rw [List.map_cons, riseK_cons]
      refine ⟨fun y hy => ?_, ih⟩
      obtain ⟨z, hz, rfl⟩ := List.mem_map.1 hy
      obtain ⟨s, hs, es⟩ := List.mem_filterMap.1 hz
      rw [hf _ _ hx, hf _ _ es]
      exact (riseK_cons.1 h).1 s hs
theorem difF_key {a b : List Pu} (t : ByteArray) (x : Mv) (h : difF a b t = some x) : x.t = t := by
  unfold difF at h
  split at h
  · cases h
  · injection h with h; rw [← h]
theorem difP_rise (a b : List Pu) : RiseK ((difP a b).map (·.t)) := riseK_filterMap (fun t x h => difF_key t x h) (uniK_rise _)
theorem difP_mem (a b : List Pu) (m : Mv) : m ∈ difP a b ↔ m.f = atP a m.t ∧ m.g = atP b m.t ∧ ¬ m.f = m.g := by
  unfold difP
  rw [List.mem_filterMap]
  constructor
  · rintro ⟨t, _, h⟩
    have e := difF_key t m h
    subst e
    unfold difF at h
    split at h
    · cases h
    · rename_i ne
      injection h with h
      rw [← h]
      exact ⟨rfl, rfl, ne⟩
  · rintro ⟨h1, h2, h3⟩
    refine ⟨m.t, ?_, ?_⟩
    · unfold namK
      rw [uniK_mem, List.mem_append]
      rcases atP_cases a m.t with ⟨p, hp, e, _⟩ | ⟨_, e⟩
      · exact Or.inl (e ▸ List.mem_map_of_mem hp)
      · rcases atP_cases b m.t with ⟨p, hp, e, _⟩ | ⟨_, e2⟩
        · exact Or.inr (e ▸ List.mem_map_of_mem hp)
        · omega
    · unfold difF
      rw [if_neg (by rw [← h1, ← h2]; exact h3)]
      cases m
      simp only at h1 h2 ⊢
      rw [← h1, ← h2]
theorem difP_name {a b : List Pu} {m : Mv} (h : m ∈ difP a b) : (∃ p ∈ a, p.t = m.t) ∨ ∃ p ∈ b, p.t = m.t := by
  have h := (difP_mem a b m).1 h
  rcases atP_cases a m.t with ⟨p, hp, e, _⟩ | ⟨_, e⟩
  · exact Or.inl ⟨p, hp, e⟩
  · rcases atP_cases b m.t with ⟨p, hp, e, _⟩ | ⟨_, e2⟩
    · exact Or.inr ⟨p, hp, e⟩
    · omega
theorem difP_ok {Nm : ByteArray → Prop} {a b : List Pu} (ha : OkP Nm a) (hb : OkP Nm b) (hl : (difP a b).length ≤ 100) : OkM Nm (difP a b) where
  len := hl
  rise := difP_rise a b
  nm m hm := by
    rcases difP_name hm with ⟨p, hp, e⟩ | ⟨p, hp, e⟩
    · exact e ▸ ha.nm p hp
    · exact e ▸ hb.nm p hp
  flo m hm := by rw [((difP_mem a b m).1 hm).1]; exact atP_lo ha.lo _
  fhi m hm := by rw [((difP_mem a b m).1 hm).1]; exact atP_hi ha.hi _
  glo m hm := by rw [((difP_mem a b m).1 hm).2.1]; exact atP_lo hb.lo _
  ghi m hm := by rw [((difP_mem a b m).1 hm).2.1]; exact atP_hi hb.hi _
  ne m hm := ((difP_mem a b m).1 hm).2.2
theorem difP_same (a : List Pu) : difP a a = [] := by
  rw [List.eq_nil_iff_forall_not_mem]
  intro m hm
  have h := (difP_mem a a m).1 hm
  exact h.2.2 (h.1.trans h.2.1.symm)
theorem difP_none {a b : List Pu} (ha : RiseK (a.map (·.t))) (hb : RiseK (b.map (·.t))) (la : ∀ p ∈ a, 0 ≤ p.n) (lb : ∀ p ∈ b, 0 ≤ p.n) (h : difP a b = []) : a = b :=
  puts_ext ha hb la lb fun t => by
    by_cases e : atP a t = atP b t
    · exact e
    · have := (difP_mem a b ⟨t, atP a t, atP b t⟩).2 ⟨rfl, rfl, e⟩
      rw [h] at this; cases this
end Go.Proofs.Ytdbndkccgpmkbaa.Pure
