/-
  What moves make of what is put, and back; what follows of both; two lists gone through at once: as mathematics. Nothing of the program is imported.
-/
import Derived.Test.YtdbndkccgpmkbaaPm
namespace Go.Proofs.Ytdbndkccgpmkbaa.Pure

/-! ### what moves make of one -/
def goP : List Mv → Int → ByteArray → Int
  | [], d, _ => d
  | m :: r, d, t => if m.t = t then m.g else goP r d t
theorem goP_not {l : List Mv} {d : Int} {t : ByteArray} (h : ∀ m ∈ l, ¬ m.t = t) : goP l d t = d := by
  induction l with
  | nil => rfl
  | cons p r ih =>
    unfold goP
    rw [if_neg (h p (List.mem_cons_self ..))]
    exact ih fun q hq => h q (List.mem_cons_of_mem _ hq)
theorem goP_mem {l : List Mv} (hr : RiseK (l.map (·.t))) {m : Mv} (hm : m ∈ l) (d : Int) : goP l d m.t = m.g := by
  induction l with
  | nil => cases hm
  | cons q r ih =>
    rw [List.map_cons, riseK_cons] at hr
    unfold goP
    rcases List.mem_cons.1 hm with rfl | hm
    · rw [if_pos rfl]
    · rw [if_neg (ltS_ne (hr.1 _ (List.mem_map_of_mem hm)))]
      exact ih hr.2 hm
theorem goP_cases (l : List Mv) (d : Int) (t : ByteArray) : (∃ m ∈ l, m.t = t ∧ goP l d t = m.g) ∨ (∀ m ∈ l, ¬ m.t = t) ∧ goP l d t = d := by
  induction l with
  | nil => exact Or.inr ⟨fun p hp => (by cases hp), rfl⟩
  | cons q r ih =>
    by_cases e : q.t = t
    · exact Or.inl ⟨q, List.mem_cons_self .., e, by unfold goP; rw [if_pos e]⟩
    · rcases ih with ⟨p, hp, h1, h2⟩ | ⟨h1, h2⟩
      · exact Or.inl ⟨p, List.mem_cons_of_mem _ hp, h1, by unfold goP; rw [if_neg e]; exact h2⟩
      · refine Or.inr ⟨fun p hp => ?_, by unfold goP; rw [if_neg e]; exact h2⟩
        rcases List.mem_cons.1 hp with rfl | hp
        · exact e
        · exact h1 p hp
def apF (a : List Pu) (l : List Mv) (t : ByteArray) : Option Pu := if 0 ≤ goP l (atP a t) t then some ⟨t, goP l (atP a t) t⟩ else none
def namL (a : List Pu) (l : List Mv) : List ByteArray := uniK (a.map (·.t) ++ l.map (·.t))
def apP (a : List Pu) (l : List Mv) : List Pu := (namL a l).filterMap (apF a l)
theorem apF_key {a : List Pu} {l : List Mv} (t : ByteArray) (x : Pu) (h : apF a l t = some x) : x.t = t := by
  unfold apF at h
  split at h
  · injection h with h; rw [← h]
  · cases h
theorem apP_rise (a : List Pu) (l : List Mv) : RiseK ((apP a l).map (·.t)) := riseK_filterMap (fun t x h => apF_key t x h) (uniK_rise _)
theorem apP_mem (a : List Pu) (l : List Mv) (p : Pu) : p ∈ apP a l ↔ 0 ≤ p.n ∧ goP l (atP a p.t) p.t = p.n := by
  unfold apP
  rw [List.mem_filterMap]
  constructor
  · rintro ⟨t, _, h⟩
    have e := apF_key t p h
    subst e
    unfold apF at h
    split at h
    · rename_i h0
      injection h with h
      have e2 : goP l (atP a p.t) p.t = p.n := congrArg Pu.n h
      exact ⟨by omega, e2⟩
    · cases h
  · intro h12
    have h1 := h12.1
    have h2 := h12.2
    refine ⟨p.t, ?_, ?_⟩
    · unfold namL
      rw [uniK_mem, List.mem_append]
      rcases atP_cases a p.t with ⟨q, hq, e, _⟩ | ⟨_, e⟩
      · exact Or.inl (e ▸ List.mem_map_of_mem hq)
      · rcases goP_cases l (atP a p.t) p.t with ⟨q, hq, e, _⟩ | ⟨_, e2⟩
        · exact Or.inr (e ▸ List.mem_map_of_mem hq)
        · omega
    · unfold apF
      rw [if_pos (by omega)]
      cases p
      simp only at h2 ⊢
      rw [h2]
theorem apP_lo (a : List Pu) (l : List Mv) : ∀ p ∈ apP a l, 0 ≤ p.n := fun p hp => ((apP_mem a l p).1 hp).1
theorem apP_at {a : List Pu} {l : List Mv} (la : ∀ p ∈ a, 0 ≤ p.n) (ll : ∀ m ∈ l, -1 ≤ m.g) (t : ByteArray) : atP (apP a l) t = goP l (atP a t) t := by
  have hg : -1 ≤ goP l (atP a t) t := by
    rcases goP_cases l (atP a t) t with ⟨m, hm, _, e⟩ | ⟨_, e⟩
    · have := ll m hm; omega
    · have := atP_lo la t; omega
  rcases atP_cases (apP a l) t with ⟨p, hp, e, e2⟩ | ⟨h, e⟩
  · have := ((apP_mem a l p).1 hp).2
    rw [e] at this
    rw [e2, this]
  · rcases Int.lt_or_le (goP l (atP a t) t) 0 with hc | hc
    · omega
    · exact absurd rfl (h ⟨t, goP l (atP a t) t⟩ ((apP_mem a l _).2 ⟨hc, rfl⟩))
theorem apP_ok {Nm : ByteArray → Prop} {a : List Pu} {l : List Mv} (ha : OkP Nm a) (hl : OkM Nm l) (h : (apP a l).length ≤ 100) : OkP Nm (apP a l) where
  len := h
  rise := apP_rise a l
  nm p hp := by
    have h := (apP_mem a l p).1 hp
    rcases goP_cases l (atP a p.t) p.t with ⟨m, hm, e, _⟩ | ⟨_, e⟩
    · exact e ▸ hl.nm m hm
    · rcases atP_cases a p.t with ⟨q, hq, e2, _⟩ | ⟨_, e2⟩
      · exact e2 ▸ ha.nm q hq
      · omega
  lo := apP_lo a l
  hi p hp := by
    have h := (apP_mem a l p).1 hp
    rcases goP_cases l (atP a p.t) p.t with ⟨m, hm, e, e2⟩ | ⟨_, e⟩
    · have := hl.ghi m hm; omega
    · have := atP_hi ha.hi p.t; omega
theorem apP_nil {a : List Pu} (hr : RiseK (a.map (·.t))) (la : ∀ p ∈ a, 0 ≤ p.n) : apP a [] = a :=
  puts_ext (apP_rise a []) hr (apP_lo a []) la fun t => apP_at la (fun m hm => (by cases hm)) t
/-- Is a task not where it is moved from? -/
def staB (a : List Pu) (l : List Mv) : Bool := l.any fun m => decide (¬ m.f = atP a m.t)
theorem staB_no (a : List Pu) (l : List Mv) : staB a l = false ↔ ∀ m ∈ l, m.f = atP a m.t := by
  unfold staB
  rw [List.any_eq_false]
  simp only [decide_eq_true_eq, Decidable.not_not]
theorem staB_yes (a : List Pu) (l : List Mv) : staB a l = true ↔ ∃ m ∈ l, ¬ m.f = atP a m.t := by
  unfold staB
  rw [List.any_eq_true]
  simp only [decide_eq_true_eq]
/-- And back. -/
def backM (m : Mv) : Mv := ⟨m.t, m.g, m.f⟩
def backP (l : List Mv) : List Mv := l.map backM
theorem backP_len (l : List Mv) : (backP l).length = l.length := List.length_map ..
theorem backP_keys (l : List Mv) : (backP l).map (·.t) = l.map (·.t) := by
  unfold backP
  rw [List.map_map]
  rfl
theorem backP_twice (l : List Mv) : backP (backP l) = l := by
  unfold backP
  rw [List.map_map]
  exact (List.map_congr_left fun m _ => rfl).trans (List.map_id l)
theorem backP_mem (l : List Mv) (m : Mv) : m ∈ backP l ↔ backM m ∈ l := by
  constructor
  · intro h
    obtain ⟨k, hk, e⟩ := List.mem_map.1 h
    rw [← e]; exact hk
  · intro h
    exact List.mem_map.2 ⟨backM m, h, rfl⟩
theorem backP_ok {Nm : ByteArray → Prop} {l : List Mv} (h : OkM Nm l) : OkM Nm (backP l) where
  len := by rw [backP_len]; exact h.len
  rise := by rw [backP_keys]; exact h.rise
  nm m hm := h.nm (backM m) ((backP_mem l m).1 hm)
  flo m hm := h.glo (backM m) ((backP_mem l m).1 hm)
  fhi m hm := h.ghi (backM m) ((backP_mem l m).1 hm)
  glo m hm := h.flo (backM m) ((backP_mem l m).1 hm)
  ghi m hm := h.fhi (backM m) ((backP_mem l m).1 hm)
  ne m hm := fun e => h.ne _ ((backP_mem l m).1 hm) e.symm

/-! ### one comes to be the other -/
theorem difP_back (a b : List Pu) : difP b a = backP (difP a b) :=
  riseK_ext (·.t) (difP_rise b a) (by rw [backP_keys]; exact difP_rise a b) fun m => by
    rw [backP_mem, difP_mem, difP_mem]
    constructor
    · exact fun h => ⟨h.2.1, h.1, fun e => h.2.2 e.symm⟩
    · exact fun h => ⟨h.2.1, h.1, fun e => h.2.2 e.symm⟩
theorem difP_fresh (a b : List Pu) : staB a (difP a b) = false := (staB_no _ _).2 fun m hm => ((difP_mem a b m).1 hm).1
theorem goP_difP (a b : List Pu) (t : ByteArray) : goP (difP a b) (atP a t) t = atP b t := by
  rcases goP_cases (difP a b) (atP a t) t with ⟨m, hm, e, e2⟩ | ⟨h, e⟩
  · rw [e2, ((difP_mem a b m).1 hm).2.1, e]
  · rw [e]
    by_cases e3 : atP a t = atP b t
    · exact e3
    · exact absurd rfl (h ⟨t, atP a t, atP b t⟩ ((difP_mem a b _).2 ⟨rfl, rfl, e3⟩))
theorem difP_makes {a b : List Pu} (la : ∀ p ∈ a, 0 ≤ p.n) (hb : RiseK (b.map (·.t))) (lb : ∀ p ∈ b, 0 ≤ p.n) : apP a (difP a b) = b :=
  puts_ext (apP_rise _ _) hb (apP_lo _ _) lb fun t => by
    rw [apP_at la (fun m hm => by rw [((difP_mem a b m).1 hm).2.1]; exact atP_lo lb _), goP_difP]
theorem difP_unmakes {a b : List Pu} (ha : RiseK (a.map (·.t))) (la : ∀ p ∈ a, 0 ≤ p.n) (lb : ∀ p ∈ b, 0 ≤ p.n) : staB b (backP (difP a b)) = false ∧ apP b (backP (difP a b)) = a := by
  rw [← difP_back]
  exact ⟨difP_fresh b a, difP_makes lb ha la⟩
/-- Without any one of them it does not come to be. -/
theorem difP_less {a b : List Pu} (la : ∀ p ∈ a, 0 ≤ p.n) (lb : ∀ p ∈ b, 0 ≤ p.n) {k : Nat} (hk : k < (difP a b).length) :
    staB a ((difP a b).take k ++ (difP a b).drop (k + 1)) = false ∧ ¬ apP a ((difP a b).take k ++ (difP a b).drop (k + 1)) = b ∧ ¬ a = b := by
  have hs : ∀ m, m ∈ (difP a b).take k ++ (difP a b).drop (k + 1) → m ∈ difP a b := by
    intro m hm
    rcases List.mem_append.1 hm with h | h
    · exact List.mem_of_mem_take h
    · exact List.mem_of_mem_drop h
  have hm := (difP_mem a b _).1 (List.getElem_mem hk)
  refine ⟨(staB_no _ _).2 fun m h => ((difP_mem a b m).1 (hs m h)).1, ?_, fun e => ?_⟩
  · intro e
    have h1 := apP_at (l := (difP a b).take k ++ (difP a b).drop (k + 1)) la (fun m h => by rw [((difP_mem a b m).1 (hs m h)).2.1]; exact atP_lo lb _) (difP a b)[k].t
    rw [e, goP_not] at h1
    · exact hm.2.2 (by rw [hm.1, hm.2.1, h1])
    · intro m h e2
      have hn := List.pairwise_iff_getElem.1 (difP_rise a b)
      rcases List.mem_append.1 h with h | h
      · obtain ⟨j, hj, rfl⟩ := List.mem_iff_getElem.1 h
        rw [List.length_take] at hj
        rw [List.getElem_take] at e2
        have h3 := hn j k (by rw [List.length_map]; omega) (by rw [List.length_map]; exact hk) (by omega)
        rw [List.getElem_map, List.getElem_map] at h3
        exact ltS_ne h3 e2
      · obtain ⟨j, hj, rfl⟩ := List.mem_iff_getElem.1 h
        rw [List.length_drop] at hj
        rw [List.getElem_drop] at e2
        have h3 := hn k (k + 1 + j) (by rw [List.length_map]; omega) (by rw [List.length_map]; omega) (by omega)
        rw [List.getElem_map, List.getElem_map] at h3
        exact ltS_ne h3 e2.symm
  · subst e
    exact hm.2.2 (hm.1.trans hm.2.1.symm)
theorem less_ok {Nm : ByteArray → Prop} {l : List Mv} (h : OkM Nm l) (k : Nat) : OkM Nm (l.take k ++ l.drop (k + 1)) := by
  have hsub : (l.take k ++ l.drop (k + 1)).Sublist l := by
    have h1 : (l.take k ++ l.drop (k + 1)).Sublist (l.take k ++ l.drop k) := by
      refine List.Sublist.append (List.Sublist.refl _) ?_
      rw [show k + 1 = 1 + k by omega, ← List.drop_drop]
      first
        | exact List.drop_sublist _ _
        | (rw [List.drop_drop, Nat.add_comm, ← List.drop_drop]; exact List.drop_sublist _ _)
    rwa [List.take_append_drop] at h1
  exact ⟨Nat.le_trans hsub.length_le h.len, riseK_sub h.rise hsub, fun m hm => h.nm m (hsub.subset hm), fun m hm => h.flo m (hsub.subset hm), fun m hm => h.fhi m (hsub.subset hm),
    fun m hm => h.glo m (hsub.subset hm), fun m hm => h.ghi m (hsub.subset hm), fun m hm => h.ne m (hsub.subset hm)⟩
/-- What was moved is not where it was. -/
theorem apP_stale {a : List Pu} {l : List Mv} (la : ∀ p ∈ a, 0 ≤ p.n) (hr : RiseK (l.map (·.t))) (ll : ∀ m ∈ l, -1 ≤ m.g) (hn : ∀ m ∈ l, ¬ m.f = m.g) (h : ¬ l = []) : staB (apP a l) l = true := by
  cases l with
  | nil => exact absurd rfl h
  | cons m r =>
    refine (staB_yes _ _).2 ⟨m, List.mem_cons_self .., ?_⟩
    rw [apP_at la ll, goP_mem hr (List.mem_cons_self ..)]
    exact hn m (List.mem_cons_self ..)
/-- Moves applied, and then back. -/
theorem apP_back {a : List Pu} {l : List Mv} (ha : RiseK (a.map (·.t))) (la : ∀ p ∈ a, 0 ≤ p.n) (hr : RiseK (l.map (·.t))) (ll : ∀ m ∈ l, -1 ≤ m.g) (lf : ∀ m ∈ l, -1 ≤ m.f) (hs : staB a l = false) :
    staB (apP a l) (backP l) = false ∧ apP (apP a l) (backP l) = a := by
  have hs := (staB_no _ _).1 hs
  constructor
  · refine (staB_no _ _).2 fun m hm => ?_
    have h1 := (backP_mem l m).1 hm
    rw [apP_at la ll]
    have h2 := goP_mem hr h1 (atP a m.t)
    exact h2.symm
  · refine puts_ext (apP_rise _ _) ha (apP_lo _ _) la fun t => ?_
    rw [apP_at (apP_lo _ _) (fun m hm => lf _ ((backP_mem l m).1 hm)), apP_at la ll]
    rcases goP_cases (backP l) (goP l (atP a t) t) t with ⟨m, hm, e, e2⟩ | ⟨h, e⟩
    · have h1 := (backP_mem l m).1 hm
      have h2 : m.g = atP a m.t := hs _ h1
      rw [e2, h2, e]
    · rw [e, goP_not]
      intro m hm e3
      exact h (backM m) ((backP_mem l _).2 hm) e3
/-- From one to a second, and to a third. -/
theorem difP_through {a b c : List Pu} {m : Mv} (hm : m ∈ difP a c) : (∃ k ∈ difP a b, k.t = m.t) ∨ ∃ k ∈ difP b c, k.t = m.t := by
  have h := (difP_mem a c m).1 hm
  by_cases e : atP a m.t = atP b m.t
  · refine Or.inr ⟨⟨m.t, atP b m.t, atP c m.t⟩, (difP_mem b c _).2 ⟨rfl, rfl, ?_⟩, rfl⟩
    intro e2
    exact h.2.2 (by rw [h.1, h.2.1, e]; exact e2)
  · exact Or.inl ⟨⟨m.t, atP a m.t, atP b m.t⟩, (difP_mem a b _).2 ⟨rfl, rfl, e⟩, rfl⟩
theorem difP_fewer (a b c : List Pu) : (difP a c).length ≤ (difP a b).length + (difP b c).length := by
  have h := (riseK_nodup (difP_rise a c)).length_le_of_subset (l₂ := (difP a b).map (·.t) ++ (difP b c).map (·.t)) fun t ht => by
    obtain ⟨m, hm, rfl⟩ := List.mem_map.1 ht
    rw [List.mem_append]
    rcases difP_through (b := b) hm with ⟨k, hk, e⟩ | ⟨k, hk, e⟩
    · exact Or.inl (e ▸ List.mem_map_of_mem hk)
    · exact Or.inr (e ▸ List.mem_map_of_mem hk)
  simpa using h

/-! ### two lists gone through at once -/
theorem uniK_lt {x : ByteArray} {l : List ByteArray} (h : ∀ y ∈ l, ltS x y = true) : uniK (x :: l) = x :: uniK l := by
  refine riseK_ext (fun x => x) (by simpa using uniK_rise _) ?_ fun y => ?_
  · simp only [List.map_id_fun', id_eq, riseK_cons]
    exact ⟨fun y hy => h y ((uniK_mem y l).1 hy), uniK_rise l⟩
  · rw [uniK_mem, List.mem_cons, List.mem_cons, uniK_mem]
theorem namK_nil : namK [] [] = [] := rfl
theorem difP_nil : difP [] [] = [] := rfl
theorem filterMap_off {β} {f g : ByteArray → Option β} {l : List ByteArray} (h : ∀ t ∈ l, f t = g t) : l.filterMap f = l.filterMap g := by
  induction l with
  | nil => rfl
  | cons t r ih =>
    rw [List.filterMap_cons, List.filterMap_cons, h t (List.mem_cons_self ..), ih fun s hs => h s (List.mem_cons_of_mem _ hs)]
theorem atP_off {p : Pu} {a : List Pu} {t : ByteArray} (h : ¬ p.t = t) : atP (p :: a) t = atP a t := by
  show (if p.t = t then p.n else atP a t) = atP a t
  rw [if_neg h]
theorem atP_on {p : Pu} {a : List Pu} {t : ByteArray} (h : p.t = t) : atP (p :: a) t = p.n := by
  show (if p.t = t then p.n else atP a t) = p.n
  rw [if_pos h]
theorem atP_below {l : List Pu} {t : ByteArray} (h : ∀ p ∈ l, ltS t p.t = true) : atP l t = -1 := atP_not fun p hp e => ltS_ne (h p hp) e.symm
theorem namK_above {x : ByteArray} {a b : List Pu} (ha : ∀ p ∈ a, ltS x p.t = true) (hb : ∀ p ∈ b, ltS x p.t = true) : ∀ t ∈ a.map (·.t) ++ b.map (·.t), ltS x t = true := by
  intro t ht
  rcases List.mem_append.1 ht with h | h
  · obtain ⟨p, hp, rfl⟩ := List.mem_map.1 h
    exact ha p hp
  · obtain ⟨p, hp, rfl⟩ := List.mem_map.1 h
    exact hb p hp
theorem difP_lt {p : Pu} {a b : List Pu} (ha : ∀ q ∈ a, ltS p.t q.t = true) (hb : ∀ q ∈ b, ltS p.t q.t = true) (h0 : 0 ≤ p.n) : difP (p :: a) b = ⟨p.t, p.n, -1⟩ :: difP a b := by
  have hx := namK_above ha hb
  have e : namK (p :: a) b = p.t :: namK a b := uniK_lt hx
  unfold difP
  rw [e, List.filterMap_cons]
  have e1 : difF (p :: a) b p.t = some ⟨p.t, p.n, -1⟩ := by
    unfold difF
    rw [atP_on rfl, atP_below hb, if_neg (by omega)]
  rw [e1]
  refine congrArg _ (filterMap_off fun t ht => ?_)
  have := ltS_ne (hx t ((uniK_mem _ _).1 ht))
  unfold difF
  rw [atP_off this]
theorem difP_gt {q : Pu} {a b : List Pu} (ha : ∀ p ∈ a, ltS q.t p.t = true) (hb : ∀ p ∈ b, ltS q.t p.t = true) (h0 : 0 ≤ q.n) : difP a (q :: b) = ⟨q.t, -1, q.n⟩ :: difP a b := by
  have hx := namK_above ha hb
  have e : namK a (q :: b) = q.t :: namK a b := by
    unfold namK
    rw [← uniK_lt hx]
    refine uniK_cong fun x => ?_
    simp only [List.mem_append, List.mem_cons, List.map_cons]
    constructor
    · rintro (h | h | h) <;> simp [h]
    · rintro (h | h | h) <;> simp [h]
  unfold difP
  rw [e, List.filterMap_cons]
  have e1 : difF a (q :: b) q.t = some ⟨q.t, -1, q.n⟩ := by
    unfold difF
    rw [atP_on rfl, atP_below ha, if_neg (by omega)]
  rw [e1]
  refine congrArg _ (filterMap_off fun t ht => ?_)
  have := ltS_ne (hx t ((uniK_mem _ _).1 ht))
  unfold difF
  rw [atP_off this]
theorem difP_eq {p q : Pu} {a b : List Pu} (he : p.t = q.t) (ha : ∀ x ∈ a, ltS p.t x.t = true) (hb : ∀ x ∈ b, ltS p.t x.t = true) :
    difP (p :: a) (q :: b) = if p.n = q.n then difP a b else ⟨p.t, p.n, q.n⟩ :: difP a b := by
  have hx := namK_above ha hb
  have e : namK (p :: a) (q :: b) = p.t :: namK a b := by
    unfold namK
    rw [← uniK_lt hx]
    refine uniK_cong fun x => ?_
    simp only [List.mem_append, List.mem_cons, List.map_cons, ← he]
    constructor
    · rintro ((h | h) | h | h) <;> simp [h]
    · rintro (h | h | h) <;> simp [h]
  unfold difP
  rw [e, List.filterMap_cons]
  have er : (namK a b).filterMap (difF (p :: a) (q :: b)) = (namK a b).filterMap (difF a b) := filterMap_off fun t ht => by
    have := ltS_ne (hx t ((uniK_mem _ _).1 ht))
    unfold difF
    rw [atP_off this, atP_off (he ▸ this)]
  rw [er]
  by_cases e2 : p.n = q.n
  · have e1 : difF (p :: a) (q :: b) p.t = none := by
      unfold difF
      rw [atP_on rfl, atP_on he.symm, if_pos e2]
    rw [e1, if_pos e2]
  · have e1 : difF (p :: a) (q :: b) p.t = some ⟨p.t, p.n, q.n⟩ := by
      unfold difF
      rw [atP_on rfl, atP_on he.symm, if_neg e2]
    rw [e1, if_neg e2]

theorem goP_off {m : Mv} {l : List Mv} {d : Int} {t : ByteArray} (h : ¬ m.t = t) : goP (m :: l) d t = goP l d t := by
  show (if m.t = t then m.g else goP l d t) = goP l d t
  rw [if_neg h]
theorem goP_on {m : Mv} {l : List Mv} {d : Int} {t : ByteArray} (h : m.t = t) : goP (m :: l) d t = m.g := by
  show (if m.t = t then m.g else goP l d t) = m.g
  rw [if_pos h]
theorem goP_below {l : List Mv} {d : Int} {t : ByteArray} (h : ∀ m ∈ l, ltS t m.t = true) : goP l d t = d := goP_not fun m hm e => ltS_ne (h m hm) e.symm
theorem namL_above {x : ByteArray} {a : List Pu} {l : List Mv} (ha : ∀ p ∈ a, ltS x p.t = true) (hl : ∀ p ∈ l, ltS x p.t = true) : ∀ t ∈ a.map (·.t) ++ l.map (·.t), ltS x t = true := by
  intro t ht
  rcases List.mem_append.1 ht with h | h
  · obtain ⟨p, hp, rfl⟩ := List.mem_map.1 h
    exact ha p hp
  · obtain ⟨p, hp, rfl⟩ := List.mem_map.1 h
    exact hl p hp
theorem apP_lt {p : Pu} {a : List Pu} {l : List Mv} (ha : ∀ q ∈ a, ltS p.t q.t = true) (hl : ∀ m ∈ l, ltS p.t m.t = true) (h0 : 0 ≤ p.n) : apP (p :: a) l = p :: apP a l := by
  have hx := namL_above ha hl
  have e : namL (p :: a) l = p.t :: namL a l := uniK_lt hx
  unfold apP
  rw [e, List.filterMap_cons]
  have e1 : apF (p :: a) l p.t = some p := by
    unfold apF
    rw [atP_on rfl, goP_below hl, if_pos h0]
  rw [e1]
  refine congrArg _ (filterMap_off fun t ht => ?_)
  have := ltS_ne (hx t ((uniK_mem _ _).1 ht))
  unfold apF
  rw [atP_off this]
theorem apP_gt {m : Mv} {a : List Pu} {l : List Mv} (ha : ∀ q ∈ a, ltS m.t q.t = true) (hl : ∀ k ∈ l, ltS m.t k.t = true) :
    apP a (m :: l) = if 0 ≤ m.g then ⟨m.t, m.g⟩ :: apP a l else apP a l := by
  have hx := namL_above ha hl
  have e : namL a (m :: l) = m.t :: namL a l := by
    unfold namL
    rw [← uniK_lt hx]
    refine uniK_cong fun x => ?_
    simp only [List.mem_append, List.mem_cons, List.map_cons]
    constructor
    · rintro (h | h | h) <;> simp [h]
    · rintro (h | h | h) <;> simp [h]
  unfold apP
  rw [e, List.filterMap_cons]
  have er : (namL a l).filterMap (apF a (m :: l)) = (namL a l).filterMap (apF a l) := filterMap_off fun t ht => by
    have := ltS_ne (hx t ((uniK_mem _ _).1 ht))
    unfold apF
    rw [goP_off this]
  rw [er]
  by_cases h : 0 ≤ m.g
  · have e1 : apF a (m :: l) m.t = some ⟨m.t, m.g⟩ := by
      unfold apF
      rw [goP_on rfl, if_pos h]
    rw [e1, if_pos h]
  · have e1 : apF a (m :: l) m.t = none := by
      unfold apF
      rw [goP_on rfl, if_neg h]
    rw [e1, if_neg h]
theorem apP_eq {p : Pu} {m : Mv} {a : List Pu} {l : List Mv} (he : p.t = m.t) (ha : ∀ q ∈ a, ltS p.t q.t = true) (hl : ∀ k ∈ l, ltS p.t k.t = true) :
    apP (p :: a) (m :: l) = if 0 ≤ m.g then ⟨p.t, m.g⟩ :: apP a l else apP a l := by
  have hx := namL_above ha hl
  have e : namL (p :: a) (m :: l) = p.t :: namL a l := by
    unfold namL
    rw [← uniK_lt hx]
    refine uniK_cong fun x => ?_
    simp only [List.mem_append, List.mem_cons, List.map_cons, ← he]
    constructor
    · rintro ((h | h) | h | h) <;> simp [h]
    · rintro (h | h | h) <;> simp [h]
  unfold apP
  rw [e, List.filterMap_cons]
  have er : (namL a l).filterMap (apF (p :: a) (m :: l)) = (namL a l).filterMap (apF a l) := filterMap_off fun t ht => by
    have := ltS_ne (hx t ((uniK_mem _ _).1 ht))
    unfold apF
    rw [atP_off this, goP_off (he ▸ this)]
  rw [er]
  by_cases h : 0 ≤ m.g
  · have e1 : apF (p :: a) (m :: l) p.t = some ⟨p.t, m.g⟩ := by
      unfold apF
      rw [goP_on he.symm, if_pos h]
    rw [e1, if_pos h]
  · have e1 : apF (p :: a) (m :: l) p.t = none := by
      unfold apF
      rw [goP_on he.symm, if_neg h]
    rw [e1, if_neg h]
theorem any_cong {α} {l : List α} {f g : α → Bool} (h : ∀ x ∈ l, f x = g x) : l.any f = l.any g := by
  induction l with
  | nil => rfl
  | cons x r ih => rw [List.any_cons, List.any_cons, h x (List.mem_cons_self ..), ih fun y hy => h y (List.mem_cons_of_mem _ hy)]
theorem staB_lt {p : Pu} {a : List Pu} {l : List Mv} (hl : ∀ m ∈ l, ltS p.t m.t = true) : staB (p :: a) l = staB a l :=
  any_cong fun m hm => by rw [atP_off (ltS_ne (hl m hm))]
theorem staB_gt {m : Mv} {a : List Pu} {l : List Mv} (ha : ∀ q ∈ a, ltS m.t q.t = true) : staB a (m :: l) = (decide (¬ m.f = -1) || staB a l) := by
  unfold staB
  rw [List.any_cons, atP_below ha]
theorem staB_eq {p : Pu} {m : Mv} {a : List Pu} {l : List Mv} (he : p.t = m.t) (hl : ∀ k ∈ l, ltS p.t k.t = true) : staB (p :: a) (m :: l) = (decide (¬ m.f = p.n) || staB a l) := by
  unfold staB
  rw [List.any_cons, atP_on he]
  refine congrArg _ (any_cong fun k hk => ?_)
  rw [atP_off (ltS_ne (hl k hk))]
end Go.Proofs.Ytdbndkccgpmkbaa.Pure
