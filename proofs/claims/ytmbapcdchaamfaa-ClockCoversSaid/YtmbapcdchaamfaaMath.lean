/-
  Beats, counts, ticks, near clocks, and a term's guard: plain mathematics, no memory.
-/
namespace Go.Proofs.Ytmbapcdchaamfaa.Pure

/-- A beat: whose, and what. -/
structure Bt where
  n : Int
  k : Int
/-- A count: ticks, falls, down. -/
structure Ct where
  t : Int
  f : Int
  d : Bool

def zb : Bt := ⟨0, 0⟩
def zc : Ct := ⟨0, 0, false⟩
/-- Beat i. -/
def bt (l : List Bt) (i : Nat) : Bt := l.getD i zb
/-- May such a beat come next? -/
def mayAt (c : Ct) (k : Int) : Bool := if k = 0 ∨ k = 1 then !c.d else if k = 2 then c.d else false
/-- The count behind one beat more. -/
def wth (c : Ct) (k : Int) : Ct := ⟨if k = 0 then c.t + 1 else c.t, if k = 0 then c.f else if k = 1 then c.f + 1 else c.f, k == 1⟩
/-- A node's count at a place. -/
def cntAt (l : List Bt) : Nat → Int → Ct
  | 0, _ => zc
  | i + 1, v => if (bt l i).n = v then wth (cntAt l i v) (bt l i).k else cntAt l i v
/-- Beat i may be. -/
def okAt (n : Int) (l : List Bt) (i : Nat) : Bool := decide (0 ≤ (bt l i).n) && decide ((bt l i).n < n) && mayAt (cntAt l i (bt l i).n) (bt l i).k
/-- May beats be? -/
def mayB (n : Int) (l : List Bt) : Bool := decide (1 ≤ n) && decide (n ≤ 64) && decide (l.length ≤ 400) && (List.range l.length).all (okAt n l)
def May (n : Int) (l : List Bt) : Prop := 1 ≤ n ∧ n ≤ 64 ∧ l.length ≤ 400 ∧ ∀ i, i < l.length → okAt n l i = true
theorem mayB_iff (n : Int) (l : List Bt) : mayB n l = true ↔ May n l := by
  unfold mayB May
  simp only [Bool.and_eq_true, decide_eq_true_eq, List.all_eq_true, List.mem_range, and_assoc]
theorem okAt_iff (n : Int) (l : List Bt) (i : Nat) : okAt n l i = true ↔ 0 ≤ (bt l i).n ∧ (bt l i).n < n ∧ mayAt (cntAt l i (bt l i).n) (bt l i).k = true := by
  unfold okAt
  simp only [Bool.and_eq_true, decide_eq_true_eq, and_assoc]

/-- Up, as the document tells it. -/
def upAt (l : List Bt) (v : Int) : Nat → Bool
  | 0 => true
  | i + 1 => if (bt l i).n = v ∧ (bt l i).k ≠ 0 then (bt l i).k == 2 else upAt l v i
/-- No beat but ticks, from a place on. -/
def quiet (l : List Bt) (v : Int) (a : Nat) : Nat → Bool
  | 0 => true
  | i + 1 => quiet l v a i && !(decide (a ≤ i) && decide ((bt l i).n = v) && decide ((bt l i).k ≠ 0))
/-- How many beats, from a place on. -/
def num (l : List Bt) (v : Int) (a : Nat) : Nat → Nat
  | 0 => 0
  | i + 1 => num l v a i + if a ≤ i ∧ (bt l i).n = v then 1 else 0

theorem quiet_before (l : List Bt) (v : Int) (a : Nat) : ∀ i, i ≤ a → quiet l v a i = true
  | 0, _ => rfl
  | i + 1, h => by
    unfold quiet
    rw [quiet_before l v a i (by omega)]
    have : decide (a ≤ i) = false := by simp; omega
    rw [this]
    rfl
theorem num_before (l : List Bt) (v : Int) (a : Nat) : ∀ i, i ≤ a → num l v a i = 0
  | 0, _ => rfl
  | i + 1, h => by
    unfold num
    rw [num_before l v a i (by omega), if_neg (by omega)]
theorem num_le (l : List Bt) (v : Int) (a : Nat) : ∀ i, num l v a i ≤ i
  | 0 => Nat.le_refl _
  | i + 1 => by
    have := num_le l v a i
    unfold num
    split <;> omega

/-- Does a node have ticks from one place to another one? -/
def tkB (l : List Bt) (v : Int) (a b : Nat) : Bool := !(cntAt l a v).d && ((cntAt l a v).f == (cntAt l b v).f)
/-- How many. -/
def tkV (l : List Bt) (v : Int) (a b : Nat) : Int := (cntAt l b v).t - (cntAt l a v).t

/-- Of beats that may be, down is not up. -/
theorem up_down {n : Int} {l : List Bt} : ∀ {i : Nat}, (∀ j, j < i → okAt n l j = true) → ∀ v, upAt l v i = !(cntAt l i v).d
  | 0, _, _ => rfl
  | i + 1, h, v => by
    have ih := up_down (i := i) (fun j hj => h j (by omega)) v
    have hi := ((okAt_iff n l i).1 (h i (by omega))).2.2
    unfold upAt cntAt
    by_cases e : (bt l i).n = v
    · rw [e] at hi
      simp only [e, true_and, if_true]
      unfold mayAt at hi
      unfold wth
      by_cases k0 : (bt l i).k = 0
      · simp [k0] at hi ⊢
        rw [ih, hi]; rfl
      · by_cases k1 : (bt l i).k = 1
        · simp [k1]
        · by_cases k2 : (bt l i).k = 2
          · simp [k2]
          · simp [k0, k1, k2] at hi
    · simp [e, ih]

/-- What counts tell. -/
theorem counts_tell {n : Int} {l : List Bt} {v : Int} {a : Nat} : ∀ {b : Nat}, a ≤ b → (∀ j, j < b → okAt n l j = true) →
    (cntAt l a v).f ≤ (cntAt l b v).f ∧ ((cntAt l a v).f = (cntAt l b v).f → (cntAt l a v).d = false → (cntAt l b v).d = false) ∧
    ((cntAt l a v).d = false → (quiet l v a b = true ↔ (cntAt l a v).f = (cntAt l b v).f)) ∧
    ((cntAt l a v).d = false → quiet l v a b = true → (cntAt l b v).t = (cntAt l a v).t + num l v a b)
  | 0, h, _ => by
    obtain rfl : a = 0 := by omega
    simp [quiet, num]
  | b + 1, h, hk => by
    by_cases hab : a = b + 1
    · subst hab
      rw [quiet_before _ _ _ _ (Nat.le_refl _), num_before _ _ _ _ (Nat.le_refl _)]
      simp
    · obtain ⟨i1, i2, i3, i4⟩ := counts_tell (n := n) (l := l) (v := v) (a := a) (b := b) (by omega) (fun j hj => hk j (by omega))
      have hi := ((okAt_iff n l b).1 (hk b (by omega))).2.2
      have hab' : a ≤ b := by omega
      by_cases e : (bt l b).n = v
      · rw [e] at hi
        have hc : cntAt l (b + 1) v = wth (cntAt l b v) (bt l b).k := by
          show (if (bt l b).n = v then wth (cntAt l b v) (bt l b).k else cntAt l b v) = _
          rw [if_pos e]
        have hq : quiet l v a (b + 1) = (quiet l v a b && !decide ((bt l b).k ≠ 0)) := by
          show (quiet l v a b && !(decide (a ≤ b) && decide ((bt l b).n = v) && decide ((bt l b).k ≠ 0))) = _
          rw [decide_eq_true hab', decide_eq_true e]
          rfl
        have hn : num l v a (b + 1) = num l v a b + 1 := by
          show num l v a b + (if a ≤ b ∧ (bt l b).n = v then 1 else 0) = _
          rw [if_pos ⟨hab', e⟩]
        rw [hc, hq, hn]
        generalize cntAt l b v = y at *
        generalize cntAt l a v = x at *
        generalize quiet l v a b = q at *
        generalize num l v a b = m at *
        generalize (bt l b).k = k at *
        obtain ⟨xt, xf, xd⟩ := x
        obtain ⟨yt, yf, yd⟩ := y
        unfold mayAt at hi
        unfold wth
        by_cases k0 : k = 0
        · subst k0
          simp at *
          refine ⟨i1, i3, fun h1 h2 => ?_⟩
          have := i4 h1 h2
          omega
        · by_cases k1 : k = 1
          · subst k1
            simp at *
            refine ⟨by omega, by omega, fun h1 => by omega⟩
          · by_cases k2 : k = 2
            · subst k2
              simp at *
              subst hi
              refine ⟨i1, fun h1 => ?_⟩
              intro h2
              have := i2 h2 h1
              cases this
            · simp [k0, k1, k2] at hi
      · have hc : cntAt l (b + 1) v = cntAt l b v := by
          show (if (bt l b).n = v then wth (cntAt l b v) (bt l b).k else cntAt l b v) = _
          rw [if_neg e]
        have hq : quiet l v a (b + 1) = quiet l v a b := by
          show (quiet l v a b && !(decide (a ≤ b) && decide ((bt l b).n = v) && decide ((bt l b).k ≠ 0))) = _
          rw [decide_eq_false e]
          simp
        have hn : num l v a (b + 1) = num l v a b := by
          show num l v a b + (if a ≤ b ∧ (bt l b).n = v then 1 else 0) = _
          rw [if_neg (fun h => e h.2)]
          rfl
        rw [hc, hq, hn]
        exact ⟨i1, i2, i3, i4⟩
theorem tkB_doc {n : Int} {l : List Bt} {v : Int} {a b : Nat} (h : a ≤ b) (hk : ∀ j, j < b → okAt n l j = true) : (upAt l v a && quiet l v a b) = tkB l v a b := by
  obtain ⟨_, _, i3, _⟩ := counts_tell (v := v) h hk
  rw [up_down (fun j hj => hk j (by omega)) v]
  unfold tkB
  rcases hd : (cntAt l a v).d with _ | _
  · have := i3 hd
    rw [Bool.eq_iff_iff]
    simp [this]
  · rfl
theorem tkV_doc {n : Int} {l : List Bt} {v : Int} {a b : Nat} (h : a ≤ b) (hk : ∀ j, j < b → okAt n l j = true) (ht : tkB l v a b = true) : tkV l v a b = num l v a b := by
  obtain ⟨_, _, i3, i4⟩ := counts_tell (v := v) h hk
  unfold tkB at ht
  simp at ht
  have := i4 ht.1 ((i3 ht.1).2 ht.2)
  unfold tkV
  omega
theorem tkV_le {n : Int} {l : List Bt} {v : Int} {a b : Nat} (h : a ≤ b) (hk : ∀ j, j < b → okAt n l j = true) (ht : tkB l v a b = true) : 0 ≤ tkV l v a b ∧ tkV l v a b ≤ b := by
  rw [tkV_doc h hk ht]
  have := num_le l v a b
  omega

/-- What counts may be, of few beats. -/
theorem cnt_small (l : List Bt) (v : Int) : ∀ i, 0 ≤ (cntAt l i v).t ∧ (cntAt l i v).t ≤ i ∧ 0 ≤ (cntAt l i v).f ∧ (cntAt l i v).f ≤ i
  | 0 => by simp [cntAt, zc]
  | i + 1 => by
    have ih := cnt_small l v i
    unfold cntAt
    split
    · unfold wth
      simp only
      split <;> (try split) <;> omega
    · omega

/-! ### with fewer beats -/
theorem bt_take (l : List Bt) (k i : Nat) (h : i < k) : bt (l.take k) i = bt l i := by simp [bt, List.getD, h]
theorem cnt_take (l : List Bt) (k : Nat) (v : Int) : ∀ i, i ≤ k → cntAt (l.take k) i v = cntAt l i v
  | 0, _ => rfl
  | i + 1, h => by
    unfold cntAt
    rw [bt_take l k i (by omega), cnt_take l k v i (by omega)]
theorem okAt_take (n : Int) (l : List Bt) (k i : Nat) (h : i < k) : okAt n (l.take k) i = okAt n l i := by
  unfold okAt
  rw [bt_take l k i h, cnt_take l k _ i (by omega)]
theorem May.take {n : Int} {l : List Bt} (h : May n l) (k : Nat) : May n (l.take k) := by
  refine ⟨h.1, h.2.1, ?_, fun i hi => ?_⟩
  · rw [List.length_take]; have := h.2.2.1; omega
  · rw [List.length_take] at hi
    rw [okAt_take n l k i (by omega)]
    exact h.2.2.2 i (by omega)

/-! ### near clocks -/
/-- Do all nodes' ticks differ by no more than they may, from one place to another one? -/
def okFT (n : Nat) (l : List Bt) (d r : Int) (a b : Nat) : Bool :=
  (List.range n).all fun u => (List.range n).all fun v => !(tkB l u a b && tkB l v a b) || decide (tkV l v a b ≤ tkV l u a b + d + tkV l u a b / r)
def nearB (n : Nat) (l : List Bt) (d r : Int) (k : Nat) : Bool := (List.range (k + 1)).all fun b => (List.range (b + 1)).all fun a => okFT n l d r a b
theorem okFT_iff (n : Nat) (l : List Bt) (d r : Int) (a b : Nat) : okFT n l d r a b = true ↔ ∀ u v : Nat, u < n → v < n → tkB l u a b = true → tkB l v a b = true → tkV l v a b ≤ tkV l u a b + d + tkV l u a b / r := by
  unfold okFT
  simp only [List.all_eq_true, List.mem_range, Bool.or_eq_true, Bool.not_eq_true', Bool.and_eq_false_iff, decide_eq_true_eq]
  constructor
  · intro h u v hu hv h1 h2
    rcases h u hu v hv with (h | h) | h
    · rw [h1] at h; cases h
    · rw [h2] at h; cases h
    · exact h
  · intro h u hu v hv
    rcases h1 : tkB l u a b with _ | _
    · exact .inl (.inl rfl)
    · rcases h2 : tkB l v a b with _ | _
      · exact .inl (.inr rfl)
      · exact .inr (h u v hu hv h1 h2)
theorem nearB_iff (n : Nat) (l : List Bt) (d r : Int) (k : Nat) : nearB n l d r k = true ↔ ∀ a b, a ≤ b → b ≤ k → okFT n l d r a b = true := by
  unfold nearB
  simp only [List.all_eq_true, List.mem_range]
  exact ⟨fun h a b hab hb => h b (by omega) a (by omega), fun h b hb a ha => h a b (by omega) (by omega)⟩
theorem okFT_take (n : Nat) (l : List Bt) (d r : Int) (a b k : Nat) (hab : a ≤ b) (hb : b ≤ k) : okFT n (l.take k) d r a b = okFT n l d r a b := by
  unfold okFT tkB tkV
  simp only [cnt_take l k _ a (by omega), cnt_take l k _ b hb]
theorem nearB_take (n : Nat) (l : List Bt) (d r : Int) (k j : Nat) (hj : j ≤ k) : nearB n (l.take k) d r j = nearB n l d r j := by
  rw [Bool.eq_iff_iff, nearB_iff, nearB_iff]
  exact ⟨fun h a b hab hb => by rw [← okFT_take n l d r a b k hab (by omega)]; exact h a b hab hb, fun h a b hab hb => by rw [okFT_take n l d r a b k hab (by omega)]; exact h a b hab hb⟩
theorem nearB_less {n : Nat} {l : List Bt} {d r : Int} {k j : Nat} (hj : j ≤ k) (h : nearB n l d r k = true) : nearB n l d r j = true := by
  rw [nearB_iff] at h ⊢
  exact fun a b hab hb => h a b hab (by omega)
theorem okFT_same (n : Nat) (l : List Bt) (d r : Int) (a : Nat) (hd : 0 ≤ d) : okFT n l d r a a = true := by
  rw [okFT_iff]
  intro u v _ _ _ _
  unfold tkV
  simp
  exact hd
theorem near_zero (n : Nat) (l : List Bt) (d r : Int) (hd : 0 ≤ d) : nearB n l d r 0 = true := by
  rw [nearB_iff]
  intro a b hab hb
  obtain rfl : a = b := by omega
  exact okFT_same n l d r a hd
/-- One place more. -/
theorem near_succ {n : Nat} {l : List Bt} {d r : Int} {k : Nat} : nearB n l d r (k + 1) = true ↔ nearB n l d r k = true ∧ ∀ a, a ≤ k + 1 → okFT n l d r a (k + 1) = true := by
  rw [nearB_iff, nearB_iff]
  constructor
  · exact fun h => ⟨fun a b hab hb => h a b hab (by omega), fun a ha => h a (k + 1) ha (Nat.le_refl _)⟩
  · rintro ⟨h1, h2⟩ a b hab hb
    rcases Nat.lt_or_ge k b with hk | hk
    · obtain rfl : b = k + 1 := by omega
      exact h2 a hab
    · exact h1 a b hab hk

/-- What the fewest and the most tell. -/
def lowHigh (l : List Bt) (a b : Nat) : Nat → Int × Int
  | 0 => (400, 0)
  | v + 1 => if tkB l v a b then (min (lowHigh l a b v).1 (tkV l v a b), max (lowHigh l a b v).2 (tkV l v a b)) else lowHigh l a b v
theorem div_mono {x y r : Int} (hr : 0 < r) (h : x ≤ y) : x / r ≤ y / r := Int.ediv_le_ediv hr h
theorem lowHigh_tells {N : Int} {l : List Bt} {a b : Nat} (hab : a ≤ b) (hb : b ≤ 400) (hk : ∀ j, j < b → okAt N l j = true) : ∀ n : Nat,
    (∀ v : Nat, v < n → tkB l v a b = true → (lowHigh l a b n).1 ≤ tkV l v a b ∧ tkV l v a b ≤ (lowHigh l a b n).2) ∧
    ((lowHigh l a b n = (400, 0) ∧ ∀ v : Nat, v < n → tkB l v a b = false) ∨ (∃ u v : Nat, u < n ∧ v < n ∧ tkB l u a b = true ∧ tkB l v a b = true ∧ (lowHigh l a b n).1 = tkV l u a b ∧ (lowHigh l a b n).2 = tkV l v a b))
  | 0 => ⟨fun v hv => absurd hv (Nat.not_lt_zero v), .inl ⟨rfl, fun v hv => absurd hv (Nat.not_lt_zero v)⟩⟩
  | n + 1 => by
    obtain ⟨h1, h2⟩ := lowHigh_tells hab hb hk n
    rcases ht : tkB l n a b with _ | _
    · have e : lowHigh l a b (n + 1) = lowHigh l a b n := by
        show (if tkB l n a b then _ else lowHigh l a b n) = _
        rw [ht]; rfl
      rw [e]
      refine ⟨fun v hv hvt => ?_, ?_⟩
      · rcases Nat.lt_or_ge v n with h | h
        · exact h1 v h hvt
        · obtain rfl : v = n := by omega
          rw [ht] at hvt; cases hvt
      · rcases h2 with ⟨h2, h3⟩ | ⟨u, v, hu, hv, h3⟩
        · refine .inl ⟨h2, fun v hv => ?_⟩
          rcases Nat.lt_or_ge v n with h | h
          · exact h3 v h
          · obtain rfl : v = n := by omega
            exact ht
        · exact .inr ⟨u, v, by omega, by omega, h3⟩
    · have e : lowHigh l a b (n + 1) = (min (lowHigh l a b n).1 (tkV l n a b), max (lowHigh l a b n).2 (tkV l n a b)) := by
        show (if tkB l n a b then _ else lowHigh l a b n) = _
        rw [ht]; rfl
      have hs := tkV_le hab hk ht
      rw [e]
      refine ⟨fun v hv hvt => ?_, .inr ?_⟩
      · rcases Nat.lt_or_ge v n with h | h
        · have := h1 v h hvt
          simp only
          omega
        · obtain rfl : v = n := by omega
          simp only
          omega
      · rcases h2 with ⟨h2, h3⟩ | ⟨u, v, hu, hv, hut, hvt, hu2, hv2⟩
        · refine ⟨n, n, by omega, by omega, ht, ht, ?_, ?_⟩ <;> rw [h2] <;> simp only <;> omega
        · refine ⟨if tkV l n a b ≤ tkV l u a b then n else u, if tkV l v a b ≤ tkV l n a b then n else v, ?_, ?_, ?_, ?_, ?_, ?_⟩
          · split <;> omega
          · split <;> omega
          · split <;> assumption
          · split <;> assumption
          · rw [hu2]; split <;> simp only <;> omega
          · rw [hv2]; split <;> simp only <;> omega
theorem okFT_lowHigh {N : Int} {l : List Bt} {a b : Nat} (hab : a ≤ b) (hb : b ≤ 400) (hk : ∀ j, j < b → okAt N l j = true) (n : Nat) {d r : Int} (hd : 0 ≤ d) (hr : 1 ≤ r) :
    okFT n l d r a b = decide ((lowHigh l a b n).2 ≤ (lowHigh l a b n).1 + d + (lowHigh l a b n).1 / r) := by
  obtain ⟨h1, h2⟩ := lowHigh_tells hab hb hk n
  rw [Bool.eq_iff_iff, okFT_iff, decide_eq_true_eq]
  rcases h2 with ⟨h2, h3⟩ | ⟨u, v, hu, hv, hut, hvt, hu2, hv2⟩
  · rw [h2]
    refine ⟨fun _ => ?_, fun _ u v hu _ ht => ?_⟩
    · have : (0 : Int) ≤ 400 / r := Int.ediv_nonneg (by omega) (by omega)
      simp only
      omega
    · rw [h3 u hu] at ht; cases ht
  · constructor
    · intro h
      rw [hu2, hv2]
      exact h u v hu hv hut hvt
    · intro h x y hx hy hxt hyt
      have g1 := h1 x hx hxt
      have g2 := h1 y hy hyt
      have g3 := div_mono (r := r) (by omega) g1.1
      omega
theorem lowHigh_small {N : Int} {l : List Bt} {a b : Nat} (hab : a ≤ b) (hb : b ≤ 400) (hk : ∀ j, j < b → okAt N l j = true) (n : Nat) : 0 ≤ (lowHigh l a b n).1 ∧ (lowHigh l a b n).1 ≤ 400 ∧ 0 ≤ (lowHigh l a b n).2 ∧ (lowHigh l a b n).2 ≤ 400 := by
  obtain ⟨h1, h2⟩ := lowHigh_tells hab hb hk n
  rcases h2 with ⟨h2, _⟩ | ⟨u, v, hu, hv, hut, hvt, hu2, hv2⟩
  · rw [h2]; simp
  · have g1 := tkV_le hab hk hut
    have g2 := tkV_le hab hk hvt
    rw [hu2, hv2]
    omega

/-! ### the document's near -/
/-- Two nodes' ticks, as the document has them. -/
def two (l : List Bt) (u v : Int) (a b : Nat) (d r : Int) : Bool :=
  if tkB l u a b && tkB l v a b then (if tkV l v a b < tkV l u a b then decide (tkV l u a b - tkV l v a b ≤ d + tkV l v a b / r) else decide (tkV l v a b - tkV l u a b ≤ d + tkV l u a b / r)) else true
theorem two_of_okFT {n : Nat} {l : List Bt} {d r : Int} {a b : Nat} (h : okFT n l d r a b = true) (u v : Nat) (hu : u < n) (hv : v < n) : two l u v a b d r = true := by
  rw [okFT_iff] at h
  unfold two
  by_cases hc : (tkB l u a b && tkB l v a b) = true
  · rw [if_pos hc]
    simp only [Bool.and_eq_true] at hc
    split
    · have := h v u hv hu hc.2 hc.1
      simp only [decide_eq_true_eq]
      omega
    · have := h u v hu hv hc.1 hc.2
      simp only [decide_eq_true_eq]
      omega
  · rw [if_neg hc]
theorem okFT_of_two {N : Int} {n : Nat} {l : List Bt} {d r : Int} {a b : Nat} (hab : a ≤ b) (hk : ∀ j, j < b → okAt N l j = true) (hd : 0 ≤ d) (hr : 1 ≤ r) (h : ∀ u v : Nat, u < n → v < u → two l u v a b d r = true) : okFT n l d r a b = true := by
  rw [okFT_iff]
  have key : ∀ u v : Nat, u < n → v < u → tkB l u a b = true → tkB l v a b = true → tkV l v a b ≤ tkV l u a b + d + tkV l u a b / r ∧ tkV l u a b ≤ tkV l v a b + d + tkV l v a b / r := by
    intro u v hu hv hut hvt
    have := h u v hu hv
    have g1 := tkV_le hab hk hut
    have g2 := tkV_le hab hk hvt
    have g3 : 0 ≤ tkV l u a b / r := Int.ediv_nonneg g1.1 (by omega)
    have g4 : 0 ≤ tkV l v a b / r := Int.ediv_nonneg g2.1 (by omega)
    unfold two at this
    rw [hut, hvt] at this
    simp only [Bool.and_self, if_true] at this
    split at this <;> simp only [decide_eq_true_eq] at this <;> omega
  intro u v hu hv hut hvt
  rcases Nat.lt_trichotomy u v with h | h | h
  · exact (key v u hv h hvt hut).2
  · subst h
    have g1 := tkV_le hab hk hut
    have g3 : 0 ≤ tkV l u a b / r := Int.ediv_nonneg g1.1 (by omega)
    omega
  · exact (key u v hu h hut hvt).1

/-! ### guards -/
/-- g is a term's guard. -/
def Guards (g term d r : Int) : Prop := 0 ≤ g ∧ g ≤ term ∧ (g = 0 ∨ g - 1 + d + (g - 1) / r < term) ∧ ¬ (g + d + g / r < term)
theorem reach_mono {x y d r : Int} (hr : 1 ≤ r) (h : x ≤ y) : x + d + x / r ≤ y + d + y / r := by
  have := div_mono (r := r) (by omega) h
  omega
theorem Guards.more {g h t b d r : Int} (hr : 1 ≤ r) (hb : 0 ≤ b) (hg : Guards g t d r) (hh : Guards h (t + b) d r) : g ≤ h := by
  obtain ⟨g1, g2, g3, g4⟩ := hg
  obtain ⟨h1, h2, h3, h4⟩ := hh
  rcases Int.lt_or_le h g with hl | hl
  · have := reach_mono (d := d) hr (show h ≤ g - 1 by omega)
    omega
  · exact hl
theorem Guards.wider {g h t b d r : Int} (hr : 1 ≤ r) (hb : 0 ≤ b) (hg : Guards g t d r) (hh : Guards h t (d + b) r) : h ≤ g := by
  obtain ⟨g1, g2, g3, g4⟩ := hg
  obtain ⟨h1, h2, h3, h4⟩ := hh
  rcases Int.lt_or_le g h with hl | hl
  · have := reach_mono (d := d) hr (show g ≤ h - 1 by omega)
    omega
  · exact hl
theorem div_less {x r b : Int} (hx : 0 ≤ x) (hr : 1 ≤ r) (hb : 0 ≤ b) : x / (r + b) ≤ x / r := by
  rw [Int.le_ediv_iff_mul_le (by omega)]
  have h1 := Int.ediv_mul_le x (show r + b ≠ 0 by omega)
  have h2 : 0 ≤ x / (r + b) := Int.ediv_nonneg hx (by omega)
  have h3 : x / (r + b) * r ≤ x / (r + b) * (r + b) := Int.mul_le_mul_of_nonneg_left (by omega) h2
  omega
theorem Guards.rarer {g h t b d r : Int} (hr : 1 ≤ r) (hb : 0 ≤ b) (hg : Guards g t d r) (hh : Guards h t d (r + b)) : g ≤ h := by
  obtain ⟨g1, g2, g3, g4⟩ := hg
  obtain ⟨h1, h2, h3, h4⟩ := hh
  rcases Int.lt_or_le h g with hl | hl
  · have e1 := reach_mono (d := d) hr (show h ≤ g - 1 by omega)
    have e2 := div_less h1 hr hb
    omega
  · exact hl
theorem Guards.all {g t : Int} (hg : Guards g t 0 (t + 1)) : g = t := by
  obtain ⟨g1, g2, g3, g4⟩ := hg
  rcases Int.lt_or_le g t with hl | hl
  · have : g / (t + 1) = 0 := Int.ediv_eq_zero_of_lt g1 (by omega)
    omega
  · omega
/-- What is held is covered. -/
theorem Guards.covers {g t d r x y : Int} (hr : 1 ≤ r) (hx0 : 0 ≤ x) (hg : Guards g t d r) (hx : x < g) (hy : y ≤ x + d + x / r) : y < t := by
  obtain ⟨g1, g2, g3, g4⟩ := hg
  have := reach_mono (d := d) hr (show x ≤ g - 1 by omega)
  omega
theorem okFT_wider {n : Nat} {l : List Bt} {d r : Int} {a b : Nat} (m : Int) (hm : 0 ≤ m) (h : okFT n l d r a b = true) : okFT n l (d + m) r a b = true := by
  rw [okFT_iff] at h ⊢
  intro u v hu hv h1 h2
  have := h u v hu hv h1 h2
  omega
theorem okFT_rarer {N : Int} {n : Nat} {l : List Bt} {d r r' : Int} {a b : Nat} (hab : a ≤ b) (hk : ∀ j, j < b → okAt N l j = true) (hr : 1 ≤ r') (hr' : r' ≤ r) (h : okFT n l d r a b = true) : okFT n l d r' a b = true := by
  rw [okFT_iff] at h ⊢
  intro u v hu hv h1 h2
  have g := h u v hu hv h1 h2
  have g1 := tkV_le hab hk h1
  have e := div_less (x := tkV l u a b) (r := r') (b := r - r') g1.1 hr (by omega)
  have e2 : r' + (r - r') = r := by omega
  rw [e2] at e
  omega
/-- Near by as many as all ticks that there are. -/
theorem near_all {N : Int} {n : Nat} {l : List Bt} {r : Int} (hr : 1 ≤ r) (hk : ∀ j, j < l.length → okAt N l j = true) : nearB n l l.length r l.length = true := by
  rw [nearB_iff]
  intro a b hab hb
  rw [okFT_iff]
  intro u v hu hv h1 h2
  have g1 := tkV_le hab (fun j hj => hk j (by omega)) h1
  have g2 := tkV_le hab (fun j hj => hk j (by omega)) h2
  have g3 : 0 ≤ tkV l u a b / r := Int.ediv_nonneg g1.1 (by omega)
  omega
/-- Ticks from one place to a third one. -/
theorem tk_split {n : Int} {l : List Bt} {v : Int} {a m b : Nat} (h1 : a ≤ m) (h2 : m ≤ b) (hk : ∀ j, j < b → okAt n l j = true) (ht : tkB l v a b = true) : tkB l v a m = true ∧ tkB l v m b = true ∧ tkV l v a b = tkV l v a m + tkV l v m b := by
  obtain ⟨a1, a2, _, _⟩ := counts_tell (n := n) (l := l) (v := v) h1 (fun j hj => hk j (by omega))
  obtain ⟨b1, b2, _, _⟩ := counts_tell (n := n) (l := l) (v := v) h2 hk
  unfold tkB at *
  unfold tkV
  simp only [Bool.and_eq_true, Bool.not_eq_true', beq_iff_eq] at *
  have e1 : (cntAt l a v).f = (cntAt l m v).f := by omega
  have e2 : (cntAt l m v).f = (cntAt l b v).f := by omega
  exact ⟨⟨ht.1, e1⟩, ⟨a2 e1 ht.1, e2⟩, by omega⟩

/-! ### rows of counts -/
/-- The counts of n nodes at a place. -/
def rowL (n : Nat) (l : List Bt) (i : Nat) : List Ct := (List.range n).map fun (v : Nat) => cntAt l i v
theorem rowL_len (n : Nat) (l : List Bt) (i : Nat) : (rowL n l i).length = n := by simp [rowL]
theorem rowL_at (n : Nat) (l : List Bt) (i v : Nat) (h : v < n) : (rowL n l i).getD v zc = cntAt l i v := by simp [rowL, List.getD, h]
theorem rowL_succ (n : Nat) (l : List Bt) (i v : Nat) (h : (bt l i).n = v) (_hv : v < n) : rowL n l (i + 1) = (rowL n l i).set v (wth (cntAt l i v) (bt l i).k) := by
  apply List.ext_getElem
  · simp [rowL]
  · intro j h1 h2
    simp only [rowL, List.length_map, List.length_range] at h1
    rw [List.getElem_set]
    simp only [rowL, List.getElem_map, List.getElem_range]
    show (if (bt l i).n = (j : Int) then wth (cntAt l i j) (bt l i).k else cntAt l i j) = _
    rw [h]
    by_cases e : v = j
    · subst e; simp
    · rw [if_neg (by omega), if_neg e]
end Go.Proofs.Ytmbapcdchaamfaa.Pure
