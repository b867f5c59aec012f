/-
  What is applied, in whatever order: plain lists.
-/
import Derived.Test.YtmfpipcedblklaaTab
namespace Go.Proofs.Ytmfpipcedblklaa.Pure

/-- What is applied, one after the other. -/
def runA (t l : List Kn) (wh : Nat → Nat) : Nat → List Kn
  | 0 => t
  | i + 1 => appL (runA t l wh i) (wh i) (kn l i)
theorem runA_len (t l : List Kn) (wh : Nat → Nat) (i : Nat) : (runA t l wh i).length = t.length := by
  induction i with
  | zero => rfl
  | succ i ih => show (appL _ _ _).length = _; rw [len_app, ih]
section
variable {t l : List Kn} {wh : Nat → Nat}
theorem runA_may (ht : mayT t = true) (hw : ∀ i, wh i < t.length) (i : Nat) : mayT (runA t l wh i) = true := by
  induction i with
  | zero => exact ht
  | succ i ih => exact mayT_app ih (by rw [runA_len]; exact hw i)
theorem runA_fit (ht : FitL t) (hl : FitL l) (hw : ∀ i, wh i < t.length) (i : Nat) : FitL (runA t l wh i) := by
  induction i with
  | zero => exact ht
  | succ i ih => exact fit_app ih (hl.at_ i) (by rw [runA_len]; exact hw i)
theorem key_app {b : List Kn} {q : Nat} {k : Kn} (hb : mayL b = true) (hk : mayK k = true) (hq : q < b.length) (j : Nat) : key (kn (appL b q k) j) = if j = q then max (key (kn b q)) (key k) else key (kn b j) := by
  rw [kn_app b q j k hq]
  by_cases e : j = q
  · rw [if_pos e, if_pos e, stepK_key (may_at hb hq) hk]
  · rw [if_neg e, if_neg e]
theorem app_ge {b : List Kn} {q : Nat} {k : Kn} (hb : mayL b = true) (hk : mayK k = true) (hq : q < b.length) (j : Nat) : key (kn b j) ≤ key (kn (appL b q k) j) := by
  rw [key_app hb hk hq]
  by_cases e : j = q
  · subst e; rw [if_pos rfl]; omega
  · rw [if_neg e]; exact Int.le_refl _
theorem app_at {b : List Kn} {q : Nat} {k : Kn} (hb : mayL b = true) (hk : mayK k = true) (hq : q < b.length) : key k ≤ key (kn (appL b q k) q) := by
  rw [key_app hb hk hq, if_pos rfl]; omega
theorem app_beats {b : List Kn} {q : Nat} {k : Kn} (hb : mayL b = true) (hk : mayK k = true) (hq : q < b.length) {j : Nat} (hj : j < b.length) : beatsB (kn b j) (kn (appL b q k) j) = false := by
  rw [beats_key (may_at hb hj) (may_at (may_app hb hq) (by rw [len_app]; exact hj))]
  have := app_ge hb hk hq j
  simp; omega
/-- What was applied is no greater than it came to. -/
theorem runA_has (ht : mayT t = true) (hl : mayL l = true) (hw : ∀ i, wh i < t.length) : ∀ i, i ≤ l.length → (∀ j, key (kn t j) ≤ key (kn (runA t l wh i) j)) ∧ ∀ m, m < i → key (kn l m) ≤ key (kn (runA t l wh i) (wh m)) := by
  intro i
  induction i with
  | zero => exact fun _ => ⟨fun _ => Int.le_refl _, fun m h => absurd h (Nat.not_lt_zero m)⟩
  | succ i ih =>
    intro hi
    obtain ⟨h1, h2⟩ := ih (by omega)
    have hm := ((mayT_iff _).1 (runA_may (l := l) ht hw i)).2.2
    have hk := may_at hl (show i < l.length by omega)
    have hq : wh i < (runA t l wh i).length := by rw [runA_len]; exact hw i
    have hge := app_ge hm hk hq
    refine ⟨fun j => Int.le_trans (h1 j) (hge j), fun m hm' => ?_⟩
    by_cases e : m = i
    · subst e; exact app_at hm hk hq
    · exact Int.le_trans (h2 m (by omega)) (hge _)
/-- It is the least that is no less than all that was applied. -/
theorem runA_least (ht : mayT t = true) (hl : mayL l = true) (hw : ∀ i, wh i < t.length) {b : List Kn} (h0 : ∀ j, j < t.length → key (kn t j) ≤ key (kn b j)) :
    ∀ i, i ≤ l.length → (∀ m, m < i → key (kn l m) ≤ key (kn b (wh m))) → ∀ j, j < t.length → key (kn (runA t l wh i) j) ≤ key (kn b j) := by
  intro i
  induction i with
  | zero => exact fun _ _ => h0
  | succ i ih =>
    intro hi hb j hj
    have h1 := ih (by omega) (fun m hm => hb m (by omega)) j hj
    have hm := ((mayT_iff _).1 (runA_may (l := l) ht hw i)).2.2
    have hk := may_at hl (show i < l.length by omega)
    have hq : wh i < (runA t l wh i).length := by rw [runA_len]; exact hw i
    show key (kn (appL _ _ _) j) ≤ _
    rw [key_app hm hk hq]
    by_cases e : j = wh i
    · subst e
      rw [if_pos rfl]
      have := hb i (by omega)
      omega
    · rw [if_neg e]; exact h1
end

/-- A table between two others. -/
structure Mid (t a b : List Kn) : Prop where
  may : mayT b = true
  fit : FitL b
  len : b.length = t.length
  lo : ∀ j, j < t.length → key (kn t j) ≤ key (kn b j)
  hi : ∀ j, j < t.length → key (kn b j) ≤ key (kn a j)
theorem Mid.app {t a b : List Kn} {q : Nat} {k : Kn} (h : Mid t a b) (hk : mayK k = true) (hf : Fit k) (hq : q < t.length) (hle : key k ≤ key (kn a q)) : Mid t a (appL b q k) := by
  have hb := ((mayT_iff _).1 h.may).2.2
  have hq' : q < b.length := by rw [h.len]; exact hq
  refine ⟨mayT_app h.may hq', fit_app h.fit hf hq', by rw [len_app, h.len], fun j hj => Int.le_trans (h.lo j hj) (app_ge hb hk hq' j), fun j hj => ?_⟩
  rw [key_app hb hk hq']
  by_cases e : j = q
  · subst e
    rw [if_pos rfl]
    have := h.hi j hj
    omega
  · rw [if_neg e]; exact h.hi j hj
/-- Its last steps: from m on all is there. -/
def Late (t a l b : List Kn) (wh : Nat → Nat) (m : Nat) : Prop := Mid t a b ∧ ∀ i, m ≤ i → i < l.length → key (kn l i) ≤ key (kn b (wh i))
theorem Late.app {t a l b : List Kn} {wh : Nat → Nat} {m : Nat} (h : Late t a l b wh (m + 1)) (hm : m < l.length) (hl : mayL l = true) (hf : FitL l) (hw : ∀ i, wh i < t.length) (hle : key (kn l m) ≤ key (kn a (wh m))) : Late t a l (appL b (wh m) (kn l m)) wh m := by
  have hb := ((mayT_iff _).1 h.1.may).2.2
  have hk := may_at hl hm
  have hq' : wh m < b.length := by rw [h.1.len]; exact hw m
  refine ⟨h.1.app hk (hf.at_ m) (hw m) hle, fun i hi hil => ?_⟩
  by_cases e : i = m
  · subst e; exact app_at hb hk hq'
  · exact Int.le_trans (h.2 i (by omega) hil) (app_ge hb hk hq' _)
theorem Late.done {t l b : List Kn} {wh : Nat → Nat} (h : Late t (runA t l wh l.length) l b wh 0) (ht : mayT t = true) (hl : mayL l = true) (hw : ∀ i, wh i < t.length) : runA t l wh l.length = b := by
  have ha := ((mayT_iff _).1 (runA_may (l := l) ht hw l.length)).2.2
  have hb := ((mayT_iff _).1 h.1.may).2.2
  have hla := runA_len t l wh l.length
  refine ext_kn (by rw [hla, h.1.len]) fun j hj => ?_
  rw [hla] at hj
  have h1 := h.1.hi j hj
  have h2 := runA_least ht hl hw h.1.lo l.length (Nat.le_refl _) (fun m hm => h.2 m (Nat.zero_le _) hm) j hj
  exact key_inj (may_at ha (by rw [hla]; exact hj)) (may_at hb (by rw [h.1.len]; exact hj)) (by omega)
end Go.Proofs.Ytmfpipcedblklaa.Pure
