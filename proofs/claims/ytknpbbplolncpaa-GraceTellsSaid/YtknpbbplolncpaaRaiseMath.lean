/-
  Doubts raised and cleared, as mathematics: one by one; what is told of each node; in order.
-/
import Derived.Test.YtknpbbplolncpaaDoubts
namespace Go.Proofs.Ytknpbbplolncpaa.Pure

/-! ### numbers in order -/
theorem rise_pair (xs : List Int) : riseB xs = true ↔ (∀ x ∈ xs, 0 ≤ x ∧ x < 64) ∧ xs.Pairwise (· < ·) := by
  constructor
  · intro h
    have hr := (riseB_iff xs).1 h
    refine ⟨riseB_mem h, List.pairwise_iff_getElem.2 fun i j hi hj hij => ?_⟩
    have := rise_lt hr j hj i hij
    simpa [List.getD, hi, hj] using this
  · rintro ⟨h1, h2⟩
    rw [riseB_iff]
    intro j hj
    have hm := h1 _ (getD_mem xs j hj)
    refine ⟨hm.1, hm.2, fun h0 => ?_⟩
    have := List.pairwise_iff_getElem.1 h2 (j - 1) j (by omega) hj (by omega)
    simpa [List.getD, hj, show j - 1 < xs.length by omega] using this
theorem sorted_eq : ∀ a b : List Int, a.Pairwise (· < ·) → b.Pairwise (· < ·) → (∀ x, x ∈ a ↔ x ∈ b) → a = b
  | [], [], _, _, _ => rfl
  | [], y :: r, _, _, h => absurd ((h y).2 (by simp)) (by simp)
  | x :: l, [], _, _, h => absurd ((h x).1 (by simp)) (by simp)
  | x :: l, y :: r, ha, hb, h => by
    rw [List.pairwise_cons] at ha hb
    have hxy : x = y := by
      rcases List.mem_cons.1 ((h x).1 (by simp)) with e | e
      · exact e
      · rcases List.mem_cons.1 ((h y).2 (by simp)) with e2 | e2
        · exact e2.symm
        · have := hb.1 x e
          have := ha.1 y e2
          omega
    subst hxy
    rw [sorted_eq l r ha.2 hb.2 fun z => ?_]
    constructor
    · intro hz
      rcases List.mem_cons.1 ((h z).1 (List.mem_cons_of_mem _ hz)) with e | e
      · have := ha.1 z hz; omega
      · exact e
    · intro hz
      rcases List.mem_cons.1 ((h z).2 (List.mem_cons_of_mem _ hz)) with e | e
      · have := hb.1 z hz; omega
      · exact e
def insN (n : Int) : List Int → List Int
  | [] => [n]
  | x :: r => if x < n then x :: insN n r else if x = n then x :: r else n :: x :: r
theorem with_ins (xs : List Int) (n : Int) : withN xs n = insN n xs := by
  induction xs with
  | nil => rfl
  | cons x r ih =>
    unfold insN
    by_cases h : x < n
    · rw [if_pos h, ← ih]
      have e : posN (x :: r) n = posN r n + 1 := by rw [posN, if_pos h]
      have eh : hitN (x :: r) n = hitN r n := by
        unfold hitN
        rw [e]
        simp
      unfold withN
      rw [eh]
      split
      · rfl
      · unfold putN
        rw [e]
        simp
    · rw [if_neg h]
      have e : posN (x :: r) n = 0 := by rw [posN, if_neg h]
      have eh : hitN (x :: r) n = decide (x = n) := by
        unfold hitN
        rw [e]
        simp
      unfold withN
      rw [eh]
      by_cases hx : x = n
      · rw [if_pos hx, if_pos (by simpa using hx)]
      · rw [if_neg hx, if_neg (by simpa using hx)]
        unfold putN
        rw [e]
        simp
theorem ins_mem (n : Int) (xs : List Int) (x : Int) : x ∈ insN n xs ↔ x = n ∨ x ∈ xs := by
  induction xs with
  | nil => simp [insN]
  | cons y r ih =>
    unfold insN
    split
    · rw [List.mem_cons, ih, List.mem_cons]
      constructor
      · rintro (h | h | h) <;> simp [h]
      · rintro (h | h | h) <;> simp [h]
    · split
      · rename_i h; subst h; simp
      · simp
theorem ins_pair (n : Int) (xs : List Int) (h : xs.Pairwise (· < ·)) : (insN n xs).Pairwise (· < ·) := by
  induction xs with
  | nil => simp [insN]
  | cons y r ih =>
    rw [List.pairwise_cons] at h
    unfold insN
    split
    · rename_i hy
      rw [List.pairwise_cons]
      refine ⟨fun z hz => ?_, ih h.2⟩
      rcases (ins_mem n r z).1 hz with rfl | hz
      · exact hy
      · exact h.1 z hz
    · split
      · exact List.pairwise_cons.2 h
      · rename_i h1 h2
        rw [List.pairwise_cons]
        refine ⟨fun z hz => ?_, List.pairwise_cons.2 h⟩
        rcases List.mem_cons.1 hz with rfl | hz
        · omega
        · have := h.1 z hz; omega
theorem ins_rise {xs : List Int} (n : Int) (h : riseB xs = true) (hn : 0 ≤ n ∧ n < 64) : riseB (insN n xs) = true := by
  rw [rise_pair] at h ⊢
  refine ⟨fun x hx => ?_, ins_pair n xs h.2⟩
  rcases (ins_mem n xs x).1 hx with rfl | hx
  · exact hn
  · exact h.1 x hx
theorem ins_len (n : Int) (xs : List Int) : n ∉ xs → (insN n xs).length = xs.length + 1 := by
  induction xs with
  | nil => intro _; rfl
  | cons y r ih =>
    intro h
    unfold insN
    split
    · simp [ih (fun e => h (List.mem_cons_of_mem _ e))]
    · rw [if_neg (fun e => h (by simp [e]))]; simp
theorem ins_same (n : Int) (xs : List Int) (hp : xs.Pairwise (· < ·)) (h : n ∈ xs) : insN n xs = xs := by
  refine sorted_eq _ _ (ins_pair n xs hp) hp fun x => ?_
  rw [ins_mem]
  constructor
  · rintro (rfl | h1)
    · exact h
    · exact h1
  · exact .inr

/-! ### doubts, raised one by one -/
def mergeD (who inc b now : Int) (x : Dt) : Dt := if x.i < inc then ⟨who, inc, now, [b]⟩ else if x.i = inc then ⟨x.w, x.i, x.t, withN x.b b⟩ else x
def insD (who inc b now : Int) : List Dt → List Dt
  | [] => [⟨who, inc, now, [b]⟩]
  | x :: r => if x.w < who then x :: insD who inc b now r else if x.w = who then mergeD who inc b now x :: r else ⟨who, inc, now, [b]⟩ :: x :: r
theorem raise_ins (l : List Dt) (who inc b now : Int) : raiseD l who inc b now = insD who inc b now l := by
  induction l with
  | nil => rfl
  | cons x r ih =>
    have ew : whos (x :: r) = x.w :: whos r := rfl
    unfold insD
    by_cases h : x.w < who
    · rw [if_pos h, ← ih]
      have e : posN (whos (x :: r)) who = posN (whos r) who + 1 := by rw [ew, posN, if_pos h]
      have eh : hitN (whos (x :: r)) who = hitN (whos r) who := by
        unfold hitN
        rw [e, ew]
        simp
      have ed : dt (x :: r) (posN (whos r) who + 1) = dt r (posN (whos r) who) := by simp [dt, List.getD]
      unfold raiseD
      rw [eh, e, ed]
      split
      · split
        · rfl
        · split <;> rfl
      · simp
    · rw [if_neg h]
      have e : posN (whos (x :: r)) who = 0 := by rw [ew, posN, if_neg h]
      have eh : hitN (whos (x :: r)) who = decide (x.w = who) := by
        unfold hitN
        rw [e, ew]
        simp
      have ed : dt (x :: r) 0 = x := rfl
      unfold raiseD
      rw [eh, e, ed]
      by_cases hx : x.w = who
      · rw [if_pos hx, if_pos (by simpa using hx)]
        unfold mergeD
        split
        · rfl
        · split <;> rfl
      · rw [if_neg hx, if_neg (by simpa using hx)]
        rfl
/-- What the document builds, one behind the other. -/
def refB (xs : List Int) (b : Int) : List Int := ((List.range 64).map Int.ofNat).filter fun n => decide (n = b) || decide (n ∈ xs)
def mergeR (who inc b now : Int) (x : Dt) : Dt := if x.i < inc then ⟨who, inc, now, [b]⟩ else if inc < x.i ∨ b ∈ x.b then x else ⟨who, inc, x.t, refB x.b b⟩
def stepR (who inc b now : Int) (s : List Dt × Bool) (x : Dt) : List Dt × Bool :=
  if x.w < who then (s.1 ++ [x], s.2) else if x.w = who then (s.1 ++ [mergeR who inc b now x], true) else ((if s.2 = true then s.1 else s.1 ++ [⟨who, inc, now, [b]⟩]) ++ [x], true)
def refR (l : List Dt) (who inc b now : Int) : List Dt :=
  if (l.foldl (stepR who inc b now) ([], false)).2 = true then (l.foldl (stepR who inc b now) ([], false)).1 else (l.foldl (stepR who inc b now) ([], false)).1 ++ [⟨who, inc, now, [b]⟩]
theorem steps_len (who inc b now : Int) (l : List Dt) : ∀ s : List Dt × Bool, (l.foldl (stepR who inc b now) s).1.length ≤ s.1.length + 2 * l.length := by
  induction l with
  | nil => intro s; simp
  | cons x r ih =>
    intro s
    have h1 := ih (stepR who inc b now s x)
    have h2 : (stepR who inc b now s x).1.length ≤ s.1.length + 2 := by
      unfold stepR
      split
      · simp
      · split
        · simp
        · split <;> simp
    simp only [List.foldl_cons, List.length_cons]
    omega
theorem refB_with {xs : List Int} {b : Int} (h : riseB xs = true) (hb : 0 ≤ b ∧ b < 64) : refB xs b = withN xs b := by
  rw [with_ins]
  have hp := (rise_pair xs).1 h
  refine sorted_eq _ _ ?_ (ins_pair b xs hp.2) fun x => ?_
  · unfold refB
    refine List.Pairwise.filter _ ?_
    rw [List.pairwise_map]
    refine List.Pairwise.imp (fun {a b} hab => ?_) List.pairwise_lt_range
    show (a : Int) < (b : Int)
    omega
  · rw [ins_mem]
    unfold refB
    rw [List.mem_filter]
    simp only [Bool.or_eq_true, decide_eq_true_iff]
    constructor
    · exact fun h => h.2
    · intro hx
      refine ⟨List.mem_map.2 ⟨x.toNat, ?_, ?_⟩, hx⟩
      · rw [List.mem_range]
        rcases hx with rfl | hx
        · omega
        · have := hp.1 x hx; omega
      · show ((x.toNat : Nat) : Int) = x
        rcases hx with rfl | hx
        · omega
        · have := hp.1 x hx; omega
theorem merge_same {who inc b now : Int} {x : Dt} (h : riseB x.b = true) (hb : 0 ≤ b ∧ b < 64) (hw : x.w = who) : mergeR who inc b now x = mergeD who inc b now x := by
  unfold mergeR mergeD
  split
  · rfl
  · rename_i h1
    by_cases h2 : inc < x.i
    · rw [if_pos (.inl h2), if_neg (by omega)]
    · have h3 : x.i = inc := by omega
      rw [if_pos h3]
      by_cases h4 : b ∈ x.b
      · rw [if_pos (.inr h4), with_ins, ins_same b x.b ((rise_pair _).1 h).2 h4]
      · rw [if_neg (by rintro (h | h) <;> contradiction), refB_with h hb, hw, h3]
theorem may_mem {l : List Dt} (h : mayD l = true) : (∀ x ∈ l, OkD x) ∧ (∀ x ∈ l, 0 ≤ x.w ∧ x.w < 64) ∧ l.Pairwise (fun x y => x.w < y.w) := by
  rw [mayD_iff, rise_pair] at h
  refine ⟨fun x hx => ?_, fun x hx => h.2.1 x.w (List.mem_map_of_mem hx), List.pairwise_map.1 h.2.2⟩
  obtain ⟨j, hj, rfl⟩ := List.getElem_of_mem hx
  have := h.1 j hj
  rwa [dt_lt l hj] at this
theorem may_of {l : List Dt} (h1 : ∀ x ∈ l, OkD x) (h2 : ∀ x ∈ l, 0 ≤ x.w ∧ x.w < 64) (h3 : l.Pairwise (fun x y => x.w < y.w)) : mayD l = true := by
  rw [mayD_iff, rise_pair]
  refine ⟨fun j hj => h1 _ (dt_mem l hj), fun y hy => ?_, List.pairwise_map.2 h3⟩
  obtain ⟨x, hx, rfl⟩ := List.mem_map.1 hy
  exact h2 x hx
theorem steps_done (who inc b now : Int) (l : List Dt) : ∀ acc : List Dt, (∀ x ∈ l, who < x.w) → l.foldl (stepR who inc b now) (acc, true) = (acc ++ l, true) := by
  induction l with
  | nil => intro acc _; simp
  | cons x r ih =>
    intro acc h
    have hx := h x (by simp)
    rw [List.foldl_cons, show stepR who inc b now (acc, true) x = (acc ++ [x], true) by unfold stepR; rw [if_neg (by omega), if_neg (by omega)]; rfl]
    rw [ih _ fun y hy => h y (List.mem_cons_of_mem _ hy)]
    simp
theorem refR_raise {l : List Dt} {who inc b now : Int} (h : mayD l = true) (hb : 0 ≤ b ∧ b < 64) : refR l who inc b now = raiseD l who inc b now := by
  rw [raise_ins]
  obtain ⟨h1, _, h3⟩ := may_mem h
  have key : ∀ (l acc : List Dt), (∀ x ∈ l, OkD x) → l.Pairwise (fun x y => x.w < y.w) →
      (if (l.foldl (stepR who inc b now) (acc, false)).2 = true then (l.foldl (stepR who inc b now) (acc, false)).1 else (l.foldl (stepR who inc b now) (acc, false)).1 ++ [⟨who, inc, now, [b]⟩]) = acc ++ insD who inc b now l := by
    intro l
    induction l with
    | nil => intro acc _ _; rfl
    | cons x r ih =>
      intro acc h1 h3
      rw [List.pairwise_cons] at h3
      have hok := h1 x (by simp)
      have h1r : ∀ y ∈ r, OkD y := fun y hy => h1 y (List.mem_cons_of_mem _ hy)
      by_cases hx : x.w < who
      · rw [List.foldl_cons, show stepR who inc b now (acc, false) x = (acc ++ [x], false) by unfold stepR; rw [if_pos hx], ih _ h1r h3.2, insD, if_pos hx]
        simp
      · by_cases hw : x.w = who
        · rw [List.foldl_cons, show stepR who inc b now (acc, false) x = (acc ++ [mergeR who inc b now x], true) by unfold stepR; rw [if_neg hx, if_pos hw], steps_done _ _ _ _ r _ fun y hy => by have := h3.1 y hy; omega, insD, if_neg hx, if_pos hw, merge_same hok.2.2 hb hw]
          simp
        · rw [List.foldl_cons, show stepR who inc b now (acc, false) x = (acc ++ [⟨who, inc, now, [b]⟩] ++ [x], true) by unfold stepR; rw [if_neg hx, if_neg hw]; rfl, steps_done _ _ _ _ r _ fun y hy => by have := h3.1 y hy; omega, insD, if_neg hx, if_neg hw]
          simp
  have := key l [] h1 h3
  unfold refR
  simpa using this
end Go.Proofs.Ytknpbbplolncpaa.Pure
