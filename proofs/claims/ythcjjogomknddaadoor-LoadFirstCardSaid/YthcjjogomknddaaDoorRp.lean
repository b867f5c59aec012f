/-
  Nodes' points in order, with a node less, with a spot more, put in one by one: as mathematics. Nothing of the program is imported.
-/
import Derived.Test.YthcjjogomknddaaDoorRm
namespace Go.Proofs.YthcjjogomknddaaDoor.Pure

/-- A number's digits, below a hundred. -/
def digB (n : Nat) : List UInt8 := if n < 10 then [UInt8.ofNat (48 + n)] else [UInt8.ofNat (48 + n / 10), UInt8.ofNat (48 + n % 10)]
/-- The text of a point. -/
def keyP (n i : Nat) : List UInt8 := digB n ++ ([47] ++ digB i)
def hashP (n i : Nat) : Int := ((F.Pure.on F.Pure.first (keyP n i)).toNat : Int)
def mkP (n : Int) (i : Nat) : Pt := ⟨hashP n.toNat i, n, i⟩
def rawP (nodes : List Int) (s : Nat) : List Pt := nodes.flatMap fun n => (List.range s).map (mkP n)
def rawAt (nodes : List Int) (s k i : Nat) : List Pt := rawP (nodes.take k) s ++ (List.range i).map (mkP (nodes.getD k 0))

theorem raw_nil (s : Nat) : rawP [] s = [] := rfl
theorem raw_cons (n : Int) (r : List Int) (s : Nat) : rawP (n :: r) s = (List.range s).map (mkP n) ++ rawP r s := rfl
theorem raw_append (a b : List Int) (s : Nat) : rawP (a ++ b) s = rawP a s ++ rawP b s := List.flatMap_append
theorem rawAt_zero (nodes : List Int) (s : Nat) : rawAt nodes s 0 0 = [] := rfl
theorem rawAt_snoc (nodes : List Int) (s k i : Nat) : rawAt nodes s k (i + 1) = rawAt nodes s k i ++ [mkP (nodes.getD k 0) i] := by
  unfold rawAt
  rw [List.range_succ, List.map_append, List.append_assoc]
  rfl
theorem rawAt_next (nodes : List Int) (s k : Nat) (hk : k < nodes.length) : rawAt nodes s k s = rawAt nodes s (k + 1) 0 := by
  unfold rawAt
  rw [take_snoc nodes k hk, raw_append]
  simp [rawP]
theorem rawAt_all (nodes : List Int) (s : Nat) : rawAt nodes s nodes.length 0 = rawP nodes s := by simp [rawAt]
theorem raw_len (nodes : List Int) (s : Nat) : (rawP nodes s).length = nodes.length * s := by
  induction nodes with
  | nil => simp [rawP]
  | cons n r ih => rw [raw_cons, List.length_append, ih, List.length_cons, Nat.add_mul]; simp; omega
theorem rawAt_len (nodes : List Int) (s k i : Nat) (hk : k ≤ nodes.length) : (rawAt nodes s k i).length = k * s + i := by
  unfold rawAt
  rw [List.length_append, raw_len]
  simp; rw [Nat.min_eq_left hk]
theorem raw_mem (nodes : List Int) (s : Nat) (p : Pt) : p ∈ rawP nodes s ↔ p.n ∈ nodes ∧ ∃ i, i < s ∧ p = mkP p.n i := by
  unfold rawP
  rw [List.mem_flatMap]
  constructor
  · rintro ⟨n, hn, hp⟩
    obtain ⟨i, hi, rfl⟩ := List.mem_map.1 hp
    exact ⟨hn, i, List.mem_range.1 hi, rfl⟩
  · rintro ⟨hn, i, hi, e⟩
    exact ⟨p.n, hn, List.mem_map.2 ⟨i, List.mem_range.2 hi, e.symm⟩⟩
theorem mk_inj {n m : Int} {i j : Nat} (h : mkP n i = mkP m j) : n = m ∧ i = j := by
  unfold mkP at h
  injection h with h1 h2 h3
  exact ⟨h2, by omega⟩
theorem raw_nodup {nodes : List Int} (h : nodes.Nodup) (s : Nat) : (rawP nodes s).Nodup := by
  induction nodes with
  | nil => exact List.nodup_nil
  | cons n r ih =>
    rw [List.nodup_cons] at h
    rw [raw_cons, List.nodup_append]
    refine ⟨?_, ih h.2, ?_⟩
    · rw [List.nodup_iff_pairwise_ne, List.pairwise_map]
      exact (List.nodup_iff_pairwise_ne.1 List.nodup_range).imp fun hne e => hne (mk_inj e).2
    · rintro a ha b hb rfl
      obtain ⟨i, _, rfl⟩ := List.mem_map.1 ha
      exact h.1 ((raw_mem r s _).1 hb).1
theorem raw_filter (q : Int → Bool) (nodes : List Int) (s : Nat) : (rawP nodes s).filter (fun p => q p.n) = rawP (nodes.filter q) s := by
  induction nodes with
  | nil => rfl
  | cons n r ih =>
    rw [raw_cons, List.filter_append, ih, List.filter_cons]
    rcases hq : q n with _ | _
    · rw [if_neg (by simp), List.filter_eq_nil_iff.2 (fun p hp => by obtain ⟨i, _, rfl⟩ := List.mem_map.1 hp; simpa [mkP] using hq), List.nil_append]
    · rw [if_pos rfl, List.filter_eq_self.2 (fun p hp => by obtain ⟨i, _, rfl⟩ := List.mem_map.1 hp; simpa [mkP] using hq), raw_cons]
theorem raw_spots (nodes : List Int) (s : Nat) : (rawP nodes (s + 1)).filter (fun p => decide (p.i ≠ (s : Int))) = rawP nodes s := by
  induction nodes with
  | nil => rfl
  | cons n r ih =>
    rw [raw_cons, List.filter_append, ih, raw_cons, List.range_succ, List.map_append, List.filter_append]
    rw [List.filter_eq_self.2 (fun p hp => by
      obtain ⟨i, hi, rfl⟩ := List.mem_map.1 hp
      have := List.mem_range.1 hi
      exact decide_eq_true (show ((i : Nat) : Int) ≠ (s : Int) by omega))]
    rw [List.filter_eq_nil_iff.2 (fun p hp => by simp at hp; rw [hp]; simp [mkP]), List.append_nil]

/-! ### in order -/
def srtP (l : List Pt) : List Pt := l.mergeSort fun x y => !ltP y x
theorem srt_perm (l : List Pt) : (srtP l).Perm l := List.mergeSort_perm l _
theorem srt_len (l : List Pt) : (srtP l).length = l.length := (srt_perm l).length_eq
theorem srt_rise {l : List Pt} (h : l.Nodup) : RiseP (srtP l) := by
  have h2 : (srtP l).Pairwise fun x y => (!ltP y x) = true := by
    refine List.pairwise_mergeSort (le := fun x y => !ltP y x) (fun a b c h h' => ?_) (fun a b => ?_) l
    · simp at h h' ⊢
      rw [ltP_false] at *; omega
    · rcases hh : ltP b a with _ | _
      · simp
      · have : ltP a b = false := by rw [ltP_iff] at hh; rw [ltP_false]; omega
        simp [this]
  have hn : (srtP l).Nodup := (srt_perm l).nodup_iff.2 h
  rw [List.nodup_iff_pairwise_ne] at hn
  refine (h2.and hn).imp ?_
  rintro a b ⟨h1, h2⟩
  rcases hab : ltP a b with _ | _
  · exact absurd (ltP_eq hab (by simpa using h1)) h2
  · rfl
theorem srt_eq {l d : List Pt} (hn : l.Nodup) (hp : d.Perm l) (hr : RiseP d) : d = srtP l := rise_uniq (hp.trans (srt_perm l).symm) hr (srt_rise hn)

/-- A ring's points. -/
def ptsP (nodes : List Int) (s : Nat) : List Pt := srtP (rawP nodes s)
theorem pts_len (nodes : List Int) (s : Nat) : (ptsP nodes s).length = nodes.length * s := by rw [ptsP, srt_len, raw_len]
theorem pts_rise {nodes : List Int} (h : numsB nodes = true) (s : Nat) : RiseP (ptsP nodes s) := srt_rise (raw_nodup ((numsB_iff _).1 h).2 s)
theorem pts_mem (nodes : List Int) (s : Nat) (p : Pt) : p ∈ ptsP nodes s ↔ p.n ∈ nodes ∧ ∃ i, i < s ∧ p = mkP p.n i := by
  unfold ptsP
  rw [(srt_perm _).mem_iff, raw_mem]
theorem pts_may {nodes : List Int} (h : numsB nodes = true) {s : Nat} (hs : s ≤ 32) : mayB (ptsP nodes s) = true := by
  refine may_of ?_ (fun p hp => ?_) (pts_rise h s)
  · rw [pts_len]
    have := nums_len nodes h
    have := Nat.mul_le_mul this hs
    omega
  · exact ((numsB_iff _).1 h).1 _ ((pts_mem _ _ _).1 hp).1
theorem pts_filter {nodes : List Int} (h : numsB nodes = true) (s : Nat) (q : Int → Bool) : (ptsP nodes s).filter (fun p => q p.n) = ptsP (nodes.filter q) s := by
  unfold ptsP
  refine srt_eq (raw_nodup (((numsB_iff _).1 h).2.sublist List.filter_sublist) s) ?_ (rise_filter _ (pts_rise h s))
  rw [← raw_filter]
  exact (srt_perm _).filter _
theorem pts_spots {nodes : List Int} (h : numsB nodes = true) (s : Nat) : (ptsP nodes (s + 1)).filter (fun p => decide (p.i ≠ (s : Int))) = ptsP nodes s := by
  unfold ptsP
  refine srt_eq (raw_nodup ((numsB_iff _).1 h).2 s) ?_ (rise_filter _ (pts_rise h _))
  have hh := (srt_perm (rawP nodes (s + 1))).filter (fun p => decide (p.i ≠ (s : Int)))
  rwa [raw_spots] at hh
theorem pts_fit {nodes : List Int} {s : Nat} {p : Pt} (h : p ∈ ptsP nodes s) : 0 ≤ p.h ∧ p.h < 18446744073709551616 := by
  obtain ⟨_, i, _, e⟩ := (pts_mem _ _ _).1 h
  rw [e]
  unfold mkP hashP
  have := (F.Pure.on F.Pure.first (keyP p.n.toNat i)).isLt
  simp only
  omega

/-! ### the walk of a ring -/
theorem pts_walk_mem {nodes : List Int} {s : Nat} (hs : 0 < s) (h : Int) (x : Int) : x ∈ walkP (ptsP nodes s) h ↔ x ∈ nodes := by
  rw [walk_mem, List.mem_map]
  constructor
  · rintro ⟨p, hp, rfl⟩
    exact ((pts_mem _ _ _).1 hp).1
  · intro hx
    exact ⟨mkP x 0, (pts_mem _ _ _).2 ⟨hx, 0, hs, rfl⟩, rfl⟩
theorem pts_walk_len {nodes : List Int} (hn : numsB nodes = true) {s : Nat} (hs : 0 < s) (h : Int) : (walkP (ptsP nodes s) h).length = nodes.length := by
  have h1 := (walk_nodup (ptsP nodes s) h).length_le_of_subset (fun x hx => (pts_walk_mem hs h x).1 hx)
  have h2 := (((numsB_iff _).1 hn).2).length_le_of_subset (fun x hx => (pts_walk_mem hs h x).2 hx)
  omega
theorem less_filter {nodes : List Int} (hn : nodes.Nodup) (k : Nat) (hk : k < nodes.length) : nodes.take k ++ nodes.drop (k + 1) = nodes.filter (fun x => decide (x ≠ nodes.getD k 0)) := by
  have e : nodes.getD k 0 = nodes[k] := by simp [List.getD, hk]
  rw [e]
  have hsplit : nodes = nodes.take k ++ nodes[k] :: nodes.drop (k + 1) := by rw [← List.drop_eq_getElem_cons hk, List.take_append_drop]
  have hn' := hn
  rw [hsplit, List.nodup_append] at hn'
  obtain ⟨_, h2, h3⟩ := hn'
  rw [List.nodup_cons] at h2
  generalize nodes[k] = x at *
  conv => rhs; rw [hsplit]
  rw [List.filter_append, List.filter_cons, if_neg (by simp)]
  rw [List.filter_eq_self.2 (fun a ha => by simpa using h3 a ha x (by simp)), List.filter_eq_self.2 (fun a ha => by simp; rintro rfl; exact h2.1 ha)]
theorem pts_less {nodes : List Int} (hn : numsB nodes = true) (s : Nat) (h : Int) (x : Int) : walkP (ptsP (nodes.filter fun y => decide (y ≠ x)) s) h = (walkP (ptsP nodes s) h).filter fun y => decide (y ≠ x) := by
  rw [← pts_filter hn s (fun y => decide (y ≠ x)), walk_filter (pts_rise hn s) h (fun y => decide (y ≠ x))]
/-- With a node less: the owner stays, or the next one of the walk comes. -/
theorem pts_more {nodes : List Int} (hn : numsB nodes = true) {s : Nat} (hs : 0 < s) (h : Int) (k : Nat) (hk : k < nodes.length) (h2 : 2 ≤ nodes.length) :
    ownP (ptsP (nodes.take k ++ nodes.drop (k + 1)) s) h = if ownP (ptsP nodes s) h = nodes.getD k 0 then (walkP (ptsP nodes s) h).getD 1 0 else ownP (ptsP nodes s) h := by
  have hd := ((numsB_iff _).1 hn).2
  have ef := less_filter hd k hk
  have el : (nodes.take k ++ nodes.drop (k + 1)).length = nodes.length - 1 := by simp; omega
  rw [ef] at el ⊢
  have hl : 0 < (ptsP nodes s).length := by rw [pts_len]; exact Nat.mul_pos (by omega) hs
  have hl' : 0 < (ptsP (nodes.filter fun y => decide (y ≠ nodes.getD k 0)) s).length := by rw [pts_len]; exact Nat.mul_pos (by omega) hs
  obtain ⟨r, hr⟩ := walk_head h hl
  obtain ⟨r', hr'⟩ := walk_head h hl'
  have hp := pts_less hn s h (nodes.getD k 0)
  have hw := pts_walk_len hn hs h
  have hwn := walk_nodup (ptsP nodes s) h
  rw [hr', hr, List.filter_cons] at hp
  rw [hr] at hw hwn ⊢
  generalize ownP (ptsP nodes s) h = x at *
  generalize ownP (ptsP (nodes.filter fun y => decide (y ≠ nodes.getD k 0)) s) h = y at *
  by_cases hx : x = nodes.getD k 0
  · rw [if_neg (by simpa using hx)] at hp
    rw [if_pos hx]
    rw [List.nodup_cons] at hwn
    rw [List.filter_eq_self.2 (fun a ha => by rw [← hx]; simp; rintro rfl; exact hwn.1 ha)] at hp
    rw [← hp]
    rfl
  · rw [if_pos (by simpa using hx)] at hp
    rw [if_neg hx]
    exact (List.cons.inj hp).1
theorem pts_one (x : Int) (hx : 0 ≤ x ∧ x < 64) {s : Nat} (hs : 0 < s) (h : Int) : walkP (ptsP [x] s) h = [x] ∧ ownP (ptsP [x] s) h = x := by
  have hn : numsB [x] = true := by rw [numsB_iff]; exact ⟨fun y hy => by rw [List.mem_singleton.1 hy]; exact hx, by simp⟩
  have hl : 0 < (ptsP [x] s).length := by rw [pts_len]; simpa using hs
  obtain ⟨r, hr⟩ := walk_head h hl
  have h1 := pts_walk_len hn hs h
  have h2 := (pts_walk_mem (nodes := [x]) hs h (ownP (ptsP [x] s) h)).1 (by rw [hr]; simp)
  rw [List.mem_singleton] at h2
  rw [hr] at h1 ⊢
  rcases r with _ | ⟨y, r⟩
  · rw [h2]; exact ⟨rfl, rfl⟩
  · simp at h1

/-! ### a key whose sum is a point's -/
theorem pos_own {l : List Pt} (hr : RiseP l) (i : Nat) (hi : i < l.length) (h0 : i = 0 ∨ (pt l (i - 1)).h ≠ (pt l i).h) : placeP l (pt l i).h = i := by
  have h1 : posP l (pt l i).h ≤ i := by
    rcases Nat.lt_or_ge i (posP l (pt l i).h) with h | h
    · have := posP_lt l (pt l i).h h; omega
    · exact h
  have h2 : ¬ posP l (pt l i).h < i := fun h => by
    have h3 := posP_ge hr (pt l i).h (j := i - 1) (by omega) (by omega)
    have h4 := ltP_h (rise_at hr (i := i - 1) (j := i) (by omega) hi)
    rcases h0 with h0 | h0
    · omega
    · omega
  have h3 : posP l (pt l i).h = i := by omega
  rw [place_eq _ (by omega), h3, if_pos hi]
/-- No point stands between a sum and its place. -/
theorem place_near {l : List Pt} (hr : RiseP l) (hf : ∀ j, j < l.length → 0 ≤ (pt l j).h ∧ (pt l j).h < 18446744073709551616) (h : Int) (hh : 0 ≤ h ∧ h < 18446744073709551616) (i : Nat) (hi : i < l.length) :
    ¬ ((pt l i).h - h) % 18446744073709551616 < ((pt l (placeP l h)).h - h) % 18446744073709551616 := by
  have h1 := hf i hi
  have h2 := hf _ (place_lt h (by omega : 0 < l.length))
  have hp := place_eq h (by omega : 0 < l.length)
  rcases Nat.lt_or_ge (posP l h) l.length with h3 | h3
  · rw [if_pos h3] at hp
    have h4 := posP_ge hr h (Nat.le_refl _) h3
    rw [hp] at h2 ⊢
    rcases Nat.lt_or_ge i (posP l h) with h5 | h5
    · have := posP_lt l h h5; omega
    · have h6 := posP_ge hr h h5 hi
      have h7 : (pt l (posP l h)).h ≤ (pt l i).h := by
        rcases Nat.lt_or_ge (posP l h) i with h8 | h8
        · exact ltP_h (rise_at hr h8 hi)
        · rw [show posP l h = i by omega]; exact Int.le_refl _
      omega
  · rw [if_neg (by omega)] at hp
    have h5 := posP_lt l h (j := i) (by omega)
    have h6 := posP_lt l h (j := 0) (by omega)
    have h7 : (pt l 0).h ≤ (pt l i).h := by
      rcases Nat.eq_zero_or_pos i with h8 | h8
      · rw [h8]; exact Int.le_refl _
      · exact ltP_h (rise_at hr h8 hi)
    rw [hp] at h2 ⊢
    omega

/-! ### put in one by one -/
def posI (l : List Pt) (p : Pt) : Nat := l.findIdx fun q => !ltP q p
def insP (l : List Pt) (p : Pt) : List Pt := l.take (posI l p) ++ ([p] ++ l.drop (posI l p))
theorem posI_le (l : List Pt) (p : Pt) : posI l p ≤ l.length := List.findIdx_le_length
theorem posI_lt (l : List Pt) (p : Pt) {j : Nat} (hj : j < posI l p) : ltP (pt l j) p = true := by
  have hl : j < l.length := Nat.lt_of_lt_of_le hj (posI_le l p)
  have := List.not_of_lt_findIdx hj
  rw [pt_lt l hl]
  simpa using this
theorem posI_at (l : List Pt) (p : Pt) (h : posI l p < l.length) : ltP (pt l (posI l p)) p = false := by
  have := List.findIdx_getElem (p := fun q : Pt => !ltP q p) (xs := l) (w := h)
  rw [pt_lt l h]
  have h2 : (!ltP l[posI l p] p) = true := this
  simpa using h2
theorem ins_perm (l : List Pt) (p : Pt) : (insP l p).Perm (l ++ [p]) := by
  unfold insP
  have : (l ++ [p]).Perm (l.take (posI l p) ++ l.drop (posI l p) ++ [p]) := by rw [List.take_append_drop]
  refine List.Perm.trans ?_ this.symm
  rw [List.append_assoc]
  exact List.Perm.append_left _ List.perm_append_comm
theorem ins_len (l : List Pt) (p : Pt) : (insP l p).length = l.length + 1 := by rw [(ins_perm l p).length_eq]; simp
theorem ins_rise {l : List Pt} {p : Pt} (hr : RiseP l) (hp : p ∉ l) : RiseP (insP l p) := by
  have hr' := hr
  unfold RiseP insP at *
  have h1 : ∀ a ∈ l.take (posI l p), ltP a p = true := fun a ha => by
    obtain ⟨j, hj, rfl⟩ := List.getElem_of_mem ha
    have hj' : j < posI l p ∧ j < l.length := by simp at hj; omega
    have := posI_lt l p hj'.1
    rw [pt_lt l hj'.2] at this
    simpa using this
  have h2 : ∀ b ∈ l.drop (posI l p), ltP p b = true := fun b hb => by
    obtain ⟨j, hj, rfl⟩ := List.getElem_of_mem hb
    have hj' : posI l p + j < l.length := by simp at hj; omega
    have hc : posI l p < l.length := by omega
    have e := posI_at l p hc
    have hne : pt l (posI l p) ≠ p := fun e => hp (e ▸ pt_mem l hc)
    have h0 : ltP p (pt l (posI l p)) = true := by
      rcases hh : ltP p (pt l (posI l p)) with _ | _
      · exact absurd (ltP_eq e hh) hne
      · rfl
    rw [List.getElem_drop, ← pt_lt l hj']
    rcases Nat.eq_zero_or_pos j with rfl | hj0
    · exact h0
    · exact ltP_trans h0 (rise_at hr' (by omega) hj')
  rw [← List.take_append_drop (posI l p) l, List.pairwise_append] at hr
  rw [List.pairwise_append]
  refine ⟨hr.1, ?_, fun a ha b hb => ?_⟩
  · rw [List.pairwise_append]
    refine ⟨by simp, hr.2.1, fun a ha b hb => ?_⟩
    rw [List.mem_singleton.1 ha]
    exact h2 b hb
  · rcases List.mem_append.1 hb with hb | hb
    · rw [List.mem_singleton.1 hb]; exact h1 a ha
    · exact hr.2.2 a ha b hb
def foldI (l : List Pt) : List Pt := l.foldl insP []
theorem foldI_snoc (l : List Pt) (p : Pt) : foldI (l ++ [p]) = insP (foldI l) p := by simp [foldI]
theorem foldIA_perm (l : List Pt) : ∀ a : List Pt, (l.foldl insP a).Perm (a ++ l) := by
  induction l with
  | nil => intro a; simp
  | cons p r ih =>
    intro a
    have h := (ins_perm a p).append_right r
    rw [List.append_assoc, List.singleton_append] at h
    exact (ih (insP a p)).trans h
theorem foldI_perm (l : List Pt) : (foldI l).Perm l := foldIA_perm l []
theorem foldI_len (l : List Pt) : (foldI l).length = l.length := (foldI_perm l).length_eq
theorem foldIA_rise (l : List Pt) : ∀ a : List Pt, RiseP a → (a ++ l).Nodup → RiseP (l.foldl insP a) := by
  induction l with
  | nil => intro a h _; exact h
  | cons p r ih =>
    intro a h hn
    have hp : p ∉ a := fun hp => by
      rw [List.nodup_append] at hn
      exact hn.2.2 p hp p (by simp) rfl
    refine ih (insP a p) (ins_rise h hp) ?_
    have h2 := (ins_perm a p).append_right r
    rw [List.append_assoc, List.singleton_append] at h2
    exact h2.nodup_iff.2 hn
theorem foldI_rise {l : List Pt} (h : l.Nodup) : RiseP (foldI l) := foldIA_rise l [] List.Pairwise.nil (by simpa using h)
theorem foldI_pts {nodes : List Int} (h : numsB nodes = true) (s : Nat) : foldI (rawP nodes s) = ptsP nodes s :=
  srt_eq (raw_nodup ((numsB_iff _).1 h).2 s) (foldI_perm _) (foldI_rise (raw_nodup ((numsB_iff _).1 h).2 s))
end Go.Proofs.YthcjjogomknddaaDoor.Pure
