/-
  The walks of the library's comparisons; of nodes' numbers and ticks; of numbers in a slice: the same, how often, in order.
-/
import Derived.Test.YtknpbbplolncpaaPlan
import Derived.Test.YtknpbbplolncpaaLast
import Derived.Test.YtknpbbplolncpaaQuiet
namespace Go.Proofs.Ytknpbbplolncpaa
open Go.Sort Go.RowKit Go.Proofs.Ytknpbbplolncpaa.Pure

set_option maxHeartbeats 400000 in
theorem nanI (a : Int) (w : World) : Calls Try.prog 49 #[.int .i64 a] w fun e w' => e = .returned (.bool false) ∧ w = w' := by
  have h : (a != a) = false := by simp
  go_enter Try.func49, Try.ntmps49
  go_wp2
  go_ret
  exact ⟨rfl, rfl⟩
set_option maxHeartbeats 400000 in
theorem nanS (a : Int) (w : World) : Calls Try.prog 54 #[.int .i64 a] w fun e w' => e = .returned (.bool false) ∧ w = w' := by
  have h : (a != a) = false := by simp
  go_enter Try.func54, Try.ntmps54
  go_wp2
  go_ret
  exact ⟨rfl, rfl⟩
/-- What is compared. -/
def cmpI (a b : Int) : Int := if a < b then -1 else if b < a then 1 else 0

theorem cmp_cases (a b : Int) : (a < b ∧ cmpI a b = -1) ∨ (b < a ∧ cmpI a b = 1) ∨ (a = b ∧ cmpI a b = 0) := by
  unfold cmpI
  rcases Int.lt_trichotomy a b with h | h | h
  · exact .inl ⟨h, by rw [if_pos h]⟩
  · exact .inr (.inr ⟨h, by rw [if_neg (by omega), if_neg (by omega)]⟩)
  · exact .inr (.inl ⟨h, by rw [if_neg (by omega), if_pos h]⟩)

set_option maxHeartbeats 400000 in
theorem cmpInt (a b : Int) (w : World) : Calls Try.prog 35 #[.int .i64 a, .int .i64 b] w fun e w' => e = .returned (.int .i64 (cmpI a b)) ∧ w = w' := by
  have HC := Lib.hid (cmp_cases a b)
  generalize cmpI a b = r at *
  go_enter Try.func35, Try.ntmps35
  go_wp2_with (go_at_call 49; refine (nanI _ _).mono ?_; rintro e w' ⟨rfl, rfl⟩)
  all_goals
    go_ret
    refine ⟨ret_int ?_, rfl⟩
    have := HC.out
    omega

set_option maxHeartbeats 400000 in
theorem less_any (a b : Int) (w : World) : Calls Try.prog 53 #[.int .i64 a, .int .i64 b] w fun e w' => e = .returned (.bool (decide (a < b))) ∧ w = w' := by
  rcases h : decide (a < b) with _ | _
  all_goals
    go_enter Try.func53, Try.ntmps53
    go_wp2_with (go_at_call 49; refine (nanI _ _).mono ?_; rintro e w' ⟨rfl, rfl⟩)
    go_ret
    exact ⟨rfl, rfl⟩
theorem wrap_nat (d : Nat) (h : d < 1000000) : IntKind.i64.wrap (d : Int) = (d : Int) := by
  have h1 : (d : Int) < 1000000 := by omega
  simp only [IntKind.wrap, IntKind.bits, IntKind.signed]
  simp
  omega

set_option maxRecDepth 100000 in
set_option maxHeartbeats 1000000 in
theorem tick_any (a : Int) (w : World) : Calls Try.prog 28 #[.int .i64 a] w fun e w' => e = .returned (.bool (tickB a)) ∧ w = w' := by
  obtain ⟨L, hL⟩ : ∃ L, tickB a = L := ⟨_, rfl⟩
  rw [hL]
  have HL : Hid (L = (decide (0 ≤ a) && decide (a ≤ 1099511627776))) := Lib.hid (by rw [← hL]; rfl)
  clear hL
  by_cases h1 : 0 ≤ a
  · by_cases h2 : a ≤ 1099511627776
    · have e1 : decide (0 ≤ a) = true := by simpa using h1
      have e2 : decide (a ≤ 1099511627776) = true := by simpa using h2
      obtain rfl : L = true := by rw [HL.out, e1, e2]; rfl
      go_enter Try.func28, Try.ntmps28
      go_wp2_with fail
      go_ret
      exact ⟨rfl, rfl⟩
    · have e1 : decide (0 ≤ a) = true := by simpa using h1
      have e2 : decide (a ≤ 1099511627776) = false := by simpa using h2
      obtain rfl : L = false := by rw [HL.out, e1, e2]; rfl
      go_enter Try.func28, Try.ntmps28
      go_wp2_with fail
      go_ret
      exact ⟨rfl, rfl⟩
  · have e1 : decide (0 ≤ a) = false := by simpa using h1
    obtain rfl : L = false := by rw [HL.out, e1]; rfl
    go_enter Try.func28, Try.ntmps28
    go_wp2_with fail
    go_ret
    exact ⟨rfl, rfl⟩
set_option maxRecDepth 100000 in
set_option maxHeartbeats 1000000 in
theorem node_any (a : Int) (w : World) : Calls Try.prog 32 #[.int .i64 a] w fun e w' => e = .returned (.bool (nodeB a)) ∧ w = w' := by
  obtain ⟨L, hL⟩ : ∃ L, nodeB a = L := ⟨_, rfl⟩
  rw [hL]
  have HL : Hid (L = (decide (0 ≤ a) && decide (a < 64))) := Lib.hid (by rw [← hL]; rfl)
  clear hL
  by_cases h1 : 0 ≤ a
  · by_cases h2 : a < 64
    · have e1 : decide (0 ≤ a) = true := by simpa using h1
      have e2 : decide (a < 64) = true := by simpa using h2
      obtain rfl : L = true := by rw [HL.out, e1, e2]; rfl
      go_enter Try.func32, Try.ntmps32
      go_wp2_with fail
      go_ret
      exact ⟨rfl, rfl⟩
    · have e1 : decide (0 ≤ a) = true := by simpa using h1
      have e2 : decide (a < 64) = false := by simpa using h2
      obtain rfl : L = false := by rw [HL.out, e1, e2]; rfl
      go_enter Try.func32, Try.ntmps32
      go_wp2_with fail
      go_ret
      exact ⟨rfl, rfl⟩
  · have e1 : decide (0 ≤ a) = false := by simpa using h1
    obtain rfl : L = false := by rw [HL.out, e1]; rfl
    go_enter Try.func32, Try.ntmps32
    go_wp2_with fail
    go_ret
    exact ⟨rfl, rfl⟩
set_option maxRecDepth 100000 in
set_option maxHeartbeats 1000000 in
theorem moment_any (a : Int) (w : World) : Calls Try.prog 23 #[.int .i64 a] w fun e w' => e = .returned (.bool (tickB a)) ∧ w = w' := by
  obtain ⟨L, hL⟩ : ∃ L, tickB a = L := ⟨_, rfl⟩
  rw [hL]
  have HL : Hid (L = (decide (0 ≤ a) && decide (a ≤ 1099511627776))) := Lib.hid (by rw [← hL]; rfl)
  clear hL
  by_cases h1 : 0 ≤ a
  · by_cases h2 : a ≤ 1099511627776
    · have e1 : decide (0 ≤ a) = true := by simpa using h1
      have e2 : decide (a ≤ 1099511627776) = true := by simpa using h2
      obtain rfl : L = true := by rw [HL.out, e1, e2]; rfl
      go_enter Try.func23, Try.ntmps23
      go_wp2_with fail
      go_ret
      exact ⟨rfl, rfl⟩
    · have e1 : decide (0 ≤ a) = true := by simpa using h1
      have e2 : decide (a ≤ 1099511627776) = false := by simpa using h2
      obtain rfl : L = false := by rw [HL.out, e1, e2]; rfl
      go_enter Try.func23, Try.ntmps23
      go_wp2_with fail
      go_ret
      exact ⟨rfl, rfl⟩
  · have e1 : decide (0 ≤ a) = false := by simpa using h1
    obtain rfl : L = false := by rw [HL.out, e1]; rfl
    go_enter Try.func23, Try.ntmps23
    go_wp2_with fail
    go_ret
    exact ⟨rfl, rfl⟩
/-- How often a number stands in a list. -/
def many (xs : List Int) (y : Int) : Nat := xs.countP (· == y)
theorem many_snoc (xs : List Int) (y : Int) (j : Nat) (h : j < xs.length) : many (xs.take (j + 1)) y = many (xs.take j) y + if xs.getD j 0 == y then 1 else 0 := by
  have e : xs.getD j 0 = xs[j] := by simp [List.getD, h]
  rw [List.take_succ_eq_append_getElem h, many, many, List.countP_append, List.countP_singleton, e]
theorem many_perm {xs ys : List Int} (h : xs.Perm ys) (y : Int) : many xs y = many ys y := h.countP_eq _
theorem many_take (xs : List Int) (k : Nat) (y : Int) : many (xs.take k) y ≤ many xs y := (List.take_sublist k xs).countP_le
theorem many_le (xs : List Int) (y : Int) : many xs y ≤ xs.length := List.countP_le_length

set_option maxRecDepth 100000 in
set_option maxHeartbeats 1000000 in
theorem many_any (A : Option Addr) (c lo hi : Nat) (xs : List Int) (y : Int) (w : World) (hn : xs.length ≤ 100000) (h : Has w lo hi A xs) :
    Calls Try.prog 43 #[.slice A xs.length c, .int .i64 y] w fun e w' => e = .returned (.int .i64 (many xs y : Nat)) ∧ w = w' := by
  have H := Lib.hid h
  clear h
  go_enter Try.func43, Try.ntmps43
  go_wp2_with fail
  go_loop [5, 6] (fun k i => ∃ j : Nat, j ≤ xs.length ∧ i = .int .i64 j ∧ k = .int .i64 (many (xs.take j) y : Nat)) (fun _ i => xs.length - (intOf i).toNat)
  case atStart => exact ⟨0, Nat.zero_le _, rfl, rfl⟩
  case round =>
    obtain ⟨j, hj, rfl, rfl⟩ := hrel
    by_cases hlt : j < xs.length
    · have j0 : (0 : Int) ≤ (j : Int) := by omega
      have j1 : (j : Int) < (xs.length : Int) := by omega
      obtain ⟨ad, rfl, _, _, hc⟩ := H.out j hlt
      have hM : Hid (many (xs.take (j + 1)) y = many (xs.take j) y + if xs.getD j 0 == y then 1 else 0) := Lib.hid (many_snoc xs y j hlt)
      have hb : many (xs.take j) y ≤ 100000 := Nat.le_trans List.countP_le_length (by rw [List.length_take]; omega)
      generalize xs.getD j 0 = z at *
      generalize many (xs.take j) y = q at *
      rcases hz : (z == y) with _ | _
      all_goals
        rw [hz] at hM
        go_wp2_with fail
        go_round
        case rel => exact ⟨j + 1, by omega, by go_num, by rw [hM.out]; simp⟩
        case measure => simp [intOf]; omega
    · obtain rfl : j = xs.length := by omega
      go_wp2
      go_ret
      exact ⟨ret_int (by simp), rfl⟩
theorem many_count (xs : List Int) (y : Int) : many xs y = xs.count y := rfl
theorem nums_many (xs : List Int) : numsB xs = true ↔ ∀ j, j < xs.length → 0 ≤ xs.getD j 0 ∧ xs.getD j 0 ≤ 63 ∧ many xs (xs.getD j 0) = 1 := by
  rw [numsB_iff]
  constructor
  · intro h j hj
    have hm := getD_mem xs j hj
    have h1 := h.1 _ hm
    refine ⟨h1.1, by omega, ?_⟩
    rw [many_count, h.2.count, if_pos hm]
  · intro h
    refine ⟨fun x hx => ?_, ?_⟩
    · obtain ⟨j, hj, rfl⟩ := List.getElem_of_mem hx
      have := h j hj
      have e : xs.getD j 0 = xs[j] := by simp [List.getD, hj]
      rw [e] at this
      omega
    · rw [List.nodup_iff_count]
      intro x
      by_cases hx : x ∈ xs
      · obtain ⟨j, hj, rfl⟩ := List.getElem_of_mem hx
        have := h j hj
        have e : xs.getD j 0 = xs[j] := by simp [List.getD, hj]
        rw [e, many_count] at this
        omega
      · rw [List.count_eq_zero_of_not_mem hx]; omega

set_option maxRecDepth 100000 in
set_option maxHeartbeats 2000000 in
theorem once_any (A : Option Addr) (c lo hi : Nat) (xs : List Int) (w : World) (hn : xs.length ≤ 100000) (h : Has w lo hi A xs) (L : Bool) (hL : numsB xs = L) :
    Calls Try.prog 46 #[.slice A xs.length c] w fun e w' => e = .returned (.bool L) ∧ w = w' := by
  have H := Lib.hid h
  have HL : Hid ((∀ j, j < xs.length → 0 ≤ xs.getD j 0 ∧ xs.getD j 0 ≤ 63 ∧ many xs (xs.getD j 0) = 1) ↔ L = true) := Lib.hid (by rw [← nums_many, hL])
  have HM := Lib.hid (fun (y : Int) => many_any A c lo hi xs y w hn h)
  have HMB := Lib.hid (fun (y : Int) => many_le xs y)
  clear h hL
  go_enter Try.func46, Try.ntmps46
  go_wp2_with fail
  go_loop [3] (fun i => ∃ k : Nat, k ≤ xs.length ∧ i = .int .i64 k ∧ Hid (∀ j, j < k → 0 ≤ xs.getD j 0 ∧ xs.getD j 0 ≤ 63 ∧ many xs (xs.getD j 0) = 1)) (fun i => xs.length - (intOf i).toNat)
  case atStart => exact ⟨0, Nat.zero_le _, rfl, Lib.hid (fun j hj => absurd hj (Nat.not_lt_zero j))⟩
  case round =>
    obtain ⟨k, hk, rfl, hok⟩ := hrel
    by_cases hlt : k < xs.length
    · obtain ⟨ad, rfl, hlo, hhi, hc⟩ := H.out k hlt
      have HF : Hid (¬ (0 ≤ xs.getD k 0 ∧ xs.getD k 0 ≤ 63 ∧ many xs (xs.getD k 0) = 1) → L = false) := Lib.hid (fun hne => by
        rcases L with _ | _
        · rfl
        · exact absurd (HL.out.2 rfl k hlt) hne)
      have HT : Hid ((0 ≤ xs.getD k 0 ∧ xs.getD k 0 ≤ 63 ∧ many xs (xs.getD k 0) = 1) → ∀ j, j < k + 1 → 0 ≤ xs.getD j 0 ∧ xs.getD j 0 ≤ 63 ∧ many xs (xs.getD j 0) = 1) := Lib.hid (fun he j hj => by
        rcases Nat.lt_or_ge j k with hjk | hjk
        · exact hok.out j hjk
        · obtain rfl : j = k := by omega
          exact he)
      have k0 : (0 : Int) ≤ (k : Int) := by omega
      have k1 : (k : Int) < (xs.length : Int) := by omega
      have HMy := Lib.hid (HM.out (xs.getD k 0))
      have hmb := HMB.out (xs.getD k 0)
      generalize many xs (xs.getD k 0) = q at *
      generalize xs.getD k 0 = y at *
      clear hok
      by_cases b1 : y < 0
      · have e1 : decide (y < 0) = true := by simpa using b1
        obtain rfl := HF.out (fun h => by omega)
        clear HF HT
        go_wp2_with fail
        go_ret
        exact ⟨rfl, rfl⟩
      have e1 : decide (y < 0) = false := by simpa using b1
      by_cases b2 : 63 < y
      · have e2 : decide (63 < y) = true := by simpa using b2
        obtain rfl := HF.out (fun h => by omega)
        clear HF HT
        go_wp2_with fail
        go_ret
        exact ⟨rfl, rfl⟩
      have e2 : decide (63 < y) = false := by simpa using b2
      by_cases b3 : q = 1
      · have HT' := Lib.hid (HT.out ⟨by omega, by omega, b3⟩)
        have e3 : ((q : Int) != 1) = false := by simp; omega
        subst b3
        clear HF HT b1 b2
        go_wp2_with fail
        refine HMy.out.mono ?_
        rintro e w' ⟨rfl, rfl⟩
        go_wp2_with fail
        go_round
        case rel => exact ⟨k + 1, by omega, by go_num, HT'⟩
        case measure => simp [intOf]; omega
      · obtain rfl := HF.out (fun h => b3 h.2.2)
        have e3 : ((q : Int) != 1) = true := by simp; omega
        clear HF HT b1 b2 b3
        go_wp2_with fail
        refine HMy.out.mono ?_
        rintro e w' ⟨rfl, rfl⟩
        go_wp2_with fail
        go_ret
        exact ⟨rfl, rfl⟩
    · obtain rfl : k = xs.length := by omega
      obtain rfl : L = true := HL.out.1 hok.out
      clear HM HMB
      go_wp2
      go_ret
      exact ⟨rfl, rfl⟩

set_option maxRecDepth 100000 in
set_option maxHeartbeats 2000000 in
theorem rnodes_t (A : Option Addr) (c lo hi : Nat) (xs : List Int) (w : World) (hn : xs.length ≤ 100000) (h : Has w lo hi A xs) (L : Bool) (hL : nodesB xs = L) :
    Calls Try.prog 30 #[.slice A xs.length c] w fun e w' => e = .returned (.bool L) ∧ Below w.heap.size w w' := by
  have H := Lib.hid h
  obtain ⟨M, hM⟩ : ∃ M, numsB xs = M := ⟨_, rfl⟩
  have HO := Lib.hid (fun (W : World) (h : Has W lo hi A xs) => once_any A c lo hi xs W hn h M hM)
  have HL : Hid ((strictB xs && (decide (xs.length ≤ 64) && M)) = L) := Lib.hid (by rw [← hL, ← hM, nodes_strict])
  have HST := Lib.hid (strictB_iff xs)
  clear h hL hM
  go_enter Try.func30, Try.ntmps30
  go_wp2_with fail
  go_loopw [3] (fun i wr => ∃ k m : Nat, i = .int .i64 ((k : Int) + 1) ∧ k ≤ xs.length ∧ Hid (∀ j, j < k → j < xs.length - 1 → xs.getD j 0 < xs.getD (j + 1) 0) ∧ wr = w.drewN m) (fun i _ => xs.length + 1 - (intOf i).toNat)
  case atStart => exact ⟨0, 0, rfl, Nat.zero_le _, Lib.hid (fun j hj => absurd hj (Nat.not_lt_zero j)), rfl⟩
  case round =>
    obtain ⟨k, m, rfl, hk, hok, rfl⟩ := hrel
    by_cases hlt : k + 1 < xs.length
    · obtain ⟨ad, rfl, hlo, hhi, h0⟩ := H.out k (by omega)
      obtain ⟨ad', e, _, _, h1⟩ := H.out (k + 1) hlt
      obtain rfl := Option.some.inj e
      obtain ⟨q, hq⟩ : ∃ q, q = k + 1 := ⟨_, rfl⟩
      rw [← hq] at h1
      have i0 : (0 : Int) ≤ (k : Int) := by omega
      have i1 : (k : Int) < (xs.length : Int) := by omega
      have i2 : (0 : Int) ≤ (q : Int) := by omega
      have i3 : (q : Int) < (xs.length : Int) := by omega
      have i5 : q < xs.length := by omega
      have i4 : IntKind.i64.wrap ((q : Int) - 1) = (k : Int) := by rw [show (q : Int) - 1 = (k : Int) by omega]; exact wrap_nat k (by omega)
      rw [show (k : Int) + 1 = (q : Int) by omega]
      have HF : Hid (xs.getD q 0 ≤ xs.getD k 0 → L = false) := Lib.hid (fun hle => by
        rw [← HL.out]
        have : strictB xs = false := by
          rcases hs : strictB xs with _ | _
          · rfl
          · have := HST.out.1 hs k (by omega)
            rw [← hq] at this; omega
        rw [this]; rfl)
      have HT : Hid (¬ xs.getD q 0 ≤ xs.getD k 0 → ∀ j, j < k + 1 → j < xs.length - 1 → xs.getD j 0 < xs.getD (j + 1) 0) := Lib.hid (fun hlt j h1 h2 => by
        rcases Nat.lt_or_ge j k with hj | hj
        · exact hok.out j hj h2
        · obtain rfl : j = k := by omega
          rw [← hq]; omega)
      have HQ := Lib.hid hq
      generalize xs.getD q 0 = y at *
      generalize xs.getD k 0 = x at *
      clear hok hq hlt
      rcases hyx : decide (y ≤ x) with _ | _
      · have HT' := Lib.hid (HT.out (by simpa using hyx))
        clear HT HF
        go_wp2_with fail
        go_quiet (fail)
        go_wp2_with fail
        go_roundw
        case rel => exact ⟨k + 1, _, congrArg (Value.int .i64) (by have := HQ.out; omega), by omega, HT', rfl⟩
        case measure => simp [intOf]; omega
      · obtain rfl := HF.out (by simpa using hyx)
        clear HT HF
        go_wp2_with fail
        go_quiet (fail)
        go_wp2_with fail
        go_ret
        exact ⟨rfl, below_drewN (below_drewN (Below.refl _ _) _) _⟩
    · have hs : strictB xs = true := HST.out.2 (fun i hi => hok.out i (by omega) hi)
      have hL' := HL.out
      rw [hs] at hL'
      have HL' := Lib.hid hL'
      have e0 : decide ((k : Int) + 1 < (xs.length : Int)) = false := by simp; omega
      clear hL' HL hs
      by_cases hl : xs.length ≤ 64
      · obtain rfl : M = L := by rw [← HL'.out]; simp [hl]
        have d0 : decide ((xs.length : Int) ≤ 64) = true := by simp; omega
        have d1 : decide (xs.length ≤ 64) = true := by simp; omega
        go_wp2_with fail
        refine (HO.out _ (H.out.drewN _)).mono ?_
        rintro e w1 ⟨rfl, rfl⟩
        go_wp2_with fail
        go_ret
        exact ⟨rfl, below_drewN (Below.refl _ _) _⟩
      · obtain rfl : L = false := by rw [← HL'.out]; simp [hl]
        have d0 : decide ((xs.length : Int) ≤ 64) = false := by simp; omega
        have d1 : decide (xs.length ≤ 64) = false := by simp; omega
        go_wp2_with fail
        go_ret
        exact ⟨rfl, below_drewN (Below.refl _ _) _⟩
theorem ext_ints {a b : List Int} (hl : a.length = b.length) : (∀ j, j < a.length → a.getD j 0 = b.getD j 0) ↔ a = b := by
  constructor
  · intro h
    apply List.ext_getElem hl
    intro j h1 h2
    have := h j h1
    simpa [List.getD, h1, h2] using this
  · rintro rfl _ _; rfl

set_option maxRecDepth 100000 in
set_option maxHeartbeats 1000000 in
theorem equal_any (A A' : Option Addr) (c c' lo hi lo' hi' : Nat) (a b : List Int) (w : World) (hn : a.length ≤ 100000) (h : Has w lo hi A a) (h' : Has w lo' hi' A' b) (S : Bool) (hS : decide (a = b) = S) :
    Calls Try.prog 42 #[.slice A a.length c, .slice A' b.length c'] w fun e w' => e = .returned (.bool S) ∧ Below w.heap.size w w' := by
  by_cases hl : a.length = b.length
  · have H := Lib.hid h
    have H' := Lib.hid h'
    have HS : Hid ((∀ j, j < a.length → a.getD j 0 = b.getD j 0) ↔ S = true) := Lib.hid (by rw [ext_ints hl, ← hS, decide_eq_true_iff])
    clear h h' hS
    have HLB := Lib.hid hl
    rw [← hl]
    clear hl
    go_enter Try.func42, Try.ntmps42
    go_wp2_with fail
    go_loopw [13] (fun i wr => ∃ j m : Nat, j ≤ a.length ∧ i = .int .i64 j ∧ Hid (∀ k, k < j → a.getD k 0 = b.getD k 0) ∧ wr = w.drewN m) (fun i _ => a.length - (intOf i).toNat)
    case atStart => exact ⟨0, 0, Nat.zero_le _, rfl, Lib.hid (fun k hk => absurd hk (Nat.not_lt_zero k)), rfl⟩
    case round =>
      obtain ⟨j, m, hj, rfl, hok, rfl⟩ := hrel
      by_cases hlt : j < a.length
      · have j0 : (0 : Int) ≤ (j : Int) := by omega
        have j1 : (j : Int) < (a.length : Int) := by omega
        obtain ⟨ad, rfl, _, _, hc⟩ := H.out j hlt
        obtain ⟨ad', rfl, _, _, hc'⟩ := H'.out j (by rw [← HLB.out]; exact hlt)
        have HF : Hid (a.getD j 0 ≠ b.getD j 0 → S = false) := Lib.hid (fun hne => by
          rcases S with _ | _
          · rfl
          · exact absurd (HS.out.2 rfl j hlt) hne)
        have HT : Hid (a.getD j 0 = b.getD j 0 → ∀ k, k < j + 1 → a.getD k 0 = b.getD k 0) := Lib.hid (fun he k hk => by
          rcases Nat.lt_or_ge k j with hjk | hjk
          · exact hok.out k hjk
          · obtain rfl : k = j := by omega
            exact he)
        generalize a.getD j 0 = y at *
        generalize b.getD j 0 = z at *
        clear hok
        rcases hq : (y != z) with _ | _
        · have HT' := Lib.hid (HT.out (by simpa using hq))
          clear HT HF
          go_wp2_with fail
          go_quiet (fail)
          go_wp2
          go_roundw
          case rel => exact ⟨j + 1, _, by omega, by go_num, HT', rfl⟩
          case measure => simp [intOf]; omega
        · obtain rfl := HF.out (by simpa using hq)
          clear HT HF
          go_wp2_with fail
          go_quiet (fail)
          go_wp2
          go_ret
          exact ⟨rfl, below_drewN (below_drewN (Below.refl _ _) _) _⟩
      · obtain rfl : j = a.length := by omega
        obtain rfl : S = true := HS.out.1 hok.out
        go_wp2
        go_ret
        exact ⟨rfl, below_drewN (Below.refl _ _) _⟩
  · obtain rfl : S = false := by rw [← hS]; simpa using fun e => hl (by rw [e])
    have e0 : ((a.length : Int) != (b.length : Int)) = true := by simp; omega
    clear h h' hS
    generalize a.length = n at *
    generalize b.length = m at *
    go_enter Try.func42, Try.ntmps42
    go_wp2
    go_ret
    exact ⟨rfl, Below.refl _ _⟩

set_option maxRecDepth 100000 in
set_option maxHeartbeats 1000000 in
theorem same2_any (A A' : Option Addr) (c c' lo hi lo' hi' : Nat) (a b : List Int) (w : World) (hn : a.length ≤ 100000) (h : Has w lo hi A a) (h' : Has w lo' hi' A' b) (S : Bool) (hS : decide (a = b) = S) :
    Calls Try.prog 26 #[.slice A a.length c, .slice A' b.length c'] w fun e w' => e = .returned (.bool S) ∧ Below w.heap.size w w' := by
  by_cases hl : a.length = b.length
  · have H := Lib.hid h
    have H' := Lib.hid h'
    have HS : Hid ((∀ j, j < a.length → a.getD j 0 = b.getD j 0) ↔ S = true) := Lib.hid (by rw [ext_ints hl, ← hS, decide_eq_true_iff])
    clear h h' hS
    have HLB := Lib.hid hl
    rw [← hl]
    clear hl
    go_enter Try.func26, Try.ntmps26
    go_wp2_with fail
    go_loopw [5] (fun i wr => ∃ j m : Nat, j ≤ a.length ∧ i = .int .i64 j ∧ Hid (∀ k, k < j → a.getD k 0 = b.getD k 0) ∧ wr = w.drewN m) (fun i _ => a.length - (intOf i).toNat)
    case atStart => exact ⟨0, 0, Nat.zero_le _, rfl, Lib.hid (fun k hk => absurd hk (Nat.not_lt_zero k)), rfl⟩
    case round =>
      obtain ⟨j, m, hj, rfl, hok, rfl⟩ := hrel
      by_cases hlt : j < a.length
      · have j0 : (0 : Int) ≤ (j : Int) := by omega
        have j1 : (j : Int) < (a.length : Int) := by omega
        obtain ⟨ad, rfl, _, _, hc⟩ := H.out j hlt
        obtain ⟨ad', rfl, _, _, hc'⟩ := H'.out j (by rw [← HLB.out]; exact hlt)
        have HF : Hid (a.getD j 0 ≠ b.getD j 0 → S = false) := Lib.hid (fun hne => by
          rcases S with _ | _
          · rfl
          · exact absurd (HS.out.2 rfl j hlt) hne)
        have HT : Hid (a.getD j 0 = b.getD j 0 → ∀ k, k < j + 1 → a.getD k 0 = b.getD k 0) := Lib.hid (fun he k hk => by
          rcases Nat.lt_or_ge k j with hjk | hjk
          · exact hok.out k hjk
          · obtain rfl : k = j := by omega
            exact he)
        generalize a.getD j 0 = y at *
        generalize b.getD j 0 = z at *
        clear hok
        rcases hq : (y != z) with _ | _
        · have HT' := Lib.hid (HT.out (by simpa using hq))
          clear HT HF
          go_wp2_with fail
          go_quiet (fail)
          go_wp2
          go_roundw
          case rel => exact ⟨j + 1, _, by omega, by go_num, HT', rfl⟩
          case measure => simp [intOf]; omega
        · obtain rfl := HF.out (by simpa using hq)
          clear HT HF
          go_wp2_with fail
          go_quiet (fail)
          go_wp2
          go_ret
          exact ⟨rfl, below_drewN (below_drewN (Below.refl _ _) _) _⟩
      · obtain rfl : j = a.length := by omega
        obtain rfl : S = true := HS.out.1 hok.out
        go_wp2
        go_ret
        exact ⟨rfl, below_drewN (Below.refl _ _) _⟩
  · obtain rfl : S = false := by rw [← hS]; simpa using fun e => hl (by rw [e])
    have e0 : ((a.length : Int) != (b.length : Int)) = true := by simp; omega
    clear h h' hS
    generalize a.length = n at *
    generalize b.length = m at *
    go_enter Try.func26, Try.ntmps26
    go_wp2
    go_ret
    exact ⟨rfl, Below.refl _ _⟩

end Go.Proofs.Ytknpbbplolncpaa
