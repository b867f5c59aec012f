/-
  The walks of the document's once, May and Nodes.
-/
import Derived.Test.YthcjjogomknddaaDoorLeaf
namespace Go.Proofs.YthcjjogomknddaaDoor
open Go.Sort Go.RowKit Go.Proofs.YthcjjogomknddaaDoor.Pure

theorem many_count (xs : List Int) (y : Int) : many xs y = xs.count y := rfl
theorem nums_many (xs : List Int) : numsB xs = true ↔ ∀ j, j < xs.length → 0 ≤ xs.getD j 0 ∧ xs.getD j 0 ≤ 63 ∧ many xs (xs.getD j 0) = 1 := by
  rw [numsB_iff]
  constructor
  · intro h j hj
    have hm := getD_mem xs j hj
    have h1 := h.1 _ hm
    refine ⟨h1.1, by omega, ?_⟩
    rw [many_count, h.2.count, if_pos hm]
  · intro h
    refine ⟨fun x hx => ?_, ?_⟩
    · obtain ⟨j, hj, rfl⟩ := List.getElem_of_mem hx
      have := h j hj
      have e : xs.getD j 0 = xs[j] := by simp [List.getD, hj]
      rw [e] at this
      omega
    · rw [List.nodup_iff_count]
      intro x
      by_cases hx : x ∈ xs
      · obtain ⟨j, hj, rfl⟩ := List.getElem_of_mem hx
        have := h j hj
        have e : xs.getD j 0 = xs[j] := by simp [List.getD, hj]
        rw [e, many_count] at this
        omega
      · rw [List.count_eq_zero_of_not_mem hx]; omega

set_option maxRecDepth 100000 in
set_option maxHeartbeats 2000000 in
theorem once_any (A : Option Addr) (c lo hi : Nat) (xs : List Int) (w : World) (hn : xs.length ≤ 100000) (h : Has w lo hi A xs) (L : Bool) (hL : numsB xs = L) :
    Calls Tryd.prog 29 #[.slice A xs.length c] w fun e w' => e = .returned (.bool L) ∧ w = w' := by
  have H := Lib.hid h
  have HL : Hid ((∀ j, j < xs.length → 0 ≤ xs.getD j 0 ∧ xs.getD j 0 ≤ 63 ∧ many xs (xs.getD j 0) = 1) ↔ L = true) := Lib.hid (by rw [← nums_many, hL])
  have HM := Lib.hid (fun (y : Int) => many_any A c lo hi xs y w hn h)
  have HMB := Lib.hid (fun (y : Int) => many_le xs y)
  clear h hL
  go_enter Tryd.func29, Tryd.ntmps29
  go_wp2_with fail
  go_loop [3] (fun i => ∃ k : Nat, k ≤ xs.length ∧ i = .int .i64 k ∧ Hid (∀ j, j < k → 0 ≤ xs.getD j 0 ∧ xs.getD j 0 ≤ 63 ∧ many xs (xs.getD j 0) = 1)) (fun i => xs.length - (intOf i).toNat)
  case atStart => exact ⟨0, Nat.zero_le _, rfl, Lib.hid (fun j hj => absurd hj (Nat.not_lt_zero j))⟩
  case round =>
    obtain ⟨k, hk, rfl, hok⟩ := hrel
    by_cases hlt : k < xs.length
    · obtain ⟨ad, rfl, hlo, hhi, hc⟩ := H.out k hlt
      have HF : Hid (¬ (0 ≤ xs.getD k 0 ∧ xs.getD k 0 ≤ 63 ∧ many xs (xs.getD k 0) = 1) → L = false) := Lib.hid (fun hne => by
        rcases L with _ | _
        · rfl
        · exact absurd (HL.out.2 rfl k hlt) hne)
      have HT : Hid ((0 ≤ xs.getD k 0 ∧ xs.getD k 0 ≤ 63 ∧ many xs (xs.getD k 0) = 1) → ∀ j, j < k + 1 → 0 ≤ xs.getD j 0 ∧ xs.getD j 0 ≤ 63 ∧ many xs (xs.getD j 0) = 1) := Lib.hid (fun he j hj => by
        rcases Nat.lt_or_ge j k with hjk | hjk
        · exact hok.out j hjk
        · obtain rfl : j = k := by omega
          exact he)
      have k0 : (0 : Int) ≤ (k : Int) := by omega
      have k1 : (k : Int) < (xs.length : Int) := by omega
      have HMy := Lib.hid (HM.out (xs.getD k 0))
      have hmb := HMB.out (xs.getD k 0)
      generalize many xs (xs.getD k 0) = q at *
      generalize xs.getD k 0 = y at *
      clear hok
      by_cases b1 : y < 0
      · have e1 : decide (y < 0) = true := by simpa using b1
        obtain rfl := HF.out (fun h => by omega)
        clear HF HT
        go_wp2_with fail
        go_ret
        exact ⟨rfl, rfl⟩
      have e1 : decide (y < 0) = false := by simpa using b1
      by_cases b2 : 63 < y
      · have e2 : decide (63 < y) = true := by simpa using b2
        obtain rfl := HF.out (fun h => by omega)
        clear HF HT
        go_wp2_with fail
        go_ret
        exact ⟨rfl, rfl⟩
      have e2 : decide (63 < y) = false := by simpa using b2
      by_cases b3 : q = 1
      · have HT' := Lib.hid (HT.out ⟨by omega, by omega, b3⟩)
        have e3 : ((q : Int) != 1) = false := by simp; omega
        subst b3
        clear HF HT b1 b2
        go_wp2_with fail
        refine HMy.out.mono ?_
        rintro e w' ⟨rfl, rfl⟩
        go_wp2_with fail
        go_round
        case rel => exact ⟨k + 1, by omega, by go_num, HT'⟩
        case measure => simp [intOf]; omega
      · obtain rfl := HF.out (fun h => b3 h.2.2)
        have e3 : ((q : Int) != 1) = true := by simp; omega
        clear HF HT b1 b2 b3
        go_wp2_with fail
        refine HMy.out.mono ?_
        rintro e w' ⟨rfl, rfl⟩
        go_wp2_with fail
        go_ret
        exact ⟨rfl, rfl⟩
    · obtain rfl : k = xs.length := by omega
      obtain rfl : L = true := HL.out.1 hok.out
      clear HM HMB
      go_wp2
      go_ret
      exact ⟨rfl, rfl⟩

set_option maxRecDepth 100000 in
set_option maxHeartbeats 2000000 in
theorem rnodes_t (A : Option Addr) (c lo hi : Nat) (xs : List Int) (w : World) (hn : xs.length ≤ 100000) (h : Has w lo hi A xs) (L : Bool) (hL : nodesB xs = L) :
    Calls Tryd.prog 12 #[.slice A xs.length c] w fun e w' => e = .returned (.bool L) ∧ Below w.heap.size w w' := by
  have H := Lib.hid h
  obtain ⟨M, hM⟩ : ∃ M, numsB xs = M := ⟨_, rfl⟩
  have HO := Lib.hid (fun (W : World) (h : Has W lo hi A xs) => once_any A c lo hi xs W hn h M hM)
  have HL : Hid ((strictB xs && (decide (xs.length ≤ 64) && M)) = L) := Lib.hid (by rw [← hL, ← hM, nodes_strict])
  have HST := Lib.hid (strictB_iff xs)
  clear h hL hM
  go_enter Tryd.func12, Tryd.ntmps12
  go_wp2_with fail
  go_loopw [3] (fun i wr => ∃ k m : Nat, i = .int .i64 ((k : Int) + 1) ∧ k ≤ xs.length ∧ Hid (∀ j, j < k → j < xs.length - 1 → xs.getD j 0 < xs.getD (j + 1) 0) ∧ wr = w.drewN m) (fun i _ => xs.length + 1 - (intOf i).toNat)
  case atStart => exact ⟨0, 0, rfl, Nat.zero_le _, Lib.hid (fun j hj => absurd hj (Nat.not_lt_zero j)), rfl⟩
  case round =>
    obtain ⟨k, m, rfl, hk, hok, rfl⟩ := hrel
    by_cases hlt : k + 1 < xs.length
    · obtain ⟨ad, rfl, hlo, hhi, h0⟩ := H.out k (by omega)
      obtain ⟨ad', e, _, _, h1⟩ := H.out (k + 1) hlt
      obtain rfl := Option.some.inj e
      obtain ⟨q, hq⟩ : ∃ q, q = k + 1 := ⟨_, rfl⟩
      rw [← hq] at h1
      have i0 : (0 : Int) ≤ (k : Int) := by omega
      have i1 : (k : Int) < (xs.length : Int) := by omega
      have i2 : (0 : Int) ≤ (q : Int) := by omega
      have i3 : (q : Int) < (xs.length : Int) := by omega
      have i5 : q < xs.length := by omega
      have i4 : IntKind.i64.wrap ((q : Int) - 1) = (k : Int) := by rw [show (q : Int) - 1 = (k : Int) by omega]; exact wrap_nat k (by omega)
      rw [show (k : Int) + 1 = (q : Int) by omega]
      have HF : Hid (xs.getD q 0 ≤ xs.getD k 0 → L = false) := Lib.hid (fun hle => by
        rw [← HL.out]
        have : strictB xs = false := by
          rcases hs : strictB xs with _ | _
          · rfl
          · have := HST.out.1 hs k (by omega)
            rw [← hq] at this; omega
        rw [this]; rfl)
      have HT : Hid (¬ xs.getD q 0 ≤ xs.getD k 0 → ∀ j, j < k + 1 → j < xs.length - 1 → xs.getD j 0 < xs.getD (j + 1) 0) := Lib.hid (fun hlt j h1 h2 => by
        rcases Nat.lt_or_ge j k with hj | hj
        · exact hok.out j hj h2
        · obtain rfl : j = k := by omega
          rw [← hq]; omega)
      have HQ := Lib.hid hq
      generalize xs.getD q 0 = y at *
      generalize xs.getD k 0 = x at *
      clear hok hq hlt
      rcases hyx : decide (y ≤ x) with _ | _
      · have HT' := Lib.hid (HT.out (by simpa using hyx))
        clear HT HF
        go_wp2_with fail
        go_quiet (fail)
        go_wp2_with fail
        go_roundw
        case rel => exact ⟨k + 1, _, congrArg (Value.int .i64) (by have := HQ.out; omega), by omega, HT', rfl⟩
        case measure => simp [intOf]; omega
      · obtain rfl := HF.out (by simpa using hyx)
        clear HT HF
        go_wp2_with fail
        go_quiet (fail)
        go_wp2_with fail
        go_ret
        exact ⟨rfl, below_drewN (below_drewN (Below.refl _ _) _) _⟩
    · have hs : strictB xs = true := HST.out.2 (fun i hi => hok.out i (by omega) hi)
      have hL' := HL.out
      rw [hs] at hL'
      have HL' := Lib.hid hL'
      have e0 : decide ((k : Int) + 1 < (xs.length : Int)) = false := by simp; omega
      clear hL' HL hs
      by_cases hl : xs.length ≤ 64
      · obtain rfl : M = L := by rw [← HL'.out]; simp [hl]
        have d0 : decide ((xs.length : Int) ≤ 64) = true := by simp; omega
        have d1 : decide (xs.length ≤ 64) = true := by simp; omega
        go_wp2_with fail
        refine (HO.out _ (H.out.drewN _)).mono ?_
        rintro e w1 ⟨rfl, rfl⟩
        go_wp2_with fail
        go_ret
        exact ⟨rfl, below_drewN (Below.refl _ _) _⟩
      · obtain rfl : L = false := by rw [← HL'.out]; simp [hl]
        have d0 : decide ((xs.length : Int) ≤ 64) = false := by simp; omega
        have d1 : decide (xs.length ≤ 64) = false := by simp; omega
        go_wp2_with fail
        go_ret
        exact ⟨rfl, below_drewN (Below.refl _ _) _⟩
end Go.Proofs.YthcjjogomknddaaDoor
