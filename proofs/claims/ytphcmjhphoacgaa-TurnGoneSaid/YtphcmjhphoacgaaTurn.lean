/-
  The walks of what tells whether numbers, and turns, are the same: of the library, of the program, and of the document.
-/
import Derived.Test.YtphcmjhphoacgaaLeaf
namespace Go.Proofs.Ytphcmjhphoacgaa
open Go.Sort Go.RowKit Go.Proofs.Ytphcmjhphoacgaa.Pure

theorem ext_ints {a b : List Int} (hl : a.length = b.length) : (∀ j, j < a.length → a.getD j 0 = b.getD j 0) ↔ a = b := by
  constructor
  · intro h
    apply List.ext_getElem hl
    intro j h1 h2
    have := h j h1
    simpa [List.getD, h1, h2] using this
  · rintro rfl _ _; rfl

set_option maxRecDepth 100000 in
set_option maxHeartbeats 1000000 in
theorem equal_any (A A' : Option Addr) (c c' lo hi lo' hi' : Nat) (a b : List Int) (w : World) (hn : a.length ≤ 100000) (h : Has w lo hi A a) (h' : Has w lo' hi' A' b) (S : Bool) (hS : decide (a = b) = S) :
    Calls Try.prog 31 #[.slice A a.length c, .slice A' b.length c'] w fun e w' => e = .returned (.bool S) ∧ Below w.heap.size w w' := by
  by_cases hl : a.length = b.length
  · have H := Lib.hid h
    have H' := Lib.hid h'
    have HS : Hid ((∀ j, j < a.length → a.getD j 0 = b.getD j 0) ↔ S = true) := Lib.hid (by rw [ext_ints hl, ← hS, decide_eq_true_iff])
    clear h h' hS
    have HLB := Lib.hid hl
    rw [← hl]
    clear hl
    go_enter Try.func31, Try.ntmps31
    go_wp2_with fail
    go_loopw [13] (fun i wr => ∃ j m : Nat, j ≤ a.length ∧ i = .int .i64 j ∧ Hid (∀ k, k < j → a.getD k 0 = b.getD k 0) ∧ wr = w.drewN m) (fun i _ => a.length - (intOf i).toNat)
    case atStart => exact ⟨0, 0, Nat.zero_le _, rfl, Lib.hid (fun k hk => absurd hk (Nat.not_lt_zero k)), rfl⟩
    case round =>
      obtain ⟨j, m, hj, rfl, hok, rfl⟩ := hrel
      by_cases hlt : j < a.length
      · have j0 : (0 : Int) ≤ (j : Int) := by omega
        have j1 : (j : Int) < (a.length : Int) := by omega
        obtain ⟨ad, rfl, _, _, hc⟩ := H.out j hlt
        obtain ⟨ad', rfl, _, _, hc'⟩ := H'.out j (by rw [← HLB.out]; exact hlt)
        have HF : Hid (a.getD j 0 ≠ b.getD j 0 → S = false) := Lib.hid (fun hne => by
          rcases S with _ | _
          · rfl
          · exact absurd (HS.out.2 rfl j hlt) hne)
        have HT : Hid (a.getD j 0 = b.getD j 0 → ∀ k, k < j + 1 → a.getD k 0 = b.getD k 0) := Lib.hid (fun he k hk => by
          rcases Nat.lt_or_ge k j with hjk | hjk
          · exact hok.out k hjk
          · obtain rfl : k = j := by omega
            exact he)
        generalize a.getD j 0 = y at *
        generalize b.getD j 0 = z at *
        clear hok
        rcases hq : (y != z) with _ | _
        · have HT' := Lib.hid (HT.out (by simpa using hq))
          clear HT HF
          go_wp2_with fail
          go_quiet (fail)
          go_wp2
          go_roundw
          case rel => exact ⟨j + 1, _, by omega, by go_num, HT', rfl⟩
          case measure => simp [intOf]; omega
        · obtain rfl := HF.out (by simpa using hq)
          clear HT HF
          go_wp2_with fail
          go_quiet (fail)
          go_wp2
          go_ret
          exact ⟨rfl, below_drewN (below_drewN (Below.refl _ _) _) _⟩
      · obtain rfl : j = a.length := by omega
        obtain rfl : S = true := HS.out.1 hok.out
        go_wp2
        go_ret
        exact ⟨rfl, below_drewN (Below.refl _ _) _⟩
  · obtain rfl : S = false := by rw [← hS]; simpa using fun e => hl (by rw [e])
    have e0 : ((a.length : Int) != (b.length : Int)) = true := by simp; omega
    clear h h' hS
    generalize a.length = n at *
    generalize b.length = m at *
    go_enter Try.func31, Try.ntmps31
    go_wp2
    go_ret
    exact ⟨rfl, Below.refl _ _⟩

set_option maxRecDepth 100000 in
set_option maxHeartbeats 1000000 in
theorem same_any (A A' : Option Addr) (c c' lo hi lo' hi' : Nat) (a b : List Int) (w : World) (hn : a.length ≤ 100000) (h : Has w lo hi A a) (h' : Has w lo' hi' A' b) (S : Bool) (hS : decide (a = b) = S) :
    Calls Try.prog 22 #[.slice A a.length c, .slice A' b.length c'] w fun e w' => e = .returned (.bool S) ∧ Below w.heap.size w w' := by
  by_cases hl : a.length = b.length
  · have H := Lib.hid h
    have H' := Lib.hid h'
    have HS : Hid ((∀ j, j < a.length → a.getD j 0 = b.getD j 0) ↔ S = true) := Lib.hid (by rw [ext_ints hl, ← hS, decide_eq_true_iff])
    clear h h' hS
    have HLB := Lib.hid hl
    rw [← hl]
    clear hl
    go_enter Try.func22, Try.ntmps22
    go_wp2_with fail
    go_loopw [5] (fun i wr => ∃ j m : Nat, j ≤ a.length ∧ i = .int .i64 j ∧ Hid (∀ k, k < j → a.getD k 0 = b.getD k 0) ∧ wr = w.drewN m) (fun i _ => a.length - (intOf i).toNat)
    case atStart => exact ⟨0, 0, Nat.zero_le _, rfl, Lib.hid (fun k hk => absurd hk (Nat.not_lt_zero k)), rfl⟩
    case round =>
      obtain ⟨j, m, hj, rfl, hok, rfl⟩ := hrel
      by_cases hlt : j < a.length
      · have j0 : (0 : Int) ≤ (j : Int) := by omega
        have j1 : (j : Int) < (a.length : Int) := by omega
        obtain ⟨ad, rfl, _, _, hc⟩ := H.out j hlt
        obtain ⟨ad', rfl, _, _, hc'⟩ := H'.out j (by rw [← HLB.out]; exact hlt)
        have HF : Hid (a.getD j 0 ≠ b.getD j 0 → S = false) := Lib.hid (fun hne => by
          rcases S with _ | _
          · rfl
          · exact absurd (HS.out.2 rfl j hlt) hne)
        have HT : Hid (a.getD j 0 = b.getD j 0 → ∀ k, k < j + 1 → a.getD k 0 = b.getD k 0) := Lib.hid (fun he k hk => by
          rcases Nat.lt_or_ge k j with hjk | hjk
          · exact hok.out k hjk
          · obtain rfl : k = j := by omega
            exact he)
        generalize a.getD j 0 = y at *
        generalize b.getD j 0 = z at *
        clear hok
        rcases hq : (y != z) with _ | _
        · have HT' := Lib.hid (HT.out (by simpa using hq))
          clear HT HF
          go_wp2_with fail
          go_quiet (fail)
          go_wp2
          go_roundw
          case rel => exact ⟨j + 1, _, by omega, by go_num, HT', rfl⟩
          case measure => simp [intOf]; omega
        · obtain rfl := HF.out (by simpa using hq)
          clear HT HF
          go_wp2_with fail
          go_quiet (fail)
          go_wp2
          go_ret
          exact ⟨rfl, below_drewN (below_drewN (Below.refl _ _) _) _⟩
      · obtain rfl : j = a.length := by omega
        obtain rfl : S = true := HS.out.1 hok.out
        go_wp2
        go_ret
        exact ⟨rfl, below_drewN (Below.refl _ _) _⟩
  · obtain rfl : S = false := by rw [← hS]; simpa using fun e => hl (by rw [e])
    have e0 : ((a.length : Int) != (b.length : Int)) = true := by simp; omega
    clear h h' hS
    generalize a.length = n at *
    generalize b.length = m at *
    go_enter Try.func22, Try.ntmps22
    go_wp2
    go_ret
    exact ⟨rfl, Below.refl _ _⟩

/-- A turn as a value. -/
def tnV (A : Option Addr) (n c : Nat) (p : Int) : Value := .agg #[.slice A n c, .int .i64 p]

set_option maxRecDepth 100000 in
set_option maxHeartbeats 1000000 in
theorem same_t (A A' : Option Addr) (c c' lo hi lo' hi' : Nat) (a b : List Int) (p q : Int) (w : World) (hn : a.length ≤ 100000) (h : Has w lo hi A a) (h' : Has w lo' hi' A' b) (hh : hi ≤ w.heap.size) (hh' : hi' ≤ w.heap.size) (S : Bool) (hS : decide (p = q ∧ a = b) = S) :
    Calls Try.prog 18 #[.agg #[.slice A a.length c, .int .i64 p], .agg #[.slice A' b.length c', .int .i64 q]] w fun e w' => e = .returned (.bool S) ∧ Below w.heap.size w w' := by
  have H := Lib.hid h
  have H' := Lib.hid h'
  rcases hq : (p == q) with _ | _
  · obtain rfl : S = false := by rw [← hS]; simp at hq; simp [hq]
    clear h h' hS
    go_enter Try.func18, Try.ntmps18
    go_wp2_with fail
    go_ret
    exact ⟨rfl, ((Below.refl _ _).alloc (Nat.le_refl _) _).alloc (by simp) _⟩
  · have hS' : decide (a = b) = S := by rw [← hS]; simp at hq; simp [hq]
    have HE := Lib.hid (fun (W : World) (h : Has W lo hi A a) (h' : Has W lo' hi' A' b) => equal_any A A' c c' lo hi lo' hi' a b W hn h h' S hS')
    clear h h' hS hS'
    go_enter Try.func18, Try.ntmps18
    go_wp2_with fail
    refine (HE.out _ ((H.out.alloc _ hh).alloc _ (by simp; omega)) ((H'.out.alloc _ hh').alloc _ (by simp; omega))).mono ?_
    rintro e w1 ⟨rfl, hb1⟩
    have HB1 : Hid (Below w.heap.size w w1) := Lib.hid ((((Below.refl _ _).alloc (Nat.le_refl _) _).alloc (by simp) _).trans (hb1.mono (by simp; omega)))
    clear hb1
    go_wp2_with fail
    go_ret
    exact ⟨rfl, HB1.out⟩

set_option maxRecDepth 100000 in
set_option maxHeartbeats 1000000 in
theorem rsame_t (A A' : Option Addr) (c c' lo hi lo' hi' : Nat) (a b : List Int) (p q : Int) (w : World) (hn : a.length ≤ 100000) (h : Has w lo hi A a) (h' : Has w lo' hi' A' b) (hh : hi ≤ w.heap.size) (hh' : hi' ≤ w.heap.size) (S : Bool) (hS : decide (p = q ∧ a = b) = S) :
    Calls Try.prog 13 #[.agg #[.slice A a.length c, .int .i64 p], .agg #[.slice A' b.length c', .int .i64 q]] w fun e w' => e = .returned (.bool S) ∧ Below w.heap.size w w' := by
  have H := Lib.hid h
  have H' := Lib.hid h'
  rcases hq : (p == q) with _ | _
  · obtain rfl : S = false := by rw [← hS]; simp at hq; simp [hq]
    clear h h' hS
    go_enter Try.func13, Try.ntmps13
    go_wp2_with fail
    go_ret
    exact ⟨rfl, ((Below.refl _ _).alloc (Nat.le_refl _) _).alloc (by simp) _⟩
  · have hS' : decide (a = b) = S := by rw [← hS]; simp at hq; simp [hq]
    have HE := Lib.hid (fun (W : World) (h : Has W lo hi A a) (h' : Has W lo' hi' A' b) => same_any A A' c c' lo hi lo' hi' a b W hn h h' S hS')
    clear h h' hS hS'
    go_enter Try.func13, Try.ntmps13
    go_wp2_with fail
    refine (HE.out _ ((H.out.alloc _ hh).alloc _ (by simp; omega)) ((H'.out.alloc _ hh').alloc _ (by simp; omega))).mono ?_
    rintro e w1 ⟨rfl, hb1⟩
    have HB1 : Hid (Below w.heap.size w w1) := Lib.hid ((((Below.refl _ _).alloc (Nat.le_refl _) _).alloc (by simp) _).trans (hb1.mono (by simp; omega)))
    clear hb1
    go_wp2_with fail
    go_ret
    exact ⟨rfl, HB1.out⟩

end Go.Proofs.Ytphcmjhphoacgaa
