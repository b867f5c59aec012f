/-
  The walks of what tells whether numbers, and turns, are the same: of the library, of the program, and of the document.
-/
import Derived.Test.YtjmjeaipdfmglaaDoorLeaf
namespace Go.Proofs.YtjmjeaipdfmglaaDoor
open Go.Sort Go.RowKit Go.Proofs.YtjmjeaipdfmglaaDoor.Pure

theorem ext_ints {a b : List Int} (hl : a.length = b.length) : (∀ j, j < a.length → a.getD j 0 = b.getD j 0) ↔ a = b := by
  constructor
  · intro h
    apply List.ext_getElem hl
    intro j h1 h2
    have := h j h1
    simpa [List.getD, h1, h2] using this
  · rintro rfl _ _; rfl

set_option maxRecDepth 100000 in
set_option maxHeartbeats 1000000 in
theorem same_any (A A' : Option Addr) (c c' lo hi lo' hi' : Nat) (a b : List Int) (w : World) (hn : a.length ≤ 100000) (h : Has w lo hi A a) (h' : Has w lo' hi' A' b) (S : Bool) (hS : decide (a = b) = S) :
    Calls Tryd.prog 23 #[.slice A a.length c, .slice A' b.length c'] w fun e w' => e = .returned (.bool S) ∧ Below w.heap.size w w' := by
  by_cases hl : a.length = b.length
  · have H := Lib.hid h
    have H' := Lib.hid h'
    have HS : Hid ((∀ j, j < a.length → a.getD j 0 = b.getD j 0) ↔ S = true) := Lib.hid (by rw [ext_ints hl, ← hS, decide_eq_true_iff])
    clear h h' hS
    have HLB := Lib.hid hl
    rw [← hl]
    clear hl
    go_enter Tryd.func23, Tryd.ntmps23
    go_wp2_with fail
    go_loopw [5] (fun i wr => ∃ j m : Nat, j ≤ a.length ∧ i = .int .i64 j ∧ Hid (∀ k, k < j → a.getD k 0 = b.getD k 0) ∧ wr = w.drewN m) (fun i _ => a.length - (intOf i).toNat)
    case atStart => exact ⟨0, 0, Nat.zero_le _, rfl, Lib.hid (fun k hk => absurd hk (Nat.not_lt_zero k)), rfl⟩
    case round =>
      obtain ⟨j, m, hj, rfl, hok, rfl⟩ := hrel
      by_cases hlt : j < a.length
      · have j0 : (0 : Int) ≤ (j : Int) := by omega
        have j1 : (j : Int) < (a.length : Int) := by omega
        obtain ⟨ad, rfl, _, _, hc⟩ := H.out j hlt
        obtain ⟨ad', rfl, _, _, hc'⟩ := H'.out j (by rw [← HLB.out]; exact hlt)
        have HF : Hid (a.getD j 0 ≠ b.getD j 0 → S = false) := Lib.hid (fun hne => by
          rcases S with _ | _
          · rfl
          · exact absurd (HS.out.2 rfl j hlt) hne)
        have HT : Hid (a.getD j 0 = b.getD j 0 → ∀ k, k < j + 1 → a.getD k 0 = b.getD k 0) := Lib.hid (fun he k hk => by
          rcases Nat.lt_or_ge k j with hjk | hjk
          · exact hok.out k hjk
          · obtain rfl : k = j := by omega
            exact he)
        generalize a.getD j 0 = y at *
        generalize b.getD j 0 = z at *
        clear hok
        rcases hq : (y != z) with _ | _
        · have HT' := Lib.hid (HT.out (by simpa using hq))
          clear HT HF
          go_wp2_with fail
          go_quiet (fail)
          go_wp2
          go_roundw
          case rel => exact ⟨j + 1, _, by omega, by go_num, HT', rfl⟩
          case measure => simp [intOf]; omega
        · obtain rfl := HF.out (by simpa using hq)
          clear HT HF
          go_wp2_with fail
          go_quiet (fail)
          go_wp2
          go_ret
          exact ⟨rfl, below_drewN (below_drewN (Below.refl _ _) _) _⟩
      · obtain rfl : j = a.length := by omega
        obtain rfl : S = true := HS.out.1 hok.out
        go_wp2
        go_ret
        exact ⟨rfl, below_drewN (Below.refl _ _) _⟩
  · obtain rfl : S = false := by rw [← hS]; simpa using fun e => hl (by rw [e])
    have e0 : ((a.length : Int) != (b.length : Int)) = true := by simp; omega
    clear h h' hS
    generalize a.length = n at *
    generalize b.length = m at *
    go_enter Tryd.func23, Tryd.ntmps23
    go_wp2
    go_ret
    exact ⟨rfl, Below.refl _ _⟩

end Go.Proofs.YtjmjeaipdfmglaaDoor
