/-
  Name, and the document's, of texts however long.
-/
import Derived.Test.YtjeepmdklbfgeaaDoorKeeps
import Derived.Laws.RangeAny
namespace Go.Proofs.YtjeepmdklbfgeaaDoor
open Go.Sort Go.RowKit Go.Proofs.YtjeepmdklbfgeaaDoor.Pure

set_option maxRecDepth 100000 in
set_option maxHeartbeats 2000000 in
theorem name_long (s : ByteArray) (w : World) (hs : s.size ≤ 9223372036854775807) : Calls Tryd.prog 15 #[.string s] w fun e w' => e = .returned (.bool (nameB s)) ∧ Below w.heap.size w w' := by
  by_cases h1 : s.size < 1
  · have e : nameB s = false := by unfold nameB; simp; omega
    rw [e]
    go_enter Tryd.func15, Tryd.ntmps15
    go_wp2
    go_ret
    exact ⟨rfl, Below.refl _ _⟩
  by_cases h2 : 20 < s.size
  · have e : nameB s = false := by unfold nameB; simp; omega
    rw [e]
    go_enter Tryd.func15, Tryd.ntmps15
    go_wp2
    go_ret
    exact ⟨rfl, Below.refl _ _⟩
  have HE : Hid (nameB s = s.data.toList.all inName) := Lib.hid (by
    unfold nameB
    have : (decide (1 ≤ s.size) && decide (s.size ≤ 20)) = true := by simp; omega
    rw [this, Bool.and_true])
  have HC := Lib.hid innames_any
  go_enter Tryd.func15, Tryd.ntmps15
  go_wp2
  go_loopw [4] (fun _ w' => ∃ pos : Nat, w' = w.iter s pos ∧ pos ≤ s.size ∧ Hid (∀ j, (h : j < s.size) → j < pos → inName s[j] = true)) (fun _ w' => s.size - w'.iterPos w.heap.size)
  case atStart => exact ⟨0, rfl, Nat.zero_le _, Lib.hid fun j _ h => absurd h (Nat.not_lt_zero j)⟩
  case round =>
    obtain ⟨pos, rfl, hle, hok⟩ := hrel
    by_cases hp : pos < s.size
    · have hnx : ∀ ty, (Instr.next (.pointer (some ⟨w.heap.size, 0, none⟩)) true ty).run Tryd.prog (w.iter s pos) = _ := fun ty => run_next_any w s pos ty hp
      by_cases ha : (s[pos]'hp).toNat < 128
      · rw [decode_ascii s pos hp ha] at hnx
        simp only [] at hnx
        rcases hB : inName s[pos] with _ | _
        · have hF : nameB s = false := by
            rw [HE.out]
            exact all_not s inName pos hp hB
          have HC2 := Lib.hid (fun W => HC.out (s[pos]'hp).toNat W)
          rw [← inName_is, hB] at HC2
          generalize (s[pos]'hp).toNat = c at *
          clear hB
          go_wp2_with (go_at_call 36; refine (HC2.out _).mono ?_; rintro e w1 ⟨rfl, rfl⟩)
          go_ret
          rw [hF]
          exact ⟨rfl, (Below.refl _ _).alloc (Nat.le_refl _) _⟩
        · have HC2 := Lib.hid (fun W => HC.out (s[pos]'hp).toNat W)
          rw [← inName_is, hB] at HC2
          have hok2 : Hid (∀ j, (h : j < s.size) → j < pos + 1 → inName s[j] = true) := Lib.hid fun j h hj => by
            rcases Nat.lt_or_ge j pos with h' | h'
            · exact hok.out j h h'
            · obtain rfl : j = pos := by omega
              exact hB
          generalize (s[pos]'hp).toNat = c at *
          clear hB
          go_wp2_with (go_at_call 36; refine (HC2.out _).mono ?_; rintro e w1 ⟨rfl, rfl⟩)
          go_roundw
          case rel => exact ⟨pos + 1, rfl, by omega, hok2⟩
          case measure => simp; omega
      · have hd := (decode_high s pos hp (by omega)).1
        have hF : nameB s = false := by
          rw [HE.out]
          refine all_not s inName pos hp ?_
          rw [inName_is]
          unfold inC
          simp; omega
        have HC2 := Lib.hid (fun W => HC.out (Utf8.decode s pos).1 W)
        have hI : inC (Utf8.decode s pos).1 = false := by unfold inC; simp; omega
        rw [hI] at HC2
        generalize (Utf8.decode s pos).1 = c at *
        generalize (Utf8.decode s pos).2 = v at *
        clear hI hd
        go_wp2_with (go_at_call 36; refine (HC2.out _).mono ?_; rintro e w1 ⟨rfl, rfl⟩)
        go_ret
        rw [hF]
        exact ⟨rfl, (Below.refl _ _).alloc (Nat.le_refl _) _⟩
    · have hnx : ∀ ty, (Instr.next (.pointer (some ⟨w.heap.size, 0, none⟩)) true ty).run Tryd.prog (w.iter s pos) = _ := fun ty => run_next_end w s pos ty hp
      have hT : nameB s = true := by
        rw [HE.out, all_at]
        exact fun j hj => hok.out j hj (by omega)
      go_wp2
      go_ret
      rw [hT]
      exact ⟨rfl, (Below.refl _ _).alloc (Nat.le_refl _) _⟩
set_option maxRecDepth 100000 in
set_option maxHeartbeats 2000000 in
theorem rname_long (s : ByteArray) (w : World) (hs : s.size ≤ 9223372036854775807) : Calls Tryd.prog 16 #[.string s] w fun e w' => e = .returned (.bool (nameB s)) ∧ w = w' := by
  go_enter Tryd.func16, Tryd.ntmps16
  go_wp2
  go_loop [3] (fun i => ∃ k : Nat, i = .int .i64 k ∧ k ≤ s.size ∧ Hid (∀ j, (h : j < s.size) → j < k → inName s[j] = true)) (fun i => s.size - (intOf i).toNat)
  case atStart => exact ⟨0, rfl, Nat.zero_le _, Lib.hid fun j _ h => absurd h (Nat.not_lt_zero j)⟩
  case round =>
    obtain ⟨k, rfl, hle, hok⟩ := hrel
    by_cases hp : k < s.size
    · have ho := (s[k]'hp).toNat_lt
      rcases hB : inName s[k] with _ | _
      · have hF : nameB s = false := by
          unfold nameB
          rw [all_not s inName k hp hB, Bool.false_and]
        rw [inName_is] at hB
        generalize hc : (s[k]'hp).toNat = c at *
        rcases inC_cases c with ⟨h1, h2, e⟩ | ⟨h1, e⟩ | ⟨h1, h2, e⟩ | ⟨h1, h2, e⟩ | ⟨h0, e⟩ | ⟨h1, h2, e⟩ <;> first | (rw [e] at hB; cases hB; done) | skip
        all_goals
          clear hB e
          first | have d1 : decide ((c : Int) ≤ 122) = true := (by simp; omega) | have d1 : decide ((c : Int) ≤ 122) = false := (by simp; omega)
          first | have d2 : decide ((c : Int) ≤ 57) = true := (by simp; omega) | have d2 : decide ((c : Int) ≤ 57) = false := (by simp; omega)
          first | have d3 : ((c : Int) == 45) = false := (by simp; omega) | have d3 : ((c : Int) == 45) = true := (by simp; omega)
          go_wp2
          go_ret
          first | exact ⟨rfl, rfl⟩ | (rw [hF]; exact ⟨rfl, rfl⟩)
      · have hok2 : Hid (∀ j, (h : j < s.size) → j < k + 1 → inName s[j] = true) := Lib.hid fun j h hj => by
          rcases Nat.lt_or_ge j k with h' | h'
          · exact hok.out j h h'
          · obtain rfl : j = k := by omega
            exact hB
        rw [inName_is] at hB
        generalize hc : (s[k]'hp).toNat = c at *
        rcases inC_cases c with ⟨h1, h2, e⟩ | ⟨h1, e⟩ | ⟨h1, h2, e⟩ | ⟨h1, h2, e⟩ | ⟨h0, e⟩ | ⟨h1, h2, e⟩ <;> first | (rw [e] at hB; cases hB; done) | skip
        all_goals
          clear hB e
          first | have d1 : decide ((c : Int) ≤ 122) = true := (by simp; omega) | have d1 : decide ((c : Int) ≤ 122) = false := (by simp; omega)
          first | have d2 : decide ((c : Int) ≤ 57) = true := (by simp; omega) | have d2 : decide ((c : Int) ≤ 57) = false := (by simp; omega)
          first | have d3 : ((c : Int) == 45) = false := (by simp; omega) | have d3 : ((c : Int) == 45) = true := (by simp; omega)
          go_wp2
          go_round
          case rel => exact ⟨k + 1, by go_num, by omega, hok2⟩
          case measure => simp [intOf]; omega
    · have e0 : decide ((k : Int) < (s.size : Int)) = false := by simp; omega
      have e0' : decide (k < s.size) = false := by simpa using hp
      have hT : s.data.toList.all inName = true := by
        rw [all_at]
        exact fun j hj => hok.out j hj (by omega)
      have HE : Hid (nameB s = (decide (1 ≤ s.size) && decide (s.size ≤ 20))) := Lib.hid (by unfold nameB; rw [hT, Bool.true_and])
      clear hT
      by_cases h1 : 1 ≤ s.size
      · have e1 : decide (1 ≤ s.size) = true := by simpa using h1
        rw [e1, Bool.true_and] at HE
        by_cases h2 : s.size ≤ 20
        · go_wp2
          go_ret
          rw [HE.out]
          exact ⟨by simp [h2]; omega, rfl⟩
        · go_wp2
          go_ret
          rw [HE.out]
          exact ⟨by simp [h2]; omega, rfl⟩
      · have e1 : decide (1 ≤ s.size) = false := by simpa using h1
        rw [e1, Bool.false_and] at HE
        go_wp2
        go_ret
        rw [HE.out]
        exact ⟨rfl, rfl⟩
end Go.Proofs.YtjeepmdklbfgeaaDoor
