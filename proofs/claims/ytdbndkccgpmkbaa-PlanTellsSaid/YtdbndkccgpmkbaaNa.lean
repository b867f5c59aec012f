/-
  A task's name: the walks of msg's inNames and Name, and of the document's Name, of texts however long.
-/
import Derived.Test.YtdbndkccgpmkbaaNums
import Derived.Laws.BitsAllLaws
import Derived.Laws.BitsLemmas
import Derived.Test.YtdbndkccgpmkbaaTail
import Derived.Test.YtdbndkccgpmkbaaPlanC
import Derived.Test.YtdbndkccgpmkbaaOk
import Derived.Test.YtdbndkccgpmkbaaLeaf
import Derived.Test.YtdbndkccgpmkbaaFMem
import Derived.Laws.Concat
import Derived.Lib.Strings
import Derived.Laws.RangeAny
namespace Go.Proofs.Ytdbndkccgpmkbaa
open Go.Sort Go.RowKit Go.Proofs.Ytdbndkccgpmkbaa.Pure

/-- Does an octet stand in names? -/
def inName (c : UInt8) : Bool := decide (97 ≤ c.toNat ∧ c.toNat ≤ 122) || decide (48 ≤ c.toNat ∧ c.toNat ≤ 57) || decide (c.toNat = 45)
/-- Is a text a name? -/
def nameB (s : ByteArray) : Bool := s.data.toList.all inName && (decide (1 ≤ s.size) && decide (s.size ≤ 20))
/-- Does it stand in names? -/
def inC (c : Nat) : Bool := decide (97 ≤ c ∧ c ≤ 122) || decide (48 ≤ c ∧ c ≤ 57) || decide (c = 45)
theorem inName_is (o : UInt8) : inName o = inC o.toNat := rfl
theorem inC_cases (c : Nat) : (97 ≤ c ∧ c ≤ 122 ∧ inC c = true) ∨ (122 < c ∧ inC c = false) ∨ (57 < c ∧ c < 97 ∧ inC c = false) ∨ (48 ≤ c ∧ c ≤ 57 ∧ inC c = true) ∨ (c = 45 ∧ inC c = true) ∨ (c < 48 ∧ c ≠ 45 ∧ inC c = false) := by
  unfold inC
  by_cases h1 : 97 ≤ c
  · by_cases h2 : c ≤ 122
    · simp [h1, h2]
    · right; left; simp; omega
  · by_cases h3 : 57 < c
    · right; right; left; simp; omega
    · by_cases h4 : 48 ≤ c
      · right; right; right; left; simp; omega
      · by_cases h5 : c = 45
        · subst h5; simp
        · right; right; right; right; right; simp; omega
set_option maxRecDepth 100000 in
set_option maxHeartbeats 2000000 in
theorem innames_any (c : Nat) (w : World) : Calls Try.prog 45 #[.int .i32 (c : Int)] w fun e w' => e = .returned (.bool (inC c)) ∧ w = w' := by
  rcases inC_cases c with ⟨h1, h2, e⟩ | ⟨h1, e⟩ | ⟨h1, h2, e⟩ | ⟨h1, h2, e⟩ | ⟨rfl, e⟩ | ⟨h1, h2, e⟩ <;> rw [e] <;> clear e
  all_goals
    go_enter Try.func45, Try.ntmps45
    go_wp2
    go_ret
    first | exact ⟨rfl, rfl⟩ | (refine ⟨?_, rfl⟩; simp; omega)
theorem at_list (s : ByteArray) (j : Nat) (h : j < s.size) (h' : j < s.data.toList.length) : s.data.toList[j]'h' = s[j]'h := by
  simp
  rfl
theorem all_at (s : ByteArray) (p : UInt8 → Bool) : s.data.toList.all p = true ↔ ∀ j, (h : j < s.size) → p s[j] = true := by
  rw [List.all_eq_true]
  constructor
  · intro h j hj
    have hj' : j < s.data.toList.length := by simpa using hj
    have := h _ (List.getElem_mem hj')
    rwa [at_list s j hj hj'] at this
  · intro h x hx
    obtain ⟨j, hj, rfl⟩ := List.mem_iff_getElem.1 hx
    have hj' : j < s.size := by simpa using hj
    rw [at_list s j hj' hj]
    exact h j hj'
theorem all_not (s : ByteArray) (p : UInt8 → Bool) (j : Nat) (h : j < s.size) (hp : p s[j] = false) : s.data.toList.all p = false := by
  rcases e : s.data.toList.all p with _ | _
  · rfl
  · rw [(all_at s p).1 e j h] at hp; cases hp
set_option maxRecDepth 100000 in
set_option maxHeartbeats 2000000 in
theorem name_any (s : ByteArray) (w : World) (hs : s.size ≤ 9223372036854775807) : Calls Try.prog 40 #[.string s] w fun e w' => e = .returned (.bool (nameB s)) ∧ Below w.heap.size w w' := by
  by_cases h1 : s.size < 1
  · have e : nameB s = false := by unfold nameB; simp; omega
    rw [e]
    go_enter Try.func40, Try.ntmps40
    go_wp2
    go_ret
    exact ⟨rfl, Below.refl _ _⟩
  by_cases h2 : 20 < s.size
  · have e : nameB s = false := by unfold nameB; simp; omega
    rw [e]
    go_enter Try.func40, Try.ntmps40
    go_wp2
    go_ret
    exact ⟨rfl, Below.refl _ _⟩
  have HE : Hid (nameB s = s.data.toList.all inName) := Lib.hid (by
    unfold nameB
    have : (decide (1 ≤ s.size) && decide (s.size ≤ 20)) = true := by simp; omega
    rw [this, Bool.and_true])
  have HC := Lib.hid innames_any
  go_enter Try.func40, Try.ntmps40
  go_wp2
  go_loopw [4] (fun _ w' => ∃ pos : Nat, w' = w.iter s pos ∧ pos ≤ s.size ∧ Hid (∀ j, (h : j < s.size) → j < pos → inName s[j] = true)) (fun _ w' => s.size - w'.iterPos w.heap.size)
  case atStart => exact ⟨0, rfl, Nat.zero_le _, Lib.hid fun j _ h => absurd h (Nat.not_lt_zero j)⟩
  case round =>
    obtain ⟨pos, rfl, hle, hok⟩ := hrel
    by_cases hp : pos < s.size
    · have hnx : ∀ ty, (Instr.next (.pointer (some ⟨w.heap.size, 0, none⟩)) true ty).run Try.prog (w.iter s pos) = _ := fun ty => run_next_any w s pos ty hp
      by_cases ha : (s[pos]'hp).toNat < 128
      · rw [decode_ascii s pos hp ha] at hnx
        simp only [] at hnx
        rcases hB : inName s[pos] with _ | _
        · have hF : nameB s = false := by
            rw [HE.out]
            exact all_not s inName pos hp hB
          have HC2 := Lib.hid (fun W => HC.out (s[pos]'hp).toNat W)
          rw [← inName_is, hB] at HC2
          generalize (s[pos]'hp).toNat = c at *
          clear hB
          go_wp2_with (go_at_call 45; refine (HC2.out _).mono ?_; rintro e w1 ⟨rfl, rfl⟩)
          go_ret
          rw [hF]
          exact ⟨rfl, (Below.refl _ _).alloc (Nat.le_refl _) _⟩
        · have HC2 := Lib.hid (fun W => HC.out (s[pos]'hp).toNat W)
          rw [← inName_is, hB] at HC2
          have hok2 : Hid (∀ j, (h : j < s.size) → j < pos + 1 → inName s[j] = true) := Lib.hid fun j h hj => by
            rcases Nat.lt_or_ge j pos with h' | h'
            · exact hok.out j h h'
            · obtain rfl : j = pos := by omega
              exact hB
          generalize (s[pos]'hp).toNat = c at *
          clear hB
          go_wp2_with (go_at_call 45; refine (HC2.out _).mono ?_; rintro e w1 ⟨rfl, rfl⟩)
          go_roundw
          case rel => exact ⟨pos + 1, rfl, by omega, hok2⟩
          case measure => simp; omega
      · have hd := (decode_high s pos hp (by omega)).1
        have hF : nameB s = false := by
          rw [HE.out]
          refine all_not s inName pos hp ?_
          rw [inName_is]
          unfold inC
          simp; omega
        have HC2 := Lib.hid (fun W => HC.out (Utf8.decode s pos).1 W)
        have hI : inC (Utf8.decode s pos).1 = false := by unfold inC; simp; omega
        rw [hI] at HC2
        generalize (Utf8.decode s pos).1 = c at *
        generalize (Utf8.decode s pos).2 = v at *
        clear hI hd
        go_wp2_with (go_at_call 45; refine (HC2.out _).mono ?_; rintro e w1 ⟨rfl, rfl⟩)
        go_ret
        rw [hF]
        exact ⟨rfl, (Below.refl _ _).alloc (Nat.le_refl _) _⟩
    · have hnx : ∀ ty, (Instr.next (.pointer (some ⟨w.heap.size, 0, none⟩)) true ty).run Try.prog (w.iter s pos) = _ := fun ty => run_next_end w s pos ty hp
      have hT : nameB s = true := by
        rw [HE.out, all_at]
        exact fun j hj => hok.out j hj (by omega)
      go_wp2
      go_ret
      rw [hT]
      exact ⟨rfl, (Below.refl _ _).alloc (Nat.le_refl _) _⟩
set_option maxRecDepth 100000 in
set_option maxHeartbeats 2000000 in
theorem rname_any (s : ByteArray) (w : World) (hs : s.size ≤ 9223372036854775807) : Calls Try.prog 41 #[.string s] w fun e w' => e = .returned (.bool (nameB s)) ∧ w = w' := by
  go_enter Try.func41, Try.ntmps41
  go_wp2
  go_loop [3] (fun i => ∃ k : Nat, i = .int .i64 k ∧ k ≤ s.size ∧ Hid (∀ j, (h : j < s.size) → j < k → inName s[j] = true)) (fun i => s.size - (intOf i).toNat)
  case atStart => exact ⟨0, rfl, Nat.zero_le _, Lib.hid fun j _ h => absurd h (Nat.not_lt_zero j)⟩
  case round =>
    obtain ⟨k, rfl, hle, hok⟩ := hrel
    by_cases hp : k < s.size
    · have ho := (s[k]'hp).toNat_lt
      rcases hB : inName s[k] with _ | _
      · have hF : nameB s = false := by
          unfold nameB
          rw [all_not s inName k hp hB, Bool.false_and]
        rw [inName_is] at hB
        generalize hc : (s[k]'hp).toNat = c at *
        rcases inC_cases c with ⟨h1, h2, e⟩ | ⟨h1, e⟩ | ⟨h1, h2, e⟩ | ⟨h1, h2, e⟩ | ⟨h0, e⟩ | ⟨h1, h2, e⟩ <;> first | (rw [e] at hB; cases hB; done) | skip
        all_goals
          clear hB e
          first | have d1 : decide ((c : Int) ≤ 122) = true := (by simp; omega) | have d1 : decide ((c : Int) ≤ 122) = false := (by simp; omega)
          first | have d2 : decide ((c : Int) ≤ 57) = true := (by simp; omega) | have d2 : decide ((c : Int) ≤ 57) = false := (by simp; omega)
          first | have d3 : ((c : Int) == 45) = false := (by simp; omega) | have d3 : ((c : Int) == 45) = true := (by simp; omega)
          go_wp2
          go_ret
          first | exact ⟨rfl, rfl⟩ | (rw [hF]; exact ⟨rfl, rfl⟩)
      · have hok2 : Hid (∀ j, (h : j < s.size) → j < k + 1 → inName s[j] = true) := Lib.hid fun j h hj => by
          rcases Nat.lt_or_ge j k with h' | h'
          · exact hok.out j h h'
          · obtain rfl : j = k := by omega
            exact hB
        rw [inName_is] at hB
        generalize hc : (s[k]'hp).toNat = c at *
        rcases inC_cases c with ⟨h1, h2, e⟩ | ⟨h1, e⟩ | ⟨h1, h2, e⟩ | ⟨h1, h2, e⟩ | ⟨h0, e⟩ | ⟨h1, h2, e⟩ <;> first | (rw [e] at hB; cases hB; done) | skip
        all_goals
          clear hB e
          first | have d1 : decide ((c : Int) ≤ 122) = true := (by simp; omega) | have d1 : decide ((c : Int) ≤ 122) = false := (by simp; omega)
          first | have d2 : decide ((c : Int) ≤ 57) = true := (by simp; omega) | have d2 : decide ((c : Int) ≤ 57) = false := (by simp; omega)
          first | have d3 : ((c : Int) == 45) = false := (by simp; omega) | have d3 : ((c : Int) == 45) = true := (by simp; omega)
          go_wp2
          go_round
          case rel => exact ⟨k + 1, by go_num, by omega, hok2⟩
          case measure => simp [intOf]; omega
    · have e0 : decide ((k : Int) < (s.size : Int)) = false := by simp; omega
      have e0' : decide (k < s.size) = false := by simpa using hp
      have hT : s.data.toList.all inName = true := by
        rw [all_at]
        exact fun j hj => hok.out j hj (by omega)
      have HE : Hid (nameB s = (decide (1 ≤ s.size) && decide (s.size ≤ 20))) := Lib.hid (by unfold nameB; rw [hT, Bool.true_and])
      clear hT
      by_cases h1 : 1 ≤ s.size
      · have e1 : decide (1 ≤ s.size) = true := by simpa using h1
        rw [e1, Bool.true_and] at HE
        by_cases h2 : s.size ≤ 20
        · go_wp2
          go_ret
          rw [HE.out]
          exact ⟨by simp [h2]; omega, rfl⟩
        · go_wp2
          go_ret
          rw [HE.out]
          exact ⟨by simp [h2]; omega, rfl⟩
      · have e1 : decide (1 ≤ s.size) = false := by simpa using h1
        rw [e1, Bool.false_and] at HE
        go_wp2
        go_ret
        rw [HE.out]
        exact ⟨rfl, rfl⟩
end Go.Proofs.Ytdbndkccgpmkbaa
