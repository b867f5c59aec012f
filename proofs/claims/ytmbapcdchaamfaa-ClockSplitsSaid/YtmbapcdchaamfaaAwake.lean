/-
  The walks of the law's cut, and of the chapter's examples.
-/
import Derived.Test.YtmbapcdchaamfaaNear
import Derived.Test.YtmbapcdchaamfaaGuard
namespace Go.Proofs.Ytmbapcdchaamfaa
open Go.RowKit Go.Proofs.Ytmbapcdchaamfaa.Pure

/-- Beats that are looked at. -/
def cutL (l : List Bt) : List Bt := if 24 < l.length ∧ l.length ≤ 400 then l.take 24 else if 401 < l.length then l.take 401 else l
theorem cutL_len (l : List Bt) : (cutL l).length ≤ 24 ∨ (cutL l).length = 401 := by
  unfold cutL
  by_cases h1 : 24 < l.length ∧ l.length ≤ 400
  · rw [if_pos h1, List.length_take]; omega
  · rw [if_neg h1]
    by_cases h2 : 401 < l.length
    · rw [if_pos h2, List.length_take]; omega
    · rw [if_neg h2]; omega
theorem Lst.cut {w : World} {A : Option Addr} {l : List Bt} (h : Lst w A l) : Lst w A (cutL l) := by
  unfold cutL
  split
  · exact h.take 24
  · split
    · exact h.take 401
    · exact h

set_option maxRecDepth 100000 in
set_option maxHeartbeats 400000 in
theorem few_some (ad : Addr) (n c : Nat) (w : World) (h1 : 24 < n) (h2 : n ≤ 400) (hc : n ≤ c) (hm : c ≤ maxLen) :
    Calls Try.prog 9 #[.slice (some ad) n c] w fun e w' => e = .returned (.slice (some ad) 24 c) ∧ w = w' := by
  unfold maxLen at hm
  go_enter Try.func9, Try.ntmps9
  go_wp2
  go_ret
  exact ⟨rfl, rfl⟩
set_option maxRecDepth 100000 in
set_option maxHeartbeats 400000 in
theorem few_many (ad : Addr) (n c : Nat) (w : World) (h1 : 401 < n) (hc : n ≤ c) (hm : c ≤ maxLen) :
    Calls Try.prog 9 #[.slice (some ad) n c] w fun e w' => e = .returned (.slice (some ad) 401 c) ∧ w = w' := by
  unfold maxLen at hm
  go_enter Try.func9, Try.ntmps9
  go_wp2
  go_ret
  exact ⟨rfl, rfl⟩
set_option maxRecDepth 100000 in
set_option maxHeartbeats 400000 in
theorem few_few (A : Option Addr) (n c : Nat) (w : World) (hn : n ≤ 24 ∨ n = 401) :
    Calls Try.prog 9 #[.slice A n c] w fun e w' => e = .returned (.slice A n c) ∧ w = w' := by
  rcases hn with hn | hn
  · go_enter Try.func9, Try.ntmps9
    go_wp2
    go_ret
    exact ⟨rfl, rfl⟩
  · subst hn
    go_enter Try.func9, Try.ntmps9
    go_wp2
    go_ret
    exact ⟨rfl, rfl⟩
theorem few_any (A : Option Addr) (c : Nat) (l : List Bt) (w : World) (hc : l.length ≤ c) (hm : c ≤ maxLen) (h : Lst w A l) :
    ∀ W : World, Calls Try.prog 9 #[.slice A l.length c] W fun e w' => e = .returned (.slice A (cutL l).length c) ∧ W = w' := fun W => by
  by_cases h1 : 24 < l.length ∧ l.length ≤ 400
  · obtain ⟨ad, rfl, _⟩ := h 0 (by omega)
    have e : (cutL l).length = 24 := by unfold cutL; rw [if_pos h1, List.length_take]; omega
    rw [e]
    exact few_some ad _ c W h1.1 h1.2 hc hm
  · by_cases h2 : 401 < l.length
    · obtain ⟨ad, rfl, _⟩ := h 0 (by omega)
      have e : (cutL l).length = 401 := by unfold cutL; rw [if_neg h1, if_pos h2, List.length_take]; omega
      rw [e]
      exact few_many ad _ c W h2 hc hm
    · have e : (cutL l).length = l.length := by unfold cutL; rw [if_neg h1, if_neg h2]
      rw [e]
      exact few_few A _ c W (by omega)

/-- A node that ticks three times. -/
def l3 : List Bt := [⟨0, 0⟩, ⟨0, 0⟩, ⟨0, 0⟩]
/-- A call answers three beats. -/
def Threes (w : World) (e : Ending) (w' : World) : Prop := ∃ g, e = .returned (.slice (some ⟨g, 0, none⟩) 3 3) ∧ Lst w' (some ⟨g, 0, none⟩) l3 ∧ Below w.heap.size w w'
theorem three_new (w : World) (t : TypeId) : Lst (w.alloc (.cells #[.int .i64 0, .int .i64 0, .int .i64 0, .int .i64 0, .int .i64 0, .int .i64 0] t)) (some ⟨w.heap.size, 0, none⟩) l3 := by
  intro j hj
  refine ⟨_, rfl, by simp, ?_⟩
  match j, hj with
  | 0, _ => exact ⟨by go_simp; simp [l3, bt], by go_simp; simp [l3, bt]⟩
  | 1, _ => exact ⟨by go_simp; simp [l3, bt], by go_simp; simp [l3, bt]⟩
  | 2, _ => exact ⟨by go_simp; simp [l3, bt], by go_simp; simp [l3, bt]⟩

set_option maxRecDepth 100000 in
set_option maxHeartbeats 400000 in
theorem three_any (w : World) : Calls Try.prog 28 #[] w (Threes w) := by
  have HE : Hid (Threes w (.returned (.slice (some ⟨w.heap.size, 0, none⟩) 3 3)) (w.alloc (.cells #[.int .i64 0, .int .i64 0, .int .i64 0, .int .i64 0, .int .i64 0, .int .i64 0] 59))) :=
    Lib.hid ⟨w.heap.size, rfl, three_new w _, (Below.refl _ _).alloc (Nat.le_refl _) _⟩
  go_enter Try.func28, Try.ntmps28
  go_wp2
  go_ret
  exact HE.out

theorem may3 : mayB 2 l3 = true := by decide
theorem near3a : nearB 2 l3 2 10 l3.length = false := by decide
theorem near3b : nearB 2 l3 3 10 l3.length = true := by decide

set_option maxRecDepth 100000 in
set_option maxHeartbeats 2000000 in
theorem awake_any (w : World) : Calls Try.prog 15 #[] w fun e w' => e = .returned (.bool true) ∧ Below w.heap.size w w' := by
  have HT := Lib.hid (fun W => three_any W)
  have HA : Hid (∀ (W : World) (g : Nat), Lst W (some ⟨g, 0, none⟩) l3 → Calls Try.prog 11 #[.int .i64 2, .slice (some ⟨g, 0, none⟩) 3 3, .int .i64 2, .int .i64 10] W fun e w' => e = .returned (.tuple #[.bool false, .int .i64 0]) ∧ Below W.heap.size W w') :=
    Lib.hid fun W g hl => near_yes (some ⟨g, 0, none⟩) 3 2 2 10 l3 W hl may3 (by decide) false near3a
  have HB : Hid (∀ (W : World) (g : Nat), Lst W (some ⟨g, 0, none⟩) l3 → Calls Try.prog 11 #[.int .i64 2, .slice (some ⟨g, 0, none⟩) 3 3, .int .i64 3, .int .i64 10] W fun e w' => e = .returned (.tuple #[.bool true, .int .i64 0]) ∧ Below W.heap.size W w') :=
    Lib.hid fun W g hl => near_yes (some ⟨g, 0, none⟩) 3 2 3 10 l3 W hl may3 (by decide) true near3b
  have HC : Hid (∀ W : World, Calls Try.prog 19 #[.int .i64 10, .int .i64 2, .int .i64 4] W fun e w' => e = .returned (.tuple #[.int .i64 7, .int .i64 0]) ∧ Below W.heap.size W w') :=
    Lib.hid fun W => (guard_yes 10 2 4 W (by omega) (by decide)).mono fun e w' ⟨g, he, hg, hb⟩ => ⟨by
      have : g = 7 := by unfold Guards at hg; omega
      rw [he, this], hb⟩
  have HD : Hid (∀ W : World, Calls Try.prog 19 #[.int .i64 2, .int .i64 2, .int .i64 4] W fun e w' => e = .returned (.tuple #[.int .i64 0, .int .i64 0]) ∧ Below W.heap.size W w') :=
    Lib.hid fun W => (guard_yes 2 2 4 W (by omega) (by decide)).mono fun e w' ⟨g, he, hg, hb⟩ => ⟨by
      have : g = 0 := by unfold Guards at hg; omega
      rw [he, this], hb⟩
  go_enter Try.func15, Try.ntmps15
  go_wp2_with fail
  refine (HT.out _).mono ?_
  rintro e w1 ⟨g, rfl, hl, hb1⟩
  have HL := Lib.hid hl
  have HB1 := Lib.hid hb1
  clear hl hb1
  go_wp2_with fail
  refine (HA.out _ _ HL.out).mono ?_
  rintro e w2 ⟨rfl, hb2⟩
  have HB2 : Hid (Below w.heap.size w w2) := Lib.hid (HB1.out.trans (hb2.mono HB1.out.size))
  clear hb2
  go_wp2_with fail
  refine (HT.out _).mono ?_
  rintro e w3 ⟨g3, rfl, hl, hb3⟩
  have HL3 := Lib.hid hl
  have HB3 : Hid (Below w.heap.size w w3) := Lib.hid (HB2.out.trans (hb3.mono HB2.out.size))
  clear hl hb3
  go_wp2_with fail
  refine (HB.out _ _ HL3.out).mono ?_
  rintro e w4 ⟨rfl, hb4⟩
  have HB4 : Hid (Below w.heap.size w w4) := Lib.hid (HB3.out.trans (hb4.mono HB3.out.size))
  clear hb4
  go_wp2_with fail
  refine (HC.out _).mono ?_
  rintro e w5 ⟨rfl, hb5⟩
  have HB5 : Hid (Below w.heap.size w w5) := Lib.hid (HB4.out.trans (hb5.mono HB4.out.size))
  clear hb5
  go_wp2_with fail
  refine (HD.out _).mono ?_
  rintro e w6 ⟨rfl, hb6⟩
  have HB6 : Hid (Below w.heap.size w w6) := Lib.hid (HB5.out.trans (hb6.mono HB5.out.size))
  clear hb6
  go_wp2_with fail
  go_ret
  exact ⟨rfl, HB6.out⟩
end Go.Proofs.Ytmbapcdchaamfaa
