/-
  The walk of the chapter's examples.
-/
import Derived.Test.YtbhpinmdpngbkaaLst
namespace Go.Proofs.Ytbhpinmdpngbkaa
open Go.RowKit Go.Proofs.Ytbhpinmdpngbkaa.Pure

/-- A call answers n timers, ys. -/
def ListsN (w : World) (n : Nat) (ys : List Tm) (e : Ending) (w' : World) : Prop :=
  ∃ A c, e = .returned (.slice A n c) ∧ Lst w' A ys ∧ Below w.heap.size w w'
theorem Lists.n {w w' : World} {ys : List Tm} {e : Ending} (h : Lists w ys e w') {n : Nat} (hn : ys.length = n) : ListsN w n ys e w' := by subst hn; exact h
def GivesN (w : World) (n : Nat) (ys : List Tm) (er : Int) (e : Ending) (w' : World) : Prop :=
  ∃ A c, e = .returned (.tuple #[.slice A n c, .int .i64 er]) ∧ Lst w' A ys ∧ Below w.heap.size w w'
theorem Gives.n {w w' : World} {ys : List Tm} {er : Int} {e : Ending} (h : Gives w ys er e w') {n : Nat} (hn : ys.length = n) : GivesN w n ys er e w' := by subst hn; exact h
def Gives2N (w : World) (n m : Nat) (ys zs : List Tm) (er : Int) (e : Ending) (w' : World) : Prop :=
  ∃ A c A' c', e = .returned (.tuple #[.slice A n c, .slice A' m c', .int .i64 er]) ∧ Lst w' A ys ∧ Lst w' A' zs ∧ Below w.heap.size w w'
theorem Gives2.n {w w' : World} {ys zs : List Tm} {er : Int} {e : Ending} (h : Gives2 w ys zs er e w') {n m : Nat} (hn : ys.length = n) (hm : zs.length = m) : Gives2N w n m ys zs er e w' := by subst hn hm; exact h

theorem srt_543 : srt ([] ++ atL [5, 3, 4]) = atL [3, 4, 5] := srt_eq ((sortedB_iff _).1 (by decide)) (by decide)

set_option maxRecDepth 100000 in
set_option maxHeartbeats 2000000 in
theorem awake_any (w : World) : Calls Try.prog 16 #[] w fun e w' => e = .returned (.bool true) ∧ Below w.heap.size w w' := by
  have HA1 : Hid (∀ (W : World) (g : Nat), g = W.heap.size → Calls Try.prog 31 #[.slice (some ⟨g, 0, none⟩) 3 3] (W.alloc (.cells #[.int .i64 5, .int .i64 3, .int .i64 4] 2)) (ListsN (W.alloc (.cells #[.int .i64 5, .int .i64 3, .int .i64 4] 2)) 3 (atL [5, 3, 4]))) :=
    Lib.hid fun W g hg => hg ▸ (l_at W [5, 3, 4] 3 (Nat.le_of_ble_eq_true rfl)).mono fun _ _ h => h.n rfl
  have HA2 : Hid (∀ (W : World) (g : Nat), g = W.heap.size → Calls Try.prog 31 #[.slice (some ⟨g, 0, none⟩) 3 3] (W.alloc (.cells #[.int .i64 3, .int .i64 4, .int .i64 5] 2)) (ListsN (W.alloc (.cells #[.int .i64 3, .int .i64 4, .int .i64 5] 2)) 3 (atL [3, 4, 5]))) :=
    Lib.hid fun W g hg => hg ▸ (l_at W [3, 4, 5] 3 (Nat.le_of_ble_eq_true rfl)).mono fun _ _ h => h.n rfl
  have HA3 : Hid (∀ (W : World) (g : Nat), g = W.heap.size → Calls Try.prog 31 #[.slice (some ⟨g, 0, none⟩) 2 2] (W.alloc (.cells #[.int .i64 3, .int .i64 4] 2)) (ListsN (W.alloc (.cells #[.int .i64 3, .int .i64 4] 2)) 2 (atL [3, 4]))) :=
    Lib.hid fun W g hg => hg ▸ (l_at W [3, 4] 2 (Nat.le_of_ble_eq_true rfl)).mono fun _ _ h => h.n rfl
  have HA4 : Hid (∀ (W : World) (g : Nat), g = W.heap.size → Calls Try.prog 31 #[.slice (some ⟨g, 0, none⟩) 1 1] (W.alloc (.cells #[.int .i64 5] 2)) (ListsN (W.alloc (.cells #[.int .i64 5] 2)) 1 (atL [5]))) :=
    Lib.hid fun W g hg => hg ▸ (l_at W [5] 1 (Nat.le_of_ble_eq_true rfl)).mono fun _ _ h => h.n rfl
  have HAdd : Hid (∀ (W : World) (A : Option Addr) (c : Nat), Lst W A (atL [5, 3, 4]) → Calls Try.prog 11 #[.slice none 0 0, .slice A 3 c] W (GivesN W 3 (atL [3, 4, 5]) 0)) := Lib.hid fun W A c h =>
    (l_add (A := none) (c := 0) (d := c) (xs := []) (Lst.nil W none) h rfl (by decide) (fun x hx => (List.not_mem_nil hx).elim) (by unfold Fits; decide)).mono fun _ _ h => by
      rw [srt_543] at h
      exact h.n rfl
  have HDue : Hid (∀ (W : World) (A : Option Addr) (c : Nat), Lst W A (atL [3, 4, 5]) → Calls Try.prog 19 #[.slice A 3 c, .int .i64 4] W (Gives2N W 2 1 (atL [3, 4]) (atL [5]) 0)) := Lib.hid fun W A c h =>
    (l_due (c := c) h 4 (by decide) (by unfold Fits; decide)).mono fun _ _ h => Gives2.n (ys := atL [3, 4]) (zs := atL [5]) h rfl rfl
  have HNext := Lib.hid (fun W => next_none none 0 W)
  have HS : Hid (∀ (W : World) (A A' : Option Addr) (c c' n : Nat) (xs : List Tm), xs.length = n → n ≤ 100 → Lst W A xs → Lst W A' xs → Calls Try.prog 17 #[.slice A n c, .slice A' n c'] W fun e w' => e = .returned (.bool true) ∧ Below W.heap.size W w') :=
    Lib.hid fun W A A' c c' n xs hn hl h h' => by subst hn; exact l_same h h' (by omega)
  go_enter Try.func16, Try.ntmps16
  go_wp2_with fail
  refine (HA1.out _ _ (by simp)).mono ?_
  rintro e w1 ⟨A1, c1, rfl, hl1, hb1⟩
  have HL1 := Lib.hid hl1
  have HB1 : Hid (Below w.heap.size w w1) := Lib.hid (((Below.refl _ _).alloc (Nat.le_refl _) _).trans (hb1.mono (by simp)))
  clear hl1 hb1
  go_wp2_with fail
  refine (HAdd.out _ A1 c1 HL1.out).mono ?_
  rintro e w2 ⟨A2, c2, rfl, hl2, hb2⟩
  have HL2 := Lib.hid hl2
  have HB2 : Hid (Below w.heap.size w w2) := Lib.hid (HB1.out.trans (hb2.mono HB1.out.size))
  clear hl2 hb2
  go_wp2_with fail
  refine (HDue.out _ A2 c2 HL2.out).mono ?_
  rintro e w3 ⟨A3, c3, A4, c4, rfl, hl3, hl4, hb3⟩
  have HL2' := Lib.hid (HL2.out.on hb3)
  have HL3 := Lib.hid hl3
  have HL4 := Lib.hid hl4
  have HB3 : Hid (Below w.heap.size w w3) := Lib.hid (HB2.out.trans (hb3.mono HB2.out.size))
  clear hl3 hl4 hb3 HL2
  go_wp2_with fail
  refine (HNext.out _).mono ?_
  rintro e w4 ⟨rfl, hb4⟩
  have HL2 := Lib.hid ((HL2'.out.on hb4).alloc (.cells #[.int .i64 0, .int .i64 0, .int .i64 0, .int .u64 0] 33))
  have HL3' := Lib.hid ((HL3.out.on hb4).alloc (.cells #[.int .i64 0, .int .i64 0, .int .i64 0, .int .u64 0] 33))
  have HL4' := Lib.hid ((HL4.out.on hb4).alloc (.cells #[.int .i64 0, .int .i64 0, .int .i64 0, .int .u64 0] 33))
  have HB4 : Hid (Below w.heap.size w w4) := Lib.hid (HB3.out.trans (hb4.mono HB3.out.size))
  clear hb4 HL2' HL3 HL4
  go_wp2_with fail
  refine (HA2.out _ _ (by simp)).mono ?_
  rintro e w5 ⟨A5, c5, rfl, hl5, hb5⟩
  have HL5 := Lib.hid hl5
  have HL2b := Lib.hid ((HL2.out.alloc (.cells #[.int .i64 3, .int .i64 4, .int .i64 5] 2)).on hb5)
  have HL3b := Lib.hid ((HL3'.out.alloc (.cells #[.int .i64 3, .int .i64 4, .int .i64 5] 2)).on hb5)
  have HL4b := Lib.hid ((HL4'.out.alloc (.cells #[.int .i64 3, .int .i64 4, .int .i64 5] 2)).on hb5)
  have HB5 : Hid (Below w.heap.size w w5) := Lib.hid (((HB4.out.alloc HB4.out.size _).alloc (by have := HB4.out.size; simp; omega) _).trans (hb5.mono (by have := HB4.out.size; simp; omega)))
  clear hl5 hb5 HL2 HL3' HL4'
  go_wp2_with fail
  refine (HS.out _ A2 A5 c2 c5 3 _ rfl (by decide) HL2b.out HL5.out).mono ?_
  rintro e w6 ⟨rfl, hb6⟩
  have HL3 := Lib.hid (HL3b.out.on hb6)
  have HL4 := Lib.hid (HL4b.out.on hb6)
  have HB6 : Hid (Below w.heap.size w w6) := Lib.hid (HB5.out.trans (hb6.mono HB5.out.size))
  clear hb6 HL3b HL4b
  go_wp2_with fail
  refine (HA3.out _ _ (by simp)).mono ?_
  rintro e w7 ⟨A7, c7, rfl, hl7, hb7⟩
  have HL7 := Lib.hid hl7
  have HL3b := Lib.hid ((HL3.out.alloc (.cells #[.int .i64 3, .int .i64 4] 2)).on hb7)
  have HL4b := Lib.hid ((HL4.out.alloc (.cells #[.int .i64 3, .int .i64 4] 2)).on hb7)
  have HB7 : Hid (Below w.heap.size w w7) := Lib.hid ((HB6.out.alloc HB6.out.size _).trans (hb7.mono (by have := HB6.out.size; simp; omega)))
  clear hl7 hb7 HL3 HL4
  go_wp2_with fail
  refine (HS.out _ A3 A7 c3 c7 2 _ rfl (by decide) HL3b.out HL7.out).mono ?_
  rintro e w8 ⟨rfl, hb8⟩
  have HL4 := Lib.hid (HL4b.out.on hb8)
  have HB8 : Hid (Below w.heap.size w w8) := Lib.hid (HB7.out.trans (hb8.mono HB7.out.size))
  clear hb8 HL3b HL4b
  go_wp2_with fail
  refine (HA4.out _ _ (by simp)).mono ?_
  rintro e w9 ⟨A9, c9, rfl, hl9, hb9⟩
  have HL9 := Lib.hid hl9
  have HL4b := Lib.hid ((HL4.out.alloc (.cells #[.int .i64 5] 2)).on hb9)
  have HB9 : Hid (Below w.heap.size w w9) := Lib.hid ((HB8.out.alloc HB8.out.size _).trans (hb9.mono (by have := HB8.out.size; simp; omega)))
  clear hl9 hb9 HL4
  go_wp2_with fail
  refine (HS.out _ A4 A9 c4 c9 1 _ rfl (by decide) HL4b.out HL9.out).mono ?_
  rintro e w10 ⟨rfl, hb10⟩
  have HB10 : Hid (Below w.heap.size w w10) := Lib.hid (HB9.out.trans (hb10.mono HB9.out.size))
  clear hb10 HL4b
  go_wp2_with fail
  go_ret
  exact ⟨rfl, HB10.out⟩
end Go.Proofs.Ytbhpinmdpngbkaa
