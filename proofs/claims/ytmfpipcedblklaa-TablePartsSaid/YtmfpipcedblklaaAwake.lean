/-
  The walk of the chapter's examples.
-/
import Derived.Test.YtmfpipcedblklaaNew
import Derived.Test.YtmfpipcedblklaaRefs
namespace Go.Proofs.Ytmfpipcedblklaa
open Go.Sort Go.RowKit Go.Proofs.Ytmfpipcedblklaa.Pure

theorem two_ns (w : World) (x y : Nat) (t : TypeId) : Ns (w.alloc (.cells #[.int .i64 (x : Int), .int .i64 (y : Int)] t)) (some ⟨w.heap.size, 0, none⟩) [x, y] := by
  intro j hj
  refine ⟨_, rfl, by simp, ?_⟩
  match j, hj with
  | 0, _ => go_simp
  | 1, _ => go_simp
def dead0 : Kn := ⟨0, 2⟩
set_option maxRecDepth 100000 in
set_option maxHeartbeats 4000000 in
theorem awake_any (w : World) : Calls Try.prog 21 #[] w fun e w' => e = .returned (.bool true) ∧ Below w.heap.size w w' := by
  have HN : Hid (∀ W : World, Calls Try.prog 10 #[.int .i64 2] W fun e w' => ∃ A c, e = .returned (.tuple #[.slice A 2 c, .int .i64 0]) ∧ Lst w' A [z0, z0] ∧ Below W.heap.size W w') := Lib.hid fun W => new_yes 2 (by decide) W
  have HA : Hid (∀ (W : World) A c, Lst W A [z0, z0] → Calls Try.prog 12 #[.slice A 2 c, .int .i64 1, .agg #[.int .u64 0, .int .i64 2]] W fun e w' => ∃ A c, e = .returned (.tuple #[.slice A 2 c, .bool true, .int .i64 0]) ∧ Lst w' A [z0, dead0] ∧ Below W.heap.size W w') :=
    Lib.hid fun W A c h => tapp_yes A c [z0, z0] 1 dead0 W (by decide) h rfl (by intro x hx; simp at hx; subst hx; exact fit_z0) (by decide) rfl
  have HA2 : Hid (∀ (W : World) A c, Lst W A [z0, dead0] → Calls Try.prog 12 #[.slice A 2 c, .int .i64 1, .agg #[.int .u64 0, .int .i64 2]] W fun e w' => ∃ A c, e = .returned (.tuple #[.slice A 2 c, .bool false, .int .i64 0]) ∧ Lst w' A [z0, dead0] ∧ Below W.heap.size W w') :=
    Lib.hid fun W A c h => tapp_yes A c [z0, dead0] 1 dead0 W (by decide) h rfl (by intro x hx; simp at hx; rcases hx with rfl | rfl <;> exact ⟨by decide, by decide⟩) (by decide) rfl
  have HL : Hid (∀ (W : World) (g : Nat), Lst W (some ⟨g, 0, none⟩) [dead0] → Calls Try.prog 15 #[.slice (some ⟨g, 0, none⟩) 1 1] W fun e w' => e = .returned (.tuple #[.int .i64 0, .int .i64 6]) ∧ Below W.heap.size W w') :=
    Lib.hid fun W g h => tlow_any (some ⟨g, 0, none⟩) 1 [dead0] W (by decide) h
  have HS : Hid (∀ (W : World) A c A' c', Lst W A [z0, dead0] → Lst W A' [z0, dead0] → Calls Try.prog 11 #[.slice A 2 c, .slice A' 2 c'] W fun e w' => e = .returned (.bool true) ∧ Below W.heap.size W w') :=
    Lib.hid fun W A c A' c' h h' => rsame_any A A' c c' [z0, dead0] [z0, dead0] W (by decide) h h' true (by decide)
  have HU : Hid (∀ (W : World) (g : Nat), Lst W (some ⟨g, 0, none⟩) [z0, dead0, ⟨0, 1⟩] → Calls Try.prog 19 #[.slice (some ⟨g, 0, none⟩) 3 3] W fun e w' => ∃ A c, e = .returned (.slice A 2 c) ∧ Ns w' A [0, 2] ∧ Below W.heap.size W w') :=
    Lib.hid fun W g h => tup_any (some ⟨g, 0, none⟩) 3 [z0, dead0, ⟨0, 1⟩] W (by decide) h true rfl
  have HR : Hid (∀ (W : World) A c A' c', Ns W A [0, 2] → Ns W A' [0, 2] → Calls Try.prog 23 #[.slice A 2 c, .slice A' 2 c'] W fun e w' => e = .returned (.bool true) ∧ Below W.heap.size W w') :=
    Lib.hid fun W A c A' c' h h' => nsame_any A A' c c' [0, 2] [0, 2] W (by decide) h h' true (by decide)
  have H1 := Lib.hid (fun W => Lst.one W dead0 25)
  have H3 := Lib.hid (fun W => Lst.three W z0 dead0 ⟨0, 1⟩ 25)
  have H2 := Lib.hid (fun W => two_ns W 0 2 3)
  go_enter Try.func21, Try.ntmps21
  go_wp2_with fail
  refine (HN.out _).mono ?_
  rintro e w1 ⟨A1, c1, rfl, hl1, hb1⟩
  have HL1 := Lib.hid hl1
  have HB1 := Lib.hid hb1
  clear hl1 hb1
  go_wp2_with fail
  refine (HA.out _ _ _ HL1.out).mono ?_
  rintro e w2 ⟨A2, c2, rfl, hl2, hb2⟩
  have HL2 := Lib.hid hl2
  have HB2 : Hid (Below w.heap.size w w2) := Lib.hid (HB1.out.trans (hb2.mono HB1.out.size))
  clear hl2 hb2 HL1
  go_wp2_with fail
  refine (HA2.out _ _ _ HL2.out).mono ?_
  rintro e w3 ⟨A3, c3, rfl, hl3, hb3⟩
  have HL3 := Lib.hid hl3
  have HL23 := Lib.hid (HL2.out.on hb3)
  have HB3 : Hid (Below w.heap.size w w3) := Lib.hid (HB2.out.trans (hb3.mono HB2.out.size))
  clear hl3 hb3 HL2
  go_wp2_with fail
  refine (HL.out _ _ (H1.out _)).mono ?_
  rintro e w4 ⟨rfl, hb4⟩
  have hb4' : Below w3.heap.size w3 w4 := ((Below.refl _ _).alloc (Nat.le_refl _) _).trans (hb4.mono (by simp))
  have HL3' := Lib.hid (HL3.out.on hb4')
  have HL23' := Lib.hid (HL23.out.on hb4')
  have HB4 : Hid (Below w.heap.size w w4) := Lib.hid (HB3.out.trans (hb4'.mono HB3.out.size))
  clear hb4 hb4' HL3 HL23
  go_wp2_with fail
  refine (HS.out _ _ _ _ _ HL23'.out HL3'.out).mono ?_
  rintro e w5 ⟨rfl, hb5⟩
  have HB5 : Hid (Below w.heap.size w w5) := Lib.hid (HB4.out.trans (hb5.mono HB4.out.size))
  clear hb5 HL3' HL23'
  go_wp2_with fail
  refine (HU.out _ _ (H3.out _)).mono ?_
  rintro e w6 ⟨A6, c6, rfl, hn6, hb6⟩
  have hb6' : Below w5.heap.size w5 w6 := ((Below.refl _ _).alloc (Nat.le_refl _) _).trans (hb6.mono (by simp))
  have HB6 : Hid (Below w.heap.size w w6) := Lib.hid (HB5.out.trans (hb6'.mono HB5.out.size))
  have HN6 := Lib.hid (hn6.alloc (.cells #[.int .i64 0, .int .i64 2] 3))
  clear hb6 hb6' hn6
  go_wp2_with fail
  refine (HR.out _ _ _ _ _ HN6.out (H2.out _)).mono ?_
  rintro e w7 ⟨rfl, hb7⟩
  have HB7 : Hid (Below w.heap.size w w7) := Lib.hid (HB6.out.trans (((Below.refl _ _).alloc (Nat.le_refl _) _).trans (hb7.mono (by simp)) |>.mono HB6.out.size))
  clear hb7
  go_wp2_with fail
  go_ret
  exact ⟨rfl, HB7.out⟩
end Go.Proofs.Ytmfpipcedblklaa
