/-
  What the calls answer, in terms of lists that memory holds; the walk of the chapter's examples.
-/
import Derived.Test.YtipepmnnjhhjbaaSame
namespace Go.Proofs.Ytipepmnnjhhjbaa
open Go.Sort Go.RowKit Go.Proofs.Ytipepmnnjhhjbaa.Pure

/-- A call answers the queue ys and the error er. -/
def Gq (w : World) (ys : List Td) (er : Int) (e : Ending) (w' : World) : Prop := ∃ A c, e = .returned (.tuple #[.slice A ys.length c, .int .i64 er]) ∧ Ts w' A ys ∧ Below w.heap.size w w'
/-- A call answers the news ns, the queue ys, and the error er. -/
def Gn (w : World) (ns : List Nw) (ys : List Td) (er : Int) (e : Ending) (w' : World) : Prop := ∃ A c A' c', e = .returned (.tuple #[.slice A ns.length c, .slice A' ys.length c', .int .i64 er]) ∧ Ns w' A ns ∧ Ts w' A' ys ∧ Below w.heap.size w w'
/-- A call answers the news ns, and the queue ys. -/
def Gr (w : World) (ns : List Nw) (ys : List Td) (e : Ending) (w' : World) : Prop := ∃ A c A' c', e = .returned (.tuple #[.slice A ns.length c, .slice A' ys.length c']) ∧ Ns w' A ns ∧ Ts w' A' ys ∧ Below w.heap.size w w'
/-- A call answers the queue ys. -/
def Gl (w : World) (ys : List Td) (e : Ending) (w' : World) : Prop := ∃ A c, e = .returned (.slice A ys.length c) ∧ Ts w' A ys ∧ Below w.heap.size w w'
/-- What is added: the queue then, and the error. -/
def addL (q : List Td) (x : Td) : List Td := if (mayQ q && mayT x) = true then addQ q x else q
def addE (q : List Td) (x : Td) : Int := if (mayQ q && mayT x) = true then 0 else 1

section
variable {w : World} {A : Option Addr} {c : Nat} {q : List Td}
theorem l_add (h : Ts w A q) (hn : q.length ≤ 900) (n : Nw) (often : Int) : Calls Try.prog 12 #[.slice A q.length c, .agg #[.int .i64 n.w, .int .u64 n.i, .int .i64 n.s], .int .i64 often] w (Gq w (addL q (n.td often)) (addE q (n.td often))) :=
  (add_any A c q n often w hn h _ _ rfl rfl).mono fun e w' ⟨v, he, ho, hb⟩ => by
    obtain ⟨A', c', rfl, _, hl⟩ := ho.lst
    exact ⟨A', c', he, hl, hb⟩
theorem l_take (h : Ts w A q) (hq : mayQ q = true) (k : Int) (hk : 0 ≤ k) : Calls Try.prog 13 #[.slice A q.length c, .int .i64 k] w (Gn w (tellN q k.toNat) (tellR q k.toNat) 0) :=
  (take_yes A c q k w h hq hk).mono fun e w' ⟨v, u, he, h1, h2, hb⟩ => by
    obtain ⟨A', c', rfl, _, hl⟩ := h1.lst
    obtain ⟨A2, c2, rfl, _, hl2⟩ := h2.lst
    exact ⟨A', c', A2, c2, he, hl, hl2, hb⟩
theorem l_take_bad (h : Ts w A q) (hn : q.length ≤ 1000) (k : Int) (hk : ¬(mayQ q = true ∧ 0 ≤ k)) : Calls Try.prog 13 #[.slice A q.length c, .int .i64 k] w (Gn w [] [] 1) :=
  (take_bad A c q k w hn h hk).mono fun e w' ⟨v, u, he, h1, h2, hb⟩ => by
    obtain ⟨A', c', rfl, _, hl⟩ := h1.lst
    obtain ⟨A2, c2, rfl, _, hl2⟩ := h2.lst
    exact ⟨A', c', A2, c2, he, hl, hl2, hb⟩
end

def sus4 : Nw := ⟨4, 1, 1⟩
def q4 : List Td := [⟨4, 1, 1, 2⟩]
def two : List Td := [⟨1, 0, 0, 2⟩, ⟨2, 0, 0, 3⟩]
def two' : List Td := [⟨1, 0, 0, 2⟩, ⟨2, 0, 0, 2⟩]
theorem two_may : mayQ two = true := by decide
theorem two_srt : srtT two = [⟨2, 0, 0, 3⟩, ⟨1, 0, 0, 2⟩] := by
  symm
  refine srtOf_eq swoT (List.Perm.swap _ _ _) ?_ (tieT (apart_rise (mayQ_rise two_may)))
  simp [ltT_iff]
theorem two_n : tellN two 1 = [⟨2, 0, 0⟩] := by
  unfold tellN
  rw [two_srt]
  rfl
theorem two_r : tellR two 1 = two' := by
  unfold tellR
  rw [two_srt]
  show srtW [⟨2, 0, 0, 2⟩, ⟨1, 0, 0, 2⟩] = two'
  symm
  refine srtOf_eq swoW (List.Perm.swap _ _ _) ?_ (tieW (by unfold Apart; decide))
  simp [two', ltW_iff]

set_option maxRecDepth 100000 in
set_option maxHeartbeats 4000000 in
theorem awake_any (w : World) : Calls Try.prog 20 #[] w fun e w' => e = .returned (.bool true) ∧ Below w.heap.size w w' := by
  have HBU : Hid (∀ W : World, Calls Try.prog 10 #[.int .i64 5, .int .i64 3] W fun e w' => e = .returned (.tuple #[.int .i64 9, .int .i64 0]) ∧ W = w') := Lib.hid fun W => budget_yes 5 3 W (by decide)
  have HA1 : Hid (∀ W : World, Calls Try.prog 12 #[.slice none 0 0, .agg #[.int .i64 4, .int .u64 1, .int .i64 1], .int .i64 2] W fun e w' => ∃ A c, e = .returned (.tuple #[.slice A 1 c, .int .i64 0]) ∧ Ts w' A q4 ∧ Below W.heap.size W w') := Lib.hid fun W => l_add (q := []) (Ts.nil _ _) (by decide) sus4 2
  have HA2 : Hid (∀ (W : World) A c, Ts W A q4 → Calls Try.prog 12 #[.slice A 1 c, .agg #[.int .i64 4, .int .u64 1, .int .i64 0], .int .i64 5] W fun e w' => ∃ A c, e = .returned (.tuple #[.slice A 1 c, .int .i64 0]) ∧ Ts w' A q4 ∧ Below W.heap.size W w') := Lib.hid fun W A c h => l_add (q := q4) h (by decide) ⟨4, 1, 0⟩ 5
  have HT : Hid (∀ (W : World) (g : Nat), Ts W (some ⟨g, 0, none⟩) two → Calls Try.prog 13 #[.slice (some ⟨g, 0, none⟩) 2 2, .int .i64 1] W fun e w' => ∃ A c A' c', e = .returned (.tuple #[.slice A 1 c, .slice A' 2 c', .int .i64 0]) ∧ Ns w' A [⟨2, 0, 0⟩] ∧ Ts w' A' two' ∧ Below W.heap.size W w') := Lib.hid fun W g h => by
    have := l_take (c := 2) h two_may 1 (by decide)
    rw [show (1 : Int).toNat = 1 from rfl, two_n, two_r] at this
    exact this
  have HS4 : Hid (∀ (W : World) A c A' c', Ts W A q4 → Ts W A' q4 → Calls Try.prog 17 #[.slice A 1 c, .slice A' 1 c'] W fun e w' => e = .returned (.bool true) ∧ Below W.heap.size W w') := Lib.hid fun W A c A' c' h h' => rsame_any A A' c c' q4 q4 W (by decide) h h' true (by decide)
  have HS2 : Hid (∀ (W : World) A c A' c', Ts W A two' → Ts W A' two' → Calls Try.prog 17 #[.slice A 2 c, .slice A' 2 c'] W fun e w' => e = .returned (.bool true) ∧ Below W.heap.size W w') := Lib.hid fun W A c A' c' h h' => rsame_any A A' c c' two' two' W (by decide) h h' true (by decide)
  have HSN : Hid (∀ (W : World) A c A' c', Ns W A [⟨2, 0, 0⟩] → Ns W A' [⟨2, 0, 0⟩] → Calls Try.prog 22 #[.slice A 1 c, .slice A' 1 c'] W fun e w' => e = .returned (.bool true) ∧ Below W.heap.size W w') := Lib.hid fun W A c A' c' h h' => rnews_any A A' c c' [⟨2, 0, 0⟩] [⟨2, 0, 0⟩] W (by decide) h h' true (by decide)
  have H2 : Hid (∀ W : World, Ts (W.alloc (.cells #[.int .i64 1, .int .u64 0, .int .i64 0, .int .i64 2, .int .i64 2, .int .u64 0, .int .i64 0, .int .i64 3] 59)) (some ⟨W.heap.size, 0, none⟩) two) := Lib.hid (fun W => Ts.two W ⟨1, 0, 0, 2⟩ ⟨2, 0, 0, 3⟩ 59)
  have H2' : Hid (∀ W : World, Ts (W.alloc (.cells #[.int .i64 1, .int .u64 0, .int .i64 0, .int .i64 2, .int .i64 2, .int .u64 0, .int .i64 0, .int .i64 2] 59)) (some ⟨W.heap.size, 0, none⟩) two') := Lib.hid (fun W => Ts.two W ⟨1, 0, 0, 2⟩ ⟨2, 0, 0, 2⟩ 59)
  have H1 : Hid (∀ W : World, Ns (W.alloc (.cells #[.int .i64 2, .int .u64 0, .int .i64 0] 27)) (some ⟨W.heap.size, 0, none⟩) [⟨2, 0, 0⟩]) := Lib.hid (fun W => Ns.one W ⟨2, 0, 0⟩ 27)
  go_enter Try.func20, Try.ntmps20
  go_wp2_with fail
  refine (HBU.out _).mono ?_
  rintro e w1 ⟨rfl, rfl⟩
  clear HBU
  go_wp2_with fail
  refine (HA1.out _).mono ?_
  rintro e w2 ⟨A2, c2, rfl, hl2, hb2⟩
  have HB2 : Hid (Below w.heap.size w w2) := Lib.hid (((Below.refl _ w).alloc (Nat.le_refl _) _).trans (hb2.mono (by simp)))
  have HL2 := Lib.hid hl2
  clear hl2 hb2 HA1
  go_wp2_with fail
  refine (HA2.out _ _ _ HL2.out).mono ?_
  rintro e w3 ⟨A3, c3, rfl, hl3, hb3⟩
  have HB3 : Hid (Below w.heap.size w w3) := Lib.hid (HB2.out.trans (hb3.mono HB2.out.size))
  have HL3 := Lib.hid hl3
  have HL23 := Lib.hid (HL2.out.on hb3)
  clear hl3 hb3 HA2 HB2 HL2
  go_wp2_with fail
  refine (HT.out _ _ (H2.out _)).mono ?_
  rintro e w4 ⟨A4, c4, A5, c5, rfl, hn4, hl4, hb4⟩
  have hb4' : Below w3.heap.size w3 w4 := ((Below.refl _ _).alloc (Nat.le_refl _) _).trans (hb4.mono (by simp))
  have HL3' := Lib.hid (HL3.out.on hb4')
  have HL23' := Lib.hid (HL23.out.on hb4')
  have HB4 : Hid (Below w.heap.size w w4) := Lib.hid (HB3.out.trans (hb4'.mono HB3.out.size))
  have HN4 := Lib.hid hn4
  have HL4 := Lib.hid hl4
  clear hb4 hb4' HL3 HL23 hn4 hl4 HB3 HT H2
  go_wp2_with fail
  refine (HS4.out _ _ _ _ _ HL23'.out HL3'.out).mono ?_
  rintro e w5 ⟨rfl, hb5⟩
  have HB5 : Hid (Below w.heap.size w w5) := Lib.hid (HB4.out.trans (hb5.mono HB4.out.size))
  have HN5 := Lib.hid (HN4.out.on hb5)
  have HL5 := Lib.hid (HL4.out.on hb5)
  clear hb5 HL3' HL23' HB4 HN4 HL4 HS4
  go_wp2_with fail
  refine (HSN.out _ _ _ _ _ (HN5.out.alloc _) (H1.out _)).mono ?_
  rintro e w6 ⟨rfl, hb6⟩
  have hb6' : Below w5.heap.size w5 w6 := ((Below.refl _ _).alloc (Nat.le_refl _) _).trans (hb6.mono (by simp))
  have HB6 : Hid (Below w.heap.size w w6) := Lib.hid (HB5.out.trans (hb6'.mono HB5.out.size))
  have HL6 := Lib.hid (HL5.out.on hb6')
  clear hb6 hb6' HB5 HN5 HL5 HSN
  go_wp2_with fail
  refine (HS2.out _ _ _ _ _ (HL6.out.alloc _) (H2'.out _)).mono ?_
  rintro e w7 ⟨rfl, hb7⟩
  have HB7 : Hid (Below w.heap.size w w7) := Lib.hid (HB6.out.trans (((Below.refl _ _).alloc (Nat.le_refl _) _).trans (hb7.mono (by simp)) |>.mono HB6.out.size))
  clear hb7
  go_wp2_with fail
  go_ret
  exact ⟨rfl, HB7.out⟩
end Go.Proofs.Ytipepmnnjhhjbaa
