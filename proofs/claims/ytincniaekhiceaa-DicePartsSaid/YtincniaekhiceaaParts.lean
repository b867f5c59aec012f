/-
  DiceParts: what is picked is the beginning of what is shuffled; a list of one, or none, takes no draw; dice of twice the octets go on where those of the first ones ended: the law returns true for every input.
-/
import Derived.Test.YtincniaekhiceaaBoth
import Derived.StillTactics
namespace Go.Proofs.Ytincniaekhiceaa.lawParts
open Go.ChangeShapes Go.WideShapes Go.ChangeAt Go.RowKit Go.Proofs.Ytincniaekhiceaa.Pure

set_option maxRecDepth 100000 in
set_option maxHeartbeats 4000000 in
/-- Where one of both refuses. -/
theorem walk_err (s0 s : ByteArray) (a x er : Int) (A : Option Addr) (c : Nat) (xs0 xs ys : List Int) (k : Int) (w : World) (her : er = 0 ∨ er = 1)
    (hX : Has w 0 w.heap.size A xs)
    (HF : Hid (∀ W : World, Calls Try.prog 9 #[.agg #[.string s0, .int .i64 a]] W fun e w' => e = .returned (.agg #[.string s, .int .i64 a]) ∧ Below W.heap.size W w'))
    (HCut : Hid (∀ W : World, Calls Try.prog 10 #[.slice A xs0.length c] W fun e w' => e = .returned (.slice A xs.length c) ∧ W = w'))
    (HSP : Hid (∀ (W : World) (lo hi : Nat), Has W lo hi A xs → hi ≤ W.heap.size → Calls Try.prog 15 #[.agg #[.string s, .int .i64 a], .slice A xs.length c] W (Answers W s ys x er)))
    (HPP : Hid (∀ W : World, Calls Try.prog 18 #[.agg #[.string s, .int .i64 a], .slice A xs.length c, .int .i64 k] W fun e w' => e = .returned (.tuple #[.slice none 0 0, .agg #[.string s, .int .i64 a], .int .i64 1]) ∧ Below W.heap.size W w')) :
    Calls Try.prog 8 #[.agg #[.string s0, .int .i64 a], .slice A xs0.length c, .int .i64 k] w fun e w' => e = .returned (.bool true) ∧ Below w.heap.size w w' := by
  have HX0 := Lib.hid hX
  have HER := Lib.hid her
  clear hX her
  go_enter Try.func8, Try.ntmps8
  go_wp2_with fail
  refine (HF.out _).mono ?_
  rintro e w1 ⟨rfl, hb1⟩
  go_wp2_with fail
  refine (HCut.out _).mono ?_
  rintro e w' ⟨rfl, rfl⟩
  have HD := Lib.hid (((Box.new w s0 a 23).on hb1).put s a)
  obtain ⟨x0, x1, xf0, xf1⟩ := (Box.new w s0 a 23).on hb1
  have hz1 : w.heap.size < w1.heap.size := by have := hb1.size; simp at this; omega
  have HB1 : Hid (Below w.heap.size w ((w1.setCell ⟨w.heap.size, 0, none⟩ (.string s)).setCell ⟨w.heap.size, 1, none⟩ (.int .i64 a))) :=
    Lib.hid (((((Below.refl _ _).alloc (Nat.le_refl _) _).trans (hb1.mono (by simp))).setCell (by simp) _).setCell (by simp) _)
  clear hb1
  go_wp2_with fail
  refine (HSP.out _ 0 w.heap.size (HX0.out.on HB1.out (Nat.le_refl _)) HB1.out.size).mono ?_
  rintro e w2 ⟨A7, c7, rfl, hc7, hh7, hb2⟩
  clear x0 x1 xf0 xf1
  have HD2 := Lib.hid (HD.out.on hb2)
  have hz2 : w.heap.size < w2.heap.size := HD2.out.lt
  have HB2 := Lib.hid (HB1.out.trans (hb2.mono (by simp [World.setCell]; omega)))
  clear hb2 hh7
  obtain ⟨x0, x1, xf0, xf1⟩ := HD2.out
  go_wp2_with fail
  refine (HPP.out _).mono ?_
  rintro e w3 ⟨rfl, hb3⟩
  have HB3 := Lib.hid ((HB2.out.alloc (by omega) (.cells #[.string s, .int .i64 x] 23)).trans (hb3.mono (by simp; omega)))
  clear hb3 x0 x1 xf0 xf1
  rcases HER.out with rfl | rfl
  all_goals
    go_wp2_with fail
    refine (awake_any _).mono ?_
    rintro e w5 ⟨rfl, hb5⟩
    go_wp2_with fail
    go_ret
    exact ⟨rfl, (HB3.out.alloc HB3.out.size _).trans (hb5.mono (by have := HB3.out.size; simp; omega))⟩

set_option maxRecDepth 100000 in
set_option maxHeartbeats 4000000 in
theorem ok_few_end (s0 s : ByteArray) (a m : Nat) (A : Option Addr) (c : Nat) (xs0 xs ys zs : List Int) (k : Int) (w : World) (hs : s.size ≤ 400) (hyl : ys.length ≤ 256) (hzl : zs.length ≤ ys.length) (hzs : zs = ys.take zs.length) (h2 : xs.length < 2) (hpe : a = s.size)
    (hX : Has w 0 w.heap.size A xs)
    (HF : Hid (∀ W : World, Calls Try.prog 9 #[.agg #[.string s0, .int .i64 a]] W fun e w' => e = .returned (.agg #[.string s, .int .i64 a]) ∧ Below W.heap.size W w'))
    (HCut : Hid (∀ W : World, Calls Try.prog 10 #[.slice A xs0.length c] W fun e w' => e = .returned (.slice A xs.length c) ∧ W = w'))
    (HSP : Hid (∀ (W : World) (lo hi : Nat), Has W lo hi A xs → hi ≤ W.heap.size → Calls Try.prog 15 #[.agg #[.string s, .int .i64 a], .slice A xs.length c] W (Answers W s ys (a : Nat) 0)))
    (HPP : Hid (∀ (W : World) (lo hi : Nat), Has W lo hi A xs → hi ≤ W.heap.size → Calls Try.prog 18 #[.agg #[.string s, .int .i64 a], .slice A xs.length c, .int .i64 k] W (Answers W s zs (a : Nat) 0)))
    (HB : Hid (∀ W : World, Calls Try.prog 11 #[.agg #[.string s, .int .i64 (a : Nat)], .int .i64 256] W fun e w' => e = .returned (.tuple #[.int .i64 (0 : Nat), .agg #[.string s, .int .i64 (a : Nat)], .int .i64 0]) ∧ Below W.heap.size W w'))
    (HBB : Hid (∃ z2 : Nat, ∀ W : World, Calls Try.prog 11 #[.agg #[.string (s ++ s), .int .i64 (a : Nat)], .int .i64 256] W fun e w' => e = .returned (.tuple #[.int .i64 (m : Nat), .agg #[.string (s ++ s), .int .i64 z2], .int .i64 0]) ∧ Below W.heap.size W w')) :
    Calls Try.prog 8 #[.agg #[.string s0, .int .i64 a], .slice A xs0.length c, .int .i64 k] w fun e w' => e = .returned (.bool true) ∧ Below w.heap.size w w' := by
  have hqs : (s.toList == s.toList) = true := by simp
  have hqn : (s.toList != s.toList) = false := by simp
  have HX0 := Lib.hid hX
  have HZS := Lib.hid hzs
  have g1 : (((a : Nat) : Int) == (s.size : Int)) = true := by rw [hpe]; simp
  clear hpe
  have b1 : decide ((ys.length : Int) < (zs.length : Int)) = false := by simp; omega
  have b2 : decide (ys.length < zs.length) = false := by simp; omega
  obtain ⟨z2, hbb⟩ := HBB.out
  have HB2' := Lib.hid hbb
  clear hX hzs HBB hbb
  go_enter Try.func8, Try.ntmps8
  go_wp2_with fail
  refine (HF.out _).mono ?_
  rintro e w1 ⟨rfl, hb1⟩
  go_wp2_with fail
  refine (HCut.out _).mono ?_
  rintro e w' ⟨rfl, rfl⟩
  have HD := Lib.hid (((Box.new w s0 a 23).on hb1).put s a)
  obtain ⟨x0, x1, xf0, xf1⟩ := (Box.new w s0 a 23).on hb1
  have hz1 : w.heap.size < w1.heap.size := by have := hb1.size; simp at this; omega
  have HB1 : Hid (Below w.heap.size w ((w1.setCell ⟨w.heap.size, 0, none⟩ (.string s)).setCell ⟨w.heap.size, 1, none⟩ (.int .i64 a))) :=
    Lib.hid (((((Below.refl _ _).alloc (Nat.le_refl _) _).trans (hb1.mono (by simp))).setCell (by simp) _).setCell (by simp) _)
  clear hb1
  go_wp2_with fail
  refine (HSP.out _ 0 w.heap.size (HX0.out.on HB1.out (Nat.le_refl _)) HB1.out.size).mono ?_
  rintro e w2 ⟨A7, c7, rfl, hc7, hh7, hb2⟩
  clear x0 x1 xf0 xf1
  have HD2 := Lib.hid (HD.out.on hb2)
  have hz2 : w.heap.size < w2.heap.size := HD2.out.lt
  have HB2 := Lib.hid (HB1.out.trans (hb2.mono (by simp [World.setCell]; omega)))
  have HH7 := Lib.hid (hh7.alloc (.cells #[.string s, .int .i64 (a : Nat)] 23) (Nat.le_refl _))
  clear hb2 hh7
  obtain ⟨x0, x1, xf0, xf1⟩ := HD2.out
  go_wp2_with fail
  refine (HPP.out _ 0 w.heap.size (HX0.out.on (HB2.out.alloc (by omega) _) (Nat.le_refl _)) (by simp; omega)).mono ?_
  rintro e w3 ⟨A8, c8, rfl, hc8, hh8, hb3⟩
  clear x0 x1 xf0 xf1
  have hz3 : w2.heap.size < w3.heap.size := by have := hb3.size; simp at this; omega
  have hz3' : w.heap.size < w3.heap.size := by omega
  have HST : Hid (St w (w3.alloc (.cells #[.string s, .int .i64 (a : Nat)] 23)) s a w2.heap.size w3.heap.size (a : Nat) (a : Nat)) := Lib.hid
    ⟨((HD2.out.alloc _).on hb3).alloc _, ((Box.new w2 s _ 23).on hb3).alloc _, Box.new w3 s _ _, (((HB2.out.alloc (by omega) _).trans (hb3.mono (by simp; omega))).alloc (by omega) _), hz2, hz3⟩
  have HH7' := Lib.hid ((HH7.out.on hb3 (by simp)).alloc (.cells #[.string s, .int .i64 (a : Nat)] 23) (by omega))
  have HH8 := Lib.hid (hh8.alloc (.cells #[.string s, .int .i64 (a : Nat)] 23) (Nat.le_refl _))
  clear hb3 hh8 HH7
  go_upto_region 4 with (fail)
  generalize w3.alloc (.cells #[.string s, .int .i64 (a : Nat)] 23) = w4 at *
  obtain ⟨⟨x0, x1, xf0, xf1⟩, ⟨y0, y1, yf0, yf1⟩, ⟨z0, z1, zf0, zf1⟩, _, _, _⟩ := HST.out
  have HSame := Lib.hid (same_yes A8 A7 c8 c7 _ _ _ _ zs w4 (by omega) HH8.out (by rw [HZS.out]; exact HH7'.out.take _))
  have j0 : (0 : Int) ≤ (zs.length : Int) := by omega
  have j1 : (zs.length : Int) ≤ (c7 : Int) := by omega
  have j2 : zs.length ≤ c7 := by omega
  go_wp2_with fail
  refine HSame.out.mono ?_
  rintro e w5 ⟨rfl, hb5⟩
  have HS5 := Lib.hid (HST.out.on hb5)
  clear hb5 x0 x1 xf0 xf1 y0 y1 yf0 yf1 z0 z1 zf0 zf1 HSame HH7' HH8
  obtain ⟨⟨x0, x1, xf0, xf1⟩, ⟨y0, y1, yf0, yf1⟩, ⟨z0, z1, zf0, zf1⟩, _, _, _⟩ := HS5.out
  go_wp2_with fail
  refine (HB.out _).mono ?_
  rintro e w6 ⟨rfl, hb6⟩
  have HS6 := Lib.hid (HS5.out.on hb6)
  clear hb6 x0 x1 xf0 xf1 y0 y1 yf0 yf1 z0 z1 zf0 zf1
  obtain ⟨⟨x0, x1, xf0, xf1⟩, ⟨y0, y1, yf0, yf1⟩, ⟨z0, z1, zf0, zf1⟩, _, _, _⟩ := HS6.out
  have l6 : w2.heap.size < w6.heap.size := HS6.out.x.lt
  have l6' : w.heap.size < w6.heap.size := HS6.out.d.lt
  go_wp2_with fail
  refine (HB2'.out _).mono ?_
  rintro e w7 ⟨rfl, hb7⟩
  have HZ7 := Lib.hid ((Box.new w6 s (a : Nat) 23).on hb7)
  have HS7 := Lib.hid ((HS6.out.on (((Below.refl _ _).alloc (Nat.le_refl _) (.cells #[.string s, .int .i64 (a : Nat)] 23)).trans (hb7.mono (by simp)))))
  have l7 : w6.heap.size < w7.heap.size := HZ7.out.lt
  have l7' : w2.heap.size < w7.heap.size := by omega
  have l7'' : w.heap.size < w7.heap.size := by omega
  clear hb7 x0 x1 xf0 xf1 y0 y1 yf0 yf1 z0 z1 zf0 zf1
  obtain ⟨⟨x0, x1, xf0, xf1⟩, ⟨y0, y1, yf0, yf1⟩, ⟨z0, z1, zf0, zf1⟩, _, _, _⟩ := HS7.out
  obtain ⟨u0, u1, uf0, uf1⟩ := HZ7.out
  go_wp2_with fail
  refine (awake_any _).mono ?_
  rintro e w8 ⟨rfl, hb8⟩
  go_wp2_with fail
  go_ret
  exact ⟨rfl, (HS7.out.b.alloc HS7.out.b.size _).trans (hb8.mono (by have := HS7.out.b.size; simp; omega))⟩

set_option maxRecDepth 100000 in
set_option maxHeartbeats 4000000 in
theorem ok_few (s0 s : ByteArray) (a m z : Nat) (A : Option Addr) (c : Nat) (xs0 xs ys zs : List Int) (k : Int) (w : World) (hs : s.size ≤ 400) (hyl : ys.length ≤ 256) (hzl : zs.length ≤ ys.length) (hzs : zs = ys.take zs.length) (h2 : xs.length < 2) (hpe : a < s.size)
    (hX : Has w 0 w.heap.size A xs)
    (HF : Hid (∀ W : World, Calls Try.prog 9 #[.agg #[.string s0, .int .i64 a]] W fun e w' => e = .returned (.agg #[.string s, .int .i64 a]) ∧ Below W.heap.size W w'))
    (HCut : Hid (∀ W : World, Calls Try.prog 10 #[.slice A xs0.length c] W fun e w' => e = .returned (.slice A xs.length c) ∧ W = w'))
    (HSP : Hid (∀ (W : World) (lo hi : Nat), Has W lo hi A xs → hi ≤ W.heap.size → Calls Try.prog 15 #[.agg #[.string s, .int .i64 a], .slice A xs.length c] W (Answers W s ys (a : Nat) 0)))
    (HPP : Hid (∀ (W : World) (lo hi : Nat), Has W lo hi A xs → hi ≤ W.heap.size → Calls Try.prog 18 #[.agg #[.string s, .int .i64 a], .slice A xs.length c, .int .i64 k] W (Answers W s zs (a : Nat) 0)))
    (HB : Hid (∀ W : World, Calls Try.prog 11 #[.agg #[.string s, .int .i64 (a : Nat)], .int .i64 256] W fun e w' => e = .returned (.tuple #[.int .i64 (m : Nat), .agg #[.string s, .int .i64 (z : Nat)], .int .i64 0]) ∧ Below W.heap.size W w'))
    (HBB : Hid (∃ z2 : Nat, ∀ W : World, Calls Try.prog 11 #[.agg #[.string (s ++ s), .int .i64 (a : Nat)], .int .i64 256] W fun e w' => e = .returned (.tuple #[.int .i64 (m : Nat), .agg #[.string (s ++ s), .int .i64 z2], .int .i64 0]) ∧ Below W.heap.size W w')) :
    Calls Try.prog 8 #[.agg #[.string s0, .int .i64 a], .slice A xs0.length c, .int .i64 k] w fun e w' => e = .returned (.bool true) ∧ Below w.heap.size w w' := by
  have hqs : (s.toList == s.toList) = true := by simp
  have hqn : (s.toList != s.toList) = false := by simp
  have HX0 := Lib.hid hX
  have HZS := Lib.hid hzs
  have g1 : (((a : Nat) : Int) == (s.size : Int)) = false := by rw [beq_eq_false_iff_ne]; omega
  have g2 : decide (a < s.size) = true := by simp; omega
  have b1 : decide ((ys.length : Int) < (zs.length : Int)) = false := by simp; omega
  have b2 : decide (ys.length < zs.length) = false := by simp; omega
  obtain ⟨z2, hbb⟩ := HBB.out
  have HB2' := Lib.hid hbb
  clear hX hzs HBB hbb
  go_enter Try.func8, Try.ntmps8
  go_wp2_with fail
  refine (HF.out _).mono ?_
  rintro e w1 ⟨rfl, hb1⟩
  go_wp2_with fail
  refine (HCut.out _).mono ?_
  rintro e w' ⟨rfl, rfl⟩
  have HD := Lib.hid (((Box.new w s0 a 23).on hb1).put s a)
  obtain ⟨x0, x1, xf0, xf1⟩ := (Box.new w s0 a 23).on hb1
  have hz1 : w.heap.size < w1.heap.size := by have := hb1.size; simp at this; omega
  have HB1 : Hid (Below w.heap.size w ((w1.setCell ⟨w.heap.size, 0, none⟩ (.string s)).setCell ⟨w.heap.size, 1, none⟩ (.int .i64 a))) :=
    Lib.hid (((((Below.refl _ _).alloc (Nat.le_refl _) _).trans (hb1.mono (by simp))).setCell (by simp) _).setCell (by simp) _)
  clear hb1
  go_wp2_with fail
  refine (HSP.out _ 0 w.heap.size (HX0.out.on HB1.out (Nat.le_refl _)) HB1.out.size).mono ?_
  rintro e w2 ⟨A7, c7, rfl, hc7, hh7, hb2⟩
  clear x0 x1 xf0 xf1
  have HD2 := Lib.hid (HD.out.on hb2)
  have hz2 : w.heap.size < w2.heap.size := HD2.out.lt
  have HB2 := Lib.hid (HB1.out.trans (hb2.mono (by simp [World.setCell]; omega)))
  have HH7 := Lib.hid (hh7.alloc (.cells #[.string s, .int .i64 (a : Nat)] 23) (Nat.le_refl _))
  clear hb2 hh7
  obtain ⟨x0, x1, xf0, xf1⟩ := HD2.out
  go_wp2_with fail
  refine (HPP.out _ 0 w.heap.size (HX0.out.on (HB2.out.alloc (by omega) _) (Nat.le_refl _)) (by simp; omega)).mono ?_
  rintro e w3 ⟨A8, c8, rfl, hc8, hh8, hb3⟩
  clear x0 x1 xf0 xf1
  have hz3 : w2.heap.size < w3.heap.size := by have := hb3.size; simp at this; omega
  have hz3' : w.heap.size < w3.heap.size := by omega
  have HST : Hid (St w (w3.alloc (.cells #[.string s, .int .i64 (a : Nat)] 23)) s a w2.heap.size w3.heap.size (a : Nat) (a : Nat)) := Lib.hid
    ⟨((HD2.out.alloc _).on hb3).alloc _, ((Box.new w2 s _ 23).on hb3).alloc _, Box.new w3 s _ _, (((HB2.out.alloc (by omega) _).trans (hb3.mono (by simp; omega))).alloc (by omega) _), hz2, hz3⟩
  have HH7' := Lib.hid ((HH7.out.on hb3 (by simp)).alloc (.cells #[.string s, .int .i64 (a : Nat)] 23) (by omega))
  have HH8 := Lib.hid (hh8.alloc (.cells #[.string s, .int .i64 (a : Nat)] 23) (Nat.le_refl _))
  clear hb3 hh8 HH7
  go_upto_region 4 with (fail)
  generalize w3.alloc (.cells #[.string s, .int .i64 (a : Nat)] 23) = w4 at *
  obtain ⟨⟨x0, x1, xf0, xf1⟩, ⟨y0, y1, yf0, yf1⟩, ⟨z0, z1, zf0, zf1⟩, _, _, _⟩ := HST.out
  have HSame := Lib.hid (same_yes A8 A7 c8 c7 _ _ _ _ zs w4 (by omega) HH8.out (by rw [HZS.out]; exact HH7'.out.take _))
  have j0 : (0 : Int) ≤ (zs.length : Int) := by omega
  have j1 : (zs.length : Int) ≤ (c7 : Int) := by omega
  have j2 : zs.length ≤ c7 := by omega
  go_wp2_with fail
  refine HSame.out.mono ?_
  rintro e w5 ⟨rfl, hb5⟩
  have HS5 := Lib.hid (HST.out.on hb5)
  clear hb5 x0 x1 xf0 xf1 y0 y1 yf0 yf1 z0 z1 zf0 zf1 HSame HH7' HH8
  obtain ⟨⟨x0, x1, xf0, xf1⟩, ⟨y0, y1, yf0, yf1⟩, ⟨z0, z1, zf0, zf1⟩, _, _, _⟩ := HS5.out
  go_wp2_with fail
  refine (HB.out _).mono ?_
  rintro e w6 ⟨rfl, hb6⟩
  have HS6 := Lib.hid (HS5.out.on hb6)
  clear hb6 x0 x1 xf0 xf1 y0 y1 yf0 yf1 z0 z1 zf0 zf1
  obtain ⟨⟨x0, x1, xf0, xf1⟩, ⟨y0, y1, yf0, yf1⟩, ⟨z0, z1, zf0, zf1⟩, _, _, _⟩ := HS6.out
  have l6 : w2.heap.size < w6.heap.size := HS6.out.x.lt
  have l6' : w.heap.size < w6.heap.size := HS6.out.d.lt
  go_wp2_with fail
  refine (HB2'.out _).mono ?_
  rintro e w7 ⟨rfl, hb7⟩
  have HZ7 := Lib.hid ((Box.new w6 s (z : Nat) 23).on hb7)
  have HS7 := Lib.hid ((HS6.out.on (((Below.refl _ _).alloc (Nat.le_refl _) (.cells #[.string s, .int .i64 (z : Nat)] 23)).trans (hb7.mono (by simp)))))
  have l7 : w6.heap.size < w7.heap.size := HZ7.out.lt
  have l7' : w2.heap.size < w7.heap.size := by omega
  have l7'' : w.heap.size < w7.heap.size := by omega
  clear hb7 x0 x1 xf0 xf1 y0 y1 yf0 yf1 z0 z1 zf0 zf1
  obtain ⟨⟨x0, x1, xf0, xf1⟩, ⟨y0, y1, yf0, yf1⟩, ⟨z0, z1, zf0, zf1⟩, _, _, _⟩ := HS7.out
  obtain ⟨u0, u1, uf0, uf1⟩ := HZ7.out
  go_wp2_with fail
  refine (awake_any _).mono ?_
  rintro e w8 ⟨rfl, hb8⟩
  go_wp2_with fail
  go_ret
  exact ⟨rfl, (HS7.out.b.alloc HS7.out.b.size _).trans (hb8.mono (by have := HS7.out.b.size; simp; omega))⟩

set_option maxRecDepth 100000 in
set_option maxHeartbeats 4000000 in
theorem ok_end (s0 s : ByteArray) (a p m : Nat) (A : Option Addr) (c : Nat) (xs0 xs ys zs : List Int) (k : Int) (w : World) (hs : s.size ≤ 400) (hyl : ys.length ≤ 256) (hzl : zs.length ≤ ys.length) (hzs : zs = ys.take zs.length) (h2 : 2 ≤ xs.length) (hpe : p = s.size)
    (hX : Has w 0 w.heap.size A xs)
    (HF : Hid (∀ W : World, Calls Try.prog 9 #[.agg #[.string s0, .int .i64 a]] W fun e w' => e = .returned (.agg #[.string s, .int .i64 a]) ∧ Below W.heap.size W w'))
    (HCut : Hid (∀ W : World, Calls Try.prog 10 #[.slice A xs0.length c] W fun e w' => e = .returned (.slice A xs.length c) ∧ W = w'))
    (HSP : Hid (∀ (W : World) (lo hi : Nat), Has W lo hi A xs → hi ≤ W.heap.size → Calls Try.prog 15 #[.agg #[.string s, .int .i64 a], .slice A xs.length c] W (Answers W s ys (p : Nat) 0)))
    (HPP : Hid (∀ (W : World) (lo hi : Nat), Has W lo hi A xs → hi ≤ W.heap.size → Calls Try.prog 18 #[.agg #[.string s, .int .i64 a], .slice A xs.length c, .int .i64 k] W (Answers W s zs (p : Nat) 0)))
    (HB : Hid (∀ W : World, Calls Try.prog 11 #[.agg #[.string s, .int .i64 (p : Nat)], .int .i64 256] W fun e w' => e = .returned (.tuple #[.int .i64 (0 : Nat), .agg #[.string s, .int .i64 (p : Nat)], .int .i64 0]) ∧ Below W.heap.size W w'))
    (HBB : Hid (∃ z2 : Nat, ∀ W : World, Calls Try.prog 11 #[.agg #[.string (s ++ s), .int .i64 (p : Nat)], .int .i64 256] W fun e w' => e = .returned (.tuple #[.int .i64 (m : Nat), .agg #[.string (s ++ s), .int .i64 z2], .int .i64 0]) ∧ Below W.heap.size W w')) :
    Calls Try.prog 8 #[.agg #[.string s0, .int .i64 a], .slice A xs0.length c, .int .i64 k] w fun e w' => e = .returned (.bool true) ∧ Below w.heap.size w w' := by
  have hqs : (s.toList == s.toList) = true := by simp
  have hqn : (s.toList != s.toList) = false := by simp
  have HX0 := Lib.hid hX
  have HZS := Lib.hid hzs
  have g1 : (((p : Nat) : Int) == (s.size : Int)) = true := by rw [hpe]; simp
  clear hpe
  have g3 : decide ((xs.length : Int) < 2) = false := by simp; omega
  have b1 : decide ((ys.length : Int) < (zs.length : Int)) = false := by simp; omega
  have b2 : decide (ys.length < zs.length) = false := by simp; omega
  obtain ⟨z2, hbb⟩ := HBB.out
  have HB2' := Lib.hid hbb
  clear hX hzs HBB hbb
  go_enter Try.func8, Try.ntmps8
  go_wp2_with fail
  refine (HF.out _).mono ?_
  rintro e w1 ⟨rfl, hb1⟩
  go_wp2_with fail
  refine (HCut.out _).mono ?_
  rintro e w' ⟨rfl, rfl⟩
  have HD := Lib.hid (((Box.new w s0 a 23).on hb1).put s a)
  obtain ⟨x0, x1, xf0, xf1⟩ := (Box.new w s0 a 23).on hb1
  have hz1 : w.heap.size < w1.heap.size := by have := hb1.size; simp at this; omega
  have HB1 : Hid (Below w.heap.size w ((w1.setCell ⟨w.heap.size, 0, none⟩ (.string s)).setCell ⟨w.heap.size, 1, none⟩ (.int .i64 a))) :=
    Lib.hid (((((Below.refl _ _).alloc (Nat.le_refl _) _).trans (hb1.mono (by simp))).setCell (by simp) _).setCell (by simp) _)
  clear hb1
  go_wp2_with fail
  refine (HSP.out _ 0 w.heap.size (HX0.out.on HB1.out (Nat.le_refl _)) HB1.out.size).mono ?_
  rintro e w2 ⟨A7, c7, rfl, hc7, hh7, hb2⟩
  clear x0 x1 xf0 xf1
  have HD2 := Lib.hid (HD.out.on hb2)
  have hz2 : w.heap.size < w2.heap.size := HD2.out.lt
  have HB2 := Lib.hid (HB1.out.trans (hb2.mono (by simp [World.setCell]; omega)))
  have HH7 := Lib.hid (hh7.alloc (.cells #[.string s, .int .i64 (p : Nat)] 23) (Nat.le_refl _))
  clear hb2 hh7
  obtain ⟨x0, x1, xf0, xf1⟩ := HD2.out
  go_wp2_with fail
  refine (HPP.out _ 0 w.heap.size (HX0.out.on (HB2.out.alloc (by omega) _) (Nat.le_refl _)) (by simp; omega)).mono ?_
  rintro e w3 ⟨A8, c8, rfl, hc8, hh8, hb3⟩
  clear x0 x1 xf0 xf1
  have hz3 : w2.heap.size < w3.heap.size := by have := hb3.size; simp at this; omega
  have hz3' : w.heap.size < w3.heap.size := by omega
  have HST : Hid (St w (w3.alloc (.cells #[.string s, .int .i64 (p : Nat)] 23)) s a w2.heap.size w3.heap.size (p : Nat) (p : Nat)) := Lib.hid
    ⟨((HD2.out.alloc _).on hb3).alloc _, ((Box.new w2 s _ 23).on hb3).alloc _, Box.new w3 s _ _, (((HB2.out.alloc (by omega) _).trans (hb3.mono (by simp; omega))).alloc (by omega) _), hz2, hz3⟩
  have HH7' := Lib.hid ((HH7.out.on hb3 (by simp)).alloc (.cells #[.string s, .int .i64 (p : Nat)] 23) (by omega))
  have HH8 := Lib.hid (hh8.alloc (.cells #[.string s, .int .i64 (p : Nat)] 23) (Nat.le_refl _))
  clear hb3 hh8 HH7
  go_upto_region 4 with (fail)
  generalize w3.alloc (.cells #[.string s, .int .i64 (p : Nat)] 23) = w4 at *
  obtain ⟨⟨x0, x1, xf0, xf1⟩, ⟨y0, y1, yf0, yf1⟩, ⟨z0, z1, zf0, zf1⟩, _, _, _⟩ := HST.out
  have HSame := Lib.hid (same_yes A8 A7 c8 c7 _ _ _ _ zs w4 (by omega) HH8.out (by rw [HZS.out]; exact HH7'.out.take _))
  have j0 : (0 : Int) ≤ (zs.length : Int) := by omega
  have j1 : (zs.length : Int) ≤ (c7 : Int) := by omega
  have j2 : zs.length ≤ c7 := by omega
  go_wp2_with fail
  refine HSame.out.mono ?_
  rintro e w5 ⟨rfl, hb5⟩
  have HS5 := Lib.hid (HST.out.on hb5)
  clear hb5 x0 x1 xf0 xf1 y0 y1 yf0 yf1 z0 z1 zf0 zf1 HSame HH7' HH8
  obtain ⟨⟨x0, x1, xf0, xf1⟩, ⟨y0, y1, yf0, yf1⟩, ⟨z0, z1, zf0, zf1⟩, _, _, _⟩ := HS5.out
  go_wp2_with fail
  refine (HB.out _).mono ?_
  rintro e w6 ⟨rfl, hb6⟩
  have HS6 := Lib.hid (HS5.out.on hb6)
  clear hb6 x0 x1 xf0 xf1 y0 y1 yf0 yf1 z0 z1 zf0 zf1
  obtain ⟨⟨x0, x1, xf0, xf1⟩, ⟨y0, y1, yf0, yf1⟩, ⟨z0, z1, zf0, zf1⟩, _, _, _⟩ := HS6.out
  have l6 : w2.heap.size < w6.heap.size := HS6.out.x.lt
  have l6' : w.heap.size < w6.heap.size := HS6.out.d.lt
  go_wp2_with fail
  refine (HB2'.out _).mono ?_
  rintro e w7 ⟨rfl, hb7⟩
  have HZ7 := Lib.hid ((Box.new w6 s (p : Nat) 23).on hb7)
  have HS7 := Lib.hid ((HS6.out.on (((Below.refl _ _).alloc (Nat.le_refl _) (.cells #[.string s, .int .i64 (p : Nat)] 23)).trans (hb7.mono (by simp)))))
  have l7 : w6.heap.size < w7.heap.size := HZ7.out.lt
  have l7' : w2.heap.size < w7.heap.size := by omega
  have l7'' : w.heap.size < w7.heap.size := by omega
  clear hb7 x0 x1 xf0 xf1 y0 y1 yf0 yf1 z0 z1 zf0 zf1
  obtain ⟨⟨x0, x1, xf0, xf1⟩, ⟨y0, y1, yf0, yf1⟩, ⟨z0, z1, zf0, zf1⟩, _, _, _⟩ := HS7.out
  obtain ⟨u0, u1, uf0, uf1⟩ := HZ7.out
  go_wp2_with fail
  refine (awake_any _).mono ?_
  rintro e w8 ⟨rfl, hb8⟩
  go_wp2_with fail
  go_ret
  exact ⟨rfl, (HS7.out.b.alloc HS7.out.b.size _).trans (hb8.mono (by have := HS7.out.b.size; simp; omega))⟩

set_option maxRecDepth 100000 in
set_option maxHeartbeats 4000000 in
theorem ok_in (s0 s : ByteArray) (a p m z : Nat) (A : Option Addr) (c : Nat) (xs0 xs ys zs : List Int) (k : Int) (w : World) (hs : s.size ≤ 400) (hyl : ys.length ≤ 256) (hzl : zs.length ≤ ys.length) (hzs : zs = ys.take zs.length) (h2 : 2 ≤ xs.length) (hpe : p < s.size)
    (hX : Has w 0 w.heap.size A xs)
    (HF : Hid (∀ W : World, Calls Try.prog 9 #[.agg #[.string s0, .int .i64 a]] W fun e w' => e = .returned (.agg #[.string s, .int .i64 a]) ∧ Below W.heap.size W w'))
    (HCut : Hid (∀ W : World, Calls Try.prog 10 #[.slice A xs0.length c] W fun e w' => e = .returned (.slice A xs.length c) ∧ W = w'))
    (HSP : Hid (∀ (W : World) (lo hi : Nat), Has W lo hi A xs → hi ≤ W.heap.size → Calls Try.prog 15 #[.agg #[.string s, .int .i64 a], .slice A xs.length c] W (Answers W s ys (p : Nat) 0)))
    (HPP : Hid (∀ (W : World) (lo hi : Nat), Has W lo hi A xs → hi ≤ W.heap.size → Calls Try.prog 18 #[.agg #[.string s, .int .i64 a], .slice A xs.length c, .int .i64 k] W (Answers W s zs (p : Nat) 0)))
    (HB : Hid (∀ W : World, Calls Try.prog 11 #[.agg #[.string s, .int .i64 (p : Nat)], .int .i64 256] W fun e w' => e = .returned (.tuple #[.int .i64 (m : Nat), .agg #[.string s, .int .i64 (z : Nat)], .int .i64 0]) ∧ Below W.heap.size W w'))
    (HBB : Hid (∃ z2 : Nat, ∀ W : World, Calls Try.prog 11 #[.agg #[.string (s ++ s), .int .i64 (p : Nat)], .int .i64 256] W fun e w' => e = .returned (.tuple #[.int .i64 (m : Nat), .agg #[.string (s ++ s), .int .i64 z2], .int .i64 0]) ∧ Below W.heap.size W w')) :
    Calls Try.prog 8 #[.agg #[.string s0, .int .i64 a], .slice A xs0.length c, .int .i64 k] w fun e w' => e = .returned (.bool true) ∧ Below w.heap.size w w' := by
  have hqs : (s.toList == s.toList) = true := by simp
  have hqn : (s.toList != s.toList) = false := by simp
  have HX0 := Lib.hid hX
  have HZS := Lib.hid hzs
  have g1 : (((p : Nat) : Int) == (s.size : Int)) = false := by rw [beq_eq_false_iff_ne]; omega
  have g2 : decide (p < s.size) = true := by simp; omega
  have g3 : decide ((xs.length : Int) < 2) = false := by simp; omega
  have b1 : decide ((ys.length : Int) < (zs.length : Int)) = false := by simp; omega
  have b2 : decide (ys.length < zs.length) = false := by simp; omega
  obtain ⟨z2, hbb⟩ := HBB.out
  have HB2' := Lib.hid hbb
  clear hX hzs HBB hbb
  go_enter Try.func8, Try.ntmps8
  go_wp2_with fail
  refine (HF.out _).mono ?_
  rintro e w1 ⟨rfl, hb1⟩
  go_wp2_with fail
  refine (HCut.out _).mono ?_
  rintro e w' ⟨rfl, rfl⟩
  have HD := Lib.hid (((Box.new w s0 a 23).on hb1).put s a)
  obtain ⟨x0, x1, xf0, xf1⟩ := (Box.new w s0 a 23).on hb1
  have hz1 : w.heap.size < w1.heap.size := by have := hb1.size; simp at this; omega
  have HB1 : Hid (Below w.heap.size w ((w1.setCell ⟨w.heap.size, 0, none⟩ (.string s)).setCell ⟨w.heap.size, 1, none⟩ (.int .i64 a))) :=
    Lib.hid (((((Below.refl _ _).alloc (Nat.le_refl _) _).trans (hb1.mono (by simp))).setCell (by simp) _).setCell (by simp) _)
  clear hb1
  go_wp2_with fail
  refine (HSP.out _ 0 w.heap.size (HX0.out.on HB1.out (Nat.le_refl _)) HB1.out.size).mono ?_
  rintro e w2 ⟨A7, c7, rfl, hc7, hh7, hb2⟩
  clear x0 x1 xf0 xf1
  have HD2 := Lib.hid (HD.out.on hb2)
  have hz2 : w.heap.size < w2.heap.size := HD2.out.lt
  have HB2 := Lib.hid (HB1.out.trans (hb2.mono (by simp [World.setCell]; omega)))
  have HH7 := Lib.hid (hh7.alloc (.cells #[.string s, .int .i64 (p : Nat)] 23) (Nat.le_refl _))
  clear hb2 hh7
  obtain ⟨x0, x1, xf0, xf1⟩ := HD2.out
  go_wp2_with fail
  refine (HPP.out _ 0 w.heap.size (HX0.out.on (HB2.out.alloc (by omega) _) (Nat.le_refl _)) (by simp; omega)).mono ?_
  rintro e w3 ⟨A8, c8, rfl, hc8, hh8, hb3⟩
  clear x0 x1 xf0 xf1
  have hz3 : w2.heap.size < w3.heap.size := by have := hb3.size; simp at this; omega
  have hz3' : w.heap.size < w3.heap.size := by omega
  have HST : Hid (St w (w3.alloc (.cells #[.string s, .int .i64 (p : Nat)] 23)) s a w2.heap.size w3.heap.size (p : Nat) (p : Nat)) := Lib.hid
    ⟨((HD2.out.alloc _).on hb3).alloc _, ((Box.new w2 s _ 23).on hb3).alloc _, Box.new w3 s _ _, (((HB2.out.alloc (by omega) _).trans (hb3.mono (by simp; omega))).alloc (by omega) _), hz2, hz3⟩
  have HH7' := Lib.hid ((HH7.out.on hb3 (by simp)).alloc (.cells #[.string s, .int .i64 (p : Nat)] 23) (by omega))
  have HH8 := Lib.hid (hh8.alloc (.cells #[.string s, .int .i64 (p : Nat)] 23) (Nat.le_refl _))
  clear hb3 hh8 HH7
  go_upto_region 4 with (fail)
  generalize w3.alloc (.cells #[.string s, .int .i64 (p : Nat)] 23) = w4 at *
  obtain ⟨⟨x0, x1, xf0, xf1⟩, ⟨y0, y1, yf0, yf1⟩, ⟨z0, z1, zf0, zf1⟩, _, _, _⟩ := HST.out
  have HSame := Lib.hid (same_yes A8 A7 c8 c7 _ _ _ _ zs w4 (by omega) HH8.out (by rw [HZS.out]; exact HH7'.out.take _))
  have j0 : (0 : Int) ≤ (zs.length : Int) := by omega
  have j1 : (zs.length : Int) ≤ (c7 : Int) := by omega
  have j2 : zs.length ≤ c7 := by omega
  go_wp2_with fail
  refine HSame.out.mono ?_
  rintro e w5 ⟨rfl, hb5⟩
  have HS5 := Lib.hid (HST.out.on hb5)
  clear hb5 x0 x1 xf0 xf1 y0 y1 yf0 yf1 z0 z1 zf0 zf1 HSame HH7' HH8
  obtain ⟨⟨x0, x1, xf0, xf1⟩, ⟨y0, y1, yf0, yf1⟩, ⟨z0, z1, zf0, zf1⟩, _, _, _⟩ := HS5.out
  go_wp2_with fail
  refine (HB.out _).mono ?_
  rintro e w6 ⟨rfl, hb6⟩
  have HS6 := Lib.hid (HS5.out.on hb6)
  clear hb6 x0 x1 xf0 xf1 y0 y1 yf0 yf1 z0 z1 zf0 zf1
  obtain ⟨⟨x0, x1, xf0, xf1⟩, ⟨y0, y1, yf0, yf1⟩, ⟨z0, z1, zf0, zf1⟩, _, _, _⟩ := HS6.out
  have l6 : w2.heap.size < w6.heap.size := HS6.out.x.lt
  have l6' : w.heap.size < w6.heap.size := HS6.out.d.lt
  go_wp2_with fail
  refine (HB2'.out _).mono ?_
  rintro e w7 ⟨rfl, hb7⟩
  have HZ7 := Lib.hid ((Box.new w6 s (z : Nat) 23).on hb7)
  have HS7 := Lib.hid ((HS6.out.on (((Below.refl _ _).alloc (Nat.le_refl _) (.cells #[.string s, .int .i64 (z : Nat)] 23)).trans (hb7.mono (by simp)))))
  have l7 : w6.heap.size < w7.heap.size := HZ7.out.lt
  have l7' : w2.heap.size < w7.heap.size := by omega
  have l7'' : w.heap.size < w7.heap.size := by omega
  clear hb7 x0 x1 xf0 xf1 y0 y1 yf0 yf1 z0 z1 zf0 zf1
  obtain ⟨⟨x0, x1, xf0, xf1⟩, ⟨y0, y1, yf0, yf1⟩, ⟨z0, z1, zf0, zf1⟩, _, _, _⟩ := HS7.out
  obtain ⟨u0, u1, uf0, uf1⟩ := HZ7.out
  go_wp2_with fail
  refine (awake_any _).mono ?_
  rintro e w8 ⟨rfl, hb8⟩
  go_wp2_with fail
  go_ret
  exact ⟨rfl, (HS7.out.b.alloc HS7.out.b.size _).trans (hb8.mono (by have := HS7.out.b.size; simp; omega))⟩

theorem twice (s : ByteArray) : (s ++ s).data.toList = s.data.toList ++ s.data.toList := by simp [ByteArray.data_append]

theorem run_walk (s0 : ByteArray) (a : Int) (A : Option Addr) (c : Nat) (xs0 : List Int) (k : Int) (w : World) (hs0 : s0.size ≤ maxLen) (hxc : xs0.length ≤ c) (hcm : c ≤ maxLen) (hx0 : Has w 0 w.heap.size A xs0) (hk : -9223372036854775808 ≤ k ∧ k ≤ 9223372036854775807) :
    Calls Try.prog 8 #[.agg #[.string s0, .int .i64 a], .slice A xs0.length c, .int .i64 k] w fun e w' => e = .returned (.bool true) ∧ Below w.heap.size w w' := by
  have HF := Lib.hid (fun W => few_any s0 a W hs0)
  have HCut := Lib.hid (cut_any A c _ _ xs0 w hxc hcm hx0)
  have HX0 : Has w 0 w.heap.size A (cutL xs0) := hx0.take 257
  have hft := fewB_size s0
  generalize fewB s0 = s at *
  generalize cutL xs0 = xs at *
  by_cases hbad : a < 0 ∨ (s.size : Int) < a
  · have hS := fun W => shuffle_bad s a (.slice A xs.length c) W hbad
    refine walk_err s0 s a a 1 A c xs0 xs [] k w (.inr rfl) HX0 HF HCut (Lib.hid fun W _ _ _ _ => (hS W).mono fun _ _ h => .none_ h) (Lib.hid fun W => ?_)
    by_cases hk0 : k < 0
    · exact pick_neg s a k _ W hk0
    · exact pick_no s a k A _ c W (by omega) hS
  · obtain ⟨a, rfl⟩ : ∃ b : Nat, a = b := ⟨a.toNat, by omega⟩
    by_cases hn : 256 < xs.length
    · have hS := fun W => shuffle_full s a A xs.length c W (by omega) hn
      refine walk_err s0 s a a 1 A c xs0 xs [] k w (.inr rfl) HX0 HF HCut (Lib.hid fun W _ _ _ _ => (hS W).mono fun _ _ h => .none_ h) (Lib.hid fun W => ?_)
      by_cases hk0 : k < 0
      · exact pick_neg s a k _ W hk0
      · exact pick_no s a k A _ c W (by omega) hS
    · have hl := shufAll_len s.data.toList a xs
      have hat := shufAll_at s.data.toList a xs (by simp; omega)
      have hps : (shufAll s.data.toList a xs).2 ≤ s.size := by rw [hat]; simp; omega
      have HSP : Hid (∀ (W : World) (lo hi : Nat), Has W lo hi A xs → hi ≤ W.heap.size → Calls Try.prog 15 #[.agg #[.string s, .int .i64 a], .slice A xs.length c] W (Answers W s (shufAll s.data.toList a xs).1 ((shufAll s.data.toList a xs).2 : Nat) 0)) :=
        Lib.hid fun W lo hi h hh => (shuffle_yes s a c lo hi A xs W (by omega) (by omega) (by omega) h hh).mono fun _ _ h => by
          obtain ⟨A', c', he, hc, hp⟩ := h
          exact ⟨A', c', by rw [hl]; exact he, by omega, hp⟩
      by_cases hk0 : k < 0
      · exact walk_err s0 s a _ 0 A c xs0 xs _ k w (.inl rfl) HX0 HF HCut HSP (Lib.hid fun W => pick_neg s a k _ W hk0)
      · obtain ⟨k, rfl⟩ : ∃ b : Nat, k = b := ⟨k.toNat, by omega⟩
        have HPP : Hid (∀ (W : World) (lo hi : Nat), Has W lo hi A xs → hi ≤ W.heap.size → Calls Try.prog 18 #[.agg #[.string s, .int .i64 a], .slice A xs.length c, .int .i64 (k : Int)] W (Answers W s ((shufAll s.data.toList a xs).1.take k) ((shufAll s.data.toList a xs).2 : Nat) 0)) :=
          Lib.hid fun (W : World) (lo hi : Nat) (h : Has W lo hi A xs) (hh : hi ≤ W.heap.size) => pick_yes s a c lo hi k A xs W (by omega) (by omega) (by omega) (by omega) h hh
        have hzl : ((shufAll s.data.toList a xs).1.take k).length ≤ (shufAll s.data.toList a xs).1.length := by rw [List.length_take]; omega
        have hzs : (shufAll s.data.toList a xs).1.take k = (shufAll s.data.toList a xs).1.take ((shufAll s.data.toList a xs).1.take k).length := by
          rw [List.length_take]
          rcases Nat.le_total k (shufAll s.data.toList a xs).1.length with h | h
          · rw [Nat.min_eq_left h]
          · rw [Nat.min_eq_right h, List.take_of_length_le h, List.take_of_length_le (Nat.le_refl _)]
        have hfew : xs.length < 2 → (shufAll s.data.toList a xs).2 = a := fun h => by rw [shufAll_few _ _ _ h]
        generalize (shufAll s.data.toList a xs).1 = ys at *
        generalize (shufAll s.data.toList a xs).2 = p at *
        have HB := fun W => below_yes s p 256 W (by omega) hps (by decide) (by decide)
        have HBB : Hid (∃ z2 : Nat, ∀ W : World, Calls Try.prog 11 #[.agg #[.string (s ++ s), .int .i64 (p : Nat)], .int .i64 256] W fun e w' => e = .returned (.tuple #[.int .i64 (drawn (s ++ s).data.toList p 256 : Nat), .agg #[.string (s ++ s), .int .i64 z2], .int .i64 0]) ∧ Below W.heap.size W w') :=
          Lib.hid ⟨_, fun W => below_yes (s ++ s) p 256 W (by rw [ByteArray.size_append]; omega) (by rw [ByteArray.size_append]; omega) (by decide) (by decide)⟩
        by_cases hpe : p = s.size
        · rw [drawn_end _ _ _ (by simp; omega), show next s.data.toList p = p by unfold next; rw [if_neg (by simp; omega)]] at HB
          by_cases h2 : xs.length < 2
          · obtain rfl := hfew h2
            exact ok_few_end s0 s p _ A c xs0 xs ys _ k w hft (by omega) hzl hzs h2 hpe HX0 HF HCut HSP HPP (Lib.hid HB) HBB
          · exact ok_end s0 s a p _ A c xs0 xs ys _ k w hft (by omega) hzl hzs (by omega) hpe HX0 HF HCut HSP HPP (Lib.hid HB) HBB
        · have hd : drawn s.data.toList p 256 = drawn (s ++ s).data.toList p 256 := by
            rw [twice]
            unfold drawn
            simp only [List.getD]
            rw [List.getElem?_append_left (by simp; omega)]
          rw [hd] at HB
          by_cases h2 : xs.length < 2
          · obtain rfl := hfew h2
            exact ok_few s0 s p _ _ A c xs0 xs ys _ k w hft (by omega) hzl hzs h2 (by omega) HX0 HF HCut HSP HPP (Lib.hid HB) HBB
          · exact ok_in s0 s a p _ _ A c xs0 xs ys _ k w hft (by omega) hzl hzs (by omega) (by omega) HX0 HF HCut HSP HPP (Lib.hid HB) HBB
/-! ### the statement -/
theorem parOk : ∀ t ∈ (#[23, 24, 3] : Array TypeId).toList, Try.prog.readableRec t = true ∧ t < Try.prog.types.size := by
  have hall : ([23, 24, 3].all fun t => Try.prog.readableRec t && decide (t < Try.prog.types.size)) = true := by kernel_rfl
  intro t ht
  simpa using List.all_eq_true.1 hall t ht

/-- What the walk gives, for every argument. -/
theorem contract (H : Type) (enc : TypeId × Value → H) (W : World) (base : Nat) (args : Array Value) (ds gs : List (DataW H)) (before : List MemPlace)
    (hval : ∀ (j : Nat) t v, Try.f8.params[j]? = some t → args[j]? = some v → Value.okWide Try.prog W .any base t v)
    (hW : DataW.Whole enc Try.prog Try.f8.params.toList Rows.dicePartsSpec.vars false W args.toList ds gs before) :
    Calls Try.prog 8 args W fun e W' => ∃ v, e = .returned v ∧ Rows.dicePartsSpec.post enc Try.prog Try.f8 false true false false W args v W' := by
  have hW' := hW
  obtain ⟨p, q, hA0, hV, rfl, hfz, hnd⟩ := hW
  have hA : DataW.TrodAll enc Try.prog W 0 (fun _ => true) true Try.f8.params.toList args.toList ds p := hA0
  rw [Try.params8] at hA hval
  obtain ⟨v0, vs0, d0, ds0, p0, q0, hargs, rfl, rfl, h0, r0⟩ := trodAll_cons hA
  obtain ⟨v1, vs1, d1, ds1, p1, q1, rfl, rfl, rfl, h1, r1⟩ := trodAll_cons r0
  obtain ⟨v2, vs2, d2, ds2, p2, q2, rfl, rfl, rfl, h2, r2⟩ := trodAll_cons r1
  obtain ⟨rfl, rfl, rfl⟩ := trodAll_nil r2
  obtain rfl : args = #[v0, v1, v2] := by cases args; simp_all
  obtain ⟨rfl, rfl⟩ := trodVars_none hV
  obtain ⟨s, a, rfl, hs, ha0, ha1⟩ := open_dice (hval 0 23 v0 rfl rfl) h0
  obtain ⟨A, c, xs, rfl, hxc, hcm, hx⟩ := open_nums (hval 1 24 v1 rfl rfl) h1
  obtain ⟨k, rfl, rfl, rfl, wk⟩ := open_int Try.underlying3 (hval 2 3 v2 rfl rfl) h2
  clear hA0
  refine (run_walk s a A c xs k W hs hxc hcm hx (by simpa [Lit.wf, IntKind.min, IntKind.max, IntKind.signed, IntKind.bits] using wk)).mono fun e W' ⟨he, hb⟩ => ?_
  subst he
  exact ⟨_, rfl, law_post rfl (by rw [Try.params8]; exact parOk) rfl hW' rfl rfl rfl hb⟩

set_option maxRecDepth 100000 in
theorem lifted (os : Os) (started : os.Started) (H : Type) (enc : TypeId × Value → H) :
    ReturnsInHanded {} Try.checked os 8 .any (Rows.dicePartsSpec.pre6 enc Try.prog Try.f8 Rows.dicePartsRow.domain false) (Rows.dicePartsSpec.post enc Try.prog Try.f8 false true false false) := by
  refine returnsInHanded_of_change (C := Try.checked) own started (by kernel_rfl) Try.func8
    (ChangeSpec.witness6 (enc := enc) (C := Try.checked) false ⟨#[], #[.agg #[.string ⟨#[]⟩, .int .i64 0], .slice none 0 0, .int .i64 0], []⟩ 8 (by kernel_rfl) (by kernel_rfl) (by kernel_rfl) (by kernel_rfl)) ?_
  intro W base args ds gs before hval hW _ _
  exact contract H enc W base args ds gs before hval hW

/-- THE STATEMENT. -/
theorem said : Rows.DicePartsSaid :=
  OpenClaim.holds_of_wide 8 Try.f8 rfl rfl rfl rfl rfl rfl rfl ⟨rfl, rfl, rfl, rfl, rfl⟩ rfl rfl rfl rfl rfl (by kernel_rfl) Try.func8 (by kernel_rfl)
    (of_decide_eq_true (by kernel_rfl)) (by unfold Func.isWrapper; first | (rw [if_pos (by decide +kernel)]; kernel_rfl) | (rw [if_neg (by decide +kernel)]; exact ⟨rfl, rfl⟩))
    (fun os started H enc _ => lifted os started H enc)
end Go.Proofs.Ytincniaekhiceaa.lawParts
