/-
  DiceKeeps: what is shuffled is the same numbers, each as often; what is picked are some of them, no more: the law returns true for every input.
-/
import Derived.Test.YtincniaekhiceaaBoth
import Derived.StillTactics
import Derived.BigQuiet
import Derived.Deep.QuietTactic
namespace Go.Proofs.Ytincniaekhiceaa.lawKeeps
open Go.ChangeShapes Go.WideShapes Go.ChangeAt Go.RowKit Go.Proofs.Ytincniaekhiceaa.Pure

theorem Has.heap {w w' : World} {lo hi : Nat} {A : Option Addr} {xs : List Int} (h : Has w lo hi A xs) (e : w'.heap = w.heap) : Has w' lo hi A xs := h.keep fun p _ _ => by simp [World.cell?, e]

set_option maxRecDepth 100000 in
set_option maxHeartbeats 4000000 in
/-- Where the dice, or the numbers, may not be. -/
theorem walk_err (s0 s : ByteArray) (a : Int) (A : Option Addr) (c : Nat) (xs0 xs : List Int) (k : Int) (w : World)
    (HF : Hid (∀ W : World, Calls Try.prog 9 #[.agg #[.string s0, .int .i64 a]] W fun e w' => e = .returned (.agg #[.string s, .int .i64 a]) ∧ Below W.heap.size W w'))
    (HCut : Hid (∀ W : World, Calls Try.prog 10 #[.slice A xs0.length c] W fun e w' => e = .returned (.slice A xs.length c) ∧ W = w'))
    (HSP : Hid (∀ W : World, Calls Try.prog 15 #[.agg #[.string s, .int .i64 a], .slice A xs.length c] W fun e w' => e = .returned (.tuple #[.slice none 0 0, .agg #[.string s, .int .i64 a], .int .i64 1]) ∧ Below W.heap.size W w'))
    (HPP : Hid (∀ W : World, Calls Try.prog 18 #[.agg #[.string s, .int .i64 a], .slice A xs.length c, .int .i64 k] W fun e w' => e = .returned (.tuple #[.slice none 0 0, .agg #[.string s, .int .i64 a], .int .i64 1]) ∧ Below W.heap.size W w')) :
    Calls Try.prog 4 #[.agg #[.string s0, .int .i64 a], .slice A xs0.length c, .int .i64 k] w fun e w' => e = .returned (.bool true) ∧ Below w.heap.size w w' := by
  have hqs : (s.toList == s.toList) = true := by simp
  go_enter Try.func4, Try.ntmps4
  go_wp2_with fail
  refine (HF.out _).mono ?_
  rintro e w1 ⟨rfl, hb1⟩
  go_wp2_with fail
  refine (HCut.out _).mono ?_
  rintro e w' ⟨rfl, rfl⟩
  have HD := Lib.hid (((Box.new w s0 a 23).on hb1).put s a)
  obtain ⟨x0, x1, xf0, xf1⟩ := (Box.new w s0 a 23).on hb1
  have hz1 : w.heap.size < w1.heap.size := by have := hb1.size; simp at this; omega
  have HB1 : Hid (Below w.heap.size w ((w1.setCell ⟨w.heap.size, 0, none⟩ (.string s)).setCell ⟨w.heap.size, 1, none⟩ (.int .i64 a))) :=
    Lib.hid (((((Below.refl _ _).alloc (Nat.le_refl _) _).trans (hb1.mono (by simp))).setCell (by simp) _).setCell (by simp) _)
  clear hb1
  go_wp2_with fail
  refine (HSP.out _).mono ?_
  rintro e w2 ⟨rfl, hb2⟩
  clear x0 x1 xf0 xf1
  have HD2 := Lib.hid (HD.out.on hb2)
  have hz2 : w.heap.size < w2.heap.size := HD2.out.lt
  have HB2 := Lib.hid (HB1.out.trans (hb2.mono (by simp [World.setCell]; omega)))
  clear hb2
  obtain ⟨x0, x1, xf0, xf1⟩ := HD2.out
  go_wp2_with fail
  refine (HPP.out _).mono ?_
  rintro e w3 ⟨rfl, hb3⟩
  clear x0 x1 xf0 xf1
  have hz3 : w2.heap.size < w3.heap.size := by have := hb3.size; simp at this; omega
  have hz3' : w.heap.size < w3.heap.size := by omega
  have HST : Hid (St w (w3.alloc (.cells #[.string s, .int .i64 a] 23)) s a w2.heap.size w3.heap.size a a) := Lib.hid
    ⟨((HD2.out.alloc _).on hb3).alloc _, ((Box.new w2 s a 23).on hb3).alloc _, Box.new w3 s a _, (((HB2.out.alloc (by omega) _).trans (hb3.mono (by simp; omega))).alloc (by omega) _), hz2, hz3⟩
  clear hb3
  go_upto_region 4 with (fail)
  generalize w3.alloc (.cells #[.string s, .int .i64 a] 23) = w4 at *
  obtain ⟨⟨x0, x1, xf0, xf1⟩, ⟨y0, y1, yf0, yf1⟩, ⟨z0, z1, zf0, zf1⟩, _, _, _⟩ := HST.out
  go_wp2_with fail
  refine (awake_any _).mono ?_
  rintro e w5 ⟨rfl, hb5⟩
  go_wp2_with fail
  go_ret
  exact ⟨rfl, HST.out.b.trans (hb5.mono HST.out.b.size)⟩

set_option maxRecDepth 100000 in
set_option maxHeartbeats 4000000 in
theorem walk_ok_in (s0 s : ByteArray) (a p : Nat) (q : Int) (A : Option Addr) (c : Nat) (xs0 xs ys zs : List Int) (k : Int) (w : World) (hxl : xs.length ≤ 256) (hyl : ys.length = xs.length) (hzl : zs.length ≤ 256) (hap : a ≤ p) (hk0 : 0 ≤ k) (hkn : k ≤ (xs.length : Int)) (hkl : (zs.length : Int) = k)
    (hX : Has w 0 w.heap.size A xs) (hm1 : ∀ y, many ys y = many xs y) (hm2 : ∀ y, many zs y ≤ many xs y)
    (HF : Hid (∀ W : World, Calls Try.prog 9 #[.agg #[.string s0, .int .i64 a]] W fun e w' => e = .returned (.agg #[.string s, .int .i64 a]) ∧ Below W.heap.size W w'))
    (HCut : Hid (∀ W : World, Calls Try.prog 10 #[.slice A xs0.length c] W fun e w' => e = .returned (.slice A xs.length c) ∧ W = w'))
    (HSP : Hid (∀ (W : World) (lo hi : Nat), Has W lo hi A xs → hi ≤ W.heap.size → Calls Try.prog 15 #[.agg #[.string s, .int .i64 a], .slice A xs.length c] W (Answers W s ys p 0)))
    (HPP : Hid (∀ (W : World) (lo hi : Nat), Has W lo hi A xs → hi ≤ W.heap.size → Calls Try.prog 18 #[.agg #[.string s, .int .i64 a], .slice A xs.length c, .int .i64 k] W (Answers W s zs q 0))) :
    Calls Try.prog 4 #[.agg #[.string s0, .int .i64 a], .slice A xs0.length c, .int .i64 k] w fun e w' => e = .returned (.bool true) ∧ Below w.heap.size w w' := by
  have hqs : (s.toList == s.toList) = true := by simp
  have hqn : (s.toList != s.toList) = false := by simp
  have HX0 := Lib.hid hX
  have HM1 := Lib.hid hm1
  have HM2 := Lib.hid hm2
  have b1 : ((ys.length : Int) != (xs.length : Int)) = false := by rw [hyl]; simp
  have hyl' : ys.length ≤ 256 := by omega
  have dap : decide (p < a) = false := by simp; omega
  have dk : decide (0 ≤ k) = true := by simp; omega
  have dkn : decide ((xs.length : Int) < k) = false := by simp; omega
  have b2 : ((zs.length : Int) != k) = false := by rw [hkl]; simp
  clear hkl
  clear hX hm1 hm2 hyl
  go_enter Try.func4, Try.ntmps4
  go_wp2_with fail
  refine (HF.out _).mono ?_
  rintro e w1 ⟨rfl, hb1⟩
  go_wp2_with fail
  refine (HCut.out _).mono ?_
  rintro e w' ⟨rfl, rfl⟩
  have HD := Lib.hid (((Box.new w s0 a 23).on hb1).put s a)
  obtain ⟨x0, x1, xf0, xf1⟩ := (Box.new w s0 a 23).on hb1
  have hz1 : w.heap.size < w1.heap.size := by have := hb1.size; simp at this; omega
  have HB1 : Hid (Below w.heap.size w ((w1.setCell ⟨w.heap.size, 0, none⟩ (.string s)).setCell ⟨w.heap.size, 1, none⟩ (.int .i64 a))) :=
    Lib.hid (((((Below.refl _ _).alloc (Nat.le_refl _) _).trans (hb1.mono (by simp))).setCell (by simp) _).setCell (by simp) _)
  clear hb1
  go_wp2_with fail
  refine (HSP.out _ 0 w.heap.size (HX0.out.on HB1.out (Nat.le_refl _)) HB1.out.size).mono ?_
  rintro e w2 ⟨A7, c7, rfl, hc7, hh7, hb2⟩
  clear x0 x1 xf0 xf1
  have HD2 := Lib.hid (HD.out.on hb2)
  have hz2 : w.heap.size < w2.heap.size := HD2.out.lt
  have HB2 := Lib.hid (HB1.out.trans (hb2.mono (by simp [World.setCell]; omega)))
  have HH7 := Lib.hid (hh7.alloc (.cells #[.string s, .int .i64 p] 23) (Nat.le_refl _))
  clear hb2 hh7
  obtain ⟨x0, x1, xf0, xf1⟩ := HD2.out
  go_wp2_with fail
  refine (HPP.out _ 0 w.heap.size (HX0.out.on (HB2.out.alloc (by omega) _) (Nat.le_refl _)) (by simp; omega)).mono ?_
  rintro e w3 ⟨A8, c8, rfl, hc8, hh8, hb3⟩
  clear x0 x1 xf0 xf1
  have hz3 : w2.heap.size < w3.heap.size := by have := hb3.size; simp at this; omega
  have hz3' : w.heap.size < w3.heap.size := by omega
  have HST : Hid (St w (w3.alloc (.cells #[.string s, .int .i64 q] 23)) s a w2.heap.size w3.heap.size p q) := Lib.hid
    ⟨((HD2.out.alloc _).on hb3).alloc _, ((Box.new w2 s p 23).on hb3).alloc _, Box.new w3 s q _, (((HB2.out.alloc (by omega) _).trans (hb3.mono (by simp; omega))).alloc (by omega) _), hz2, hz3⟩
  have HH7' := Lib.hid ((HH7.out.on hb3 (by simp)).alloc (.cells #[.string s, .int .i64 q] 23) (by omega))
  have HH8 := Lib.hid (hh8.alloc (.cells #[.string s, .int .i64 q] 23) (Nat.le_refl _))
  clear hb3 hh8 HH7
  go_upto_region 4 with (fail)
  generalize w3.alloc (.cells #[.string s, .int .i64 q] 23) = w4 at *
  obtain ⟨⟨x0, x1, xf0, xf1⟩, ⟨y0, y1, yf0, yf1⟩, ⟨z0, z1, zf0, zf1⟩, _, _, _⟩ := HST.out
  go_wp2_with fail
  go_loopw [13] (fun i wr => ∃ j : Nat, j ≤ xs.length ∧ i = .int .i64 j ∧ Hid (Below w4.heap.size w4 wr)) (fun i _ => xs.length - (intOf i).toNat)
  case atStart => exact ⟨0, Nat.zero_le _, rfl, Lib.hid (Below.refl _ _)⟩
  case round =>
    clear x0 x1 xf0 xf1 y0 y1 yf0 yf1 z0 z1 zf0 zf1 b1
    obtain ⟨j, hj, rfl, hb⟩ := hrel
    by_cases hlt : j < xs.length
    · have HA := Lib.hid (HX0.out.on (HST.out.b.trans (hb.out.mono HST.out.b.size)) (Nat.le_refl _))
      have hs4 := Lib.hid HST.out.y.lt
      have hs4' : w3.heap.size < w4.heap.size := HST.out.y.lt
      have H7 := Lib.hid (HH7'.out.on hb.out (by omega))
      have H8 := Lib.hid (HH8.out.on hb.out (by omega))
      obtain ⟨ad, rfl, _, _, hcell⟩ := HA.out j hlt
      have hmy := HM1.out (xs.getD j 0)
      have hmz := HM2.out (xs.getD j 0)
      have C1 := Lib.hid (fun (W : World) (e : W.heap = wr.heap) => many_any A7 c7 _ _ ys (xs.getD j 0) W (by omega) (Has.heap H7.out e))
      have C2 := Lib.hid (fun (W : World) (e : W.heap = wr.heap) => many_any (some ad) c _ _ xs (xs.getD j 0) W (by omega) (Has.heap HA.out e))
      have C3 := Lib.hid (fun (W : World) (e : W.heap = wr.heap) => many_any A8 c8 _ _ zs (xs.getD j 0) W (by omega) (Has.heap H8.out e))
      rw [hmy] at C1
      have i0 : (0 : Int) ≤ (j : Int) := by omega
      have i1 : (j : Int) < (xs.length : Int) := by omega
      generalize many xs (xs.getD j 0) = m1 at *
      generalize many zs (xs.getD j 0) = m2 at *
      generalize xs.getD j 0 = y at *
      have n1 : ((m1 : Int) != (m1 : Int)) = false := by simp
      have n2 : decide ((m1 : Int) < (m2 : Int)) = false := by simp; omega
      have n3 : decide (m1 < m2) = false := by simp; omega
      clear hmy
      go_wp2_with fail
      go_quiet ((go_at_call 21; first | (with_reducible exact quiet_eq C1.out) | (with_reducible exact quiet_eq C2.out) | (with_reducible exact quiet_eq C3.out)))
      go_wp2_with fail
      go_roundw
      case rel => exact ⟨j + 1, by omega, by go_num, Lib.hid (below_drewN hb.out _)⟩
      case measure => simp [intOf]; omega
    · have HBn := Lib.hid (HST.out.b.trans (hb.out.mono HST.out.b.size))
      go_wp2_with fail
      refine (awake_any _).mono ?_
      rintro e w5 ⟨rfl, hb5⟩
      go_wp2_with fail
      go_ret
      exact ⟨rfl, HBn.out.trans (hb5.mono HBn.out.size)⟩

set_option maxRecDepth 100000 in
set_option maxHeartbeats 4000000 in
theorem walk_ok_over (s0 s : ByteArray) (a p : Nat) (q : Int) (A : Option Addr) (c : Nat) (xs0 xs ys zs : List Int) (k : Int) (w : World) (hxl : xs.length ≤ 256) (hyl : ys.length = xs.length) (hzl : zs.length ≤ 256) (hap : a ≤ p) (hk0 : 0 ≤ k) (hkn : (xs.length : Int) < k) (hkl : zs.length = xs.length)
    (hX : Has w 0 w.heap.size A xs) (hm1 : ∀ y, many ys y = many xs y) (hm2 : ∀ y, many zs y ≤ many xs y)
    (HF : Hid (∀ W : World, Calls Try.prog 9 #[.agg #[.string s0, .int .i64 a]] W fun e w' => e = .returned (.agg #[.string s, .int .i64 a]) ∧ Below W.heap.size W w'))
    (HCut : Hid (∀ W : World, Calls Try.prog 10 #[.slice A xs0.length c] W fun e w' => e = .returned (.slice A xs.length c) ∧ W = w'))
    (HSP : Hid (∀ (W : World) (lo hi : Nat), Has W lo hi A xs → hi ≤ W.heap.size → Calls Try.prog 15 #[.agg #[.string s, .int .i64 a], .slice A xs.length c] W (Answers W s ys p 0)))
    (HPP : Hid (∀ (W : World) (lo hi : Nat), Has W lo hi A xs → hi ≤ W.heap.size → Calls Try.prog 18 #[.agg #[.string s, .int .i64 a], .slice A xs.length c, .int .i64 k] W (Answers W s zs q 0))) :
    Calls Try.prog 4 #[.agg #[.string s0, .int .i64 a], .slice A xs0.length c, .int .i64 k] w fun e w' => e = .returned (.bool true) ∧ Below w.heap.size w w' := by
  have hqs : (s.toList == s.toList) = true := by simp
  have hqn : (s.toList != s.toList) = false := by simp
  have HX0 := Lib.hid hX
  have HM1 := Lib.hid hm1
  have HM2 := Lib.hid hm2
  have b1 : ((ys.length : Int) != (xs.length : Int)) = false := by rw [hyl]; simp
  have hyl' : ys.length ≤ 256 := by omega
  have dap : decide (p < a) = false := by simp; omega
  have dk : decide (0 ≤ k) = true := by simp; omega
  have dkn : decide ((xs.length : Int) < k) = true := by simp; omega
  have b2 : ((zs.length : Int) != (xs.length : Int)) = false := by rw [hkl]; simp
  clear hkl
  clear hX hm1 hm2 hyl
  go_enter Try.func4, Try.ntmps4
  go_wp2_with fail
  refine (HF.out _).mono ?_
  rintro e w1 ⟨rfl, hb1⟩
  go_wp2_with fail
  refine (HCut.out _).mono ?_
  rintro e w' ⟨rfl, rfl⟩
  have HD := Lib.hid (((Box.new w s0 a 23).on hb1).put s a)
  obtain ⟨x0, x1, xf0, xf1⟩ := (Box.new w s0 a 23).on hb1
  have hz1 : w.heap.size < w1.heap.size := by have := hb1.size; simp at this; omega
  have HB1 : Hid (Below w.heap.size w ((w1.setCell ⟨w.heap.size, 0, none⟩ (.string s)).setCell ⟨w.heap.size, 1, none⟩ (.int .i64 a))) :=
    Lib.hid (((((Below.refl _ _).alloc (Nat.le_refl _) _).trans (hb1.mono (by simp))).setCell (by simp) _).setCell (by simp) _)
  clear hb1
  go_wp2_with fail
  refine (HSP.out _ 0 w.heap.size (HX0.out.on HB1.out (Nat.le_refl _)) HB1.out.size).mono ?_
  rintro e w2 ⟨A7, c7, rfl, hc7, hh7, hb2⟩
  clear x0 x1 xf0 xf1
  have HD2 := Lib.hid (HD.out.on hb2)
  have hz2 : w.heap.size < w2.heap.size := HD2.out.lt
  have HB2 := Lib.hid (HB1.out.trans (hb2.mono (by simp [World.setCell]; omega)))
  have HH7 := Lib.hid (hh7.alloc (.cells #[.string s, .int .i64 p] 23) (Nat.le_refl _))
  clear hb2 hh7
  obtain ⟨x0, x1, xf0, xf1⟩ := HD2.out
  go_wp2_with fail
  refine (HPP.out _ 0 w.heap.size (HX0.out.on (HB2.out.alloc (by omega) _) (Nat.le_refl _)) (by simp; omega)).mono ?_
  rintro e w3 ⟨A8, c8, rfl, hc8, hh8, hb3⟩
  clear x0 x1 xf0 xf1
  have hz3 : w2.heap.size < w3.heap.size := by have := hb3.size; simp at this; omega
  have hz3' : w.heap.size < w3.heap.size := by omega
  have HST : Hid (St w (w3.alloc (.cells #[.string s, .int .i64 q] 23)) s a w2.heap.size w3.heap.size p q) := Lib.hid
    ⟨((HD2.out.alloc _).on hb3).alloc _, ((Box.new w2 s p 23).on hb3).alloc _, Box.new w3 s q _, (((HB2.out.alloc (by omega) _).trans (hb3.mono (by simp; omega))).alloc (by omega) _), hz2, hz3⟩
  have HH7' := Lib.hid ((HH7.out.on hb3 (by simp)).alloc (.cells #[.string s, .int .i64 q] 23) (by omega))
  have HH8 := Lib.hid (hh8.alloc (.cells #[.string s, .int .i64 q] 23) (Nat.le_refl _))
  clear hb3 hh8 HH7
  go_upto_region 4 with (fail)
  generalize w3.alloc (.cells #[.string s, .int .i64 q] 23) = w4 at *
  obtain ⟨⟨x0, x1, xf0, xf1⟩, ⟨y0, y1, yf0, yf1⟩, ⟨z0, z1, zf0, zf1⟩, _, _, _⟩ := HST.out
  go_wp2_with fail
  go_loopw [13] (fun i wr => ∃ j : Nat, j ≤ xs.length ∧ i = .int .i64 j ∧ Hid (Below w4.heap.size w4 wr)) (fun i _ => xs.length - (intOf i).toNat)
  case atStart => exact ⟨0, Nat.zero_le _, rfl, Lib.hid (Below.refl _ _)⟩
  case round =>
    clear x0 x1 xf0 xf1 y0 y1 yf0 yf1 z0 z1 zf0 zf1 b1
    obtain ⟨j, hj, rfl, hb⟩ := hrel
    by_cases hlt : j < xs.length
    · have HA := Lib.hid (HX0.out.on (HST.out.b.trans (hb.out.mono HST.out.b.size)) (Nat.le_refl _))
      have hs4 := Lib.hid HST.out.y.lt
      have hs4' : w3.heap.size < w4.heap.size := HST.out.y.lt
      have H7 := Lib.hid (HH7'.out.on hb.out (by omega))
      have H8 := Lib.hid (HH8.out.on hb.out (by omega))
      obtain ⟨ad, rfl, _, _, hcell⟩ := HA.out j hlt
      have hmy := HM1.out (xs.getD j 0)
      have hmz := HM2.out (xs.getD j 0)
      have C1 := Lib.hid (fun (W : World) (e : W.heap = wr.heap) => many_any A7 c7 _ _ ys (xs.getD j 0) W (by omega) (Has.heap H7.out e))
      have C2 := Lib.hid (fun (W : World) (e : W.heap = wr.heap) => many_any (some ad) c _ _ xs (xs.getD j 0) W (by omega) (Has.heap HA.out e))
      have C3 := Lib.hid (fun (W : World) (e : W.heap = wr.heap) => many_any A8 c8 _ _ zs (xs.getD j 0) W (by omega) (Has.heap H8.out e))
      rw [hmy] at C1
      have i0 : (0 : Int) ≤ (j : Int) := by omega
      have i1 : (j : Int) < (xs.length : Int) := by omega
      generalize many xs (xs.getD j 0) = m1 at *
      generalize many zs (xs.getD j 0) = m2 at *
      generalize xs.getD j 0 = y at *
      have n1 : ((m1 : Int) != (m1 : Int)) = false := by simp
      have n2 : decide ((m1 : Int) < (m2 : Int)) = false := by simp; omega
      have n3 : decide (m1 < m2) = false := by simp; omega
      clear hmy
      go_wp2_with fail
      go_quiet ((go_at_call 21; first | (with_reducible exact quiet_eq C1.out) | (with_reducible exact quiet_eq C2.out) | (with_reducible exact quiet_eq C3.out)))
      go_wp2_with fail
      go_roundw
      case rel => exact ⟨j + 1, by omega, by go_num, Lib.hid (below_drewN hb.out _)⟩
      case measure => simp [intOf]; omega
    · have HBn := Lib.hid (HST.out.b.trans (hb.out.mono HST.out.b.size))
      go_wp2_with fail
      refine (awake_any _).mono ?_
      rintro e w5 ⟨rfl, hb5⟩
      go_wp2_with fail
      go_ret
      exact ⟨rfl, HBn.out.trans (hb5.mono HBn.out.size)⟩

set_option maxRecDepth 100000 in
set_option maxHeartbeats 4000000 in
theorem walk_ok_neg (s0 s : ByteArray) (a p : Nat) (q : Int) (A : Option Addr) (c : Nat) (xs0 xs ys zs : List Int) (k : Int) (w : World) (hxl : xs.length ≤ 256) (hyl : ys.length = xs.length) (hzl : zs.length ≤ 256) (hap : a ≤ p) (hk : k < 0)
    (hX : Has w 0 w.heap.size A xs) (hm1 : ∀ y, many ys y = many xs y) (hm2 : ∀ y, many zs y ≤ many xs y)
    (HF : Hid (∀ W : World, Calls Try.prog 9 #[.agg #[.string s0, .int .i64 a]] W fun e w' => e = .returned (.agg #[.string s, .int .i64 a]) ∧ Below W.heap.size W w'))
    (HCut : Hid (∀ W : World, Calls Try.prog 10 #[.slice A xs0.length c] W fun e w' => e = .returned (.slice A xs.length c) ∧ W = w'))
    (HSP : Hid (∀ (W : World) (lo hi : Nat), Has W lo hi A xs → hi ≤ W.heap.size → Calls Try.prog 15 #[.agg #[.string s, .int .i64 a], .slice A xs.length c] W (Answers W s ys p 0)))
    (HPP : Hid (∀ (W : World) (lo hi : Nat), Has W lo hi A xs → hi ≤ W.heap.size → Calls Try.prog 18 #[.agg #[.string s, .int .i64 a], .slice A xs.length c, .int .i64 k] W (Answers W s zs q 1))) :
    Calls Try.prog 4 #[.agg #[.string s0, .int .i64 a], .slice A xs0.length c, .int .i64 k] w fun e w' => e = .returned (.bool true) ∧ Below w.heap.size w w' := by
  have hqs : (s.toList == s.toList) = true := by simp
  have hqn : (s.toList != s.toList) = false := by simp
  have HX0 := Lib.hid hX
  have HM1 := Lib.hid hm1
  have HM2 := Lib.hid hm2
  have b1 : ((ys.length : Int) != (xs.length : Int)) = false := by rw [hyl]; simp
  have hyl' : ys.length ≤ 256 := by omega
  have dap : decide (p < a) = false := by simp; omega
  have dk : decide (0 ≤ k) = false := by simp; omega
  clear hX hm1 hm2 hyl
  go_enter Try.func4, Try.ntmps4
  go_wp2_with fail
  refine (HF.out _).mono ?_
  rintro e w1 ⟨rfl, hb1⟩
  go_wp2_with fail
  refine (HCut.out _).mono ?_
  rintro e w' ⟨rfl, rfl⟩
  have HD := Lib.hid (((Box.new w s0 a 23).on hb1).put s a)
  obtain ⟨x0, x1, xf0, xf1⟩ := (Box.new w s0 a 23).on hb1
  have hz1 : w.heap.size < w1.heap.size := by have := hb1.size; simp at this; omega
  have HB1 : Hid (Below w.heap.size w ((w1.setCell ⟨w.heap.size, 0, none⟩ (.string s)).setCell ⟨w.heap.size, 1, none⟩ (.int .i64 a))) :=
    Lib.hid (((((Below.refl _ _).alloc (Nat.le_refl _) _).trans (hb1.mono (by simp))).setCell (by simp) _).setCell (by simp) _)
  clear hb1
  go_wp2_with fail
  refine (HSP.out _ 0 w.heap.size (HX0.out.on HB1.out (Nat.le_refl _)) HB1.out.size).mono ?_
  rintro e w2 ⟨A7, c7, rfl, hc7, hh7, hb2⟩
  clear x0 x1 xf0 xf1
  have HD2 := Lib.hid (HD.out.on hb2)
  have hz2 : w.heap.size < w2.heap.size := HD2.out.lt
  have HB2 := Lib.hid (HB1.out.trans (hb2.mono (by simp [World.setCell]; omega)))
  have HH7 := Lib.hid (hh7.alloc (.cells #[.string s, .int .i64 p] 23) (Nat.le_refl _))
  clear hb2 hh7
  obtain ⟨x0, x1, xf0, xf1⟩ := HD2.out
  go_wp2_with fail
  refine (HPP.out _ 0 w.heap.size (HX0.out.on (HB2.out.alloc (by omega) _) (Nat.le_refl _)) (by simp; omega)).mono ?_
  rintro e w3 ⟨A8, c8, rfl, hc8, hh8, hb3⟩
  clear x0 x1 xf0 xf1
  have hz3 : w2.heap.size < w3.heap.size := by have := hb3.size; simp at this; omega
  have hz3' : w.heap.size < w3.heap.size := by omega
  have HST : Hid (St w (w3.alloc (.cells #[.string s, .int .i64 q] 23)) s a w2.heap.size w3.heap.size p q) := Lib.hid
    ⟨((HD2.out.alloc _).on hb3).alloc _, ((Box.new w2 s p 23).on hb3).alloc _, Box.new w3 s q _, (((HB2.out.alloc (by omega) _).trans (hb3.mono (by simp; omega))).alloc (by omega) _), hz2, hz3⟩
  have HH7' := Lib.hid ((HH7.out.on hb3 (by simp)).alloc (.cells #[.string s, .int .i64 q] 23) (by omega))
  have HH8 := Lib.hid (hh8.alloc (.cells #[.string s, .int .i64 q] 23) (Nat.le_refl _))
  clear hb3 hh8 HH7
  go_upto_region 4 with (fail)
  generalize w3.alloc (.cells #[.string s, .int .i64 q] 23) = w4 at *
  obtain ⟨⟨x0, x1, xf0, xf1⟩, ⟨y0, y1, yf0, yf1⟩, ⟨z0, z1, zf0, zf1⟩, _, _, _⟩ := HST.out
  go_wp2_with fail
  go_loopw [13] (fun i wr => ∃ j : Nat, j ≤ xs.length ∧ i = .int .i64 j ∧ Hid (Below w4.heap.size w4 wr)) (fun i _ => xs.length - (intOf i).toNat)
  case atStart => exact ⟨0, Nat.zero_le _, rfl, Lib.hid (Below.refl _ _)⟩
  case round =>
    clear x0 x1 xf0 xf1 y0 y1 yf0 yf1 z0 z1 zf0 zf1 b1
    obtain ⟨j, hj, rfl, hb⟩ := hrel
    by_cases hlt : j < xs.length
    · have HA := Lib.hid (HX0.out.on (HST.out.b.trans (hb.out.mono HST.out.b.size)) (Nat.le_refl _))
      have hs4 := Lib.hid HST.out.y.lt
      have hs4' : w3.heap.size < w4.heap.size := HST.out.y.lt
      have H7 := Lib.hid (HH7'.out.on hb.out (by omega))
      have H8 := Lib.hid (HH8.out.on hb.out (by omega))
      obtain ⟨ad, rfl, _, _, hcell⟩ := HA.out j hlt
      have hmy := HM1.out (xs.getD j 0)
      have hmz := HM2.out (xs.getD j 0)
      have C1 := Lib.hid (fun (W : World) (e : W.heap = wr.heap) => many_any A7 c7 _ _ ys (xs.getD j 0) W (by omega) (Has.heap H7.out e))
      have C2 := Lib.hid (fun (W : World) (e : W.heap = wr.heap) => many_any (some ad) c _ _ xs (xs.getD j 0) W (by omega) (Has.heap HA.out e))
      have C3 := Lib.hid (fun (W : World) (e : W.heap = wr.heap) => many_any A8 c8 _ _ zs (xs.getD j 0) W (by omega) (Has.heap H8.out e))
      rw [hmy] at C1
      have i0 : (0 : Int) ≤ (j : Int) := by omega
      have i1 : (j : Int) < (xs.length : Int) := by omega
      generalize many xs (xs.getD j 0) = m1 at *
      generalize many zs (xs.getD j 0) = m2 at *
      generalize xs.getD j 0 = y at *
      have n1 : ((m1 : Int) != (m1 : Int)) = false := by simp
      have n2 : decide ((m1 : Int) < (m2 : Int)) = false := by simp; omega
      have n3 : decide (m1 < m2) = false := by simp; omega
      clear hmy
      go_wp2_with fail
      go_quiet ((go_at_call 21; first | (with_reducible exact quiet_eq C1.out) | (with_reducible exact quiet_eq C2.out) | (with_reducible exact quiet_eq C3.out)))
      go_wp2_with fail
      go_roundw
      case rel => exact ⟨j + 1, by omega, by go_num, Lib.hid (below_drewN hb.out _)⟩
      case measure => simp [intOf]; omega
    · have HBn := Lib.hid (HST.out.b.trans (hb.out.mono HST.out.b.size))
      go_wp2_with fail
      refine (awake_any _).mono ?_
      rintro e w5 ⟨rfl, hb5⟩
      go_wp2_with fail
      go_ret
      exact ⟨rfl, HBn.out.trans (hb5.mono HBn.out.size)⟩

theorem run_walk (s0 : ByteArray) (a : Int) (A : Option Addr) (c : Nat) (xs0 : List Int) (k : Int) (w : World) (hs0 : s0.size ≤ maxLen) (hxc : xs0.length ≤ c) (hcm : c ≤ maxLen) (hx0 : Has w 0 w.heap.size A xs0) (hk : -9223372036854775808 ≤ k ∧ k ≤ 9223372036854775807) :
    Calls Try.prog 4 #[.agg #[.string s0, .int .i64 a], .slice A xs0.length c, .int .i64 k] w fun e w' => e = .returned (.bool true) ∧ Below w.heap.size w w' := by
  have HF := Lib.hid (fun W => few_any s0 a W hs0)
  have HCut := Lib.hid (cut_any A c _ _ xs0 w hxc hcm hx0)
  have HX0 : Has w 0 w.heap.size A (cutL xs0) := hx0.take 257
  have hft := fewB_size s0
  generalize fewB s0 = s at *
  generalize cutL xs0 = xs at *
  by_cases hbad : a < 0 ∨ (s.size : Int) < a
  · have hS := fun W => shuffle_bad s a (.slice A xs.length c) W hbad
    refine walk_err s0 s a A c xs0 xs k w HF HCut (Lib.hid hS) (Lib.hid fun W => ?_)
    by_cases hk0 : k < 0
    · exact pick_neg s a k _ W hk0
    · exact pick_no s a k A _ c W (by omega) hS
  · obtain ⟨a, rfl⟩ : ∃ b : Nat, a = b := ⟨a.toNat, by omega⟩
    by_cases hn : 256 < xs.length
    · have hS := fun W => shuffle_full s a A xs.length c W (by omega) hn
      refine walk_err s0 s a A c xs0 xs k w HF HCut (Lib.hid hS) (Lib.hid fun W => ?_)
      by_cases hk0 : k < 0
      · exact pick_neg s a k _ W hk0
      · exact pick_no s a k A _ c W (by omega) hS
    · have hl := shufAll_len s.data.toList a xs
      have hp := shufAll_perm s.data.toList a xs
      have hat := shufAll_at s.data.toList a xs (by simp; omega)
      have hap : a ≤ (shufAll s.data.toList a xs).2 := by rw [hat]; simp; omega
      have HSP : Hid (∀ (W : World) (lo hi : Nat), Has W lo hi A xs → hi ≤ W.heap.size → Calls Try.prog 15 #[.agg #[.string s, .int .i64 a], .slice A xs.length c] W (Answers W s (shufAll s.data.toList a xs).1 ((shufAll s.data.toList a xs).2 : Nat) 0)) :=
        Lib.hid fun W lo hi h hh => (shuffle_yes s a c lo hi A xs W (by omega) (by omega) (by omega) h hh).mono fun _ _ h => by
          obtain ⟨A', c', he, hc, hp⟩ := h
          exact ⟨A', c', by rw [hl]; exact he, by omega, hp⟩
      by_cases hk0 : k < 0
      · exact walk_ok_neg s0 s a _ (a : Int) A c xs0 xs _ [] k w (by omega) hl (by simp) hap hk0 HX0 (fun y => many_perm hp y) (fun y => by simp [many]) HF HCut HSP (Lib.hid fun W lo hi h hh => (pick_neg s a k _ W hk0).mono fun _ _ h => .none_ h)
      · obtain ⟨k, rfl⟩ : ∃ b : Nat, k = b := ⟨k.toNat, by omega⟩
        have HPP := Lib.hid fun (W : World) (lo hi : Nat) (h : Has W lo hi A xs) (hh : hi ≤ W.heap.size) => pick_yes s a c lo hi k A xs W (by omega) (by omega) (by omega) (by omega) h hh
        have hm2 : ∀ y, many ((shufAll s.data.toList a xs).1.take k) y ≤ many xs y := fun y => Nat.le_trans (many_take _ k y) (Nat.le_of_eq (many_perm hp y))
        have hzl : ((shufAll s.data.toList a xs).1.take k).length ≤ 256 := by rw [List.length_take]; omega
        by_cases hkn : xs.length < k
        · exact walk_ok_over s0 s a _ _ A c xs0 xs _ _ k w (by omega) hl hzl hap (by omega) (by omega) (by rw [List.length_take]; omega) HX0 (fun y => many_perm hp y) hm2 HF HCut HSP HPP
        · exact walk_ok_in s0 s a _ _ A c xs0 xs _ _ k w (by omega) hl hzl hap (by omega) (by omega) (by rw [List.length_take]; omega) HX0 (fun y => many_perm hp y) hm2 HF HCut HSP HPP
/-! ### the statement -/
theorem parOk : ∀ t ∈ (#[23, 24, 3] : Array TypeId).toList, Try.prog.readableRec t = true ∧ t < Try.prog.types.size := by
  have hall : ([23, 24, 3].all fun t => Try.prog.readableRec t && decide (t < Try.prog.types.size)) = true := by kernel_rfl
  intro t ht
  simpa using List.all_eq_true.1 hall t ht

/-- What the walk gives, for every argument. -/
theorem contract (H : Type) (enc : TypeId × Value → H) (W : World) (base : Nat) (args : Array Value) (ds gs : List (DataW H)) (before : List MemPlace)
    (hval : ∀ (j : Nat) t v, Try.f4.params[j]? = some t → args[j]? = some v → Value.okWide Try.prog W .any base t v)
    (hW : DataW.Whole enc Try.prog Try.f4.params.toList Rows.diceKeepsSpec.vars false W args.toList ds gs before) :
    Calls Try.prog 4 args W fun e W' => ∃ v, e = .returned v ∧ Rows.diceKeepsSpec.post enc Try.prog Try.f4 false true false false W args v W' := by
  have hW' := hW
  obtain ⟨p, q, hA0, hV, rfl, hfz, hnd⟩ := hW
  have hA : DataW.TrodAll enc Try.prog W 0 (fun _ => true) true Try.f4.params.toList args.toList ds p := hA0
  rw [Try.params4] at hA hval
  obtain ⟨v0, vs0, d0, ds0, p0, q0, hargs, rfl, rfl, h0, r0⟩ := trodAll_cons hA
  obtain ⟨v1, vs1, d1, ds1, p1, q1, rfl, rfl, rfl, h1, r1⟩ := trodAll_cons r0
  obtain ⟨v2, vs2, d2, ds2, p2, q2, rfl, rfl, rfl, h2, r2⟩ := trodAll_cons r1
  obtain ⟨rfl, rfl, rfl⟩ := trodAll_nil r2
  obtain rfl : args = #[v0, v1, v2] := by cases args; simp_all
  obtain ⟨rfl, rfl⟩ := trodVars_none hV
  obtain ⟨s, a, rfl, hs, ha0, ha1⟩ := open_dice (hval 0 23 v0 rfl rfl) h0
  obtain ⟨A, c, xs, rfl, hxc, hcm, hx⟩ := open_nums (hval 1 24 v1 rfl rfl) h1
  obtain ⟨k, rfl, rfl, rfl, wk⟩ := open_int Try.underlying3 (hval 2 3 v2 rfl rfl) h2
  clear hA0
  refine (run_walk s a A c xs k W hs hxc hcm hx (by simpa [Lit.wf, IntKind.min, IntKind.max, IntKind.signed, IntKind.bits] using wk)).mono fun e W' ⟨he, hb⟩ => ?_
  subst he
  exact ⟨_, rfl, law_post rfl (by rw [Try.params4]; exact parOk) rfl hW' rfl rfl rfl hb⟩

set_option maxRecDepth 100000 in
theorem lifted (os : Os) (started : os.Started) (H : Type) (enc : TypeId × Value → H) :
    ReturnsInHanded {} Try.checked os 4 .any (Rows.diceKeepsSpec.pre6 enc Try.prog Try.f4 Rows.diceKeepsRow.domain false) (Rows.diceKeepsSpec.post enc Try.prog Try.f4 false true false false) := by
  refine returnsInHanded_of_change (C := Try.checked) own started (by kernel_rfl) Try.func4
    (ChangeSpec.witness6 (enc := enc) (C := Try.checked) false ⟨#[], #[.agg #[.string ⟨#[]⟩, .int .i64 0], .slice none 0 0, .int .i64 0], []⟩ 8 (by kernel_rfl) (by kernel_rfl) (by kernel_rfl) (by kernel_rfl)) ?_
  intro W base args ds gs before hval hW _ _
  exact contract H enc W base args ds gs before hval hW

/-- THE STATEMENT. -/
theorem said : Rows.DiceKeepsSaid :=
  OpenClaim.holds_of_wide 4 Try.f4 rfl rfl rfl rfl rfl rfl rfl ⟨rfl, rfl, rfl, rfl, rfl⟩ rfl rfl rfl rfl rfl (by kernel_rfl) Try.func4 (by kernel_rfl)
    (of_decide_eq_true (by kernel_rfl)) (by unfold Func.isWrapper; first | (rw [if_pos (by decide +kernel)]; kernel_rfl) | (rw [if_neg (by decide +kernel)]; exact ⟨rfl, rfl⟩))
    (fun os started H enc _ => lifted os started H enc)
end Go.Proofs.Ytincniaekhiceaa.lawKeeps
