/-
  DiceBehind: what is drawn hangs on the octets from At on that are taken alone: others ahead, and behind, play no part: the law returns true for every input.
-/
import Derived.Test.YtincniaekhiceaaBopen
import Derived.StillTactics
import Derived.Deep.RegionHeld3
import Derived.Deep.DeepCutAuto
namespace Go.Proofs.Ytincniaekhiceaa.lawBehind
open Go.ChangeShapes Go.WideShapes Go.ChangeAt Go.RowKit Go.Proofs.Ytincniaekhiceaa.Pure

set_option maxRecDepth 100000 in
set_option maxHeartbeats 4000000 in
theorem walk_long (s0 s ah bh : ByteArray) (a : Int) (A : Option Addr) (c : Nat) (xs0 xs : List Int) (w : World) (hah : ah.size ≤ 140737488355328) (hbh : bh.size ≤ 140737488355328) (_hss : s.size ≤ 400)
    (hl : 200 < ah.size + bh.size)
    (HF : Hid (∀ W : World, Calls Try.prog 9 #[.agg #[.string s0, .int .i64 a]] W fun e w' => e = .returned (.agg #[.string s, .int .i64 a]) ∧ Below W.heap.size W w'))
    (HCut : Hid (∀ W : World, Calls Try.prog 10 #[.slice A xs0.length c] W fun e w' => e = .returned (.slice A xs.length c) ∧ W = w')) :
    Calls Try.prog 6 #[.agg #[.string s0, .int .i64 a, .string ah, .string bh, .slice A xs0.length c]] w fun e w' => e = .returned (.bool true) ∧ Below w.heap.size w w' := by
  have d1 : decide ((200 : Int) < (ah.size : Int) + (bh.size : Int)) = true := by simp; omega
  go_enter Try.func6, Try.ntmps6
  go_upto_region 1 with (fail)
  go_cut [3, 4, 5, 6] (fun p x y l wx => ∃ g, p = .pointer (some ⟨g, 0, none⟩) ∧ x = .string ah ∧ y = .string bh ∧ l = .slice A xs.length c ∧ Hid (Box wx g s a) ∧ Hid (Below w.heap.size w wx) ∧ w.heap.size ≤ g)
  case first =>
    go_region_held3 (fun w' => w'.cell? ⟨w.heap.size, 0, none⟩ = some (.string s0) ∧ w'.cell? ⟨w.heap.size, 1, none⟩ = some (.int .i64 a) ∧ w'.cell? ⟨w.heap.size, 2, none⟩ = some (.string ah) ∧ w'.cell? ⟨w.heap.size, 3, none⟩ = some (.string bh) ∧ w'.cell? ⟨w.heap.size, 4, none⟩ = some (.slice A xs0.length c))
      (first | go_keep | exact ⟨(hc1 _ _ (by simp [World.drew] <;> omega)).trans (by go_simp), (hc1 _ _ (by simp [World.drew] <;> omega)).trans (by go_simp), (hc1 _ _ (by simp [World.drew] <;> omega)).trans (by go_simp), (hc1 _ _ (by simp [World.drew] <;> omega)).trans (by go_simp), (hc1 _ _ (by simp [World.drew] <;> omega)).trans (by go_simp)⟩)
      (first | (go_at_call 9; refine (HF.out _).mono ?_; rintro e w1 ⟨rfl, hb1⟩; obtain ⟨hc1, hf1⟩ := old hb1; have hz1 := hb1.size) | (go_at_call 10; refine (HCut.out _).mono ?_; rintro e w2 ⟨rfl, rfl⟩))
    · go_wp2_with fail
      go_meet
      exact ⟨w1.heap.size, rfl, rfl, rfl, rfl, Lib.hid (Box.new w1 s a _), Lib.hid (((((Below.refl _ _).alloc (Nat.le_refl _) _).drew).trans (hb1.mono (by simp [World.drew]))).alloc (by simp [World.drew] at hz1; omega) _), by simp [World.drew] at hz1; omega⟩
    · go_wp2_with fail
      go_meet
      exact ⟨w1.heap.size, rfl, rfl, rfl, rfl, Lib.hid (Box.new w1 s a _), Lib.hid (((((Below.refl _ _).alloc (Nat.le_refl _) _).drew).trans (hb1.mono (by simp [World.drew]))).alloc (by simp [World.drew] at hz1; omega) _), by simp [World.drew] at hz1; omega⟩
    · go_wp2_with fail
      go_meet
      have hbx : Box w1 (w.heap.size + 1) ⟨#[]⟩ 0 := ⟨(hc1 _ _ (by simp [World.drew])).trans (by go_simp), (hc1 _ _ (by simp [World.drew])).trans (by go_simp), (hf1 _ _ (by simp [World.drew])).trans (by go_simp), (hf1 _ _ (by simp [World.drew])).trans (by go_simp)⟩
      exact ⟨w.heap.size + 1, rfl, rfl, rfl, rfl, Lib.hid (hbx.put s a), Lib.hid ((((((Below.refl _ _).alloc (Nat.le_refl _) _).alloc (by simp) _).drew.trans (hb1.mono (by simp [World.drew]; omega))).setCell (by simp) _).setCell (by simp) _), by omega⟩
  case rest =>
    obtain ⟨g, rfl, rfl, rfl, rfl, hx, hb, hg⟩ := hcut
    obtain ⟨x0, x1, xf0, xf1⟩ := hx.out
    have hgl : g < wc.heap.size := hx.out.lt
    go_wp2_with fail
    refine (awake_any _).mono ?_
    rintro e w5 ⟨rfl, hb5⟩
    go_wp2_with fail
    go_ret
    exact ⟨rfl, hb.out.trans (hb5.mono hb.out.size)⟩

set_option maxRecDepth 100000 in
set_option maxHeartbeats 4000000 in
theorem walk_bad (s0 s ah bh : ByteArray) (a : Int) (A : Option Addr) (c : Nat) (xs0 xs : List Int) (w : World) (hah : ah.size ≤ 140737488355328) (hbh : bh.size ≤ 140737488355328) (_hss : s.size ≤ 400)
    (hl : ah.size + bh.size ≤ 200) (hbad : a < 0 ∨ (s.size : Int) < a)
    (HF : Hid (∀ W : World, Calls Try.prog 9 #[.agg #[.string s0, .int .i64 a]] W fun e w' => e = .returned (.agg #[.string s, .int .i64 a]) ∧ Below W.heap.size W w'))
    (HCut : Hid (∀ W : World, Calls Try.prog 10 #[.slice A xs0.length c] W fun e w' => e = .returned (.slice A xs.length c) ∧ W = w')) :
    Calls Try.prog 6 #[.agg #[.string s0, .int .i64 a, .string ah, .string bh, .slice A xs0.length c]] w fun e w' => e = .returned (.bool true) ∧ Below w.heap.size w w' := by
  have d1 : decide ((200 : Int) < (ah.size : Int) + (bh.size : Int)) = false := by simp; omega
  have HM := Lib.hid (fun W => may_no s a W hbad)
  clear hbad
  go_enter Try.func6, Try.ntmps6
  go_upto_region 1 with (fail)
  go_cut [3, 4, 5, 6] (fun p x y l wx => ∃ g, p = .pointer (some ⟨g, 0, none⟩) ∧ x = .string ah ∧ y = .string bh ∧ l = .slice A xs.length c ∧ Hid (Box wx g s a) ∧ Hid (Below w.heap.size w wx) ∧ w.heap.size ≤ g)
  case first =>
    go_region_held3 (fun w' => w'.cell? ⟨w.heap.size, 0, none⟩ = some (.string s0) ∧ w'.cell? ⟨w.heap.size, 1, none⟩ = some (.int .i64 a) ∧ w'.cell? ⟨w.heap.size, 2, none⟩ = some (.string ah) ∧ w'.cell? ⟨w.heap.size, 3, none⟩ = some (.string bh) ∧ w'.cell? ⟨w.heap.size, 4, none⟩ = some (.slice A xs0.length c))
      (first | go_keep | exact ⟨(hc1 _ _ (by simp [World.drew] <;> omega)).trans (by go_simp), (hc1 _ _ (by simp [World.drew] <;> omega)).trans (by go_simp), (hc1 _ _ (by simp [World.drew] <;> omega)).trans (by go_simp), (hc1 _ _ (by simp [World.drew] <;> omega)).trans (by go_simp), (hc1 _ _ (by simp [World.drew] <;> omega)).trans (by go_simp)⟩)
      (first | (go_at_call 9; refine (HF.out _).mono ?_; rintro e w1 ⟨rfl, hb1⟩; obtain ⟨hc1, hf1⟩ := old hb1; have hz1 := hb1.size) | (go_at_call 10; refine (HCut.out _).mono ?_; rintro e w2 ⟨rfl, rfl⟩))
    · go_wp2_with fail
      go_meet
      exact ⟨w1.heap.size, rfl, rfl, rfl, rfl, Lib.hid (Box.new w1 s a _), Lib.hid (((((Below.refl _ _).alloc (Nat.le_refl _) _).drew).trans (hb1.mono (by simp [World.drew]))).alloc (by simp [World.drew] at hz1; omega) _), by simp [World.drew] at hz1; omega⟩
    · go_wp2_with fail
      go_meet
      exact ⟨w1.heap.size, rfl, rfl, rfl, rfl, Lib.hid (Box.new w1 s a _), Lib.hid (((((Below.refl _ _).alloc (Nat.le_refl _) _).drew).trans (hb1.mono (by simp [World.drew]))).alloc (by simp [World.drew] at hz1; omega) _), by simp [World.drew] at hz1; omega⟩
    · go_wp2_with fail
      go_meet
      have hbx : Box w1 (w.heap.size + 1) ⟨#[]⟩ 0 := ⟨(hc1 _ _ (by simp [World.drew])).trans (by go_simp), (hc1 _ _ (by simp [World.drew])).trans (by go_simp), (hf1 _ _ (by simp [World.drew])).trans (by go_simp), (hf1 _ _ (by simp [World.drew])).trans (by go_simp)⟩
      exact ⟨w.heap.size + 1, rfl, rfl, rfl, rfl, Lib.hid (hbx.put s a), Lib.hid ((((((Below.refl _ _).alloc (Nat.le_refl _) _).alloc (by simp) _).drew.trans (hb1.mono (by simp [World.drew]; omega))).setCell (by simp) _).setCell (by simp) _), by omega⟩
  case rest =>
    obtain ⟨g, rfl, rfl, rfl, rfl, hx, hb, hg⟩ := hcut
    obtain ⟨x0, x1, xf0, xf1⟩ := hx.out
    have hgl : g < wc.heap.size := hx.out.lt
    go_wp2_with fail
    refine (HM.out _).mono ?_
    rintro e w4 ⟨rfl, hb4⟩
    have HB4 := Lib.hid (hb.out.trans (hb4.mono hb.out.size))
    clear hb4 x0 x1 xf0 xf1
    go_wp2_with fail
    refine (awake_any _).mono ?_
    rintro e w5 ⟨rfl, hb5⟩
    go_wp2_with fail
    go_ret
    exact ⟨rfl, HB4.out.trans (hb5.mono HB4.out.size)⟩

set_option maxRecDepth 100000 in
set_option maxHeartbeats 4000000 in
theorem walk_full (s0 s ah bh : ByteArray) (a : Nat) (A : Option Addr) (c : Nat) (xs0 xs : List Int) (w : World) (hah : ah.size ≤ 140737488355328) (hbh : bh.size ≤ 140737488355328) (_hss : s.size ≤ 400)
    (hl : ah.size + bh.size ≤ 200) (ha : a ≤ s.size) (hn : 256 < xs.length)
    (HF : Hid (∀ W : World, Calls Try.prog 9 #[.agg #[.string s0, .int .i64 a]] W fun e w' => e = .returned (.agg #[.string s, .int .i64 a]) ∧ Below W.heap.size W w'))
    (HCut : Hid (∀ W : World, Calls Try.prog 10 #[.slice A xs0.length c] W fun e w' => e = .returned (.slice A xs.length c) ∧ W = w')) :
    Calls Try.prog 6 #[.agg #[.string s0, .int .i64 a, .string ah, .string bh, .slice A xs0.length c]] w fun e w' => e = .returned (.bool true) ∧ Below w.heap.size w w' := by
  have d1 : decide ((200 : Int) < (ah.size : Int) + (bh.size : Int)) = false := by simp; omega
  have HM := Lib.hid (fun W => may_yes s a W ha)
  go_enter Try.func6, Try.ntmps6
  go_upto_region 1 with (fail)
  go_cut [3, 4, 5, 6] (fun p x y l wx => ∃ g, p = .pointer (some ⟨g, 0, none⟩) ∧ x = .string ah ∧ y = .string bh ∧ l = .slice A xs.length c ∧ Hid (Box wx g s a) ∧ Hid (Below w.heap.size w wx) ∧ w.heap.size ≤ g)
  case first =>
    go_region_held3 (fun w' => w'.cell? ⟨w.heap.size, 0, none⟩ = some (.string s0) ∧ w'.cell? ⟨w.heap.size, 1, none⟩ = some (.int .i64 a) ∧ w'.cell? ⟨w.heap.size, 2, none⟩ = some (.string ah) ∧ w'.cell? ⟨w.heap.size, 3, none⟩ = some (.string bh) ∧ w'.cell? ⟨w.heap.size, 4, none⟩ = some (.slice A xs0.length c))
      (first | go_keep | exact ⟨(hc1 _ _ (by simp [World.drew] <;> omega)).trans (by go_simp), (hc1 _ _ (by simp [World.drew] <;> omega)).trans (by go_simp), (hc1 _ _ (by simp [World.drew] <;> omega)).trans (by go_simp), (hc1 _ _ (by simp [World.drew] <;> omega)).trans (by go_simp), (hc1 _ _ (by simp [World.drew] <;> omega)).trans (by go_simp)⟩)
      (first | (go_at_call 9; refine (HF.out _).mono ?_; rintro e w1 ⟨rfl, hb1⟩; obtain ⟨hc1, hf1⟩ := old hb1; have hz1 := hb1.size) | (go_at_call 10; refine (HCut.out _).mono ?_; rintro e w2 ⟨rfl, rfl⟩))
    · go_wp2_with fail
      go_meet
      exact ⟨w1.heap.size, rfl, rfl, rfl, rfl, Lib.hid (Box.new w1 s a _), Lib.hid (((((Below.refl _ _).alloc (Nat.le_refl _) _).drew).trans (hb1.mono (by simp [World.drew]))).alloc (by simp [World.drew] at hz1; omega) _), by simp [World.drew] at hz1; omega⟩
    · go_wp2_with fail
      go_meet
      exact ⟨w1.heap.size, rfl, rfl, rfl, rfl, Lib.hid (Box.new w1 s a _), Lib.hid (((((Below.refl _ _).alloc (Nat.le_refl _) _).drew).trans (hb1.mono (by simp [World.drew]))).alloc (by simp [World.drew] at hz1; omega) _), by simp [World.drew] at hz1; omega⟩
    · go_wp2_with fail
      go_meet
      have hbx : Box w1 (w.heap.size + 1) ⟨#[]⟩ 0 := ⟨(hc1 _ _ (by simp [World.drew])).trans (by go_simp), (hc1 _ _ (by simp [World.drew])).trans (by go_simp), (hf1 _ _ (by simp [World.drew])).trans (by go_simp), (hf1 _ _ (by simp [World.drew])).trans (by go_simp)⟩
      exact ⟨w.heap.size + 1, rfl, rfl, rfl, rfl, Lib.hid (hbx.put s a), Lib.hid ((((((Below.refl _ _).alloc (Nat.le_refl _) _).alloc (by simp) _).drew.trans (hb1.mono (by simp [World.drew]; omega))).setCell (by simp) _).setCell (by simp) _), by omega⟩
  case rest =>
    obtain ⟨g, rfl, rfl, rfl, rfl, hx, hb, hg⟩ := hcut
    obtain ⟨x0, x1, xf0, xf1⟩ := hx.out
    have hgl : g < wc.heap.size := hx.out.lt
    go_wp2_with fail
    refine (HM.out _).mono ?_
    rintro e w4 ⟨rfl, hb4⟩
    have HB4 := Lib.hid (hb.out.trans (hb4.mono hb.out.size))
    clear hb4 x0 x1 xf0 xf1
    go_wp2_with fail
    refine (awake_any _).mono ?_
    rintro e w5 ⟨rfl, hb5⟩
    go_wp2_with fail
    go_ret
    exact ⟨rfl, HB4.out.trans (hb5.mono HB4.out.size)⟩

set_option maxRecDepth 100000 in
set_option maxHeartbeats 4000000 in
theorem walk_short (s0 s ah bh : ByteArray) (a p : Nat) (A : Option Addr) (c : Nat) (xs0 xs ys : List Int) (w : World) (hah : ah.size ≤ 140737488355328) (hbh : bh.size ≤ 140737488355328) (_hss : s.size ≤ 400)
    (hl : ah.size + bh.size ≤ 200) (ha : a ≤ s.size) (hn : xs.length ≤ 256) (hap : a ≤ p) (hps : p ≤ s.size) (_hyl : ys.length ≤ 256) (hshort : p + 1 < a + xs.length)
    (hX : Has w 0 w.heap.size A xs)
    (HSP : Hid (∀ (W : World) (lo hi : Nat), Has W lo hi A xs → hi ≤ W.heap.size → Calls Try.prog 15 #[.agg #[.string s, .int .i64 a], .slice A xs.length c] W (Answers W s ys (p : Nat) 0)))
    (HF : Hid (∀ W : World, Calls Try.prog 9 #[.agg #[.string s0, .int .i64 a]] W fun e w' => e = .returned (.agg #[.string s, .int .i64 a]) ∧ Below W.heap.size W w'))
    (HCut : Hid (∀ W : World, Calls Try.prog 10 #[.slice A xs0.length c] W fun e w' => e = .returned (.slice A xs.length c) ∧ W = w')) :
    Calls Try.prog 6 #[.agg #[.string s0, .int .i64 a, .string ah, .string bh, .slice A xs0.length c]] w fun e w' => e = .returned (.bool true) ∧ Below w.heap.size w w' := by
  have d1 : decide ((200 : Int) < (ah.size : Int) + (bh.size : Int)) = false := by simp; omega
  have d2 : decide (p < a) = false := by simp; omega
  have d3 : decide (s.size < p) = false := by simp; omega
  have d4 : decide ((p : Int) - (a : Int) < (xs.length : Int) - 1) = true := by simp; omega
  have HM := Lib.hid (fun W => may_yes s a W ha)
  have HX0 := Lib.hid hX
  clear hX
  go_enter Try.func6, Try.ntmps6
  go_upto_region 1 with (fail)
  go_cut [3, 4, 5, 6] (fun p x y l wx => ∃ g, p = .pointer (some ⟨g, 0, none⟩) ∧ x = .string ah ∧ y = .string bh ∧ l = .slice A xs.length c ∧ Hid (Box wx g s a) ∧ Hid (Below w.heap.size w wx) ∧ w.heap.size ≤ g)
  case first =>
    go_region_held3 (fun w' => w'.cell? ⟨w.heap.size, 0, none⟩ = some (.string s0) ∧ w'.cell? ⟨w.heap.size, 1, none⟩ = some (.int .i64 a) ∧ w'.cell? ⟨w.heap.size, 2, none⟩ = some (.string ah) ∧ w'.cell? ⟨w.heap.size, 3, none⟩ = some (.string bh) ∧ w'.cell? ⟨w.heap.size, 4, none⟩ = some (.slice A xs0.length c))
      (first | go_keep | exact ⟨(hc1 _ _ (by simp [World.drew] <;> omega)).trans (by go_simp), (hc1 _ _ (by simp [World.drew] <;> omega)).trans (by go_simp), (hc1 _ _ (by simp [World.drew] <;> omega)).trans (by go_simp), (hc1 _ _ (by simp [World.drew] <;> omega)).trans (by go_simp), (hc1 _ _ (by simp [World.drew] <;> omega)).trans (by go_simp)⟩)
      (first | (go_at_call 9; refine (HF.out _).mono ?_; rintro e w1 ⟨rfl, hb1⟩; obtain ⟨hc1, hf1⟩ := old hb1; have hz1 := hb1.size) | (go_at_call 10; refine (HCut.out _).mono ?_; rintro e w2 ⟨rfl, rfl⟩))
    · go_wp2_with fail
      go_meet
      exact ⟨w1.heap.size, rfl, rfl, rfl, rfl, Lib.hid (Box.new w1 s a _), Lib.hid (((((Below.refl _ _).alloc (Nat.le_refl _) _).drew).trans (hb1.mono (by simp [World.drew]))).alloc (by simp [World.drew] at hz1; omega) _), by simp [World.drew] at hz1; omega⟩
    · go_wp2_with fail
      go_meet
      exact ⟨w1.heap.size, rfl, rfl, rfl, rfl, Lib.hid (Box.new w1 s a _), Lib.hid (((((Below.refl _ _).alloc (Nat.le_refl _) _).drew).trans (hb1.mono (by simp [World.drew]))).alloc (by simp [World.drew] at hz1; omega) _), by simp [World.drew] at hz1; omega⟩
    · go_wp2_with fail
      go_meet
      have hbx : Box w1 (w.heap.size + 1) ⟨#[]⟩ 0 := ⟨(hc1 _ _ (by simp [World.drew])).trans (by go_simp), (hc1 _ _ (by simp [World.drew])).trans (by go_simp), (hf1 _ _ (by simp [World.drew])).trans (by go_simp), (hf1 _ _ (by simp [World.drew])).trans (by go_simp)⟩
      exact ⟨w.heap.size + 1, rfl, rfl, rfl, rfl, Lib.hid (hbx.put s a), Lib.hid ((((((Below.refl _ _).alloc (Nat.le_refl _) _).alloc (by simp) _).drew.trans (hb1.mono (by simp [World.drew]; omega))).setCell (by simp) _).setCell (by simp) _), by omega⟩
  case rest =>
    obtain ⟨g, rfl, rfl, rfl, rfl, hx, hb, hg⟩ := hcut
    obtain ⟨x0, x1, xf0, xf1⟩ := hx.out
    have hgl : g < wc.heap.size := hx.out.lt
    go_wp2_with fail
    refine (HM.out _).mono ?_
    rintro e w4 ⟨rfl, hb4⟩
    have HB4 := Lib.hid (hb.out.trans (hb4.mono hb.out.size))
    have HX4 := Lib.hid (hx.out.on hb4)
    have hg4 : g < w4.heap.size := HX4.out.lt
    clear hb4 x0 x1 xf0 xf1
    obtain ⟨x0, x1, xf0, xf1⟩ := HX4.out
    go_wp2_with fail
    refine (HSP.out _ 0 w.heap.size (HX0.out.on HB4.out (Nat.le_refl _)) HB4.out.size).mono ?_
    rintro e w5 ⟨A5, c5, rfl, hc5, hh5, hb5⟩
    have HB5 := Lib.hid (HB4.out.trans (hb5.mono HB4.out.size))
    have HX5 := Lib.hid (HX4.out.on hb5)
    have hg5 : g < w5.heap.size := HX5.out.lt
    have HH5 := Lib.hid hh5
    clear hb5 hh5 x0 x1 xf0 xf1
    obtain ⟨x0, x1, xf0, xf1⟩ := HX5.out
    go_wp2_with fail
    refine (awake_any _).mono ?_
    rintro e w6 ⟨rfl, hb6⟩
    go_wp2_with fail
    go_ret
    exact ⟨rfl, (HB5.out.alloc HB5.out.size _).trans (hb6.mono (by have := HB5.out.size; simp; omega))⟩

set_option maxRecDepth 100000 in
set_option maxHeartbeats 4000000 in
theorem walk_same (s0 s ah bh : ByteArray) (a p q : Nat) (A : Option Addr) (c : Nat) (xs0 xs ys : List Int) (w : World) (hah : ah.size ≤ 140737488355328) (hbh : bh.size ≤ 140737488355328) (_hss : s.size ≤ 400)
    (hl : ah.size + bh.size ≤ 200) (ha : a ≤ s.size) (hn : xs.length ≤ 256) (hap : a ≤ p) (hps : p ≤ s.size) (_hyl : ys.length ≤ 256) (hshort : a + xs.length ≤ p + 1) (hq : q + a = ah.size + p)
    (hX : Has w 0 w.heap.size A xs)
    (HSP : Hid (∀ (W : World) (lo hi : Nat), Has W lo hi A xs → hi ≤ W.heap.size → Calls Try.prog 15 #[.agg #[.string s, .int .i64 a], .slice A xs.length c] W (Answers W s ys (p : Nat) 0)))
    (HSQ : Hid (∀ (W : World) (lo hi : Nat), Has W lo hi A xs → hi ≤ W.heap.size → Calls Try.prog 15 #[.agg #[.string (ah ++ s.extract a p ++ bh), .int .i64 (ah.size : Nat)], .slice A xs.length c] W (Answers W (ah ++ s.extract a p ++ bh) ys (q : Nat) 0)))
    (HF : Hid (∀ W : World, Calls Try.prog 9 #[.agg #[.string s0, .int .i64 a]] W fun e w' => e = .returned (.agg #[.string s, .int .i64 a]) ∧ Below W.heap.size W w'))
    (HCut : Hid (∀ W : World, Calls Try.prog 10 #[.slice A xs0.length c] W fun e w' => e = .returned (.slice A xs.length c) ∧ W = w')) :
    Calls Try.prog 6 #[.agg #[.string s0, .int .i64 a, .string ah, .string bh, .slice A xs0.length c]] w fun e w' => e = .returned (.bool true) ∧ Below w.heap.size w w' := by
  have d1 : decide ((200 : Int) < (ah.size : Int) + (bh.size : Int)) = false := by simp; omega
  have d2 : decide (p < a) = false := by simp; omega
  have d3 : decide (s.size < p) = false := by simp; omega
  have d4 : decide ((p : Int) - (a : Int) < (xs.length : Int) - 1) = false := by simp; omega
  have HM := Lib.hid (fun W => may_yes s a W ha)
  have HX0 := Lib.hid hX
  clear hX
  have d5 : (((q : Int) - (ah.size : Int)) == ((p : Int) - (a : Int))) = true := by rw [beq_iff_eq]; omega
  have hqb : q ≤ 1000 := by omega
  clear hq
  go_enter Try.func6, Try.ntmps6
  go_upto_region 1 with (fail)
  go_cut [3, 4, 5, 6] (fun p x y l wx => ∃ g, p = .pointer (some ⟨g, 0, none⟩) ∧ x = .string ah ∧ y = .string bh ∧ l = .slice A xs.length c ∧ Hid (Box wx g s a) ∧ Hid (Below w.heap.size w wx) ∧ w.heap.size ≤ g)
  case first =>
    go_region_held3 (fun w' => w'.cell? ⟨w.heap.size, 0, none⟩ = some (.string s0) ∧ w'.cell? ⟨w.heap.size, 1, none⟩ = some (.int .i64 a) ∧ w'.cell? ⟨w.heap.size, 2, none⟩ = some (.string ah) ∧ w'.cell? ⟨w.heap.size, 3, none⟩ = some (.string bh) ∧ w'.cell? ⟨w.heap.size, 4, none⟩ = some (.slice A xs0.length c))
      (first | go_keep | exact ⟨(hc1 _ _ (by simp [World.drew] <;> omega)).trans (by go_simp), (hc1 _ _ (by simp [World.drew] <;> omega)).trans (by go_simp), (hc1 _ _ (by simp [World.drew] <;> omega)).trans (by go_simp), (hc1 _ _ (by simp [World.drew] <;> omega)).trans (by go_simp), (hc1 _ _ (by simp [World.drew] <;> omega)).trans (by go_simp)⟩)
      (first | (go_at_call 9; refine (HF.out _).mono ?_; rintro e w1 ⟨rfl, hb1⟩; obtain ⟨hc1, hf1⟩ := old hb1; have hz1 := hb1.size) | (go_at_call 10; refine (HCut.out _).mono ?_; rintro e w2 ⟨rfl, rfl⟩))
    · go_wp2_with fail
      go_meet
      exact ⟨w1.heap.size, rfl, rfl, rfl, rfl, Lib.hid (Box.new w1 s a _), Lib.hid (((((Below.refl _ _).alloc (Nat.le_refl _) _).drew).trans (hb1.mono (by simp [World.drew]))).alloc (by simp [World.drew] at hz1; omega) _), by simp [World.drew] at hz1; omega⟩
    · go_wp2_with fail
      go_meet
      exact ⟨w1.heap.size, rfl, rfl, rfl, rfl, Lib.hid (Box.new w1 s a _), Lib.hid (((((Below.refl _ _).alloc (Nat.le_refl _) _).drew).trans (hb1.mono (by simp [World.drew]))).alloc (by simp [World.drew] at hz1; omega) _), by simp [World.drew] at hz1; omega⟩
    · go_wp2_with fail
      go_meet
      have hbx : Box w1 (w.heap.size + 1) ⟨#[]⟩ 0 := ⟨(hc1 _ _ (by simp [World.drew])).trans (by go_simp), (hc1 _ _ (by simp [World.drew])).trans (by go_simp), (hf1 _ _ (by simp [World.drew])).trans (by go_simp), (hf1 _ _ (by simp [World.drew])).trans (by go_simp)⟩
      exact ⟨w.heap.size + 1, rfl, rfl, rfl, rfl, Lib.hid (hbx.put s a), Lib.hid ((((((Below.refl _ _).alloc (Nat.le_refl _) _).alloc (by simp) _).drew.trans (hb1.mono (by simp [World.drew]; omega))).setCell (by simp) _).setCell (by simp) _), by omega⟩
  case rest =>
    obtain ⟨g, rfl, rfl, rfl, rfl, hx, hb, hg⟩ := hcut
    obtain ⟨x0, x1, xf0, xf1⟩ := hx.out
    have hgl : g < wc.heap.size := hx.out.lt
    go_wp2_with fail
    refine (HM.out _).mono ?_
    rintro e w4 ⟨rfl, hb4⟩
    have HB4 := Lib.hid (hb.out.trans (hb4.mono hb.out.size))
    have HX4 := Lib.hid (hx.out.on hb4)
    have hg4 : g < w4.heap.size := HX4.out.lt
    clear hb4 x0 x1 xf0 xf1
    obtain ⟨x0, x1, xf0, xf1⟩ := HX4.out
    go_wp2_with fail
    refine (HSP.out _ 0 w.heap.size (HX0.out.on HB4.out (Nat.le_refl _)) HB4.out.size).mono ?_
    rintro e w5 ⟨A5, c5, rfl, hc5, hh5, hb5⟩
    have HB5 := Lib.hid (HB4.out.trans (hb5.mono HB4.out.size))
    have HX5 := Lib.hid (HX4.out.on hb5)
    have hg5 : g < w5.heap.size := HX5.out.lt
    have HH5 := Lib.hid hh5
    clear hb5 hh5 x0 x1 xf0 xf1
    obtain ⟨x0, x1, xf0, xf1⟩ := HX5.out
    have i0 : (0 : Int) ≤ (a : Int) := by omega
    have i1 : (a : Int) ≤ (p : Int) := by omega
    have i2 : (p : Int) ≤ (s.size : Int) := by omega
    have hex : (s.extract a p).size ≤ 400 := by rw [ByteArray.size_extract]; omega
    go_wp2_with fail
    refine (HSQ.out _ 0 w.heap.size (HX0.out.on (HB5.out.alloc HB5.out.size _) (Nat.le_refl _)) (by have := HB5.out.size; simp; omega)).mono ?_
    rintro e w6 ⟨A6, c6, rfl, hc6, hh6, hb6⟩
    have HB6 := Lib.hid ((HB5.out.alloc HB5.out.size (.cells #[.string s, .int .i64 p] 23)).trans (hb6.mono (by have := HB5.out.size; simp; omega)))
    have HX6 := Lib.hid ((HX5.out.alloc (.cells #[.string s, .int .i64 p] 23)).on hb6)
    have HP6 := Lib.hid ((Box.new w5 s p 23).on hb6)
    have hg6 : g < w6.heap.size := HX6.out.lt
    have hp6 : w5.heap.size < w6.heap.size := HP6.out.lt
    have HS := Lib.hid (fun W => same_yes A5 A6 c5 c6 _ _ _ _ ys (w6.alloc W) (by omega) (((HH5.out.alloc (.cells #[.string s, .int .i64 p] 23) (Nat.le_refl _)).on hb6 (by simp)).alloc W (by omega)) (hh6.alloc W (Nat.le_refl _)))
    clear hb6 hh6 x0 x1 xf0 xf1
    obtain ⟨x0, x1, xf0, xf1⟩ := HX6.out
    obtain ⟨y0, y1, yf0, yf1⟩ := HP6.out
    go_wp2_with fail
    refine (HS.out _).mono ?_
    rintro e w7 ⟨rfl, hb7⟩
    have HB7 := Lib.hid ((HB6.out.alloc HB6.out.size (.cells #[.string (ah ++ s.extract a p ++ bh), .int .i64 q] 23)).trans (hb7.mono (by have := HB6.out.size; simp; omega)))
    have HX7 := Lib.hid ((HX6.out.alloc (.cells #[.string (ah ++ s.extract a p ++ bh), .int .i64 q] 23)).on hb7)
    have HP7 := Lib.hid ((HP6.out.alloc (.cells #[.string (ah ++ s.extract a p ++ bh), .int .i64 q] 23)).on hb7)
    have HQ7 := Lib.hid ((Box.new w6 (ah ++ s.extract a p ++ bh) q 23).on hb7)
    clear hb7 x0 x1 xf0 xf1 y0 y1 yf0 yf1
    obtain ⟨x0, x1, xf0, xf1⟩ := HX7.out
    obtain ⟨y0, y1, yf0, yf1⟩ := HP7.out
    obtain ⟨z0, z1, zf0, zf1⟩ := HQ7.out
    go_wp2_with fail
    refine (awake_any _).mono ?_
    rintro e w8 ⟨rfl, hb8⟩
    go_wp2_with fail
    go_ret
    exact ⟨rfl, HB7.out.trans (hb8.mono HB7.out.size)⟩

/-- The octets that are taken, with others ahead and behind. -/
theorem other_list (ah s bh : ByteArray) (a p : Nat) : (ah ++ s.extract a p ++ bh).data.toList = ah.data.toList ++ (s.data.toList.drop a).take (p - a) ++ bh.data.toList := by
  simp [ByteArray.data_append, ByteArray.data_extract, Array.toList_extract]

theorem other_at (ah s bh : ByteArray) (a p i : Nat) (hi : a + i < p) (hp : p ≤ s.size) : s.data.toList.getD (a + i) 0 = (ah ++ s.extract a p ++ bh).data.toList.getD (ah.size + i) 0 := by
  rw [other_list]
  have hl : s.data.toList.length = s.size := by simp
  have hal : ah.data.toList.length = ah.size := by simp
  simp only [List.getD]
  rw [List.getElem?_append_left (by rw [List.length_append, List.length_take, List.length_drop, hl, hal]; omega), List.getElem?_append_right (by omega), hal,
    show ah.size + i - ah.size = i by omega, List.getElem?_take_of_lt (by omega), List.getElem?_drop]

theorem run_walk (s0 ah bh : ByteArray) (a : Int) (A : Option Addr) (c : Nat) (xs0 : List Int) (w : World) (hs0 : s0.size ≤ maxLen) (hah : ah.size ≤ 140737488355328) (hbh : bh.size ≤ 140737488355328) (hxc : xs0.length ≤ c) (hcm : c ≤ maxLen) (hx0 : Has w 0 w.heap.size A xs0) :
    Calls Try.prog 6 #[.agg #[.string s0, .int .i64 a, .string ah, .string bh, .slice A xs0.length c]] w fun e w' => e = .returned (.bool true) ∧ Below w.heap.size w w' := by
  have HF := Lib.hid (fun W => few_any s0 a W hs0)
  have HCut := Lib.hid (cut_any A c _ _ xs0 w hxc hcm hx0)
  have HX0 : Has w 0 w.heap.size A (cutL xs0) := hx0.take 257
  have hft := fewB_size s0
  generalize fewB s0 = s at *
  generalize cutL xs0 = xs at *
  by_cases hl : 200 < ah.size + bh.size
  · exact walk_long s0 s ah bh a A c xs0 xs w hah hbh hft hl HF HCut
  by_cases hbad : a < 0 ∨ (s.size : Int) < a
  · exact walk_bad s0 s ah bh a A c xs0 xs w hah hbh hft (by omega) hbad HF HCut
  obtain ⟨a, rfl⟩ : ∃ b : Nat, a = b := ⟨a.toNat, by omega⟩
  by_cases hn : 256 < xs.length
  · exact walk_full s0 s ah bh a A c xs0 xs w hah hbh hft (by omega) (by omega) hn HF HCut
  have hlen := shufAll_len s.data.toList a xs
  have hat := shufAll_at s.data.toList a xs (by simp; omega)
  have hL : s.data.toList.length = s.size := by simp
  rw [hL] at hat
  have HSP : Hid (∀ (W : World) (lo hi : Nat), Has W lo hi A xs → hi ≤ W.heap.size → Calls Try.prog 15 #[.agg #[.string s, .int .i64 a], .slice A xs.length c] W (Answers W s (shufAll s.data.toList a xs).1 ((shufAll s.data.toList a xs).2 : Nat) 0)) :=
    Lib.hid fun W lo hi h hh => (shuffle_yes s a c lo hi A xs W (by omega) (by omega) (by omega) h hh).mono fun _ _ h => by
      obtain ⟨A', c', he, hc, hp⟩ := h
      exact ⟨A', c', by rw [hlen]; exact he, by omega, hp⟩
  by_cases hshort : (shufAll s.data.toList a xs).2 + 1 < a + xs.length
  · exact walk_short s0 s ah bh a _ A c xs0 xs _ w hah hbh hft (by omega) (by omega) (by omega) (by omega) (by omega) (by omega) hshort HX0 HSP HF HCut
  · have hp : (shufAll s.data.toList a xs).2 = a + (xs.length - 1) := by omega
    have hps : (shufAll s.data.toList a xs).2 ≤ s.size := by omega
    generalize hpp : (shufAll s.data.toList a xs).2 = p at *
    have hM : (ah ++ s.extract a p ++ bh).data.toList.length = ah.size + (p - a) + bh.size := by
      rw [other_list, List.length_append, List.length_append, List.length_take, List.length_drop, hL]; simp; omega
    have hMs : (ah ++ s.extract a p ++ bh).size = ah.size + (p - a) + bh.size := by rw [ByteArray.size_append, ByteArray.size_append, ByteArray.size_extract]; omega
    have hsame : (shufAll s.data.toList a xs).1 = (shufAll (ah ++ s.extract a p ++ bh).data.toList ah.size xs).1 :=
      shuf_other _ _ _ _ _ _ (by rw [hL]; omega) (by rw [hM]; omega) fun i hi => other_at ah s bh a p i (by omega) hps
    have hlen2 := shufAll_len (ah ++ s.extract a p ++ bh).data.toList ah.size xs
    have hat2 := shufAll_at (ah ++ s.extract a p ++ bh).data.toList ah.size xs (by rw [hM]; omega)
    rw [hM] at hat2
    have HSQ : Hid (∀ (W : World) (lo hi : Nat), Has W lo hi A xs → hi ≤ W.heap.size → Calls Try.prog 15 #[.agg #[.string (ah ++ s.extract a p ++ bh), .int .i64 (ah.size : Nat)], .slice A xs.length c] W
        (Answers W (ah ++ s.extract a p ++ bh) (shufAll s.data.toList a xs).1 ((shufAll (ah ++ s.extract a p ++ bh).data.toList ah.size xs).2 : Nat) 0)) :=
      Lib.hid fun W lo hi h hh => (shuffle_yes (ah ++ s.extract a p ++ bh) ah.size c lo hi A xs W (by omega) (by omega) (by omega) h hh).mono fun _ _ h => by
        obtain ⟨A', c', he, hc, hp⟩ := h
        rw [hsame]
        exact ⟨A', c', by rw [hlen2]; exact he, by omega, hp⟩
    exact walk_same s0 s ah bh a p _ A c xs0 xs _ w hah hbh hft (by omega) (by omega) (by omega) (by omega) hps (by omega) (by omega) (by omega) HX0 HSP HSQ HF HCut

/-! ### the statement -/
theorem parOk : ∀ t ∈ (#[49] : Array TypeId).toList, Try.prog.readableRec t = true ∧ t < Try.prog.types.size := by
  have hall : ([49].all fun t => Try.prog.readableRec t && decide (t < Try.prog.types.size)) = true := by kernel_rfl
  intro t ht
  simpa using List.all_eq_true.1 hall t ht

/-- What the walk gives, for every argument within the form's reach. -/
theorem contract (H : Type) (enc : TypeId × Value → H) (W : World) (base : Nat) (args : Array Value) (ds gs : List (DataW H)) (before : List MemPlace)
    (hval : ∀ (j : Nat) t v, Try.f6.params[j]? = some t → args[j]? = some v → Value.okWide Try.prog W .any base t v)
    (hW : DataW.Whole enc Try.prog Try.f6.params.toList Rows.diceBehindSpec.vars false W args.toList ds gs before)
    (hsz : (DataW.weightsEach Try.prog (Try.f6.params.toList ++ Rows.diceBehindSpec.plain.varTypes Try.prog) (ds ++ gs)).all (· ≤ reachBytes) = true) :
    Calls Try.prog 6 args W fun e W' => ∃ v, e = .returned v ∧ Rows.diceBehindSpec.post enc Try.prog Try.f6 false true false false W args v W' := by
  have hW' := hW
  obtain ⟨p, q, hA0, hV, rfl, hfz, hnd⟩ := hW
  have hA : DataW.TrodAll enc Try.prog W 0 (fun _ => true) true Try.f6.params.toList args.toList ds p := hA0
  rw [Try.params6] at hA hval hsz
  obtain ⟨v0, vs0, d0, ds0, p0, q0, hargs, rfl, rfl, h0, r0⟩ := trodAll_cons hA
  obtain ⟨rfl, rfl, rfl⟩ := trodAll_nil r0
  obtain rfl : args = #[v0] := by cases args; simp_all
  obtain ⟨rfl, rfl⟩ := trodVars_none hV
  obtain ⟨s, ah, bh, a, A, c, xs, dd, dl, rfl, rfl, hs, hah, hbh, hxc, hcm, hx⟩ := open_behind (hval 0 49 v0 rfl rfl) h0
  have hr := reach_behind (dd := dd) (dl := dl) (ah := ah.data.toList) (bh := bh.data.toList) hsz
  have hr1 : ah.size ≤ 140737488351232 := by simpa [reachBytes] using hr.1
  have hr2 : bh.size ≤ 140737488351232 := by simpa [reachBytes] using hr.2
  clear hA0
  refine (run_walk s ah bh a A c xs W hs (by omega) (by omega) hxc hcm hx).mono fun e W' ⟨he, hb⟩ => ?_
  subst he
  exact ⟨_, rfl, law_post rfl (by rw [Try.params6]; exact parOk) rfl hW' rfl rfl rfl hb⟩

set_option maxRecDepth 100000 in
theorem lifted (os : Os) (started : os.Started) (H : Type) (enc : TypeId × Value → H) :
    ReturnsInHanded {} Try.checked os 6 .any (Rows.diceBehindSpec.pre6 enc Try.prog Try.f6 Rows.diceBehindRow.domain false) (Rows.diceBehindSpec.post enc Try.prog Try.f6 false true false false) := by
  refine returnsInHanded_of_change_sized (C := Try.checked) own started (by kernel_rfl) Try.func6
    (ChangeSpec.witness6 (enc := enc) (C := Try.checked) false ⟨#[], #[.agg #[.string ⟨#[]⟩, .int .i64 0, .string ⟨#[]⟩, .string ⟨#[]⟩, .slice none 0 0]], []⟩ 8 (by kernel_rfl) (by kernel_rfl) (by kernel_rfl) (by kernel_rfl)) ?_
  intro W base args ds gs before hval hW _ hsz _
  exact contract H enc W base args ds gs before hval hW hsz

/-- THE STATEMENT. -/
theorem said : Rows.DiceBehindSaid :=
  OpenClaim.holds_of_wide 6 Try.f6 rfl rfl rfl rfl rfl rfl rfl ⟨rfl, rfl, rfl, rfl, rfl⟩ rfl rfl rfl rfl rfl (by kernel_rfl) Try.func6 (by kernel_rfl)
    (of_decide_eq_true (by kernel_rfl)) (by unfold Func.isWrapper; first | (rw [if_pos (by decide +kernel)]; kernel_rfl) | (rw [if_neg (by decide +kernel)]; exact ⟨rfl, rfl⟩))
    (fun os started H enc _ => lifted os started H enc)
end Go.Proofs.Ytincniaekhiceaa.lawBehind
