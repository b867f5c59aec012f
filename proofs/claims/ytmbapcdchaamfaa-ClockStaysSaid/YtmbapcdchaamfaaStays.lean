/-
  THE LAW ClockStays: clocks that are near stay so with fewer beats, behind a later place, with a greater d, and with a smaller r.
  For every number of nodes, beats, d, r, and by how much more, and fewer, that may be handed in.
-/
import Derived.Test.YtmbapcdchaamfaaBox
namespace Go.Proofs.Ytmbapcdchaamfaa.lawStays
open Go.Sort Go.ChangeShapes Go.WideShapes Go.ChangeAt Go.RowKit Go.Joins Go.Proofs.Ytmbapcdchaamfaa.Pure

set_option maxRecDepth 100000 in
set_option maxHeartbeats 4000000 in
theorem wayFew (n d r node f t : Int) (A : Option Addr) (c : Nat) (l0 l : List Bt) (w : World) (more less : Int) (HF : Hid (∀ W : World, Calls Try.prog 9 #[.slice A l0.length c] W fun e w' => e = .returned (.slice A l.length c) ∧ W = w')) (HL : Hid (Lst w A l)) (hn : n < 1) :
    Calls Try.prog 6 #[.agg #[.int .i64 n, .slice A l0.length c, .int .i64 d, .int .i64 r, .int .i64 node, .int .i64 f, .int .i64 t], .int .u8 more, .int .u8 less] w fun e w' => e = .returned (.bool true) ∧ Below w.heap.size w w' := by
  have d1 : decide (n < 1) = true := by simpa using hn
  go_enter Try.func6, Try.ntmps6
  go_upto_region 1 with (fail)
  have BX0 := Lib.hid (Bx.new w n d r node f t A l0.length c 24)
  have HB0 : Hid (Below w.heap.size w (w.alloc (.cells #[.int .i64 n, .slice A l0.length c, .int .i64 d, .int .i64 r, .int .i64 node, .int .i64 f, .int .i64 t] 24))) := Lib.hid ((Below.refl _ _).alloc (Nat.le_refl _) _)
  have HL0 := Lib.hid (HL.out.alloc (.cells #[.int .i64 n, .slice A l0.length c, .int .i64 d, .int .i64 r, .int .i64 node, .int .i64 f, .int .i64 t] 24))
  generalize w.alloc (.cells #[.int .i64 n, .slice A l0.length c, .int .i64 d, .int .i64 r, .int .i64 node, .int .i64 f, .int .i64 t] 24) = w0 at *
  have hnb : w.heap.size < w0.heap.size := BX0.out.lt
  obtain ⟨c0, c1, c2, c3, c4, c5, c6⟩ := BX0.out
  go_wp2_with fail
  refine (HF.out _).mono ?_
  rintro e w1 ⟨rfl, rfl⟩
  go_wp2_with fail
  refine (awake_any _).mono ?_
  rintro e wE ⟨rfl, hbE⟩
  have HE : Hid (Below w.heap.size w wE) := Lib.hid (HB0.out.trans (hbE.mono HB0.out.size))
  clear hbE
  go_wp2_with fail
  go_ret
  exact ⟨rfl, HE.out⟩

set_option maxRecDepth 100000 in
set_option maxHeartbeats 4000000 in
theorem wayMany (n d r node f t : Int) (A : Option Addr) (c : Nat) (l0 l : List Bt) (w : World) (more less : Int) (HF : Hid (∀ W : World, Calls Try.prog 9 #[.slice A l0.length c] W fun e w' => e = .returned (.slice A l.length c) ∧ W = w')) (HL : Hid (Lst w A l)) (hn : 4 < n) :
    Calls Try.prog 6 #[.agg #[.int .i64 n, .slice A l0.length c, .int .i64 d, .int .i64 r, .int .i64 node, .int .i64 f, .int .i64 t], .int .u8 more, .int .u8 less] w fun e w' => e = .returned (.bool true) ∧ Below w.heap.size w w' := by
  have d1 : decide (n < 1) = false := by simp; omega
  have d2 : decide (4 < n) = true := by simpa using hn
  go_enter Try.func6, Try.ntmps6
  go_upto_region 1 with (fail)
  have BX0 := Lib.hid (Bx.new w n d r node f t A l0.length c 24)
  have HB0 : Hid (Below w.heap.size w (w.alloc (.cells #[.int .i64 n, .slice A l0.length c, .int .i64 d, .int .i64 r, .int .i64 node, .int .i64 f, .int .i64 t] 24))) := Lib.hid ((Below.refl _ _).alloc (Nat.le_refl _) _)
  have HL0 := Lib.hid (HL.out.alloc (.cells #[.int .i64 n, .slice A l0.length c, .int .i64 d, .int .i64 r, .int .i64 node, .int .i64 f, .int .i64 t] 24))
  generalize w.alloc (.cells #[.int .i64 n, .slice A l0.length c, .int .i64 d, .int .i64 r, .int .i64 node, .int .i64 f, .int .i64 t] 24) = w0 at *
  have hnb : w.heap.size < w0.heap.size := BX0.out.lt
  obtain ⟨c0, c1, c2, c3, c4, c5, c6⟩ := BX0.out
  go_wp2_with fail
  refine (HF.out _).mono ?_
  rintro e w1 ⟨rfl, rfl⟩
  go_wp2_with fail
  refine (awake_any _).mono ?_
  rintro e wE ⟨rfl, hbE⟩
  have HE : Hid (Below w.heap.size w wE) := Lib.hid (HB0.out.trans (hbE.mono HB0.out.size))
  clear hbE
  go_wp2_with fail
  go_ret
  exact ⟨rfl, HE.out⟩

set_option maxRecDepth 100000 in
set_option maxHeartbeats 4000000 in
theorem wayLong (n d r node f t : Int) (A : Option Addr) (c : Nat) (l0 l : List Bt) (w : World) (more less : Int) (HF : Hid (∀ W : World, Calls Try.prog 9 #[.slice A l0.length c] W fun e w' => e = .returned (.slice A l.length c) ∧ W = w')) (HL : Hid (Lst w A l)) (hn : 1 ≤ n ∧ n ≤ 4) (hl : l.length = 401) :
    Calls Try.prog 6 #[.agg #[.int .i64 n, .slice A l0.length c, .int .i64 d, .int .i64 r, .int .i64 node, .int .i64 f, .int .i64 t], .int .u8 more, .int .u8 less] w fun e w' => e = .returned (.bool true) ∧ Below w.heap.size w w' := by
  have d1 : decide (n < 1) = false := by simp; omega
  have d2 : decide (4 < n) = false := by simp; omega
  rw [hl] at HF
  go_enter Try.func6, Try.ntmps6
  go_upto_region 1 with (fail)
  have BX0 := Lib.hid (Bx.new w n d r node f t A l0.length c 24)
  have HB0 : Hid (Below w.heap.size w (w.alloc (.cells #[.int .i64 n, .slice A l0.length c, .int .i64 d, .int .i64 r, .int .i64 node, .int .i64 f, .int .i64 t] 24))) := Lib.hid ((Below.refl _ _).alloc (Nat.le_refl _) _)
  have HL0 := Lib.hid (HL.out.alloc (.cells #[.int .i64 n, .slice A l0.length c, .int .i64 d, .int .i64 r, .int .i64 node, .int .i64 f, .int .i64 t] 24))
  generalize w.alloc (.cells #[.int .i64 n, .slice A l0.length c, .int .i64 d, .int .i64 r, .int .i64 node, .int .i64 f, .int .i64 t] 24) = w0 at *
  have hnb : w.heap.size < w0.heap.size := BX0.out.lt
  obtain ⟨c0, c1, c2, c3, c4, c5, c6⟩ := BX0.out
  go_wp2_with fail
  refine (HF.out _).mono ?_
  rintro e w1 ⟨rfl, rfl⟩
  go_wp2_with fail
  refine (awake_any _).mono ?_
  rintro e wE ⟨rfl, hbE⟩
  have HE : Hid (Below w.heap.size w wE) := Lib.hid (HB0.out.trans (hbE.mono HB0.out.size))
  clear hbE
  go_wp2_with fail
  go_ret
  exact ⟨rfl, HE.out⟩

set_option maxRecDepth 100000 in
set_option maxHeartbeats 4000000 in
theorem wayBound (n d r node f t : Int) (A : Option Addr) (c : Nat) (l0 l : List Bt) (w : World) (more less : Int) (HF : Hid (∀ W : World, Calls Try.prog 9 #[.slice A l0.length c] W fun e w' => e = .returned (.slice A l.length c) ∧ W = w')) (HL : Hid (Lst w A l)) (hn : 1 ≤ n ∧ n ≤ 4) (hl : l.length ≤ 24) (hb : bound d r = false) :
    Calls Try.prog 6 #[.agg #[.int .i64 n, .slice A l0.length c, .int .i64 d, .int .i64 r, .int .i64 node, .int .i64 f, .int .i64 t], .int .u8 more, .int .u8 less] w fun e w' => e = .returned (.bool true) ∧ Below w.heap.size w w' := by
  have d1 : decide (n < 1) = false := by simp; omega
  have d2 : decide (4 < n) = false := by simp; omega
  have d3 : decide ((24 : Int) < (l.length : Int)) = false := by simp; omega
  have HBD := Lib.hid (fun W => bound_any d r W)
  rw [hb] at HBD
  clear hb
  go_enter Try.func6, Try.ntmps6
  go_upto_region 1 with (fail)
  have BX0 := Lib.hid (Bx.new w n d r node f t A l0.length c 24)
  have HB0 : Hid (Below w.heap.size w (w.alloc (.cells #[.int .i64 n, .slice A l0.length c, .int .i64 d, .int .i64 r, .int .i64 node, .int .i64 f, .int .i64 t] 24))) := Lib.hid ((Below.refl _ _).alloc (Nat.le_refl _) _)
  have HL0 := Lib.hid (HL.out.alloc (.cells #[.int .i64 n, .slice A l0.length c, .int .i64 d, .int .i64 r, .int .i64 node, .int .i64 f, .int .i64 t] 24))
  generalize w.alloc (.cells #[.int .i64 n, .slice A l0.length c, .int .i64 d, .int .i64 r, .int .i64 node, .int .i64 f, .int .i64 t] 24) = w0 at *
  have hnb : w.heap.size < w0.heap.size := BX0.out.lt
  obtain ⟨c0, c1, c2, c3, c4, c5, c6⟩ := BX0.out
  go_wp2_with fail
  refine (HF.out _).mono ?_
  rintro e w1 ⟨rfl, rfl⟩
  go_wp2_with fail
  refine (HBD.out _).mono ?_
  rintro e w1 ⟨rfl, rfl⟩
  go_wp2_with fail
  refine (awake_any _).mono ?_
  rintro e wE ⟨rfl, hbE⟩
  have HE : Hid (Below w.heap.size w wE) := Lib.hid (HB0.out.trans (hbE.mono HB0.out.size))
  clear hbE
  go_wp2_with fail
  go_ret
  exact ⟨rfl, HE.out⟩

set_option maxRecDepth 100000 in
set_option maxHeartbeats 4000000 in
theorem wayGreat (n d r node f t : Int) (A : Option Addr) (c : Nat) (l0 l : List Bt) (w : World) (more less : Int) (HF : Hid (∀ W : World, Calls Try.prog 9 #[.slice A l0.length c] W fun e w' => e = .returned (.slice A l.length c) ∧ W = w')) (HL : Hid (Lst w A l)) (hn : 1 ≤ n ∧ n ≤ 4) (hl : l.length ≤ 24) (hb : bound d r = true) (hd : 1073741824 < d) :
    Calls Try.prog 6 #[.agg #[.int .i64 n, .slice A l0.length c, .int .i64 d, .int .i64 r, .int .i64 node, .int .i64 f, .int .i64 t], .int .u8 more, .int .u8 less] w fun e w' => e = .returned (.bool true) ∧ Below w.heap.size w w' := by
  have d1 : decide (n < 1) = false := by simp; omega
  have d2 : decide (4 < n) = false := by simp; omega
  have d3 : decide ((24 : Int) < (l.length : Int)) = false := by simp; omega
  have d4 : decide (1073741824 < d) = true := by simpa using hd
  have HBD := Lib.hid (fun W => bound_any d r W)
  rw [hb] at HBD
  clear hb
  go_enter Try.func6, Try.ntmps6
  go_upto_region 1 with (fail)
  have BX0 := Lib.hid (Bx.new w n d r node f t A l0.length c 24)
  have HB0 : Hid (Below w.heap.size w (w.alloc (.cells #[.int .i64 n, .slice A l0.length c, .int .i64 d, .int .i64 r, .int .i64 node, .int .i64 f, .int .i64 t] 24))) := Lib.hid ((Below.refl _ _).alloc (Nat.le_refl _) _)
  have HL0 := Lib.hid (HL.out.alloc (.cells #[.int .i64 n, .slice A l0.length c, .int .i64 d, .int .i64 r, .int .i64 node, .int .i64 f, .int .i64 t] 24))
  generalize w.alloc (.cells #[.int .i64 n, .slice A l0.length c, .int .i64 d, .int .i64 r, .int .i64 node, .int .i64 f, .int .i64 t] 24) = w0 at *
  have hnb : w.heap.size < w0.heap.size := BX0.out.lt
  obtain ⟨c0, c1, c2, c3, c4, c5, c6⟩ := BX0.out
  go_wp2_with fail
  refine (HF.out _).mono ?_
  rintro e w1 ⟨rfl, rfl⟩
  go_wp2_with fail
  refine (HBD.out _).mono ?_
  rintro e w1 ⟨rfl, rfl⟩
  go_wp2_with fail
  refine (awake_any _).mono ?_
  rintro e wE ⟨rfl, hbE⟩
  have HE : Hid (Below w.heap.size w wE) := Lib.hid (HB0.out.trans (hbE.mono HB0.out.size))
  clear hbE
  go_wp2_with fail
  go_ret
  exact ⟨rfl, HE.out⟩

set_option maxRecDepth 100000 in
set_option maxHeartbeats 4000000 in
theorem wayNot (n d r node f t : Int) (A : Option Addr) (c : Nat) (l0 l : List Bt) (w : World) (more less : Int) (HF : Hid (∀ W : World, Calls Try.prog 9 #[.slice A l0.length c] W fun e w' => e = .returned (.slice A l.length c) ∧ W = w')) (HL : Hid (Lst w A l)) (hn : 1 ≤ n ∧ n ≤ 4) (hl : l.length ≤ 24) (hb : bound d r = true) (hd : d ≤ 1073741824) (HNE : Hid (∀ W : World, Lst W A l → Calls Try.prog 11 #[.int .i64 n, .slice A l.length c, .int .i64 d, .int .i64 r] W fun e w' => e = .returned (.tuple #[.bool false, .int .i64 1]) ∧ Below W.heap.size W w')) :
    Calls Try.prog 6 #[.agg #[.int .i64 n, .slice A l0.length c, .int .i64 d, .int .i64 r, .int .i64 node, .int .i64 f, .int .i64 t], .int .u8 more, .int .u8 less] w fun e w' => e = .returned (.bool true) ∧ Below w.heap.size w w' := by
  have d1 : decide (n < 1) = false := by simp; omega
  have d2 : decide (4 < n) = false := by simp; omega
  have d3 : decide ((24 : Int) < (l.length : Int)) = false := by simp; omega
  have d4 : decide (1073741824 < d) = false := by simp; omega
  have HBD := Lib.hid (fun W => bound_any d r W)
  rw [hb] at HBD
  clear hb
  go_enter Try.func6, Try.ntmps6
  go_upto_region 1 with (fail)
  have BX0 := Lib.hid (Bx.new w n d r node f t A l0.length c 24)
  have HB0 : Hid (Below w.heap.size w (w.alloc (.cells #[.int .i64 n, .slice A l0.length c, .int .i64 d, .int .i64 r, .int .i64 node, .int .i64 f, .int .i64 t] 24))) := Lib.hid ((Below.refl _ _).alloc (Nat.le_refl _) _)
  have HL0 := Lib.hid (HL.out.alloc (.cells #[.int .i64 n, .slice A l0.length c, .int .i64 d, .int .i64 r, .int .i64 node, .int .i64 f, .int .i64 t] 24))
  generalize w.alloc (.cells #[.int .i64 n, .slice A l0.length c, .int .i64 d, .int .i64 r, .int .i64 node, .int .i64 f, .int .i64 t] 24) = w0 at *
  have hnb : w.heap.size < w0.heap.size := BX0.out.lt
  obtain ⟨c0, c1, c2, c3, c4, c5, c6⟩ := BX0.out
  go_wp2_with fail
  refine (HF.out _).mono ?_
  rintro e w1 ⟨rfl, rfl⟩
  go_wp2_with fail
  refine (HBD.out _).mono ?_
  rintro e w1 ⟨rfl, rfl⟩
  go_wp2_with fail
  refine (HNE.out _ HL0.out).mono ?_
  rintro e w1 ⟨rfl, hb1⟩
  have HB1 : Hid (Below w.heap.size w w1) := Lib.hid (HB0.out.trans (hb1.mono HB0.out.size))
  have BX1 := Lib.hid (BX0.out.on hb1)
  have HL1 := Lib.hid (HL0.out.on hb1)
  clear hb1 c0 c1 c2 c3 c4 c5 c6 BX0 HL0
  obtain ⟨c0, c1, c2, c3, c4, c5, c6⟩ := BX1.out
  go_wp2_with fail
  refine (awake_any _).mono ?_
  rintro e wE ⟨rfl, hbE⟩
  have HE : Hid (Below w.heap.size w wE) := Lib.hid (HB1.out.trans (hbE.mono HB1.out.size))
  clear hbE
  go_wp2_with fail
  go_ret
  exact ⟨rfl, HE.out⟩

set_option maxRecDepth 100000 in
set_option maxHeartbeats 4000000 in
theorem wayFar (n d r node f t : Int) (A : Option Addr) (c : Nat) (l0 l : List Bt) (w : World) (more less : Int) (HF : Hid (∀ W : World, Calls Try.prog 9 #[.slice A l0.length c] W fun e w' => e = .returned (.slice A l.length c) ∧ W = w')) (HL : Hid (Lst w A l)) (hn : 1 ≤ n ∧ n ≤ 4) (hl : l.length ≤ 24) (hb : bound d r = true) (hd : d ≤ 1073741824) (HNE : Hid (∀ W : World, Lst W A l → Calls Try.prog 11 #[.int .i64 n, .slice A l.length c, .int .i64 d, .int .i64 r] W fun e w' => e = .returned (.tuple #[.bool false, .int .i64 0]) ∧ Below W.heap.size W w')) :
    Calls Try.prog 6 #[.agg #[.int .i64 n, .slice A l0.length c, .int .i64 d, .int .i64 r, .int .i64 node, .int .i64 f, .int .i64 t], .int .u8 more, .int .u8 less] w fun e w' => e = .returned (.bool true) ∧ Below w.heap.size w w' := by
  have d1 : decide (n < 1) = false := by simp; omega
  have d2 : decide (4 < n) = false := by simp; omega
  have d3 : decide ((24 : Int) < (l.length : Int)) = false := by simp; omega
  have d4 : decide (1073741824 < d) = false := by simp; omega
  have HBD := Lib.hid (fun W => bound_any d r W)
  rw [hb] at HBD
  clear hb
  go_enter Try.func6, Try.ntmps6
  go_upto_region 1 with (fail)
  have BX0 := Lib.hid (Bx.new w n d r node f t A l0.length c 24)
  have HB0 : Hid (Below w.heap.size w (w.alloc (.cells #[.int .i64 n, .slice A l0.length c, .int .i64 d, .int .i64 r, .int .i64 node, .int .i64 f, .int .i64 t] 24))) := Lib.hid ((Below.refl _ _).alloc (Nat.le_refl _) _)
  have HL0 := Lib.hid (HL.out.alloc (.cells #[.int .i64 n, .slice A l0.length c, .int .i64 d, .int .i64 r, .int .i64 node, .int .i64 f, .int .i64 t] 24))
  generalize w.alloc (.cells #[.int .i64 n, .slice A l0.length c, .int .i64 d, .int .i64 r, .int .i64 node, .int .i64 f, .int .i64 t] 24) = w0 at *
  have hnb : w.heap.size < w0.heap.size := BX0.out.lt
  obtain ⟨c0, c1, c2, c3, c4, c5, c6⟩ := BX0.out
  go_wp2_with fail
  refine (HF.out _).mono ?_
  rintro e w1 ⟨rfl, rfl⟩
  go_wp2_with fail
  refine (HBD.out _).mono ?_
  rintro e w1 ⟨rfl, rfl⟩
  go_wp2_with fail
  refine (HNE.out _ HL0.out).mono ?_
  rintro e w1 ⟨rfl, hb1⟩
  have HB1 : Hid (Below w.heap.size w w1) := Lib.hid (HB0.out.trans (hb1.mono HB0.out.size))
  have BX1 := Lib.hid (BX0.out.on hb1)
  have HL1 := Lib.hid (HL0.out.on hb1)
  clear hb1 c0 c1 c2 c3 c4 c5 c6 BX0 HL0
  obtain ⟨c0, c1, c2, c3, c4, c5, c6⟩ := BX1.out
  go_wp2_with fail
  refine (awake_any _).mono ?_
  rintro e wE ⟨rfl, hbE⟩
  have HE : Hid (Below w.heap.size w wE) := Lib.hid (HB1.out.trans (hbE.mono HB1.out.size))
  clear hbE
  go_wp2_with fail
  go_ret
  exact ⟨rfl, HE.out⟩

set_option maxRecDepth 100000 in
set_option maxHeartbeats 8000000 in
theorem wayMain (N more less : Nat) (d r node f t : Int) (A : Option Addr) (c : Nat) (l0 l : List Bt) (w : World) (HF : Hid (∀ W : World, Calls Try.prog 9 #[.slice A l0.length c] W fun e w' => e = .returned (.slice A l.length c) ∧ W = w')) (HL : Hid (Lst w A l)) (hcl : l.length ≤ c) (hcm : c ≤ maxLen) (hn : N ≤ 4) (hl : l.length ≤ 24) (hm1 : more ≤ 255) (hl1 : less ≤ 255)
    (hm : mayB N l = true) (hb : bound d r = true) (hd : d ≤ 1073741824) (hnear : nearB N l d r l.length = true) :
    Calls Try.prog 6 #[.agg #[.int .i64 N, .slice A l0.length c, .int .i64 d, .int .i64 r, .int .i64 node, .int .i64 f, .int .i64 t], .int .u8 (more : Int), .int .u8 (less : Int)] w fun e w' => e = .returned (.bool true) ∧ Below w.heap.size w w' := by
  have hM := (mayB_iff _ l).1 hm
  have hok := hM.2.2.2
  have hN1 : 1 ≤ N := by have := hM.1; omega
  have hbd : 0 ≤ d ∧ d ≤ 1099511627776 ∧ 1 ≤ r ∧ r ≤ 1099511627776 := by unfold bound at hb; simpa using hb
  have d1 : decide ((N : Int) < 1) = false := by simp; omega
  have d2 : decide ((4 : Int) < (N : Int)) = false := by simp; omega
  have d3 : decide ((24 : Int) < (l.length : Int)) = false := by simp; omega
  have d4 : decide (1073741824 < d) = false := by simp; omega
  have HBD := Lib.hid (fun W => bound_any d r W)
  rw [hb] at HBD
  have hnb := (nearB_iff N l d r l.length).1 hnear
  have HN1 : Hid (∀ W : World, Lst W A l → Calls Try.prog 11 #[.int .i64 N, .slice A l.length c, .int .i64 d, .int .i64 r] W fun e w' => e = .returned (.tuple #[.bool true, .int .i64 0]) ∧ Below W.heap.size W w') := Lib.hid (fun W h => near_yes A c N d r l W h hm hb true hnear)
  -- fewer beats
  obtain ⟨k, hk⟩ : ∃ k, k = less % (l.length + 1) := ⟨_, rfl⟩
  have hk2 := Nat.mod_lt less (show 0 < l.length + 1 by omega)
  have hkl : k ≤ l.length := by omega
  have hkt : (l.take k).length = k := by rw [List.length_take]; omega
  have HN2 : Hid (∀ W : World, Lst W A l → Calls Try.prog 11 #[.int .i64 N, .slice A k c, .int .i64 d, .int .i64 r] W fun e w' => e = .returned (.tuple #[.bool true, .int .i64 0]) ∧ Below W.heap.size W w') := Lib.hid (fun W h => by
    have := near_yes A c N d r (l.take k) W (h.take k) ((mayB_iff _ _).2 (hM.take k)) hb true (by rw [hkt, nearB_take N l d r k k (Nat.le_refl _)]; exact nearB_less hkl hnear)
    rwa [hkt] at this)
  -- a greater d
  have HN3 : Hid (∀ W : World, Lst W A l → Calls Try.prog 11 #[.int .i64 N, .slice A l.length c, .int .i64 (d + (more : Int)), .int .i64 r] W fun e w' => e = .returned (.tuple #[.bool true, .int .i64 0]) ∧ Below W.heap.size W w') := Lib.hid (fun W h => near_yes A c N (d + more) r l W h hm (by unfold bound; simp; omega) true ((nearB_iff _ _ _ _ _).2 fun a b h1 h2 => okFT_wider _ (by omega) (hnb a b h1 h2)))
  -- a smaller r
  obtain ⟨rm, hrm⟩ : ∃ rm : Int, rm = r % (1 + (more : Int)) := ⟨_, rfl⟩
  have hrm0 : 0 ≤ rm := by rw [hrm]; exact Int.emod_nonneg _ (by omega)
  have hrm1 : rm < 1 + (more : Int) := by rw [hrm]; exact Int.emod_lt_of_pos _ (by omega)
  obtain ⟨L4, hL4⟩ : ∃ L, nearB N l d (1 + rm) l.length = L := ⟨_, rfl⟩
  have HLL : Hid (1 + rm ≤ r → L4 = true) := Lib.hid (fun h => by
    rw [← hL4, nearB_iff]
    exact fun a b h1 h2 => okFT_rarer h1 (fun j hj => hok j (by omega)) (by omega) h (hnb a b h1 h2))
  have HN4 : Hid (∀ W : World, Lst W A l → Calls Try.prog 11 #[.int .i64 N, .slice A l.length c, .int .i64 d, .int .i64 (1 + rm)] W fun e w' => e = .returned (.tuple #[.bool L4, .int .i64 0]) ∧ Below W.heap.size W w') := Lib.hid (fun W h => near_yes A c N d (1 + rm) l W h hm (by unfold bound; simp; omega) L4 hL4)
  have hcm' : c ≤ 9223372036854775807 := by unfold maxLen at hcm; exact hcm
  have u1 : IntKind.i64.wrap (less : Int) = (less : Int) := IntWalk.i64_in _ (by omega)
  have u2 : IntKind.i64.wrap ((l.length : Int) + 1) = (l.length : Int) + 1 := IntWalk.i64_in _ (by omega)
  have u3 : Int.tmod (less : Int) ((l.length : Int) + 1) = (k : Int) := by
    rw [Int.tmod_eq_emod_of_nonneg (by omega), hk, Int.natCast_emod]
    rfl
  have u4 : ¬ ((l.length : Int) + 1 = 0) := by omega
  have u5 : IntKind.i64.wrap (more : Int) = (more : Int) := IntWalk.i64_in _ (by omega)
  have u6 : IntKind.i64.wrap (1 + (more : Int)) = 1 + (more : Int) := IntWalk.i64_in _ (by omega)
  have u7 : Int.tmod r (1 + (more : Int)) = rm := by rw [Int.tmod_eq_emod_of_nonneg (by omega), hrm]
  have u8' : ¬ (1 + (more : Int) = 0) := by omega
  have u9 : IntKind.i64.wrap (1 + rm) = 1 + rm := IntWalk.i64_in _ (by omega)
  have k0 : (0 : Int) ≤ (k : Int) := by omega
  have k1 : (k : Int) ≤ (c : Int) := by omega
  clear hm hok hb hM hnear hnb hk hk2 hkt hrm hL4 hcm
  go_enter Try.func6, Try.ntmps6
  go_upto_region 1 with (fail)
  have BX0 := Lib.hid (Bx.new w N d r node f t A l0.length c 24)
  have HB0 : Hid (Below w.heap.size w (w.alloc (.cells #[.int .i64 N, .slice A l0.length c, .int .i64 d, .int .i64 r, .int .i64 node, .int .i64 f, .int .i64 t] 24))) := Lib.hid ((Below.refl _ _).alloc (Nat.le_refl _) _)
  have HL0 := Lib.hid (HL.out.alloc (.cells #[.int .i64 N, .slice A l0.length c, .int .i64 d, .int .i64 r, .int .i64 node, .int .i64 f, .int .i64 t] 24))
  generalize w.alloc (.cells #[.int .i64 N, .slice A l0.length c, .int .i64 d, .int .i64 r, .int .i64 node, .int .i64 f, .int .i64 t] 24) = w0 at *
  have hnb : w.heap.size < w0.heap.size := BX0.out.lt
  obtain ⟨c0, c1, c2, c3, c4, c5, c6⟩ := BX0.out
  go_wp2_with fail
  refine (HF.out _).mono ?_
  rintro e w1 ⟨rfl, rfl⟩
  go_wp2_with fail
  refine (HBD.out _).mono ?_
  rintro e w1 ⟨rfl, rfl⟩
  go_wp2_with fail
  refine (HN1.out _ HL0.out).mono ?_
  rintro e w1 ⟨rfl, hb1⟩
  have HB1 : Hid (Below w.heap.size w w1) := Lib.hid (HB0.out.trans (hb1.mono HB0.out.size))
  have BX1 := Lib.hid (BX0.out.on hb1)
  have HL1 := Lib.hid (HL0.out.on hb1)
  clear hb1 c0 c1 c2 c3 c4 c5 c6 BX0 HL0
  obtain ⟨c0, c1, c2, c3, c4, c5, c6⟩ := BX1.out
  go_upto_region 7 with (fail)
  have C0 := fun d os => cell_regrown c0 d os
  have C2 := fun d os => cell_regrown c2 d os
  have C3 := fun d os => cell_regrown c3 d os
  have HR2 := Lib.hid (fun p : Regrown => HN2.out _ (HL1.out.on (below_regrown w1 p.d p.os)))
  refine q_enter (by kernel_rfl) (by kernel_rfl) ?_
  iterate 20 (refine q_step ?_; intro K hK; go_simp; first | (refine hK _ ?_; clear hK K) | (refine ⟨_, fun p => Calls.regrown_of (by with_reducible exact HR2.out p), hK _ ?_⟩; clear hK K))
  refine q_nil ?_
  intro w2 hb2
  clear C0 C2 C3 HR2
  have HB2 : Hid (Below w.heap.size w w2) := Lib.hid (HB1.out.trans (hb2.mono HB1.out.size))
  have BX2 := Lib.hid (BX1.out.on hb2)
  have HL2 := Lib.hid (HL1.out.on hb2)
  clear hb2 c0 c1 c2 c3 c4 c5 c6 BX1 HL1
  obtain ⟨c0, c1, c2, c3, c4, c5, c6⟩ := BX2.out
  go_wp2_with fail
  refine (HN3.out _ HL2.out).mono ?_
  rintro e w3 ⟨rfl, hb3⟩
  have HB3 : Hid (Below w.heap.size w w3) := Lib.hid (HB2.out.trans (hb3.mono HB2.out.size))
  have BX3 := Lib.hid (BX2.out.on hb3)
  have HL3 := Lib.hid (HL2.out.on hb3)
  clear hb3 c0 c1 c2 c3 c4 c5 c6 BX2 HL2
  obtain ⟨c0, c1, c2, c3, c4, c5, c6⟩ := BX3.out
  go_upto_region 9 with (fail)
  have C0 := fun d os => cell_regrown c0 d os
  have C2 := fun d os => cell_regrown c2 d os
  have C3 := fun d os => cell_regrown c3 d os
  have HR4 := Lib.hid (fun p : Regrown => HN4.out _ (HL3.out.on (below_regrown w3 p.d p.os)))
  refine q_enter (by kernel_rfl) (by kernel_rfl) ?_
  iterate 18 (refine q_step ?_; intro K hK; go_simp; first | (refine hK _ ?_; clear hK K) | (refine ⟨_, fun p => Calls.regrown_of (by with_reducible exact HR4.out p), hK _ ?_⟩; clear hK K))
  refine q_nil ?_
  intro w4 hb4
  clear C0 C2 C3 HR4
  have HB4 : Hid (Below w.heap.size w w4) := Lib.hid (HB3.out.trans (hb4.mono HB3.out.size))
  have BX4 := Lib.hid (BX3.out.on hb4)
  have HL4 := Lib.hid (HL3.out.on hb4)
  clear hb4 c0 c1 c2 c3 c4 c5 c6 BX3 HL3
  obtain ⟨c0, c1, c2, c3, c4, c5, c6⟩ := BX4.out
  go_upto_region 10 with (fail)
  by_cases hrr : 1 + rm ≤ r
  · have d5 : decide (r < 1 + rm) = false := by simp; omega
    have hL := HLL.out hrr
    subst hL
    have C3 := fun d os => cell_regrown c3 d os
    refine q_enter (by kernel_rfl) (by kernel_rfl) ?_
    iterate 10 (refine q_step ?_; intro K hK; go_simp; refine hK _ ?_; clear hK K)
    refine q_nil ?_
    intro w5 hb5
    clear C3
    have HB5 : Hid (Below w.heap.size w w5) := Lib.hid (HB4.out.trans (hb5.mono HB4.out.size))
    have BX5 := Lib.hid (BX4.out.on hb5)
    have HL5 := Lib.hid (HL4.out.on hb5)
    clear hb5 c0 c1 c2 c3 c4 c5 c6 BX4 HL4
    obtain ⟨c0, c1, c2, c3, c4, c5, c6⟩ := BX5.out
    go_wp2_with fail
    refine (awake_any _).mono ?_
    rintro e wE ⟨rfl, hbE⟩
    have HE : Hid (Below w.heap.size w wE) := Lib.hid (HB5.out.trans (hbE.mono HB5.out.size))
    clear hbE
    go_wp2_with fail
    go_ret
    exact ⟨rfl, HE.out⟩
  · have d5 : decide (r < 1 + rm) = true := by simp; omega
    have C3 := fun d os => cell_regrown c3 d os
    refine q_enter (by kernel_rfl) (by kernel_rfl) ?_
    iterate 10 (refine q_step ?_; intro K hK; go_simp; refine hK _ ?_; clear hK K)
    refine q_nil ?_
    intro w5 hb5
    clear C3
    have HB5 : Hid (Below w.heap.size w w5) := Lib.hid (HB4.out.trans (hb5.mono HB4.out.size))
    have BX5 := Lib.hid (BX4.out.on hb5)
    have HL5 := Lib.hid (HL4.out.on hb5)
    clear hb5 c0 c1 c2 c3 c4 c5 c6 BX4 HL4
    obtain ⟨c0, c1, c2, c3, c4, c5, c6⟩ := BX5.out
    go_wp2_with fail
    refine (awake_any _).mono ?_
    rintro e wE ⟨rfl, hbE⟩
    have HE : Hid (Below w.heap.size w wE) := Lib.hid (HB5.out.trans (hbE.mono HB5.out.size))
    clear hbE
    go_wp2_with fail
    go_ret
    exact ⟨rfl, HE.out⟩

theorem run_walk (n d r node f t : Int) (A : Option Addr) (c : Nat) (l0 : List Bt) (more less : Int) (w : World) (hc : l0.length ≤ c) (hm : c ≤ maxLen) (hl : Lst w A l0) (hmore : 0 ≤ more ∧ more ≤ 255) (hless : 0 ≤ less ∧ less ≤ 255) :
    Calls Try.prog 6 #[askV n d r node f t A l0.length c, .int .u8 more, .int .u8 less] w fun e w' => e = .returned (.bool true) ∧ Below w.heap.size w w' := by
  have HF := Lib.hid (few_any A c l0 w hc hm hl)
  have HL := Lib.hid hl.cut
  have hlen := cutL_len l0
  have hle : (cutL l0).length ≤ c := by
    have : (cutL l0).length ≤ l0.length := by
      unfold cutL
      split
      · rw [List.length_take]; omega
      · split
        · rw [List.length_take]; omega
        · omega
    omega
  generalize cutL l0 = l at *
  by_cases h1 : n < 1
  · exact wayFew n d r node f t A c l0 l w more less HF HL h1
  by_cases h2 : 4 < n
  · exact wayMany n d r node f t A c l0 l w more less HF HL h2
  have hn : 1 ≤ n ∧ n ≤ 4 := by omega
  rcases hlen with hlen | hlen
  · rcases hb : bound d r with _ | _
    · exact wayBound n d r node f t A c l0 l w more less HF HL hn hlen hb
    · by_cases hd : 1073741824 < d
      · exact wayGreat n d r node f t A c l0 l w more less HF HL hn hlen hb hd
      · rcases hmay : mayB n l with _ | _
        · exact wayNot n d r node f t A c l0 l w more less HF HL hn hlen hb (by omega) (Lib.hid fun W h => near_bad A c n d r l W (by omega) h (.inl hmay))
        · obtain ⟨N, rfl⟩ := Int.eq_ofNat_of_zero_le (show 0 ≤ n by omega)
          rcases hnear : nearB N l d r l.length with _ | _
          · exact wayFar N d r node f t A c l0 l w more less HF HL hn hlen hb (by omega) (Lib.hid fun W h => near_yes A c N d r l W h hmay hb false hnear)
          · obtain ⟨mo, rfl⟩ := Int.eq_ofNat_of_zero_le hmore.1
            obtain ⟨le, rfl⟩ := Int.eq_ofNat_of_zero_le hless.1
            exact wayMain N mo le d r node f t A c l0 l w HF HL hle hm (by omega) hlen (by omega) (by omega) hmay hb (by omega) hnear
  · exact wayLong n d r node f t A c l0 l w more less HF HL hn hlen

/-! ### the statement -/
theorem parOk : ∀ t ∈ (#[24, 5, 5] : Array TypeId).toList, Try.prog.readableRec t = true ∧ t < Try.prog.types.size := by
  have hall : ([24, 5, 5].all fun t => Try.prog.readableRec t && decide (t < Try.prog.types.size)) = true := by kernel_rfl
  intro t ht
  simpa using List.all_eq_true.1 hall t ht

/-- What the walk gives, for every argument. -/
theorem contract (H : Type) (enc : TypeId × Value → H) (W : World) (base : Nat) (args : Array Value) (ds gs : List (DataW H)) (before : List MemPlace)
    (hval : ∀ (j : Nat) t v, Try.f6.params[j]? = some t → args[j]? = some v → Value.okWide Try.prog W .any base t v)
    (hW : DataW.Whole enc Try.prog Try.f6.params.toList Rows.clockStaysSpec.vars false W args.toList ds gs before) :
    Calls Try.prog 6 args W fun e W' => ∃ v, e = .returned v ∧ Rows.clockStaysSpec.post enc Try.prog Try.f6 false true false false W args v W' := by
  have hW' := hW
  obtain ⟨p, q, hA0, hV, rfl, hfz, hnd⟩ := hW
  have hA : DataW.TrodAll enc Try.prog W 0 (fun _ => true) true Try.f6.params.toList args.toList ds p := hA0
  rw [Try.params6] at hA hval
  obtain ⟨v0, vs0, d0, ds0, p0, q0, hargs, rfl, rfl, h0, r0⟩ := trodAll_cons hA
  obtain ⟨v1, vs1, d1, ds1, p1, q1, rfl, rfl, rfl, h1, r1⟩ := trodAll_cons r0
  obtain ⟨v2, vs2, d2, ds2, p2, q2, rfl, rfl, rfl, h2, r2⟩ := trodAll_cons r1
  obtain ⟨rfl, rfl, rfl⟩ := trodAll_nil r2
  obtain rfl : args = #[v0, v1, v2] := by cases args; simp_all
  obtain ⟨rfl, rfl⟩ := trodVars_none hV
  obtain ⟨n, dd, r, node, f, t, A, c, xs, rfl, hc, hm, hl, _, _, _, _, _, _⟩ := open_ask (hval 0 24 v0 rfl rfl) h0
  obtain ⟨mo, rfl, rfl, rfl, wmo⟩ := open_int Try.underlying5 (hval 1 5 v1 rfl rfl) h1
  obtain ⟨le, rfl, rfl, rfl, wle⟩ := open_int Try.underlying5 (hval 2 5 v2 rfl rfl) h2
  clear hA0
  refine (run_walk n dd r node f t A c xs mo le W hc hm hl (u8_of_wf wmo) (u8_of_wf wle)).mono fun e W' ⟨he, hb⟩ => ?_
  subst he
  exact ⟨_, rfl, law_post rfl (by rw [Try.params6]; exact parOk) rfl hW' rfl rfl rfl hb⟩

set_option maxRecDepth 100000 in
theorem lifted (os : Os) (started : os.Started) (H : Type) (enc : TypeId × Value → H) :
    ReturnsInHanded {} Try.checked os 6 .any (Rows.clockStaysSpec.pre6 enc Try.prog Try.f6 Rows.clockStaysRow.domain false) (Rows.clockStaysSpec.post enc Try.prog Try.f6 false true false false) := by
  refine returnsInHanded_of_change (C := Try.checked) own started (by kernel_rfl) Try.func6
    (ChangeSpec.witness6 (enc := enc) (C := Try.checked) false ⟨#[], #[.agg #[.int .i64 0, .slice none 0 0, .int .i64 0, .int .i64 0, .int .i64 0, .int .i64 0, .int .i64 0], .int .u8 0, .int .u8 0], []⟩ 8 (by kernel_rfl) (by kernel_rfl) (by kernel_rfl) (by kernel_rfl)) ?_
  intro W base args ds gs before hval hW _ _
  exact contract H enc W base args ds gs before hval hW

/-- THE STATEMENT. -/
theorem said : Rows.ClockStaysSaid :=
  OpenClaim.holds_of_wide 6 Try.f6 rfl rfl rfl rfl rfl rfl rfl ⟨rfl, rfl, rfl, rfl, rfl⟩ rfl rfl rfl rfl rfl (by kernel_rfl) Try.func6 (by kernel_rfl)
    (of_decide_eq_true (by kernel_rfl)) (by unfold Func.isWrapper; first | (rw [if_pos (by decide +kernel)]; kernel_rfl) | (rw [if_neg (by decide +kernel)]; exact ⟨rfl, rfl⟩))
    (fun os started H enc _ => lifted os started H enc)
end Go.Proofs.Ytmbapcdchaamfaa.lawStays
