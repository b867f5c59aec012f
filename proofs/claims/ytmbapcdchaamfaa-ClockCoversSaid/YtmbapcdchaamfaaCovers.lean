/-
  THE LAW ClockCovers: if clocks are near: while a node has had fewer ticks than a term's guard since some place, each other one that is up since then has had fewer than the term.
  For every number of nodes, beats, d, r, and term that may be handed in.
-/
import Derived.Test.YtmbapcdchaamfaaBox
namespace Go.Proofs.Ytmbapcdchaamfaa.lawCovers
open Go.Sort Go.ChangeShapes Go.WideShapes Go.ChangeAt Go.RowKit Go.Joins Go.Proofs.Ytmbapcdchaamfaa.Pure

set_option maxRecDepth 100000 in
set_option maxHeartbeats 4000000 in
theorem wayFew (n d r node f t : Int) (A : Option Addr) (c : Nat) (l0 l : List Bt) (w : World) (tm : Int) (HF : Hid (∀ W : World, Calls Try.prog 9 #[.slice A l0.length c] W fun e w' => e = .returned (.slice A l.length c) ∧ W = w')) (HL : Hid (Lst w A l)) (hn : n < 1) :
    Calls Try.prog 5 #[.agg #[.int .i64 n, .slice A l0.length c, .int .i64 d, .int .i64 r, .int .i64 node, .int .i64 f, .int .i64 t], .int .u8 tm] w fun e w' => e = .returned (.bool true) ∧ Below w.heap.size w w' := by
  have d1 : decide (n < 1) = true := by simpa using hn
  go_enter Try.func5, Try.ntmps5
  go_upto_region 1 with (fail)
  have BX0 := Lib.hid (Bx.new w n d r node f t A l0.length c 24)
  have HB0 : Hid (Below w.heap.size w (w.alloc (.cells #[.int .i64 n, .slice A l0.length c, .int .i64 d, .int .i64 r, .int .i64 node, .int .i64 f, .int .i64 t] 24))) := Lib.hid ((Below.refl _ _).alloc (Nat.le_refl _) _)
  have HL0 := Lib.hid (HL.out.alloc (.cells #[.int .i64 n, .slice A l0.length c, .int .i64 d, .int .i64 r, .int .i64 node, .int .i64 f, .int .i64 t] 24))
  generalize w.alloc (.cells #[.int .i64 n, .slice A l0.length c, .int .i64 d, .int .i64 r, .int .i64 node, .int .i64 f, .int .i64 t] 24) = w0 at *
  have hnb : w.heap.size < w0.heap.size := BX0.out.lt
  obtain ⟨c0, c1, c2, c3, c4, c5, c6⟩ := BX0.out
  go_wp2_with fail
  refine (HF.out _).mono ?_
  rintro e w1 ⟨rfl, rfl⟩
  go_wp2_with fail
  refine (awake_any _).mono ?_
  rintro e wE ⟨rfl, hbE⟩
  have HE : Hid (Below w.heap.size w wE) := Lib.hid (HB0.out.trans (hbE.mono HB0.out.size))
  clear hbE
  go_wp2_with fail
  go_ret
  exact ⟨rfl, HE.out⟩

set_option maxRecDepth 100000 in
set_option maxHeartbeats 4000000 in
theorem wayMany (n d r node f t : Int) (A : Option Addr) (c : Nat) (l0 l : List Bt) (w : World) (tm : Int) (HF : Hid (∀ W : World, Calls Try.prog 9 #[.slice A l0.length c] W fun e w' => e = .returned (.slice A l.length c) ∧ W = w')) (HL : Hid (Lst w A l)) (hn : 4 < n) :
    Calls Try.prog 5 #[.agg #[.int .i64 n, .slice A l0.length c, .int .i64 d, .int .i64 r, .int .i64 node, .int .i64 f, .int .i64 t], .int .u8 tm] w fun e w' => e = .returned (.bool true) ∧ Below w.heap.size w w' := by
  have d1 : decide (n < 1) = false := by simp; omega
  have d2 : decide (4 < n) = true := by simpa using hn
  go_enter Try.func5, Try.ntmps5
  go_upto_region 1 with (fail)
  have BX0 := Lib.hid (Bx.new w n d r node f t A l0.length c 24)
  have HB0 : Hid (Below w.heap.size w (w.alloc (.cells #[.int .i64 n, .slice A l0.length c, .int .i64 d, .int .i64 r, .int .i64 node, .int .i64 f, .int .i64 t] 24))) := Lib.hid ((Below.refl _ _).alloc (Nat.le_refl _) _)
  have HL0 := Lib.hid (HL.out.alloc (.cells #[.int .i64 n, .slice A l0.length c, .int .i64 d, .int .i64 r, .int .i64 node, .int .i64 f, .int .i64 t] 24))
  generalize w.alloc (.cells #[.int .i64 n, .slice A l0.length c, .int .i64 d, .int .i64 r, .int .i64 node, .int .i64 f, .int .i64 t] 24) = w0 at *
  have hnb : w.heap.size < w0.heap.size := BX0.out.lt
  obtain ⟨c0, c1, c2, c3, c4, c5, c6⟩ := BX0.out
  go_wp2_with fail
  refine (HF.out _).mono ?_
  rintro e w1 ⟨rfl, rfl⟩
  go_wp2_with fail
  refine (awake_any _).mono ?_
  rintro e wE ⟨rfl, hbE⟩
  have HE : Hid (Below w.heap.size w wE) := Lib.hid (HB0.out.trans (hbE.mono HB0.out.size))
  clear hbE
  go_wp2_with fail
  go_ret
  exact ⟨rfl, HE.out⟩

set_option maxRecDepth 100000 in
set_option maxHeartbeats 4000000 in
theorem wayLong (n d r node f t : Int) (A : Option Addr) (c : Nat) (l0 l : List Bt) (w : World) (tm : Int) (HF : Hid (∀ W : World, Calls Try.prog 9 #[.slice A l0.length c] W fun e w' => e = .returned (.slice A l.length c) ∧ W = w')) (HL : Hid (Lst w A l)) (hn : 1 ≤ n ∧ n ≤ 4) (hl : l.length = 401) :
    Calls Try.prog 5 #[.agg #[.int .i64 n, .slice A l0.length c, .int .i64 d, .int .i64 r, .int .i64 node, .int .i64 f, .int .i64 t], .int .u8 tm] w fun e w' => e = .returned (.bool true) ∧ Below w.heap.size w w' := by
  have d1 : decide (n < 1) = false := by simp; omega
  have d2 : decide (4 < n) = false := by simp; omega
  rw [hl] at HF
  go_enter Try.func5, Try.ntmps5
  go_upto_region 1 with (fail)
  have BX0 := Lib.hid (Bx.new w n d r node f t A l0.length c 24)
  have HB0 : Hid (Below w.heap.size w (w.alloc (.cells #[.int .i64 n, .slice A l0.length c, .int .i64 d, .int .i64 r, .int .i64 node, .int .i64 f, .int .i64 t] 24))) := Lib.hid ((Below.refl _ _).alloc (Nat.le_refl _) _)
  have HL0 := Lib.hid (HL.out.alloc (.cells #[.int .i64 n, .slice A l0.length c, .int .i64 d, .int .i64 r, .int .i64 node, .int .i64 f, .int .i64 t] 24))
  generalize w.alloc (.cells #[.int .i64 n, .slice A l0.length c, .int .i64 d, .int .i64 r, .int .i64 node, .int .i64 f, .int .i64 t] 24) = w0 at *
  have hnb : w.heap.size < w0.heap.size := BX0.out.lt
  obtain ⟨c0, c1, c2, c3, c4, c5, c6⟩ := BX0.out
  go_wp2_with fail
  refine (HF.out _).mono ?_
  rintro e w1 ⟨rfl, rfl⟩
  go_wp2_with fail
  refine (awake_any _).mono ?_
  rintro e wE ⟨rfl, hbE⟩
  have HE : Hid (Below w.heap.size w wE) := Lib.hid (HB0.out.trans (hbE.mono HB0.out.size))
  clear hbE
  go_wp2_with fail
  go_ret
  exact ⟨rfl, HE.out⟩

set_option maxRecDepth 100000 in
set_option maxHeartbeats 4000000 in
theorem wayNot (n d r node f t : Int) (A : Option Addr) (c : Nat) (l0 l : List Bt) (w : World) (tm : Int) (HF : Hid (∀ W : World, Calls Try.prog 9 #[.slice A l0.length c] W fun e w' => e = .returned (.slice A l.length c) ∧ W = w')) (HL : Hid (Lst w A l)) (hn : 1 ≤ n ∧ n ≤ 4) (hl : l.length ≤ 24) (htm : 0 ≤ tm ∧ tm ≤ 255) (HNE : Hid (∀ W : World, Lst W A l → Calls Try.prog 11 #[.int .i64 n, .slice A l.length c, .int .i64 d, .int .i64 r] W fun e w' => e = .returned (.tuple #[.bool false, .int .i64 1]) ∧ Below W.heap.size W w')) (HGU : Hid (∀ W : World, Calls Try.prog 19 #[.int .i64 tm, .int .i64 d, .int .i64 r] W fun e w' => ∃ g eg : Int, e = .returned (.tuple #[.int .i64 g, .int .i64 eg]) ∧ Below W.heap.size W w')) :
    Calls Try.prog 5 #[.agg #[.int .i64 n, .slice A l0.length c, .int .i64 d, .int .i64 r, .int .i64 node, .int .i64 f, .int .i64 t], .int .u8 tm] w fun e w' => e = .returned (.bool true) ∧ Below w.heap.size w w' := by
  have d1 : decide (n < 1) = false := by simp; omega
  have d2 : decide (4 < n) = false := by simp; omega
  have d3 : decide ((24 : Int) < (l.length : Int)) = false := by simp; omega
  have u1 : IntKind.i64.wrap tm = tm := IntWalk.i64_in _ (by omega)
  go_enter Try.func5, Try.ntmps5
  go_upto_region 1 with (fail)
  have BX0 := Lib.hid (Bx.new w n d r node f t A l0.length c 24)
  have HB0 : Hid (Below w.heap.size w (w.alloc (.cells #[.int .i64 n, .slice A l0.length c, .int .i64 d, .int .i64 r, .int .i64 node, .int .i64 f, .int .i64 t] 24))) := Lib.hid ((Below.refl _ _).alloc (Nat.le_refl _) _)
  have HL0 := Lib.hid (HL.out.alloc (.cells #[.int .i64 n, .slice A l0.length c, .int .i64 d, .int .i64 r, .int .i64 node, .int .i64 f, .int .i64 t] 24))
  generalize w.alloc (.cells #[.int .i64 n, .slice A l0.length c, .int .i64 d, .int .i64 r, .int .i64 node, .int .i64 f, .int .i64 t] 24) = w0 at *
  have hnb : w.heap.size < w0.heap.size := BX0.out.lt
  obtain ⟨c0, c1, c2, c3, c4, c5, c6⟩ := BX0.out
  go_wp2_with fail
  refine (HF.out _).mono ?_
  rintro e w1 ⟨rfl, rfl⟩
  go_wp2_with fail
  refine (HNE.out _ HL0.out).mono ?_
  rintro e w1 ⟨rfl, hb1⟩
  have HB1 : Hid (Below w.heap.size w w1) := Lib.hid (HB0.out.trans (hb1.mono HB0.out.size))
  have BX1 := Lib.hid (BX0.out.on hb1)
  have HL1 := Lib.hid (HL0.out.on hb1)
  clear hb1 c0 c1 c2 c3 c4 c5 c6 BX0 HL0
  obtain ⟨c0, c1, c2, c3, c4, c5, c6⟩ := BX1.out
  go_wp2_with fail
  refine (HGU.out _).mono ?_
  rintro e w2 ⟨g, eg, rfl, hb2⟩
  have HB2 : Hid (Below w.heap.size w w2) := Lib.hid (HB1.out.trans (hb2.mono HB1.out.size))
  have BX2 := Lib.hid (BX1.out.on hb2)
  have HL2 := Lib.hid (HL1.out.on hb2)
  clear hb2 c0 c1 c2 c3 c4 c5 c6 BX1 HL1
  obtain ⟨c0, c1, c2, c3, c4, c5, c6⟩ := BX2.out
  go_wp2_with fail
  refine (awake_any _).mono ?_
  rintro e wE ⟨rfl, hbE⟩
  have HE : Hid (Below w.heap.size w wE) := Lib.hid (HB2.out.trans (hbE.mono HB2.out.size))
  clear hbE
  go_wp2_with fail
  go_ret
  exact ⟨rfl, HE.out⟩

set_option maxRecDepth 100000 in
set_option maxHeartbeats 4000000 in
theorem wayFar (n d r node f t : Int) (A : Option Addr) (c : Nat) (l0 l : List Bt) (w : World) (tm : Int) (HF : Hid (∀ W : World, Calls Try.prog 9 #[.slice A l0.length c] W fun e w' => e = .returned (.slice A l.length c) ∧ W = w')) (HL : Hid (Lst w A l)) (hn : 1 ≤ n ∧ n ≤ 4) (hl : l.length ≤ 24) (htm : 0 ≤ tm ∧ tm ≤ 255) (HNE : Hid (∀ W : World, Lst W A l → Calls Try.prog 11 #[.int .i64 n, .slice A l.length c, .int .i64 d, .int .i64 r] W fun e w' => e = .returned (.tuple #[.bool false, .int .i64 0]) ∧ Below W.heap.size W w')) (HGU : Hid (∀ W : World, Calls Try.prog 19 #[.int .i64 tm, .int .i64 d, .int .i64 r] W fun e w' => ∃ g : Int, e = .returned (.tuple #[.int .i64 g, .int .i64 0]) ∧ Below W.heap.size W w')) :
    Calls Try.prog 5 #[.agg #[.int .i64 n, .slice A l0.length c, .int .i64 d, .int .i64 r, .int .i64 node, .int .i64 f, .int .i64 t], .int .u8 tm] w fun e w' => e = .returned (.bool true) ∧ Below w.heap.size w w' := by
  have d1 : decide (n < 1) = false := by simp; omega
  have d2 : decide (4 < n) = false := by simp; omega
  have d3 : decide ((24 : Int) < (l.length : Int)) = false := by simp; omega
  have u1 : IntKind.i64.wrap tm = tm := IntWalk.i64_in _ (by omega)
  go_enter Try.func5, Try.ntmps5
  go_upto_region 1 with (fail)
  have BX0 := Lib.hid (Bx.new w n d r node f t A l0.length c 24)
  have HB0 : Hid (Below w.heap.size w (w.alloc (.cells #[.int .i64 n, .slice A l0.length c, .int .i64 d, .int .i64 r, .int .i64 node, .int .i64 f, .int .i64 t] 24))) := Lib.hid ((Below.refl _ _).alloc (Nat.le_refl _) _)
  have HL0 := Lib.hid (HL.out.alloc (.cells #[.int .i64 n, .slice A l0.length c, .int .i64 d, .int .i64 r, .int .i64 node, .int .i64 f, .int .i64 t] 24))
  generalize w.alloc (.cells #[.int .i64 n, .slice A l0.length c, .int .i64 d, .int .i64 r, .int .i64 node, .int .i64 f, .int .i64 t] 24) = w0 at *
  have hnb : w.heap.size < w0.heap.size := BX0.out.lt
  obtain ⟨c0, c1, c2, c3, c4, c5, c6⟩ := BX0.out
  go_wp2_with fail
  refine (HF.out _).mono ?_
  rintro e w1 ⟨rfl, rfl⟩
  go_wp2_with fail
  refine (HNE.out _ HL0.out).mono ?_
  rintro e w1 ⟨rfl, hb1⟩
  have HB1 : Hid (Below w.heap.size w w1) := Lib.hid (HB0.out.trans (hb1.mono HB0.out.size))
  have BX1 := Lib.hid (BX0.out.on hb1)
  have HL1 := Lib.hid (HL0.out.on hb1)
  clear hb1 c0 c1 c2 c3 c4 c5 c6 BX0 HL0
  obtain ⟨c0, c1, c2, c3, c4, c5, c6⟩ := BX1.out
  go_wp2_with fail
  refine (HGU.out _).mono ?_
  rintro e w2 ⟨g, rfl, hb2⟩
  have HB2 : Hid (Below w.heap.size w w2) := Lib.hid (HB1.out.trans (hb2.mono HB1.out.size))
  have BX2 := Lib.hid (BX1.out.on hb2)
  have HL2 := Lib.hid (HL1.out.on hb2)
  clear hb2 c0 c1 c2 c3 c4 c5 c6 BX1 HL1
  obtain ⟨c0, c1, c2, c3, c4, c5, c6⟩ := BX2.out
  go_wp2_with fail
  refine (awake_any _).mono ?_
  rintro e wE ⟨rfl, hbE⟩
  have HE : Hid (Below w.heap.size w wE) := Lib.hid (HB2.out.trans (hbE.mono HB2.out.size))
  clear hbE
  go_wp2_with fail
  go_ret
  exact ⟨rfl, HE.out⟩

set_option maxRecDepth 100000 in
set_option maxHeartbeats 8000000 in
theorem wayMain (N : Nat) (tm : Int) (d r node f t : Int) (A : Option Addr) (c : Nat) (l0 l : List Bt) (w : World) (HF : Hid (∀ W : World, Calls Try.prog 9 #[.slice A l0.length c] W fun e w' => e = .returned (.slice A l.length c) ∧ W = w')) (HL : Hid (Lst w A l)) (hn : N ≤ 4) (hl : l.length ≤ 24) (htm : 0 ≤ tm ∧ tm ≤ 255)
    (hm : mayB N l = true) (hb : bound d r = true) (hnear : nearB N l d r l.length = true) :
    Calls Try.prog 5 #[.agg #[.int .i64 N, .slice A l0.length c, .int .i64 d, .int .i64 r, .int .i64 node, .int .i64 f, .int .i64 t], .int .u8 tm] w fun e w' => e = .returned (.bool true) ∧ Below w.heap.size w w' := by
  have hM := (mayB_iff _ l).1 hm
  have hok := hM.2.2.2
  have hN1 : 1 ≤ N := by have := hM.1; omega
  have hbd : 0 ≤ d ∧ d ≤ 1099511627776 ∧ 1 ≤ r ∧ r ≤ 1099511627776 := by unfold bound at hb; simpa using hb
  have d1 : decide ((N : Int) < 1) = false := by simp; omega
  have d2 : decide ((4 : Int) < (N : Int)) = false := by simp; omega
  have d3 : decide ((24 : Int) < (l.length : Int)) = false := by simp; omega
  have u1 : IntKind.i64.wrap tm = tm := IntWalk.i64_in _ (by omega)
  have hnb := (nearB_iff N l d r l.length).1 hnear
  have HNE : Hid (∀ W : World, Lst W A l → Calls Try.prog 11 #[.int .i64 N, .slice A l.length c, .int .i64 d, .int .i64 r] W fun e w' => e = .returned (.tuple #[.bool true, .int .i64 0]) ∧ Below W.heap.size W w') := Lib.hid (fun W h => near_yes A c N d r l W h hm hb true hnear)
  have HGU := Lib.hid (fun W : World => guard_yes tm d r W (by omega) hb)
  have HTK := Lib.hid (fun (v p q : Nat) (W : World) (h : Lst W A l) (hv : v < N) (hp : p ≤ q) (hq : q ≤ l.length) => ticks_yes A c N v p q l W h hm hv hp hq)
  have HCV := Lib.hid (fun (g : Int) (hg : Guards g tm d r) (u v p q : Nat) (hu : u < N) (hv : v < N) (hp : p ≤ q) (hq : q ≤ l.length) (hut : tkB l u p q = true) (hvt : tkB l v p q = true) (hx : tkV l u p q < g) =>
    hg.covers hbd.2.2.1 (tkV_le hp (fun j hj => hok j (by omega)) hut).1 hx ((okFT_iff N l d r p q).1 (hnb p q hp hq) u v hu hv hut hvt))
  have HTV : Hid (∀ (v p q : Nat), ticksV l v p q = .tuple #[.int .i64 (if tkB l v p q then tkV l v p q else 0), .int .i64 (if tkB l v p q then 0 else 7)]) := Lib.hid (fun v p q => rfl)
  generalize hlm : l.length = m at *
  clear hm hok hb hM hnear hnb hbd
  go_enter Try.func5, Try.ntmps5
  go_upto_region 1 with (fail)
  have BX0 := Lib.hid (Bx.new w N d r node f t A l0.length c 24)
  have HB0 : Hid (Below w.heap.size w (w.alloc (.cells #[.int .i64 N, .slice A l0.length c, .int .i64 d, .int .i64 r, .int .i64 node, .int .i64 f, .int .i64 t] 24))) := Lib.hid ((Below.refl _ _).alloc (Nat.le_refl _) _)
  have HL0 := Lib.hid (HL.out.alloc (.cells #[.int .i64 N, .slice A l0.length c, .int .i64 d, .int .i64 r, .int .i64 node, .int .i64 f, .int .i64 t] 24))
  generalize w.alloc (.cells #[.int .i64 N, .slice A l0.length c, .int .i64 d, .int .i64 r, .int .i64 node, .int .i64 f, .int .i64 t] 24) = w0 at *
  have hnb : w.heap.size < w0.heap.size := BX0.out.lt
  obtain ⟨c0, c1, c2, c3, c4, c5, c6⟩ := BX0.out
  go_wp2_with fail
  refine (HF.out _).mono ?_
  rintro e w1 ⟨rfl, rfl⟩
  go_wp2_with fail
  refine (HNE.out _ HL0.out).mono ?_
  rintro e w1 ⟨rfl, hb1⟩
  have HB1 : Hid (Below w.heap.size w w1) := Lib.hid (HB0.out.trans (hb1.mono HB0.out.size))
  have BX1 := Lib.hid (BX0.out.on hb1)
  have HL1 := Lib.hid (HL0.out.on hb1)
  clear hb1 c0 c1 c2 c3 c4 c5 c6 BX0 HL0
  obtain ⟨c0, c1, c2, c3, c4, c5, c6⟩ := BX1.out
  go_wp2_with fail
  refine (HGU.out _).mono ?_
  rintro e w2 ⟨g, rfl, hg, hb2⟩
  have HCG := Lib.hid (HCV.out g hg)
  clear hg HCV
  have HB2 : Hid (Below w.heap.size w w2) := Lib.hid (HB1.out.trans (hb2.mono HB1.out.size))
  have BX2 := Lib.hid (BX1.out.on hb2)
  have HL2 := Lib.hid (HL1.out.on hb2)
  clear hb2 c0 c1 c2 c3 c4 c5 c6 BX1 HL1
  obtain ⟨c0, c1, c2, c3, c4, c5, c6⟩ := BX2.out
  clear c1 c2 c3 c4 c5 c6 HNE HGU HL HF
  go_wp2_with fail
  have hn1 : (1 : Int) ≤ (N : Int) := by omega
  clear d1 d2 d3
  go_loopw [10] (fun a wr => ∃ u : Nat, a = .int .i64 u ∧ u ≤ N ∧ Hid (Below w2.heap.size w2 wr)) (fun a _ => N - (intOf a).toNat)
  case atStart => exact ⟨0, rfl, Nat.zero_le _, Lib.hid (Below.refl _ _)⟩
  case round =>
    obtain ⟨u, rfl, hu, hba⟩ := hrel
    obtain ⟨wa, ewa⟩ : ∃ wa, wa = wr := ⟨_, rfl⟩
    subst ewa
    obtain ⟨a0, _⟩ := BX2.out.on hba.out
    clear c0
    by_cases hun : u < N
    · have e1 : decide ((u : Int) < (N : Int)) = true := by simp; omega
      go_wp2_with fail
      clear e1
      go_loopw [11] (fun b wr => ∃ v : Nat, b = .int .i64 v ∧ v ≤ N ∧ Hid (Below w2.heap.size w2 wr)) (fun b _ => N - (intOf b).toNat)
      case atStart => exact ⟨0, rfl, Nat.zero_le _, hba⟩
      case round =>
        obtain ⟨v, rfl, hv, hbb⟩ := hrel
        obtain ⟨wb, ewb⟩ : ∃ wb, wb = wr := ⟨_, rfl⟩
        subst ewb
        clear a0
        obtain ⟨b0, _⟩ := BX2.out.on hbb.out
        by_cases hvn : v < N
        · have e1 : decide ((v : Int) < (N : Int)) = true := by simp; omega
          go_wp2_with fail
          clear e1
          go_loopw [12] (fun b wr => ∃ p : Nat, b = .int .i64 p ∧ p ≤ m + 1 ∧ Hid (Below w2.heap.size w2 wr)) (fun b _ => m + 1 - (intOf b).toNat)
          case atStart => exact ⟨0, rfl, Nat.zero_le _, hbb⟩
          case round =>
            obtain ⟨p, rfl, hp, hbc⟩ := hrel
            obtain ⟨wc, ewc⟩ : ∃ wc, wc = wr := ⟨_, rfl⟩
            subst ewc
            clear b0
            obtain ⟨x0, _⟩ := BX2.out.on hbc.out
            by_cases hpm : p ≤ m
            · have e1 : decide ((p : Int) ≤ (m : Int)) = true := by simp; omega
              go_wp2_with fail
              clear e1
              go_loopw [13] (fun b wr => ∃ q : Nat, b = .int .i64 q ∧ p ≤ q ∧ q ≤ m + 1 ∧ Hid (Below w2.heap.size w2 wr)) (fun b _ => m + 1 - (intOf b).toNat)
              case atStart => exact ⟨p, rfl, Nat.le_refl _, by omega, hbc⟩
              case round =>
                obtain ⟨q, rfl, hpq, hq, hbd⟩ := hrel
                obtain ⟨wd, ewd⟩ : ∃ wd, wd = wr := ⟨_, rfl⟩
                subst ewd
                clear x0
                obtain ⟨y0, _⟩ := BX2.out.on hbd.out
                by_cases hqm : q ≤ m
                · have e1 : decide ((q : Int) ≤ (m : Int)) = true := by simp; omega
                  have HA := Lib.hid (HTK.out u p q wd (HL2.out.on hbd.out) hun hpq hqm)
                  have HBv := Lib.hid (fun W (hW : Below w2.heap.size w2 W) => HTK.out v p q W (HL2.out.on hW) hvn hpq hqm)
                  have HC := Lib.hid (HCG.out u v p q hun hvn hpq hqm)
                  rw [HTV.out] at HA HBv
                  generalize tkB l u p q = bu at *
                  generalize tkB l v p q = bv at *
                  generalize tkV l u p q = x at *
                  generalize tkV l v p q = y at *
                  have HW : Hid (bu = true ∧ bv = true ∧ x < g ∧ y < tm ∨ (bu = false ∧ bv = false) ∨ (bu = false ∧ bv = true) ∨ (bu = true ∧ bv = false) ∨ bu = true ∧ bv = true ∧ ¬ x < g) := Lib.hid (by
                    rcases bu with _ | _
                    · rcases bv with _ | _ <;> simp
                    · rcases bv with _ | _
                      · simp
                      · by_cases hx : x < g
                        · exact .inl ⟨rfl, rfl, hx, HC.out rfl rfl hx⟩
                        · exact .inr (.inr (.inr (.inr ⟨rfl, rfl, hx⟩))))
                  clear HC
                  by_cases huv : u = v
                  · have e4 : (u == v) = true := by simpa using huv
                    rcases HW.out with ⟨e2, e3, e5, e6⟩ | ⟨e2, e3⟩ | ⟨e2, e3⟩ | ⟨e2, e3⟩ | ⟨e2, e3, e5⟩
                    all_goals
                      clear HW
                      subst huv
                      subst e2 e3
                      go_wp2_with fail
                      refine HA.out.mono ?_
                      rintro e w5 ⟨rfl, hb5⟩
                      have HB5 : Hid (Below w2.heap.size w2 w5) := Lib.hid (hbd.out.trans (hb5.mono hbd.out.size))
                      have HB5' := Lib.hid (HBv.out w5 HB5.out)
                      clear hb5 y0 HA HBv
                      obtain ⟨y0, _⟩ := BX2.out.on HB5.out
                      go_wp2_with fail
                      refine HB5'.out.mono ?_
                      rintro e w6 ⟨rfl, hb6⟩
                      have HB6 : Hid (Below w2.heap.size w2 w6) := Lib.hid (HB5.out.trans (hb6.mono HB5.out.size))
                      clear hb6 y0 HB5'
                      obtain ⟨y0, _⟩ := BX2.out.on HB6.out
                      go_wp2_with fail
                      go_roundw
                      case rel => exact ⟨q + 1, by go_num, by omega, by omega, HB6⟩
                      case measure => simp [intOf]; omega
                  · have e4 : ((u : Int) == (v : Int)) = false := by simp; omega
                    rcases HW.out with ⟨e2, e3, e5, e6⟩ | ⟨e2, e3⟩ | ⟨e2, e3⟩ | ⟨e2, e3⟩ | ⟨e2, e3, e5⟩
                    · clear HW
                      have e7 : decide (x < g) = true := by simpa using e5
                      have e8 : decide (tm ≤ y) = false := by simp; omega
                      subst e2 e3
                      go_wp2_with fail
                      refine HA.out.mono ?_
                      rintro e w5 ⟨rfl, hb5⟩
                      have HB5 : Hid (Below w2.heap.size w2 w5) := Lib.hid (hbd.out.trans (hb5.mono hbd.out.size))
                      have HB5' := Lib.hid (HBv.out w5 HB5.out)
                      clear hb5 y0 HA HBv
                      obtain ⟨y0, _⟩ := BX2.out.on HB5.out
                      go_wp2_with fail
                      refine HB5'.out.mono ?_
                      rintro e w6 ⟨rfl, hb6⟩
                      have HB6 : Hid (Below w2.heap.size w2 w6) := Lib.hid (HB5.out.trans (hb6.mono HB5.out.size))
                      clear hb6 y0 HB5'
                      obtain ⟨y0, _⟩ := BX2.out.on HB6.out
                      go_wp2_with fail
                      go_roundw
                      case rel => exact ⟨q + 1, by go_num, by omega, by omega, HB6⟩
                      case measure => simp [intOf]; omega
                    · clear HW
                      subst e2 e3
                      go_wp2_with fail
                      refine HA.out.mono ?_
                      rintro e w5 ⟨rfl, hb5⟩
                      have HB5 : Hid (Below w2.heap.size w2 w5) := Lib.hid (hbd.out.trans (hb5.mono hbd.out.size))
                      have HB5' := Lib.hid (HBv.out w5 HB5.out)
                      clear hb5 y0 HA HBv
                      obtain ⟨y0, _⟩ := BX2.out.on HB5.out
                      go_wp2_with fail
                      refine HB5'.out.mono ?_
                      rintro e w6 ⟨rfl, hb6⟩
                      have HB6 : Hid (Below w2.heap.size w2 w6) := Lib.hid (HB5.out.trans (hb6.mono HB5.out.size))
                      clear hb6 y0 HB5'
                      obtain ⟨y0, _⟩ := BX2.out.on HB6.out
                      go_wp2_with fail
                      go_roundw
                      case rel => exact ⟨q + 1, by go_num, by omega, by omega, HB6⟩
                      case measure => simp [intOf]; omega
                    · clear HW
                      subst e2 e3
                      go_wp2_with fail
                      refine HA.out.mono ?_
                      rintro e w5 ⟨rfl, hb5⟩
                      have HB5 : Hid (Below w2.heap.size w2 w5) := Lib.hid (hbd.out.trans (hb5.mono hbd.out.size))
                      have HB5' := Lib.hid (HBv.out w5 HB5.out)
                      clear hb5 y0 HA HBv
                      obtain ⟨y0, _⟩ := BX2.out.on HB5.out
                      go_wp2_with fail
                      refine HB5'.out.mono ?_
                      rintro e w6 ⟨rfl, hb6⟩
                      have HB6 : Hid (Below w2.heap.size w2 w6) := Lib.hid (HB5.out.trans (hb6.mono HB5.out.size))
                      clear hb6 y0 HB5'
                      obtain ⟨y0, _⟩ := BX2.out.on HB6.out
                      go_wp2_with fail
                      go_roundw
                      case rel => exact ⟨q + 1, by go_num, by omega, by omega, HB6⟩
                      case measure => simp [intOf]; omega
                    · clear HW
                      subst e2 e3
                      go_wp2_with fail
                      refine HA.out.mono ?_
                      rintro e w5 ⟨rfl, hb5⟩
                      have HB5 : Hid (Below w2.heap.size w2 w5) := Lib.hid (hbd.out.trans (hb5.mono hbd.out.size))
                      have HB5' := Lib.hid (HBv.out w5 HB5.out)
                      clear hb5 y0 HA HBv
                      obtain ⟨y0, _⟩ := BX2.out.on HB5.out
                      go_wp2_with fail
                      refine HB5'.out.mono ?_
                      rintro e w6 ⟨rfl, hb6⟩
                      have HB6 : Hid (Below w2.heap.size w2 w6) := Lib.hid (HB5.out.trans (hb6.mono HB5.out.size))
                      clear hb6 y0 HB5'
                      obtain ⟨y0, _⟩ := BX2.out.on HB6.out
                      go_wp2_with fail
                      go_roundw
                      case rel => exact ⟨q + 1, by go_num, by omega, by omega, HB6⟩
                      case measure => simp [intOf]; omega
                    · clear HW
                      have e7 : decide (x < g) = false := by simpa using e5
                      subst e2 e3
                      go_wp2_with fail
                      refine HA.out.mono ?_
                      rintro e w5 ⟨rfl, hb5⟩
                      have HB5 : Hid (Below w2.heap.size w2 w5) := Lib.hid (hbd.out.trans (hb5.mono hbd.out.size))
                      have HB5' := Lib.hid (HBv.out w5 HB5.out)
                      clear hb5 y0 HA HBv
                      obtain ⟨y0, _⟩ := BX2.out.on HB5.out
                      go_wp2_with fail
                      refine HB5'.out.mono ?_
                      rintro e w6 ⟨rfl, hb6⟩
                      have HB6 : Hid (Below w2.heap.size w2 w6) := Lib.hid (HB5.out.trans (hb6.mono HB5.out.size))
                      clear hb6 y0 HB5'
                      obtain ⟨y0, _⟩ := BX2.out.on HB6.out
                      go_wp2_with fail
                      go_roundw
                      case rel => exact ⟨q + 1, by go_num, by omega, by omega, HB6⟩
                      case measure => simp [intOf]; omega
                · have e1 : decide ((q : Int) ≤ (m : Int)) = false := by simp; omega
                  go_wp2_with fail
                  go_roundw
                  case rel => exact ⟨p + 1, by go_num, by omega, hbd⟩
                  case measure => simp [intOf]; omega
            · have e1 : decide ((p : Int) ≤ (m : Int)) = false := by simp; omega
              go_wp2_with fail
              go_roundw
              case rel => exact ⟨v + 1, by go_num, by omega, hbc⟩
              case measure => simp [intOf]; omega
        · have e1 : decide ((v : Int) < (N : Int)) = false := by simp; omega
          go_wp2_with fail
          go_roundw
          case rel => exact ⟨u + 1, by go_num, by omega, hbb⟩
          case measure => simp [intOf]; omega
    · have e1 : decide ((u : Int) < (N : Int)) = false := by simp; omega
      go_wp2_with fail
      refine (awake_any _).mono ?_
      rintro e wE ⟨rfl, hbE⟩
      have HE : Hid (Below w.heap.size w wE) := Lib.hid (HB2.out.trans ((hba.out.trans (hbE.mono hba.out.size)).mono HB2.out.size))
      clear hbE
      go_wp2_with fail
      go_ret
      exact ⟨rfl, HE.out⟩

theorem run_walk (n d r node f t : Int) (A : Option Addr) (c : Nat) (l0 : List Bt) (tm : Int) (w : World) (hc : l0.length ≤ c) (hm : c ≤ maxLen) (hl : Lst w A l0) (htm : 0 ≤ tm ∧ tm ≤ 255) :
    Calls Try.prog 5 #[askV n d r node f t A l0.length c, .int .u8 tm] w fun e w' => e = .returned (.bool true) ∧ Below w.heap.size w w' := by
  have HF := Lib.hid (few_any A c l0 w hc hm hl)
  have HL := Lib.hid hl.cut
  have hlen := cutL_len l0
  generalize cutL l0 = l at *
  by_cases h1 : n < 1
  · exact wayFew n d r node f t A c l0 l w tm HF HL h1
  by_cases h2 : 4 < n
  · exact wayMany n d r node f t A c l0 l w tm HF HL h2
  have hn : 1 ≤ n ∧ n ≤ 4 := by omega
  have key : bound d r = true → ∀ W : World, Calls Try.prog 19 #[.int .i64 tm, .int .i64 d, .int .i64 r] W fun e w' => ∃ g : Int, e = .returned (.tuple #[.int .i64 g, .int .i64 0]) ∧ Below W.heap.size W w' :=
    fun hb W => (guard_yes tm d r W (by omega) hb).mono fun e w' ⟨g, he, _, hb⟩ => ⟨g, he, hb⟩
  have key2 : ∀ W : World, Calls Try.prog 19 #[.int .i64 tm, .int .i64 d, .int .i64 r] W fun e w' => ∃ g eg : Int, e = .returned (.tuple #[.int .i64 g, .int .i64 eg]) ∧ Below W.heap.size W w' := fun W => by
    rcases hb : bound d r with _ | _
    · exact (guard_bad tm d r W (.inr (.inr hb))).mono fun e w' ⟨he, hb⟩ => ⟨0, 1, he, hb⟩
    · exact (key hb W).mono fun e w' ⟨g, he, hb⟩ => ⟨g, 0, he, hb⟩
  rcases hlen with hlen | hlen
  · rcases hmay : mayB n l with _ | _
    · exact wayNot n d r node f t A c l0 l w tm HF HL hn hlen htm (Lib.hid fun W h => near_bad A c n d r l W (by omega) h (.inl hmay)) (Lib.hid key2)
    · rcases hb : bound d r with _ | _
      · exact wayNot n d r node f t A c l0 l w tm HF HL hn hlen htm (Lib.hid fun W h => near_bad A c n d r l W (by omega) h (.inr hb)) (Lib.hid key2)
      · obtain ⟨N, rfl⟩ := Int.eq_ofNat_of_zero_le (show 0 ≤ n by omega)
        rcases hnear : nearB N l d r l.length with _ | _
        · exact wayFar N d r node f t A c l0 l w tm HF HL hn hlen htm (Lib.hid fun W h => near_yes A c N d r l W h hmay hb false hnear) (Lib.hid (key hb))
        · exact wayMain N tm d r node f t A c l0 l w HF HL (by omega) hlen htm hmay hb hnear
  · exact wayLong n d r node f t A c l0 l w tm HF HL hn hlen

/-! ### the statement -/
theorem parOk : ∀ t ∈ (#[24, 5] : Array TypeId).toList, Try.prog.readableRec t = true ∧ t < Try.prog.types.size := by
  have hall : ([24, 5].all fun t => Try.prog.readableRec t && decide (t < Try.prog.types.size)) = true := by kernel_rfl
  intro t ht
  simpa using List.all_eq_true.1 hall t ht

/-- What the walk gives, for every argument. -/
theorem contract (H : Type) (enc : TypeId × Value → H) (W : World) (base : Nat) (args : Array Value) (ds gs : List (DataW H)) (before : List MemPlace)
    (hval : ∀ (j : Nat) t v, Try.f5.params[j]? = some t → args[j]? = some v → Value.okWide Try.prog W .any base t v)
    (hW : DataW.Whole enc Try.prog Try.f5.params.toList Rows.clockCoversSpec.vars false W args.toList ds gs before) :
    Calls Try.prog 5 args W fun e W' => ∃ v, e = .returned v ∧ Rows.clockCoversSpec.post enc Try.prog Try.f5 false true false false W args v W' := by
  have hW' := hW
  obtain ⟨p, q, hA0, hV, rfl, hfz, hnd⟩ := hW
  have hA : DataW.TrodAll enc Try.prog W 0 (fun _ => true) true Try.f5.params.toList args.toList ds p := hA0
  rw [Try.params5] at hA hval
  obtain ⟨v0, vs0, d0, ds0, p0, q0, hargs, rfl, rfl, h0, r0⟩ := trodAll_cons hA
  obtain ⟨v1, vs1, d1, ds1, p1, q1, rfl, rfl, rfl, h1, r1⟩ := trodAll_cons r0
  obtain ⟨rfl, rfl, rfl⟩ := trodAll_nil r1
  obtain rfl : args = #[v0, v1] := by cases args; simp_all
  obtain ⟨rfl, rfl⟩ := trodVars_none hV
  obtain ⟨n, dd, r, node, f, t, A, c, xs, rfl, hc, hm, hl, _, _, _, _, _, _⟩ := open_ask (hval 0 24 v0 rfl rfl) h0
  obtain ⟨tm, rfl, rfl, rfl, wtm⟩ := open_int Try.underlying5 (hval 1 5 v1 rfl rfl) h1
  clear hA0
  refine (run_walk n dd r node f t A c xs tm W hc hm hl (u8_of_wf wtm)).mono fun e W' ⟨he, hb⟩ => ?_
  subst he
  exact ⟨_, rfl, law_post rfl (by rw [Try.params5]; exact parOk) rfl hW' rfl rfl rfl hb⟩

set_option maxRecDepth 100000 in
theorem lifted (os : Os) (started : os.Started) (H : Type) (enc : TypeId × Value → H) :
    ReturnsInHanded {} Try.checked os 5 .any (Rows.clockCoversSpec.pre6 enc Try.prog Try.f5 Rows.clockCoversRow.domain false) (Rows.clockCoversSpec.post enc Try.prog Try.f5 false true false false) := by
  refine returnsInHanded_of_change (C := Try.checked) own started (by kernel_rfl) Try.func5
    (ChangeSpec.witness6 (enc := enc) (C := Try.checked) false ⟨#[], #[.agg #[.int .i64 0, .slice none 0 0, .int .i64 0, .int .i64 0, .int .i64 0, .int .i64 0, .int .i64 0], .int .u8 0], []⟩ 8 (by kernel_rfl) (by kernel_rfl) (by kernel_rfl) (by kernel_rfl)) ?_
  intro W base args ds gs before hval hW _ _
  exact contract H enc W base args ds gs before hval hW

/-- THE STATEMENT. -/
theorem said : Rows.ClockCoversSaid :=
  OpenClaim.holds_of_wide 5 Try.f5 rfl rfl rfl rfl rfl rfl rfl ⟨rfl, rfl, rfl, rfl, rfl⟩ rfl rfl rfl rfl rfl (by kernel_rfl) Try.func5 (by kernel_rfl)
    (of_decide_eq_true (by kernel_rfl)) (by unfold Func.isWrapper; first | (rw [if_pos (by decide +kernel)]; kernel_rfl) | (rw [if_neg (by decide +kernel)]; exact ⟨rfl, rfl⟩))
    (fun os started H enc _ => lifted os started H enc)
end Go.Proofs.Ytmbapcdchaamfaa.lawCovers
