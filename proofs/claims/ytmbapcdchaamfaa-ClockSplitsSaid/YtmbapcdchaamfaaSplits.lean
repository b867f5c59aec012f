/-
  THE LAW ClockSplits: a node's ticks from one place to a third one are those to a second one, and those from it, together; clocks are near by as many as all ticks that there are.
  For every number of nodes, beats, node and places that may be handed in.
-/
import Derived.Test.YtmbapcdchaamfaaBox
namespace Go.Proofs.Ytmbapcdchaamfaa.lawSplits
open Go.Sort Go.ChangeShapes Go.WideShapes Go.ChangeAt Go.RowKit Go.Joins Go.Proofs.Ytmbapcdchaamfaa.Pure

set_option maxRecDepth 100000 in
set_option maxHeartbeats 4000000 in
theorem wayMany (n d r node f t : Int) (A : Option Addr) (c : Nat) (l0 l : List Bt) (w : World) (mid : Int) (HF : Hid (∀ W : World, Calls Try.prog 9 #[.slice A l0.length c] W fun e w' => e = .returned (.slice A l.length c) ∧ W = w')) (HL : Hid (Lst w A l)) (hn : 4 < n) :
    Calls Try.prog 7 #[.agg #[.int .i64 n, .slice A l0.length c, .int .i64 d, .int .i64 r, .int .i64 node, .int .i64 f, .int .i64 t], .int .u8 mid] w fun e w' => e = .returned (.bool true) ∧ Below w.heap.size w w' := by
  have d1 : decide (4 < n) = true := by simpa using hn
  go_enter Try.func7, Try.ntmps7
  go_upto_region 1 with (fail)
  have BX0 := Lib.hid (Bx.new w n d r node f t A l0.length c 24)
  have HB0 : Hid (Below w.heap.size w (w.alloc (.cells #[.int .i64 n, .slice A l0.length c, .int .i64 d, .int .i64 r, .int .i64 node, .int .i64 f, .int .i64 t] 24))) := Lib.hid ((Below.refl _ _).alloc (Nat.le_refl _) _)
  have HL0 := Lib.hid (HL.out.alloc (.cells #[.int .i64 n, .slice A l0.length c, .int .i64 d, .int .i64 r, .int .i64 node, .int .i64 f, .int .i64 t] 24))
  generalize w.alloc (.cells #[.int .i64 n, .slice A l0.length c, .int .i64 d, .int .i64 r, .int .i64 node, .int .i64 f, .int .i64 t] 24) = w0 at *
  have hnb : w.heap.size < w0.heap.size := BX0.out.lt
  obtain ⟨c0, c1, c2, c3, c4, c5, c6⟩ := BX0.out
  go_wp2_with fail
  refine (HF.out _).mono ?_
  rintro e w1 ⟨rfl, rfl⟩
  go_wp2_with fail
  refine (awake_any _).mono ?_
  rintro e wE ⟨rfl, hbE⟩
  have HE : Hid (Below w.heap.size w wE) := Lib.hid (HB0.out.trans (hbE.mono HB0.out.size))
  clear hbE
  go_wp2_with fail
  go_ret
  exact ⟨rfl, HE.out⟩

set_option maxRecDepth 100000 in
set_option maxHeartbeats 4000000 in
theorem wayLong (n d r node f t : Int) (A : Option Addr) (c : Nat) (l0 l : List Bt) (w : World) (mid : Int) (HF : Hid (∀ W : World, Calls Try.prog 9 #[.slice A l0.length c] W fun e w' => e = .returned (.slice A l.length c) ∧ W = w')) (HL : Hid (Lst w A l)) (hn : n ≤ 4) (hl : l.length = 401) :
    Calls Try.prog 7 #[.agg #[.int .i64 n, .slice A l0.length c, .int .i64 d, .int .i64 r, .int .i64 node, .int .i64 f, .int .i64 t], .int .u8 mid] w fun e w' => e = .returned (.bool true) ∧ Below w.heap.size w w' := by
  have d1 : decide (4 < n) = false := by simp; omega
  rw [hl] at HF
  go_enter Try.func7, Try.ntmps7
  go_upto_region 1 with (fail)
  have BX0 := Lib.hid (Bx.new w n d r node f t A l0.length c 24)
  have HB0 : Hid (Below w.heap.size w (w.alloc (.cells #[.int .i64 n, .slice A l0.length c, .int .i64 d, .int .i64 r, .int .i64 node, .int .i64 f, .int .i64 t] 24))) := Lib.hid ((Below.refl _ _).alloc (Nat.le_refl _) _)
  have HL0 := Lib.hid (HL.out.alloc (.cells #[.int .i64 n, .slice A l0.length c, .int .i64 d, .int .i64 r, .int .i64 node, .int .i64 f, .int .i64 t] 24))
  generalize w.alloc (.cells #[.int .i64 n, .slice A l0.length c, .int .i64 d, .int .i64 r, .int .i64 node, .int .i64 f, .int .i64 t] 24) = w0 at *
  have hnb : w.heap.size < w0.heap.size := BX0.out.lt
  obtain ⟨c0, c1, c2, c3, c4, c5, c6⟩ := BX0.out
  go_wp2_with fail
  refine (HF.out _).mono ?_
  rintro e w1 ⟨rfl, rfl⟩
  go_wp2_with fail
  refine (awake_any _).mono ?_
  rintro e wE ⟨rfl, hbE⟩
  have HE : Hid (Below w.heap.size w wE) := Lib.hid (HB0.out.trans (hbE.mono HB0.out.size))
  clear hbE
  go_wp2_with fail
  go_ret
  exact ⟨rfl, HE.out⟩

set_option maxRecDepth 100000 in
set_option maxHeartbeats 4000000 in
theorem wayNot (n d r node f t : Int) (A : Option Addr) (c : Nat) (l0 l : List Bt) (w : World) (mid : Int) (HF : Hid (∀ W : World, Calls Try.prog 9 #[.slice A l0.length c] W fun e w' => e = .returned (.slice A l.length c) ∧ W = w')) (HL : Hid (Lst w A l)) (hn : n ≤ 4) (hl : l.length ≤ 24) (hmid : 0 ≤ mid ∧ mid ≤ 255) (hm : mayB n l = false) :
    Calls Try.prog 7 #[.agg #[.int .i64 n, .slice A l0.length c, .int .i64 d, .int .i64 r, .int .i64 node, .int .i64 f, .int .i64 t], .int .u8 mid] w fun e w' => e = .returned (.bool true) ∧ Below w.heap.size w w' := by
  have d1 : decide (4 < n) = false := by simp; omega
  have d2 : decide ((24 : Int) < (l.length : Int)) = false := by simp; omega
  have HTK := Lib.hid (fun (W : World) (h : Lst W A l) => ticks_may A c n node f t l W (by omega) h hm)
  have HNE : Hid (∀ W : World, Lst W A l → Calls Try.prog 11 #[.int .i64 n, .slice A l.length c, .int .i64 l.length, .int .i64 (1 + mid)] W fun e w' => e = .returned (.tuple #[.bool false, .int .i64 1]) ∧ Below W.heap.size W w') := Lib.hid (fun (W : World) (h : Lst W A l) => near_bad A c n l.length (1 + mid) l W (by omega) h (.inl hm))
  have HMY := Lib.hid (fun (W : World) (h : Lst W A l) => rmay_any A c n l W (by omega) h false hm)
  clear hm
  go_enter Try.func7, Try.ntmps7
  go_upto_region 1 with (fail)
  have BX0 := Lib.hid (Bx.new w n d r node f t A l0.length c 24)
  have HB0 : Hid (Below w.heap.size w (w.alloc (.cells #[.int .i64 n, .slice A l0.length c, .int .i64 d, .int .i64 r, .int .i64 node, .int .i64 f, .int .i64 t] 24))) := Lib.hid ((Below.refl _ _).alloc (Nat.le_refl _) _)
  have HL0 := Lib.hid (HL.out.alloc (.cells #[.int .i64 n, .slice A l0.length c, .int .i64 d, .int .i64 r, .int .i64 node, .int .i64 f, .int .i64 t] 24))
  generalize w.alloc (.cells #[.int .i64 n, .slice A l0.length c, .int .i64 d, .int .i64 r, .int .i64 node, .int .i64 f, .int .i64 t] 24) = w0 at *
  have hnb : w.heap.size < w0.heap.size := BX0.out.lt
  obtain ⟨c0, c1, c2, c3, c4, c5, c6⟩ := BX0.out
  go_wp2_with fail
  refine (HF.out _).mono ?_
  rintro e w1 ⟨rfl, rfl⟩
  go_wp2_with fail
  refine (HTK.out _ HL0.out).mono ?_
  rintro e w1 ⟨rfl, hb1⟩
  have HB1 : Hid (Below w.heap.size w w1) := Lib.hid (HB0.out.trans (hb1.mono HB0.out.size))
  have BX1 := Lib.hid (BX0.out.on hb1)
  have HL1 := Lib.hid (HL0.out.on hb1)
  clear hb1 c0 c1 c2 c3 c4 c5 c6 BX0 HL0
  obtain ⟨c0, c1, c2, c3, c4, c5, c6⟩ := BX1.out
  go_wp2_with fail
  refine (HNE.out _ HL1.out).mono ?_
  rintro e w2 ⟨rfl, hb2⟩
  have HB2 : Hid (Below w.heap.size w w2) := Lib.hid (HB1.out.trans (hb2.mono HB1.out.size))
  have BX2 := Lib.hid (BX1.out.on hb2)
  have HL2 := Lib.hid (HL1.out.on hb2)
  clear hb2 c0 c1 c2 c3 c4 c5 c6 BX1 HL1
  obtain ⟨c0, c1, c2, c3, c4, c5, c6⟩ := BX2.out
  go_wp2_with fail
  refine (HMY.out _ HL2.out).mono ?_
  rintro e w3 ⟨rfl, hb3⟩
  have HB3 : Hid (Below w.heap.size w w3) := Lib.hid (HB2.out.trans (hb3.mono HB2.out.size))
  have BX3 := Lib.hid (BX2.out.on hb3)
  have HL3 := Lib.hid (HL2.out.on hb3)
  clear hb3 c0 c1 c2 c3 c4 c5 c6 BX2 HL2
  obtain ⟨c0, c1, c2, c3, c4, c5, c6⟩ := BX3.out
  go_wp2_with fail
  refine (awake_any _).mono ?_
  rintro e wE ⟨rfl, hbE⟩
  have HE : Hid (Below w.heap.size w wE) := Lib.hid (HB3.out.trans (hbE.mono HB3.out.size))
  clear hbE
  go_wp2_with fail
  go_ret
  exact ⟨rfl, HE.out⟩

set_option maxRecDepth 100000 in
set_option maxHeartbeats 4000000 in
theorem wayNone (n d r node f t : Int) (A : Option Addr) (c : Nat) (l0 l : List Bt) (w : World) (mid : Int) (HF : Hid (∀ W : World, Calls Try.prog 9 #[.slice A l0.length c] W fun e w' => e = .returned (.slice A l.length c) ∧ W = w')) (HL : Hid (Lst w A l)) (er : Int) (her : er = 1 ∨ er = 7) (hn : n ≤ 4) (hl : l.length ≤ 24) (hmid : 0 ≤ mid ∧ mid ≤ 255) (hm : mayB n l = true) (HTK : Hid (∀ W : World, Lst W A l → Calls Try.prog 10 #[.int .i64 n, .slice A l.length c, .int .i64 node, .int .i64 f, .int .i64 t] W fun e w' => e = .returned (.tuple #[.int .i64 0, .int .i64 er]) ∧ Below W.heap.size W w')) :
    Calls Try.prog 7 #[.agg #[.int .i64 n, .slice A l0.length c, .int .i64 d, .int .i64 r, .int .i64 node, .int .i64 f, .int .i64 t], .int .u8 mid] w fun e w' => e = .returned (.bool true) ∧ Below w.heap.size w w' := by
  have d1 : decide (4 < n) = false := by simp; omega
  have d2 : decide ((24 : Int) < (l.length : Int)) = false := by simp; omega
  have d3 : (er == 0) = false := by rcases her with h | h <;> rw [h] <;> rfl
  clear her
  have HNE : Hid (∀ W : World, Lst W A l → Calls Try.prog 11 #[.int .i64 n, .slice A l.length c, .int .i64 l.length, .int .i64 (1 + mid)] W fun e w' => e = .returned (.tuple #[.bool true, .int .i64 0]) ∧ Below W.heap.size W w') := Lib.hid (fun (W : World) (h : Lst W A l) => by
    obtain ⟨N, rfl⟩ := Int.eq_ofNat_of_zero_le (show 0 ≤ n by have := ((mayB_iff n l).1 hm).1; omega)
    exact near_yes A c N l.length (1 + mid) l W h hm (by unfold bound; simp; omega) true (near_all (by omega) ((mayB_iff _ l).1 hm).2.2.2))
  have HMY := Lib.hid (fun (W : World) (h : Lst W A l) => rmay_any A c n l W (by omega) h true hm)
  clear hm
  go_enter Try.func7, Try.ntmps7
  go_upto_region 1 with (fail)
  have BX0 := Lib.hid (Bx.new w n d r node f t A l0.length c 24)
  have HB0 : Hid (Below w.heap.size w (w.alloc (.cells #[.int .i64 n, .slice A l0.length c, .int .i64 d, .int .i64 r, .int .i64 node, .int .i64 f, .int .i64 t] 24))) := Lib.hid ((Below.refl _ _).alloc (Nat.le_refl _) _)
  have HL0 := Lib.hid (HL.out.alloc (.cells #[.int .i64 n, .slice A l0.length c, .int .i64 d, .int .i64 r, .int .i64 node, .int .i64 f, .int .i64 t] 24))
  generalize w.alloc (.cells #[.int .i64 n, .slice A l0.length c, .int .i64 d, .int .i64 r, .int .i64 node, .int .i64 f, .int .i64 t] 24) = w0 at *
  have hnb : w.heap.size < w0.heap.size := BX0.out.lt
  obtain ⟨c0, c1, c2, c3, c4, c5, c6⟩ := BX0.out
  go_wp2_with fail
  refine (HF.out _).mono ?_
  rintro e w1 ⟨rfl, rfl⟩
  go_wp2_with fail
  refine (HTK.out _ HL0.out).mono ?_
  rintro e w1 ⟨rfl, hb1⟩
  have HB1 : Hid (Below w.heap.size w w1) := Lib.hid (HB0.out.trans (hb1.mono HB0.out.size))
  have BX1 := Lib.hid (BX0.out.on hb1)
  have HL1 := Lib.hid (HL0.out.on hb1)
  clear hb1 c0 c1 c2 c3 c4 c5 c6 BX0 HL0
  obtain ⟨c0, c1, c2, c3, c4, c5, c6⟩ := BX1.out
  go_wp2_with fail
  refine (HNE.out _ HL1.out).mono ?_
  rintro e w2 ⟨rfl, hb2⟩
  have HB2 : Hid (Below w.heap.size w w2) := Lib.hid (HB1.out.trans (hb2.mono HB1.out.size))
  have BX2 := Lib.hid (BX1.out.on hb2)
  have HL2 := Lib.hid (HL1.out.on hb2)
  clear hb2 c0 c1 c2 c3 c4 c5 c6 BX1 HL1
  obtain ⟨c0, c1, c2, c3, c4, c5, c6⟩ := BX2.out
  go_wp2_with fail
  refine (HMY.out _ HL2.out).mono ?_
  rintro e w3 ⟨rfl, hb3⟩
  have HB3 : Hid (Below w.heap.size w w3) := Lib.hid (HB2.out.trans (hb3.mono HB2.out.size))
  have BX3 := Lib.hid (BX2.out.on hb3)
  have HL3 := Lib.hid (HL2.out.on hb3)
  clear hb3 c0 c1 c2 c3 c4 c5 c6 BX2 HL2
  obtain ⟨c0, c1, c2, c3, c4, c5, c6⟩ := BX3.out
  go_wp2_with fail
  refine (awake_any _).mono ?_
  rintro e wE ⟨rfl, hbE⟩
  have HE : Hid (Below w.heap.size w wE) := Lib.hid (HB3.out.trans (hbE.mono HB3.out.size))
  clear hbE
  go_wp2_with fail
  go_ret
  exact ⟨rfl, HE.out⟩

set_option maxRecDepth 100000 in
set_option maxHeartbeats 4000000 in
theorem wayMain (N v p q mid : Nat) (d r : Int) (A : Option Addr) (c : Nat) (l0 l : List Bt) (w : World) (HF : Hid (∀ W : World, Calls Try.prog 9 #[.slice A l0.length c] W fun e w' => e = .returned (.slice A l.length c) ∧ W = w')) (HL : Hid (Lst w A l)) (hn : N ≤ 4) (hl : l.length ≤ 24) (hmid' : mid ≤ 255) (hm : mayB N l = true)
    (hv : v < N) (hp : p ≤ q) (hq : q ≤ l.length) (hB : tkB l v p q = true) :
    Calls Try.prog 7 #[.agg #[.int .i64 N, .slice A l0.length c, .int .i64 d, .int .i64 r, .int .i64 v, .int .i64 p, .int .i64 q], .int .u8 (mid : Int)] w fun e w' => e = .returned (.bool true) ∧ Below w.heap.size w w' := by
  have d1 : decide ((4 : Int) < (N : Int)) = false := by simp; omega
  have d2 : decide ((24 : Int) < (l.length : Int)) = false := by simp; omega
  have hmid : 0 ≤ (mid : Int) ∧ (mid : Int) ≤ 255 := by omega
  have HNE : Hid (∀ W : World, Lst W A l → Calls Try.prog 11 #[.int .i64 N, .slice A l.length c, .int .i64 l.length, .int .i64 (1 + (mid : Int))] W fun e w' => e = .returned (.tuple #[.bool true, .int .i64 0]) ∧ Below W.heap.size W w') := Lib.hid (fun (W : World) (h : Lst W A l) => by
    exact near_yes A c N l.length (1 + (mid : Int)) l W h hm (by unfold bound; simp; omega) true (near_all (by omega) ((mayB_iff _ l).1 hm).2.2.2))
  have HMY := Lib.hid (fun (W : World) (h : Lst W A l) => rmay_any A c N l W (by omega) h true hm)

  have hok := ((mayB_iff _ l).1 hm).2.2.2
  obtain ⟨M, hM⟩ : ∃ M : Nat, M = p + mid % (q - p + 1) := ⟨_, rfl⟩
  have hlt := Nat.mod_lt mid (show 0 < q - p + 1 by omega)
  have hM1 : p ≤ M := by omega
  have hM2 : M ≤ q := by omega
  obtain ⟨s1, s2, s3⟩ := tk_split (n := N) hM1 hM2 (fun j hj => hok j (by omega)) hB
  have hx := tkV_le (n := N) hp (fun j hj => hok j (by omega)) hB
  have hy := tkV_le (n := N) hM1 (fun j hj => hok j (by omega)) s1
  have hz := tkV_le (n := N) hM2 (fun j hj => hok j (by omega)) s2
  have HT1 : Hid (∀ W : World, Lst W A l → Calls Try.prog 10 #[.int .i64 N, .slice A l.length c, .int .i64 v, .int .i64 p, .int .i64 q] W fun e w' => e = .returned (.tuple #[.int .i64 (tkV l v p q), .int .i64 0]) ∧ Below W.heap.size W w') :=
    Lib.hid (fun W h => by
      have := ticks_yes A c N v p q l W h hm (by omega) hp hq
      unfold ticksV at this
      rw [hB] at this
      simpa using this)
  have HT2 : Hid (∀ W : World, Lst W A l → Calls Try.prog 10 #[.int .i64 N, .slice A l.length c, .int .i64 v, .int .i64 p, .int .i64 M] W fun e w' => e = .returned (.tuple #[.int .i64 (tkV l v p M), .int .i64 0]) ∧ Below W.heap.size W w') :=
    Lib.hid (fun W h => by
      have := ticks_yes A c N v p M l W h hm (by omega) hM1 (by omega)
      unfold ticksV at this
      rw [s1] at this
      simpa using this)
  have HT3 : Hid (∀ W : World, Lst W A l → Calls Try.prog 10 #[.int .i64 N, .slice A l.length c, .int .i64 v, .int .i64 M, .int .i64 q] W fun e w' => e = .returned (.tuple #[.int .i64 (tkV l v M q), .int .i64 0]) ∧ Below W.heap.size W w') :=
    Lib.hid (fun W h => by
      have := ticks_yes A c N v M q l W h hm (by omega) hM2 hq
      unfold ticksV at this
      rw [s2] at this
      simpa using this)
  generalize tkV l v p q = x at *
  generalize tkV l v p M = y at *
  generalize tkV l v M q = z at *
  have u1 : IntKind.i64.wrap (mid : Int) = (mid : Int) := IntWalk.i64_in _ (by omega)
  have u2 : IntKind.i64.wrap ((q : Int) - (p : Int)) = (q : Int) - (p : Int) := IntWalk.i64_in _ (by omega)
  have u3 : IntKind.i64.wrap ((q : Int) - (p : Int) + 1) = (q : Int) - (p : Int) + 1 := IntWalk.i64_in _ (by omega)
  have u4 : Int.tmod (mid : Int) ((q : Int) - (p : Int) + 1) = (mid % (q - p + 1) : Nat) := by
    rw [Int.tmod_eq_emod_of_nonneg (by omega)]
    rw [Int.natCast_emod]
    congr 1
    omega
  have u5 : IntKind.i64.wrap ((p : Int) + ((mid % (q - p + 1) : Nat) : Int)) = (M : Int) := by rw [IntWalk.i64_in _ (by omega)]; omega
  have u6 : ¬ ((q : Int) - (p : Int) + 1 = 0) := by omega
  generalize mid % (q - p + 1) = rm at *
  have S3 := Lib.hid s3
  clear hm hok hB s1 s2 s3 hM hlt
  go_enter Try.func7, Try.ntmps7
  go_upto_region 1 with (fail)
  have BX0 := Lib.hid (Bx.new w N d r v p q A l0.length c 24)
  have HB0 : Hid (Below w.heap.size w (w.alloc (.cells #[.int .i64 N, .slice A l0.length c, .int .i64 d, .int .i64 r, .int .i64 v, .int .i64 p, .int .i64 q] 24))) := Lib.hid ((Below.refl _ _).alloc (Nat.le_refl _) _)
  have HL0 := Lib.hid (HL.out.alloc (.cells #[.int .i64 N, .slice A l0.length c, .int .i64 d, .int .i64 r, .int .i64 v, .int .i64 p, .int .i64 q] 24))
  generalize w.alloc (.cells #[.int .i64 N, .slice A l0.length c, .int .i64 d, .int .i64 r, .int .i64 v, .int .i64 p, .int .i64 q] 24) = w0 at *
  have hnb : w.heap.size < w0.heap.size := BX0.out.lt
  obtain ⟨c0, c1, c2, c3, c4, c5, c6⟩ := BX0.out
  go_wp2_with fail
  refine (HF.out _).mono ?_
  rintro e w1 ⟨rfl, rfl⟩
  go_wp2_with fail
  refine (HT1.out _ HL0.out).mono ?_
  rintro e w1 ⟨rfl, hb1⟩
  have HB1 : Hid (Below w.heap.size w w1) := Lib.hid (HB0.out.trans (hb1.mono HB0.out.size))
  have BX1 := Lib.hid (BX0.out.on hb1)
  have HL1 := Lib.hid (HL0.out.on hb1)
  clear hb1 c0 c1 c2 c3 c4 c5 c6 BX0 HL0
  obtain ⟨c0, c1, c2, c3, c4, c5, c6⟩ := BX1.out
  go_upto_region 6 with (fail)
  have C5 := fun d os => cell_regrown c5 d os
  have C6 := fun d os => cell_regrown c6 d os
  refine q_enter (by kernel_rfl) (by kernel_rfl) ?_
  iterate 13 (refine q_step ?_; intro K hK; go_simp; refine hK _ ?_; clear hK K)
  refine q_nil ?_
  intro w2 hb2
  clear C5 C6 u1 u2 u3 u4 u5 u6
  have HB2 : Hid (Below w.heap.size w w2) := Lib.hid (HB1.out.trans (hb2.mono HB1.out.size))
  have BX2 := Lib.hid (BX1.out.on hb2)
  have HL2 := Lib.hid (HL1.out.on hb2)
  clear hb2 c0 c1 c2 c3 c4 c5 c6 BX1 HL1
  obtain ⟨c0, c1, c2, c3, c4, c5, c6⟩ := BX2.out
  go_wp2_with fail
  refine (HT2.out _ HL2.out).mono ?_
  rintro e w3 ⟨rfl, hb3⟩
  have HB3 : Hid (Below w.heap.size w w3) := Lib.hid (HB2.out.trans (hb3.mono HB2.out.size))
  have BX3 := Lib.hid (BX2.out.on hb3)
  have HL3 := Lib.hid (HL2.out.on hb3)
  clear hb3 c0 c1 c2 c3 c4 c5 c6 BX2 HL2
  obtain ⟨c0, c1, c2, c3, c4, c5, c6⟩ := BX3.out
  go_wp2_with fail
  refine (HT3.out _ HL3.out).mono ?_
  rintro e w4 ⟨rfl, hb4⟩
  have HB4 : Hid (Below w.heap.size w w4) := Lib.hid (HB3.out.trans (hb4.mono HB3.out.size))
  have BX4 := Lib.hid (BX3.out.on hb4)
  have HL4 := Lib.hid (HL3.out.on hb4)
  clear hb4 c0 c1 c2 c3 c4 c5 c6 BX3 HL3
  obtain ⟨c0, c1, c2, c3, c4, c5, c6⟩ := BX4.out
  have d5 : (x == y + z) = true := by rw [S3.out]; simp
  clear HT1 HT2 HT3
  go_wp2_with fail
  refine (HNE.out _ HL4.out).mono ?_
  rintro e w5 ⟨rfl, hb5⟩
  have HB5 : Hid (Below w.heap.size w w5) := Lib.hid (HB4.out.trans (hb5.mono HB4.out.size))
  have BX5 := Lib.hid (BX4.out.on hb5)
  have HL5 := Lib.hid (HL4.out.on hb5)
  clear hb5 c0 c1 c2 c3 c4 c5 c6 BX4 HL4
  obtain ⟨c0, c1, c2, c3, c4, c5, c6⟩ := BX5.out
  go_wp2_with fail
  refine (HMY.out _ HL5.out).mono ?_
  rintro e w6 ⟨rfl, hb6⟩
  have HB6 : Hid (Below w.heap.size w w6) := Lib.hid (HB5.out.trans (hb6.mono HB5.out.size))
  have BX6 := Lib.hid (BX5.out.on hb6)
  have HL6 := Lib.hid (HL5.out.on hb6)
  clear hb6 c0 c1 c2 c3 c4 c5 c6 BX5 HL5
  obtain ⟨c0, c1, c2, c3, c4, c5, c6⟩ := BX6.out
  go_wp2_with fail
  refine (awake_any _).mono ?_
  rintro e wE ⟨rfl, hbE⟩
  have HE : Hid (Below w.heap.size w wE) := Lib.hid (HB6.out.trans (hbE.mono HB6.out.size))
  clear hbE
  go_wp2_with fail
  go_ret
  exact ⟨rfl, HE.out⟩

theorem run_walk (n d r node f t : Int) (A : Option Addr) (c : Nat) (l0 : List Bt) (mid : Int) (w : World) (hc : l0.length ≤ c) (hm : c ≤ maxLen) (hl : Lst w A l0) (hmid : 0 ≤ mid ∧ mid ≤ 255) :
    Calls Try.prog 7 #[askV n d r node f t A l0.length c, .int .u8 mid] w fun e w' => e = .returned (.bool true) ∧ Below w.heap.size w w' := by
  have HF := Lib.hid (few_any A c l0 w hc hm hl)
  have HL := Lib.hid hl.cut
  have hlen := cutL_len l0
  generalize cutL l0 = l at *
  by_cases hn : 4 < n
  · exact wayMany n d r node f t A c l0 l w mid HF HL hn
  · rcases hlen with hlen | hlen
    · rcases hmay : mayB n l with _ | _
      · exact wayNot n d r node f t A c l0 l w mid HF HL (by omega) hlen hmid hmay
      · rcases hask : askB n node f t l.length with _ | _
        · exact wayNone n d r node f t A c l0 l w mid HF HL 1 (.inl rfl) (by omega) hlen hmid hmay (Lib.hid fun W h => ticks_ask A c n node f t l W (by omega) h hmay hask)
        · have ha := hask
          simp only [askB, Bool.and_eq_true, decide_eq_true_eq] at ha
          obtain ⟨⟨⟨⟨a1, a2⟩, a3⟩, a4⟩, a5⟩ := ha
          obtain ⟨N, rfl⟩ := Int.eq_ofNat_of_zero_le (show 0 ≤ n by omega)
          obtain ⟨v, rfl⟩ := Int.eq_ofNat_of_zero_le a1
          obtain ⟨p, rfl⟩ := Int.eq_ofNat_of_zero_le a3
          obtain ⟨q, rfl⟩ := Int.eq_ofNat_of_zero_le (show 0 ≤ t by omega)
          obtain ⟨m, rfl⟩ := Int.eq_ofNat_of_zero_le hmid.1
          rcases hB : tkB l v p q with _ | _
          · refine wayNone N d r v p q A c l0 l w m HF HL 7 (.inr rfl) (by omega) hlen hmid hmay (Lib.hid fun W h => ?_)
            have := ticks_yes A c N v p q l W h hmay (by omega) (by omega) (by omega)
            unfold ticksV at this
            rw [hB] at this
            simpa using this
          · exact wayMain N v p q m d r A c l0 l w HF HL (by omega) hlen (by omega) hmay (by omega) (by omega) (by omega) hB
    · exact wayLong n d r node f t A c l0 l w mid HF HL (by omega) hlen

/-! ### the statement -/
theorem parOk : ∀ t ∈ (#[24, 5] : Array TypeId).toList, Try.prog.readableRec t = true ∧ t < Try.prog.types.size := by
  have hall : ([24, 5].all fun t => Try.prog.readableRec t && decide (t < Try.prog.types.size)) = true := by kernel_rfl
  intro t ht
  simpa using List.all_eq_true.1 hall t ht

/-- What the walk gives, for every argument. -/
theorem contract (H : Type) (enc : TypeId × Value → H) (W : World) (base : Nat) (args : Array Value) (ds gs : List (DataW H)) (before : List MemPlace)
    (hval : ∀ (j : Nat) t v, Try.f7.params[j]? = some t → args[j]? = some v → Value.okWide Try.prog W .any base t v)
    (hW : DataW.Whole enc Try.prog Try.f7.params.toList Rows.clockSplitsSpec.vars false W args.toList ds gs before) :
    Calls Try.prog 7 args W fun e W' => ∃ v, e = .returned v ∧ Rows.clockSplitsSpec.post enc Try.prog Try.f7 false true false false W args v W' := by
  have hW' := hW
  obtain ⟨p, q, hA0, hV, rfl, hfz, hnd⟩ := hW
  have hA : DataW.TrodAll enc Try.prog W 0 (fun _ => true) true Try.f7.params.toList args.toList ds p := hA0
  rw [Try.params7] at hA hval
  obtain ⟨v0, vs0, d0, ds0, p0, q0, hargs, rfl, rfl, h0, r0⟩ := trodAll_cons hA
  obtain ⟨v1, vs1, d1, ds1, p1, q1, rfl, rfl, rfl, h1, r1⟩ := trodAll_cons r0
  obtain ⟨rfl, rfl, rfl⟩ := trodAll_nil r1
  obtain rfl : args = #[v0, v1] := by cases args; simp_all
  obtain ⟨rfl, rfl⟩ := trodVars_none hV
  obtain ⟨n, dd, r, node, f, t, A, c, xs, rfl, hc, hm, hl, _, _, _, _, _, _⟩ := open_ask (hval 0 24 v0 rfl rfl) h0
  obtain ⟨m, rfl, rfl, rfl, wm⟩ := open_int Try.underlying5 (hval 1 5 v1 rfl rfl) h1
  clear hA0
  refine (run_walk n dd r node f t A c xs m W hc hm hl (u8_of_wf wm)).mono fun e W' ⟨he, hb⟩ => ?_
  subst he
  exact ⟨_, rfl, law_post rfl (by rw [Try.params7]; exact parOk) rfl hW' rfl rfl rfl hb⟩

set_option maxRecDepth 100000 in
theorem lifted (os : Os) (started : os.Started) (H : Type) (enc : TypeId × Value → H) :
    ReturnsInHanded {} Try.checked os 7 .any (Rows.clockSplitsSpec.pre6 enc Try.prog Try.f7 Rows.clockSplitsRow.domain false) (Rows.clockSplitsSpec.post enc Try.prog Try.f7 false true false false) := by
  refine returnsInHanded_of_change (C := Try.checked) own started (by kernel_rfl) Try.func7
    (ChangeSpec.witness6 (enc := enc) (C := Try.checked) false ⟨#[], #[.agg #[.int .i64 0, .slice none 0 0, .int .i64 0, .int .i64 0, .int .i64 0, .int .i64 0, .int .i64 0], .int .u8 0], []⟩ 8 (by kernel_rfl) (by kernel_rfl) (by kernel_rfl) (by kernel_rfl)) ?_
  intro W base args ds gs before hval hW _ _
  exact contract H enc W base args ds gs before hval hW

/-- THE STATEMENT. -/
theorem said : Rows.ClockSplitsSaid :=
  OpenClaim.holds_of_wide 7 Try.f7 rfl rfl rfl rfl rfl rfl rfl ⟨rfl, rfl, rfl, rfl, rfl⟩ rfl rfl rfl rfl rfl (by kernel_rfl) Try.func7 (by kernel_rfl)
    (of_decide_eq_true (by kernel_rfl)) (by unfold Func.isWrapper; first | (rw [if_pos (by decide +kernel)]; kernel_rfl) | (rw [if_neg (by decide +kernel)]; exact ⟨rfl, rfl⟩))
    (fun os started H enc _ => lifted os started H enc)
end Go.Proofs.Ytmbapcdchaamfaa.lawSplits
