/-
  THE LAW TableParts: each node that is up is none that has left; the first one that is up is up, and none ahead of it is; a node that leaves is up no more, nor another's other.
  For every table, and every node; the law itself looks at the first sixty-five.
-/
import Derived.Test.YtmfpipcedblklaaLaw
namespace Go.Proofs.Ytmfpipcedblklaa.lawParts
open Go.Sort Go.ChangeShapes Go.WideShapes Go.ChangeAt Go.RowKit Go.Joins Go.Proofs.Ytmfpipcedblklaa.Pure

theorem at_ {w : World} {ad : Addr} {l : List Kn} {k : Nat} {x : Kn} (h : Lst w (some ad) l) (hk : k < l.length ∧ kn l k = x) : w.cell? (ad.add (k * 2)) = some (.int .u64 x.i) ∧ w.cell? ⟨(ad.add (k * 2)).block, (ad.add (k * 2)).off + 1, none⟩ = some (.int .i64 x.s) := by
  obtain ⟨ad', e, _, h1⟩ := h k hk.1
  cases e
  rw [hk.2] at h1
  exact h1.flat
theorem first_ {w : World} {ad : Addr} {l : List Nat} (h : Ns w (some ad) l) (hl : 0 < l.length) : w.cell? ad = some (.int .i64 ((l.getD 0 0 : Nat) : Int)) := by
  obtain ⟨ad', e, _, h1⟩ := h 0 hl
  cases e
  exact h1

set_option maxRecDepth 100000 in
set_option maxHeartbeats 4000000 in
theorem wayBad (A : Option Addr) (na n ca : Nat) (who : Int) (t : List Kn) (w : World) (HF : Hid (∀ W : World, Calls Try.prog 9 #[.slice A na ca] W fun e w' => e = .returned (.slice A n ca) ∧ W = w')) (HC : Hid (∀ W : World, Lst W A t → Calls Try.prog 16 #[.slice A n ca] W fun e w' => e = .returned (.int .i64 1) ∧ Below W.heap.size W w')) (hT : Lst w A t) :
    Calls Try.prog 7 #[.slice A na ca, .int .u8 who] w fun e w' => e = .returned (.bool true) ∧ Below w.heap.size w w' := by
  have LT_0 := Lib.hid (hT)
  clear hT
  go_enter Try.func7, Try.ntmps7
  go_wp2_with fail
  refine (HF.out _).mono ?_
  rintro e w' ⟨rfl, rfl⟩
  go_wp2_with fail
  refine (HC.out _ LT_0.out).mono ?_
  rintro e w1 ⟨rfl, hb⟩
  have HB_1 : Hid (Below w.heap.size w w1) := Lib.hid hb
  have LT_1 := Lib.hid (LT_0.out.on hb)
  clear LT_0 hb
  go_wp2_with fail
  refine (awake_any _).mono ?_
  rintro e wE ⟨rfl, hbE⟩
  have HE : Hid (Below w.heap.size w wE) := Lib.hid (HB_1.out.trans (hbE.mono HB_1.out.size))
  clear hbE
  go_wp2_with fail
  go_ret
  exact ⟨rfl, HE.out⟩

set_option maxRecDepth 100000 in
set_option maxHeartbeats 4000000 in
theorem wayMax (ad : Addr) (na n ca k who : Nat) (xi xs : Int) (t : List Kn) (w : World) (HF : Hid (∀ W : World, Calls Try.prog 9 #[.slice (some ad) na ca] W fun e w' => e = .returned (.slice (some ad) n ca) ∧ W = w')) (HC : Hid (∀ W : World, Lst W (some ad) t → Calls Try.prog 16 #[.slice (some ad) n ca] W fun e w' => e = .returned (.int .i64 0) ∧ Below W.heap.size W w')) (hw : who ≤ 255) (hn : t.length = n) (hn5 : n ≤ 64) (hk : k < n ∧ kn t k = ⟨xi, xs⟩) (hkm : k = who % n) (hT : Lst w (some ad) t) (hmax : xi = 18446744073709551615) :
    Calls Try.prog 7 #[.slice (some ad) na ca, .int .u8 who] w fun e w' => e = .returned (.bool true) ∧ Below w.heap.size w w' := by
  have LT_0 := Lib.hid (hT)
  clear hT
  have k0 : (0 : Int) ≤ (k : Int) := by omega
  have k1 : (k : Int) < (n : Int) := by have := hk.1; omega
  have n0 : ¬(n : Int) = 0 := by omega
  have n1 : ((n : Int) == 0) = false := by simp only [beq_eq_false_iff_ne]; omega
  have n2 : ¬n = 0 := by omega
  have e0 : IntKind.i64.wrap (who : Int) = (who : Int) := IntWalk.i64_in _ (by omega)
  have e1 : Int.tmod (who : Int) (n : Int) = (k : Int) := by rw [Int.tmod_eq_emod_of_nonneg (by omega), hkm]; omega
  have e2 : IntKind.i64.wrap (k : Int) = (k : Int) := IntWalk.i64_in _ (by omega)
  have HK : Hid (k < t.length ∧ kn t k = ⟨xi, xs⟩) := Lib.hid ⟨by rw [hn]; exact hk.1, hk.2⟩
  have Hn := Lib.hid hn
  clear hk hkm hn
  subst hmax
  go_enter Try.func7, Try.ntmps7
  go_wp2_with fail
  refine (HF.out _).mono ?_
  rintro e w' ⟨rfl, rfl⟩
  go_wp2_with fail
  refine (HC.out _ LT_0.out).mono ?_
  rintro e w1 ⟨rfl, hb⟩
  have HB_1 : Hid (Below w.heap.size w w1) := Lib.hid hb
  have LT_1 := Lib.hid (LT_0.out.on hb)
  clear LT_0 hb
  obtain ⟨a0, a1⟩ := at_ LT_1.out HK.out
  simp only at a0 a1
  go_wp2_with fail
  refine (awake_any _).mono ?_
  rintro e wE ⟨rfl, hbE⟩
  have HE : Hid (Below w.heap.size w wE) := Lib.hid (HB_1.out.trans (hbE.mono HB_1.out.size))
  clear hbE
  go_wp2_with fail
  go_ret
  exact ⟨rfl, HE.out⟩

set_option maxRecDepth 100000 in
set_option maxHeartbeats 4000000 in
theorem wayNone (ad : Addr) (na n ca k who : Nat) (xi xs : Int) (t : List Kn) (w : World) (L R : List Kn) (Fu Ful Fol Fot Fur : List Nat) (nu nul nol nt nur : Nat)
    (HF : Hid (∀ W : World, Calls Try.prog 9 #[.slice (some ad) na ca] W fun e w' => e = .returned (.slice (some ad) n ca) ∧ W = w')) (HC : Hid (∀ W : World, Lst W (some ad) t → Calls Try.prog 16 #[.slice (some ad) n ca] W fun e w' => e = .returned (.int .i64 0) ∧ Below W.heap.size W w'))
    (HL : Hid (∀ W : World, Lst W (some ad) t → Calls Try.prog 15 #[.slice (some ad) n ca] W fun e w' => e = .returned (.tuple #[.int .i64 0, .int .i64 6]) ∧ Below W.heap.size W w'))
    (HU : Hid (∀ (W : World) X cx, Lst W X t → Calls Try.prog 19 #[.slice X n cx] W fun e w' => ∃ A' c', e = .returned (.slice A' nu c') ∧ Ns w' A' Fu ∧ Below W.heap.size W w'))
    (HA : Hid (∀ (W : World) X cx, Lst W X t → Calls Try.prog 12 #[.slice X n cx, .int .i64 k, .agg #[.int .u64 xi, .int .i64 3]] W fun e w' => ∃ A' c', e = .returned (.tuple #[.slice A' n c', .bool (xs != 3), .int .i64 0]) ∧ Lst w' A' L ∧ Below W.heap.size W w'))
    (HUL : Hid (∀ (W : World) X cx, Lst W X L → Calls Try.prog 19 #[.slice X n cx] W fun e w' => ∃ A' c', e = .returned (.slice A' nul c') ∧ Ns w' A' Ful ∧ Below W.heap.size W w'))
    (HML : Hid (∀ (W : World) X cx, Ns W X Ful → Calls Try.prog 30 #[.slice X nul cx, .int .i64 k] W fun e w' => e = .returned (.int .i64 0) ∧ Below W.heap.size W w'))
    (HOL : Hid (∀ (W : World) X cx, Lst W X L → Calls Try.prog 20 #[.slice X n cx, .int .i64 (-1)] W fun e w' => ∃ A' c', e = .returned (.slice A' nol c') ∧ Ns w' A' Fol ∧ Below W.heap.size W w'))
    (HMO : Hid (∀ (W : World) X cx, Ns W X Fol → Calls Try.prog 30 #[.slice X nol cx, .int .i64 k] W fun e w' => e = .returned (.int .i64 0) ∧ Below W.heap.size W w'))
    (HOT : Hid (∀ (W : World) X cx, Lst W X t → Calls Try.prog 20 #[.slice X n cx, .int .i64 k] W fun e w' => ∃ A' c', e = .returned (.slice A' nt c') ∧ Ns w' A' Fot ∧ Below W.heap.size W w'))
    (HMT : Hid (∀ (W : World) X cx, Ns W X Fot → Calls Try.prog 30 #[.slice X nt cx, .int .i64 k] W fun e w' => e = .returned (.int .i64 0) ∧ Below W.heap.size W w'))
    (HB : Hid (∀ (W : World) X cx, Lst W X L → Calls Try.prog 12 #[.slice X n cx, .int .i64 k, .agg #[.int .u64 (xi + 1), .int .i64 0]] W fun e w' => ∃ A' c', e = .returned (.tuple #[.slice A' n c', .bool true, .int .i64 0]) ∧ Lst w' A' R ∧ Below W.heap.size W w'))
    (HUR : Hid (∀ (W : World) X cx, Lst W X R → Calls Try.prog 19 #[.slice X n cx] W fun e w' => ∃ A' c', e = .returned (.slice A' nur c') ∧ Ns w' A' Fur ∧ Below W.heap.size W w'))
    (HMR : Hid (∀ (W : World) X cx, Ns W X Fur → Calls Try.prog 30 #[.slice X nur cx, .int .i64 k] W fun e w' => e = .returned (.int .i64 1) ∧ Below W.heap.size W w'))
    (hw : who ≤ 255) (hn : t.length = n) (hn5 : n ≤ 64) (hk : k < n ∧ kn t k = ⟨xi, xs⟩) (hkm : k = who % n) (hT : Lst w (some ad) t) (hx : 0 ≤ xi ∧ xi < 18446744073709551615) (hu : nu = Fu.length) (hu0 : nu = 0) :
    Calls Try.prog 7 #[.slice (some ad) na ca, .int .u8 who] w fun e w' => e = .returned (.bool true) ∧ Below w.heap.size w w' := by
  have d1 : (xi == 18446744073709551615) = false := by simp only [beq_eq_false_iff_ne]; omega
  have d2 : ¬xi = 18446744073709551615 := by omega
  have wr : IntKind.u64.wrap (xi + 1) = xi + 1 := IntWalk.u64_in _ (by omega)
  have Hu := Lib.hid hu
  have HX := Lib.hid hx
  clear hx
  subst hu0
  clear hu
  have LT_0 := Lib.hid (hT)
  clear hT
  have k0 : (0 : Int) ≤ (k : Int) := by omega
  have k1 : (k : Int) < (n : Int) := by have := hk.1; omega
  have n0 : ¬(n : Int) = 0 := by omega
  have n1 : ((n : Int) == 0) = false := by simp only [beq_eq_false_iff_ne]; omega
  have n2 : ¬n = 0 := by omega
  have e0 : IntKind.i64.wrap (who : Int) = (who : Int) := IntWalk.i64_in _ (by omega)
  have e1 : Int.tmod (who : Int) (n : Int) = (k : Int) := by rw [Int.tmod_eq_emod_of_nonneg (by omega), hkm]; omega
  have e2 : IntKind.i64.wrap (k : Int) = (k : Int) := IntWalk.i64_in _ (by omega)
  have HK : Hid (k < t.length ∧ kn t k = ⟨xi, xs⟩) := Lib.hid ⟨by rw [hn]; exact hk.1, hk.2⟩
  have Hn := Lib.hid hn
  clear hk hkm hn
  go_enter Try.func7, Try.ntmps7
  go_wp2_with fail
  refine (HF.out _).mono ?_
  rintro e w' ⟨rfl, rfl⟩
  go_wp2_with fail
  refine (HC.out _ LT_0.out).mono ?_
  rintro e w1 ⟨rfl, hb⟩
  have HB_1 : Hid (Below w.heap.size w w1) := Lib.hid hb
  have LT_1 := Lib.hid (LT_0.out.on hb)
  clear LT_0 hb
  obtain ⟨a0, a1⟩ := at_ LT_1.out HK.out
  simp only at a0 a1
  go_wp2_with fail
  refine (HU.out _ _ _ LT_1.out).mono ?_
  rintro e w2 ⟨A1, c1, rfl, hns, hb⟩
  have HB_2 : Hid (Below w.heap.size w w2) := Lib.hid (HB_1.out.trans (hb.mono HB_1.out.size))
  have LT_2 := Lib.hid (LT_1.out.on hb)
  clear HB_1 LT_1 hb
  have NU_2 := Lib.hid hns
  clear hns
  clear a0 a1
  go_wp2_with fail
  refine (HL.out _ LT_2.out).mono ?_
  rintro e w3 ⟨rfl, hb⟩
  have HB_3 : Hid (Below w.heap.size w w3) := Lib.hid (HB_2.out.trans (hb.mono HB_2.out.size))
  have LT_3 := Lib.hid (LT_2.out.on hb)
  have NU_3 := Lib.hid (NU_2.out.on hb)
  clear HB_2 LT_2 NU_2 hb
  obtain ⟨a0, a1⟩ := at_ LT_3.out HK.out
  simp only at a0 a1
  go_wp2_with fail
  refine (HA.out _ _ _ LT_3.out).mono ?_
  rintro e w4 ⟨A2, c2, rfl, hl, hb⟩
  have HB_4 : Hid (Below w.heap.size w w4) := Lib.hid (HB_3.out.trans (hb.mono HB_3.out.size))
  have LT_4 := Lib.hid (LT_3.out.on hb)
  have NU_4 := Lib.hid (NU_3.out.on hb)
  clear HB_3 LT_3 NU_3 hb
  have LL_4 := Lib.hid hl
  clear hl
  clear a0 a1
  obtain ⟨a0, a1⟩ := at_ LT_4.out HK.out
  simp only at a0 a1
  go_wp2_with fail
  refine (HUL.out _ _ _ LL_4.out).mono ?_
  rintro e w5 ⟨A3, c3, rfl, hns, hb⟩
  have HB_5 : Hid (Below w.heap.size w w5) := Lib.hid (HB_4.out.trans (hb.mono HB_4.out.size))
  have LT_5 := Lib.hid (LT_4.out.on hb)
  have NU_5 := Lib.hid (NU_4.out.on hb)
  have LL_5 := Lib.hid (LL_4.out.on hb)
  clear HB_4 LT_4 NU_4 LL_4 hb
  have NL_5 := Lib.hid hns
  clear hns
  go_wp2_with fail
  refine (HML.out _ _ _ NL_5.out).mono ?_
  rintro e w6 ⟨rfl, hb⟩
  have HB_6 : Hid (Below w.heap.size w w6) := Lib.hid (HB_5.out.trans (hb.mono HB_5.out.size))
  have LT_6 := Lib.hid (LT_5.out.on hb)
  have NU_6 := Lib.hid (NU_5.out.on hb)
  have LL_6 := Lib.hid (LL_5.out.on hb)
  have NL_6 := Lib.hid (NL_5.out.on hb)
  clear HB_5 LT_5 NU_5 LL_5 NL_5 hb
  go_wp2_with fail
  refine (HOL.out _ _ _ LL_6.out).mono ?_
  rintro e w7 ⟨A4, c4, rfl, hns, hb⟩
  have HB_7 : Hid (Below w.heap.size w w7) := Lib.hid (HB_6.out.trans (hb.mono HB_6.out.size))
  have LT_7 := Lib.hid (LT_6.out.on hb)
  have NU_7 := Lib.hid (NU_6.out.on hb)
  have LL_7 := Lib.hid (LL_6.out.on hb)
  have NL_7 := Lib.hid (NL_6.out.on hb)
  clear HB_6 LT_6 NU_6 LL_6 NL_6 hb
  have NO_7 := Lib.hid hns
  clear hns
  go_wp2_with fail
  refine (HMO.out _ _ _ NO_7.out).mono ?_
  rintro e w8 ⟨rfl, hb⟩
  have HB_8 : Hid (Below w.heap.size w w8) := Lib.hid (HB_7.out.trans (hb.mono HB_7.out.size))
  have LT_8 := Lib.hid (LT_7.out.on hb)
  have NU_8 := Lib.hid (NU_7.out.on hb)
  have LL_8 := Lib.hid (LL_7.out.on hb)
  have NL_8 := Lib.hid (NL_7.out.on hb)
  have NO_8 := Lib.hid (NO_7.out.on hb)
  clear HB_7 LT_7 NU_7 LL_7 NL_7 NO_7 hb
  go_wp2_with fail
  refine (HOT.out _ _ _ LT_8.out).mono ?_
  rintro e w9 ⟨A5, c5, rfl, hns, hb⟩
  have HB_9 : Hid (Below w.heap.size w w9) := Lib.hid (HB_8.out.trans (hb.mono HB_8.out.size))
  have LT_9 := Lib.hid (LT_8.out.on hb)
  have NU_9 := Lib.hid (NU_8.out.on hb)
  have LL_9 := Lib.hid (LL_8.out.on hb)
  have NL_9 := Lib.hid (NL_8.out.on hb)
  have NO_9 := Lib.hid (NO_8.out.on hb)
  clear HB_8 LT_8 NU_8 LL_8 NL_8 NO_8 hb
  have NT_9 := Lib.hid hns
  clear hns
  go_wp2_with fail
  refine (HMT.out _ _ _ NT_9.out).mono ?_
  rintro e w10 ⟨rfl, hb⟩
  have HB_10 : Hid (Below w.heap.size w w10) := Lib.hid (HB_9.out.trans (hb.mono HB_9.out.size))
  have LT_10 := Lib.hid (LT_9.out.on hb)
  have NU_10 := Lib.hid (NU_9.out.on hb)
  have LL_10 := Lib.hid (LL_9.out.on hb)
  have NL_10 := Lib.hid (NL_9.out.on hb)
  have NO_10 := Lib.hid (NO_9.out.on hb)
  have NT_10 := Lib.hid (NT_9.out.on hb)
  clear HB_9 LT_9 NU_9 LL_9 NL_9 NO_9 NT_9 hb
  clear NU_10 NL_10 NO_10 NT_10
  clear a0 a1
  obtain ⟨a0, a1⟩ := at_ LT_10.out HK.out
  simp only at a0 a1
  go_wp2_with fail
  refine (HB.out _ _ _ LL_10.out).mono ?_
  rintro e w11 ⟨A6, c6, rfl, hl, hb⟩
  have HB_11 : Hid (Below w.heap.size w w11) := Lib.hid (HB_10.out.trans (hb.mono HB_10.out.size))
  have LT_11 := Lib.hid (LT_10.out.on hb)
  have LL_11 := Lib.hid (LL_10.out.on hb)
  clear HB_10 LT_10 LL_10 hb
  have LR_11 := Lib.hid hl
  clear hl
  clear a0 a1
  go_wp2_with fail
  refine (HUR.out _ _ _ LR_11.out).mono ?_
  rintro e w12 ⟨A7, c7, rfl, hns, hb⟩
  have HB_12 : Hid (Below w.heap.size w w12) := Lib.hid (HB_11.out.trans (hb.mono HB_11.out.size))
  have LT_12 := Lib.hid (LT_11.out.on hb)
  have LL_12 := Lib.hid (LL_11.out.on hb)
  have LR_12 := Lib.hid (LR_11.out.on hb)
  clear HB_11 LT_11 LL_11 LR_11 hb
  have NR_12 := Lib.hid hns
  clear hns
  go_wp2_with fail
  refine (HMR.out _ _ _ NR_12.out).mono ?_
  rintro e w13 ⟨rfl, hb⟩
  have HB_13 : Hid (Below w.heap.size w w13) := Lib.hid (HB_12.out.trans (hb.mono HB_12.out.size))
  have LT_13 := Lib.hid (LT_12.out.on hb)
  have LL_13 := Lib.hid (LL_12.out.on hb)
  have LR_13 := Lib.hid (LR_12.out.on hb)
  have NR_13 := Lib.hid (NR_12.out.on hb)
  clear HB_12 LT_12 LL_12 LR_12 NR_12 hb
  clear LT_13 LL_13 LR_13 NR_13
  go_wp2_with fail
  refine (awake_any _).mono ?_
  rintro e wE ⟨rfl, hbE⟩
  have HE : Hid (Below w.heap.size w wE) := Lib.hid (HB_13.out.trans (hbE.mono HB_13.out.size))
  clear hbE
  go_wp2_with fail
  go_ret
  exact ⟨rfl, HE.out⟩

set_option maxRecDepth 100000 in
set_option maxHeartbeats 4000000 in
theorem waySome (ad : Addr) (na n ca k who : Nat) (xi xs : Int) (t : List Kn) (w : World) (L R : List Kn) (Fu Ful Fol Fot Fur : List Nat) (nu nul nol nt nur : Nat)
    (HF : Hid (∀ W : World, Calls Try.prog 9 #[.slice (some ad) na ca] W fun e w' => e = .returned (.slice (some ad) n ca) ∧ W = w')) (HC : Hid (∀ W : World, Lst W (some ad) t → Calls Try.prog 16 #[.slice (some ad) n ca] W fun e w' => e = .returned (.int .i64 0) ∧ Below W.heap.size W w'))
    (HL : Hid (∀ W : World, Lst W (some ad) t → Calls Try.prog 15 #[.slice (some ad) n ca] W fun e w' => e = .returned (.tuple #[.int .i64 ((Fu.getD 0 0 : Nat) : Int), .int .i64 0]) ∧ Below W.heap.size W w'))
    (HU : Hid (∀ (W : World) X cx, Lst W X t → Calls Try.prog 19 #[.slice X n cx] W fun e w' => ∃ A' c', e = .returned (.slice A' nu c') ∧ Ns w' A' Fu ∧ Below W.heap.size W w'))
    (HA : Hid (∀ (W : World) X cx, Lst W X t → Calls Try.prog 12 #[.slice X n cx, .int .i64 k, .agg #[.int .u64 xi, .int .i64 3]] W fun e w' => ∃ A' c', e = .returned (.tuple #[.slice A' n c', .bool (xs != 3), .int .i64 0]) ∧ Lst w' A' L ∧ Below W.heap.size W w'))
    (HUL : Hid (∀ (W : World) X cx, Lst W X L → Calls Try.prog 19 #[.slice X n cx] W fun e w' => ∃ A' c', e = .returned (.slice A' nul c') ∧ Ns w' A' Ful ∧ Below W.heap.size W w'))
    (HML : Hid (∀ (W : World) X cx, Ns W X Ful → Calls Try.prog 30 #[.slice X nul cx, .int .i64 k] W fun e w' => e = .returned (.int .i64 0) ∧ Below W.heap.size W w'))
    (HOL : Hid (∀ (W : World) X cx, Lst W X L → Calls Try.prog 20 #[.slice X n cx, .int .i64 (-1)] W fun e w' => ∃ A' c', e = .returned (.slice A' nol c') ∧ Ns w' A' Fol ∧ Below W.heap.size W w'))
    (HMO : Hid (∀ (W : World) X cx, Ns W X Fol → Calls Try.prog 30 #[.slice X nol cx, .int .i64 k] W fun e w' => e = .returned (.int .i64 0) ∧ Below W.heap.size W w'))
    (HOT : Hid (∀ (W : World) X cx, Lst W X t → Calls Try.prog 20 #[.slice X n cx, .int .i64 k] W fun e w' => ∃ A' c', e = .returned (.slice A' nt c') ∧ Ns w' A' Fot ∧ Below W.heap.size W w'))
    (HMT : Hid (∀ (W : World) X cx, Ns W X Fot → Calls Try.prog 30 #[.slice X nt cx, .int .i64 k] W fun e w' => e = .returned (.int .i64 0) ∧ Below W.heap.size W w'))
    (HB : Hid (∀ (W : World) X cx, Lst W X L → Calls Try.prog 12 #[.slice X n cx, .int .i64 k, .agg #[.int .u64 (xi + 1), .int .i64 0]] W fun e w' => ∃ A' c', e = .returned (.tuple #[.slice A' n c', .bool true, .int .i64 0]) ∧ Lst w' A' R ∧ Below W.heap.size W w'))
    (HUR : Hid (∀ (W : World) X cx, Lst W X R → Calls Try.prog 19 #[.slice X n cx] W fun e w' => ∃ A' c', e = .returned (.slice A' nur c') ∧ Ns w' A' Fur ∧ Below W.heap.size W w'))
    (HMR : Hid (∀ (W : World) X cx, Ns W X Fur → Calls Try.prog 30 #[.slice X nur cx, .int .i64 k] W fun e w' => e = .returned (.int .i64 1) ∧ Below W.heap.size W w'))
    (hw : who ≤ 255) (hn : t.length = n) (hn5 : n ≤ 64) (hk : k < n ∧ kn t k = ⟨xi, xs⟩) (hkm : k = who % n) (hT : Lst w (some ad) t) (hx : 0 ≤ xi ∧ xi < 18446744073709551615) (hu : nu = Fu.length) (hu0 : 0 < nu) :
    Calls Try.prog 7 #[.slice (some ad) na ca, .int .u8 who] w fun e w' => e = .returned (.bool true) ∧ Below w.heap.size w w' := by
  have d1 : (xi == 18446744073709551615) = false := by simp only [beq_eq_false_iff_ne]; omega
  have d2 : ¬xi = 18446744073709551615 := by omega
  have wr : IntKind.u64.wrap (xi + 1) = xi + 1 := IntWalk.u64_in _ (by omega)
  have Hu := Lib.hid hu
  have HX := Lib.hid hx
  clear hx
  have u0 : decide ((0 : Int) < (nu : Int)) = true := by simpa using hu0
  have u1 : (0 : Int) < (nu : Int) := by omega
  clear hu
  have LT_0 := Lib.hid (hT)
  clear hT
  have k0 : (0 : Int) ≤ (k : Int) := by omega
  have k1 : (k : Int) < (n : Int) := by have := hk.1; omega
  have n0 : ¬(n : Int) = 0 := by omega
  have n1 : ((n : Int) == 0) = false := by simp only [beq_eq_false_iff_ne]; omega
  have n2 : ¬n = 0 := by omega
  have e0 : IntKind.i64.wrap (who : Int) = (who : Int) := IntWalk.i64_in _ (by omega)
  have e1 : Int.tmod (who : Int) (n : Int) = (k : Int) := by rw [Int.tmod_eq_emod_of_nonneg (by omega), hkm]; omega
  have e2 : IntKind.i64.wrap (k : Int) = (k : Int) := IntWalk.i64_in _ (by omega)
  have HK : Hid (k < t.length ∧ kn t k = ⟨xi, xs⟩) := Lib.hid ⟨by rw [hn]; exact hk.1, hk.2⟩
  have Hn := Lib.hid hn
  clear hk hkm hn
  go_enter Try.func7, Try.ntmps7
  go_wp2_with fail
  refine (HF.out _).mono ?_
  rintro e w' ⟨rfl, rfl⟩
  go_wp2_with fail
  refine (HC.out _ LT_0.out).mono ?_
  rintro e w1 ⟨rfl, hb⟩
  have HB_1 : Hid (Below w.heap.size w w1) := Lib.hid hb
  have LT_1 := Lib.hid (LT_0.out.on hb)
  clear LT_0 hb
  obtain ⟨a0, a1⟩ := at_ LT_1.out HK.out
  simp only at a0 a1
  go_wp2_with fail
  refine (HU.out _ _ _ LT_1.out).mono ?_
  rintro e w2 ⟨A1, c1, rfl, hns, hb⟩
  have HB_2 : Hid (Below w.heap.size w w2) := Lib.hid (HB_1.out.trans (hb.mono HB_1.out.size))
  have LT_2 := Lib.hid (LT_1.out.on hb)
  clear HB_1 LT_1 hb
  have NU_2 := Lib.hid hns
  clear hns
  obtain ⟨au, eu, _, _⟩ := NU_2.out 0 (by rw [← Hu.out]; omega)
  subst eu
  clear a0 a1
  go_wp2_with fail
  refine (HL.out _ LT_2.out).mono ?_
  rintro e w3 ⟨rfl, hb⟩
  have HB_3 : Hid (Below w.heap.size w w3) := Lib.hid (HB_2.out.trans (hb.mono HB_2.out.size))
  have LT_3 := Lib.hid (LT_2.out.on hb)
  have NU_3 := Lib.hid (NU_2.out.on hb)
  clear HB_2 LT_2 NU_2 hb
  have b0 := first_ NU_3.out (by rw [← Hu.out]; exact hu0)
  generalize Fu.getD 0 0 = y at *
  obtain ⟨a0, a1⟩ := at_ LT_3.out HK.out
  simp only at a0 a1
  go_wp2_with fail
  refine (HA.out _ _ _ LT_3.out).mono ?_
  rintro e w4 ⟨A2, c2, rfl, hl, hb⟩
  have HB_4 : Hid (Below w.heap.size w w4) := Lib.hid (HB_3.out.trans (hb.mono HB_3.out.size))
  have LT_4 := Lib.hid (LT_3.out.on hb)
  have NU_4 := Lib.hid (NU_3.out.on hb)
  clear HB_3 LT_3 NU_3 hb
  have LL_4 := Lib.hid hl
  clear hl
  clear b0
  clear a0 a1
  obtain ⟨a0, a1⟩ := at_ LT_4.out HK.out
  simp only at a0 a1
  go_wp2_with fail
  refine (HUL.out _ _ _ LL_4.out).mono ?_
  rintro e w5 ⟨A3, c3, rfl, hns, hb⟩
  have HB_5 : Hid (Below w.heap.size w w5) := Lib.hid (HB_4.out.trans (hb.mono HB_4.out.size))
  have LT_5 := Lib.hid (LT_4.out.on hb)
  have NU_5 := Lib.hid (NU_4.out.on hb)
  have LL_5 := Lib.hid (LL_4.out.on hb)
  clear HB_4 LT_4 NU_4 LL_4 hb
  have NL_5 := Lib.hid hns
  clear hns
  go_wp2_with fail
  refine (HML.out _ _ _ NL_5.out).mono ?_
  rintro e w6 ⟨rfl, hb⟩
  have HB_6 : Hid (Below w.heap.size w w6) := Lib.hid (HB_5.out.trans (hb.mono HB_5.out.size))
  have LT_6 := Lib.hid (LT_5.out.on hb)
  have NU_6 := Lib.hid (NU_5.out.on hb)
  have LL_6 := Lib.hid (LL_5.out.on hb)
  have NL_6 := Lib.hid (NL_5.out.on hb)
  clear HB_5 LT_5 NU_5 LL_5 NL_5 hb
  go_wp2_with fail
  refine (HOL.out _ _ _ LL_6.out).mono ?_
  rintro e w7 ⟨A4, c4, rfl, hns, hb⟩
  have HB_7 : Hid (Below w.heap.size w w7) := Lib.hid (HB_6.out.trans (hb.mono HB_6.out.size))
  have LT_7 := Lib.hid (LT_6.out.on hb)
  have NU_7 := Lib.hid (NU_6.out.on hb)
  have LL_7 := Lib.hid (LL_6.out.on hb)
  have NL_7 := Lib.hid (NL_6.out.on hb)
  clear HB_6 LT_6 NU_6 LL_6 NL_6 hb
  have NO_7 := Lib.hid hns
  clear hns
  go_wp2_with fail
  refine (HMO.out _ _ _ NO_7.out).mono ?_
  rintro e w8 ⟨rfl, hb⟩
  have HB_8 : Hid (Below w.heap.size w w8) := Lib.hid (HB_7.out.trans (hb.mono HB_7.out.size))
  have LT_8 := Lib.hid (LT_7.out.on hb)
  have NU_8 := Lib.hid (NU_7.out.on hb)
  have LL_8 := Lib.hid (LL_7.out.on hb)
  have NL_8 := Lib.hid (NL_7.out.on hb)
  have NO_8 := Lib.hid (NO_7.out.on hb)
  clear HB_7 LT_7 NU_7 LL_7 NL_7 NO_7 hb
  go_wp2_with fail
  refine (HOT.out _ _ _ LT_8.out).mono ?_
  rintro e w9 ⟨A5, c5, rfl, hns, hb⟩
  have HB_9 : Hid (Below w.heap.size w w9) := Lib.hid (HB_8.out.trans (hb.mono HB_8.out.size))
  have LT_9 := Lib.hid (LT_8.out.on hb)
  have NU_9 := Lib.hid (NU_8.out.on hb)
  have LL_9 := Lib.hid (LL_8.out.on hb)
  have NL_9 := Lib.hid (NL_8.out.on hb)
  have NO_9 := Lib.hid (NO_8.out.on hb)
  clear HB_8 LT_8 NU_8 LL_8 NL_8 NO_8 hb
  have NT_9 := Lib.hid hns
  clear hns
  go_wp2_with fail
  refine (HMT.out _ _ _ NT_9.out).mono ?_
  rintro e w10 ⟨rfl, hb⟩
  have HB_10 : Hid (Below w.heap.size w w10) := Lib.hid (HB_9.out.trans (hb.mono HB_9.out.size))
  have LT_10 := Lib.hid (LT_9.out.on hb)
  have NU_10 := Lib.hid (NU_9.out.on hb)
  have LL_10 := Lib.hid (LL_9.out.on hb)
  have NL_10 := Lib.hid (NL_9.out.on hb)
  have NO_10 := Lib.hid (NO_9.out.on hb)
  have NT_10 := Lib.hid (NT_9.out.on hb)
  clear HB_9 LT_9 NU_9 LL_9 NL_9 NO_9 NT_9 hb
  clear NU_10 NL_10 NO_10 NT_10
  clear a0 a1
  obtain ⟨a0, a1⟩ := at_ LT_10.out HK.out
  simp only at a0 a1
  go_wp2_with fail
  refine (HB.out _ _ _ LL_10.out).mono ?_
  rintro e w11 ⟨A6, c6, rfl, hl, hb⟩
  have HB_11 : Hid (Below w.heap.size w w11) := Lib.hid (HB_10.out.trans (hb.mono HB_10.out.size))
  have LT_11 := Lib.hid (LT_10.out.on hb)
  have LL_11 := Lib.hid (LL_10.out.on hb)
  clear HB_10 LT_10 LL_10 hb
  have LR_11 := Lib.hid hl
  clear hl
  clear a0 a1
  go_wp2_with fail
  refine (HUR.out _ _ _ LR_11.out).mono ?_
  rintro e w12 ⟨A7, c7, rfl, hns, hb⟩
  have HB_12 : Hid (Below w.heap.size w w12) := Lib.hid (HB_11.out.trans (hb.mono HB_11.out.size))
  have LT_12 := Lib.hid (LT_11.out.on hb)
  have LL_12 := Lib.hid (LL_11.out.on hb)
  have LR_12 := Lib.hid (LR_11.out.on hb)
  clear HB_11 LT_11 LL_11 LR_11 hb
  have NR_12 := Lib.hid hns
  clear hns
  go_wp2_with fail
  refine (HMR.out _ _ _ NR_12.out).mono ?_
  rintro e w13 ⟨rfl, hb⟩
  have HB_13 : Hid (Below w.heap.size w w13) := Lib.hid (HB_12.out.trans (hb.mono HB_12.out.size))
  have LT_13 := Lib.hid (LT_12.out.on hb)
  have LL_13 := Lib.hid (LL_12.out.on hb)
  have LR_13 := Lib.hid (LR_12.out.on hb)
  have NR_13 := Lib.hid (NR_12.out.on hb)
  clear HB_12 LT_12 LL_12 LR_12 NR_12 hb
  clear LT_13 LL_13 LR_13 NR_13
  go_wp2_with fail
  refine (awake_any _).mono ?_
  rintro e wE ⟨rfl, hbE⟩
  have HE : Hid (Below w.heap.size w wE) := Lib.hid (HB_13.out.trans (hbE.mono HB_13.out.size))
  clear hbE
  go_wp2_with fail
  go_ret
  exact ⟨rfl, HE.out⟩

theorem left_up (l : List Kn) (k : Nat) (i : Int) (h : k < l.length) (hi : i = (kn l k).i) (hm : mayK (kn l k) = true) : kn (appL l k ⟨i, 3⟩) k = ⟨i, 3⟩ := by
  rw [kn_app l k k _ h, if_pos rfl]
  have h3 := (mayK_iff _).1 hm
  refine key_inj (stepK_may hm) rfl ?_
  rw [stepK_key hm rfl]
  unfold key
  simp only
  omega
theorem walk (A : Option Addr) (ca who : Nat) (t : List Kn) (w : World) (hw : who ≤ 255) (ht : t.length ≤ ca ∧ ca ≤ maxLen ∧ Lst w A t ∧ FitL t) :
    Calls Try.prog 7 #[.slice A t.length ca, .int .u8 who] w fun e w' => e = .returned (.bool true) ∧ Below w.heap.size w w' := by
  have hF := few_any A ca t w ht.1 ht.2.1 ht.2.2.1
  have lt := ht.2.2.1.take 65
  have ft := ht.2.2.2.take 65
  have nt : (t.take 65).length ≤ 65 := by rw [List.length_take]; omega
  generalize t.length = kt at *
  generalize t.take 65 = t at *
  rcases hm : mayT t with _ | _
  · exact wayBad A kt t.length ca who t w (Lib.hid hF) (Lib.hid fun W h => tcheck_any A ca t W (by omega) h false hm) lt
  obtain ⟨h1, h64, hml⟩ := (mayT_iff t).1 hm
  obtain ⟨ad, rfl, _⟩ := lt 0 (by omega)
  obtain ⟨k, hk⟩ : ∃ k, k = who % t.length := ⟨_, rfl⟩
  have hkl : k < t.length := by rw [hk]; exact Nat.mod_lt _ (by omega)
  have hmk := may_at hml hkl
  have hfk := ft.at_ k
  obtain ⟨x, hx⟩ : ∃ x, x = kn t k := ⟨_, rfl⟩
  rw [← hx] at hmk hfk
  obtain ⟨xi, xs⟩ := x
  have hC : ∀ W : World, Lst W (some ad) t → _ := fun W h => tcheck_any (some ad) ca t W (by omega) h true hm
  by_cases hmax : xi = 18446744073709551615
  · exact wayMax ad kt t.length ca k who xi xs t w (Lib.hid hF) (Lib.hid hC) hw rfl h64 ⟨hkl, hx.symm⟩ hk lt hmax
  have hxi : 0 ≤ xi ∧ xi < 18446744073709551615 := ⟨hfk.1, by have := hfk.2; simp only at this; omega⟩
  have hL := left_up t k xi hkl (by rw [← hx]) (by rw [← hx]; exact hmk)
  have mL : mayT (appL t k ⟨xi, 3⟩) = true := mayT_app hm hkl
  have fL : FitL (appL t k ⟨xi, 3⟩) := fit_app ft ⟨hxi.1, by show xi ≤ _; omega⟩ hkl
  have lL : (appL t k ⟨xi, 3⟩).length = t.length := len_app _ _ _
  have bL : newB t k ⟨xi, 3⟩ = (xs != 3) := by
    rw [newB_iff, ← hx, beats_key rfl hmk]
    have := (mayK_iff _).1 hmk
    simp only at this
    unfold key
    by_cases e : xs = 3
    · subst e; simp
    · have : (xs != 3) = true := by simpa using e
      rw [this]
      simp only [decide_eq_true_iff]
      omega
  generalize hLe : appL t k ⟨xi, 3⟩ = L at *
  have hR : kn (appL L k ⟨xi + 1, 0⟩) k = ⟨xi + 1, 0⟩ := by
    rw [kn_app L k k _ (by omega), if_pos rfl, hL]
    refine key_inj (stepK_may rfl) rfl ?_
    rw [stepK_key rfl rfl]
    unfold key
    simp only
    omega
  have bR : newB L k ⟨xi + 1, 0⟩ = true := by
    rw [newB_iff, hL, beats_key rfl rfl]
    unfold key
    simp only [decide_eq_true_iff]
    omega
  have mR : mayT (appL L k ⟨xi + 1, 0⟩) = true := mayT_app mL (by omega)
  have lR : (appL L k ⟨xi + 1, 0⟩).length = t.length := by rw [len_app, lL]
  generalize hRe : appL L k ⟨xi + 1, 0⟩ = R at *
  have len_up : ∀ l : List Kn, (upL l).length ≤ l.length := fun l => pick_length _ _
  have len_oth : ∀ (me : Int) (l : List Kn), (othL me l).length ≤ l.length := fun me l => pick_length _ _
  have cU : (upL L).count k = 0 := by unfold upL; rw [count_pick, if_neg (by intro h; have := h.2; unfold upP at this; rw [hL] at this; simp at this)]
  have cO : (othL (-1) L).count k = 0 := by unfold othL; rw [count_pick, if_neg (by intro h; have := h.2; unfold othP at this; rw [hL] at this; simp at this)]
  have cT : (othL (k : Int) t).count k = 0 := by unfold othL; rw [count_pick, if_neg (by intro h; have := h.2; unfold othP at this; simp at this)]
  have cR : (upL R).count k = 1 := by unfold upL; rw [count_pick, if_pos ⟨by omega, by unfold upP; rw [hR]; rfl⟩]
  have gU : ∀ (l : List Kn) (hm : mayT l = true) (hl : l.length = t.length) (W : World) (X : Option Addr) (cx : Nat), Lst W X l → Calls Try.prog 19 #[.slice X t.length cx] W fun e w' => ∃ A' c', e = .returned (.slice A' (upL l).length c') ∧ Ns w' A' (upL l) ∧ Below W.heap.size W w' := fun l hm hl W X cx h => by
    have := tup_any X cx l W (by omega) h true hm
    rw [hl] at this
    exact this
  have gO : ∀ (l : List Kn) (me : Int) (hm : mayT l = true) (hl : l.length = t.length) (W : World) (X : Option Addr) (cx : Nat), Lst W X l → Calls Try.prog 20 #[.slice X t.length cx, .int .i64 me] W fun e w' => ∃ A' c', e = .returned (.slice A' (othL me l).length c') ∧ Ns w' A' (othL me l) ∧ Below W.heap.size W w' := fun l me hm hl W X cx h => by
    have := toth_any X cx l me W (by omega) h true hm
    rw [hl] at this
    exact this
  have gM : ∀ (F : List Nat) (v : Nat) (hc : F.count k = v) (hl : F.length ≤ 1000) (W : World) (X : Option Addr) (cx : Nat), Ns W X F → Calls Try.prog 30 #[.slice X F.length cx, .int .i64 (k : Int)] W fun e w' => e = .returned (.int .i64 ((v : Nat) : Int)) ∧ Below W.heap.size W w' := fun F v hc hl W X cx h => by
    have := many_any X cx F k W hl h
    rwa [hc] at this
  have gA : ∀ (l : List Kn) (i st : Int) (r : List Kn) (b : Bool) (hm : mayT l = true) (hf : FitL l) (hl : l.length = t.length) (hr : appL l k ⟨i, st⟩ = r) (hb : newB l k ⟨i, st⟩ = b) (hst : mayK ⟨i, st⟩ = true) (W : World) (X : Option Addr) (cx : Nat), Lst W X l → Calls Try.prog 12 #[.slice X t.length cx, .int .i64 (k : Int), .agg #[.int .u64 i, .int .i64 st]] W fun e w' => ∃ A' c', e = .returned (.tuple #[.slice A' t.length c', .bool b, .int .i64 0]) ∧ Lst w' A' r ∧ Below W.heap.size W w' := fun l i st r b hm hf hl hr hb hst W X cx h => by
    have := tapp_yes X cx l k ⟨i, st⟩ W (by omega) h hm hf (by omega) hst
    unfold Turns at this
    rw [len_app, hr, hb, hl] at this
    exact this
  have n1 := len_up t
  have n2 := len_up L
  have n3 := len_up R
  have n4 := len_oth (-1) L
  have n5 := len_oth (k : Int) t
  have z0' := gM (upL L) 0 cU (by omega)
  have z1' := gM (othL (-1) L) 0 cO (by omega)
  have z2' := gM (othL (k : Int) t) 0 cT (by omega)
  have z3' := gM (upL R) 1 cR (by omega)
  by_cases hu : 0 < (upL t).length
  · refine waySome ad kt t.length ca k who xi xs t w L R (upL t) (upL L) (othL (-1) L) (othL (k : Int) t) (upL R) (upL t).length (upL L).length (othL (-1) L).length (othL (k : Int) t).length (upL R).length
      (Lib.hid hF) (Lib.hid hC) (Lib.hid fun W h => ?_) (Lib.hid (gU t hm rfl)) (Lib.hid (gA t xi 3 L (xs != 3) hm ft rfl hLe bL rfl)) (Lib.hid (gU L mL lL)) (Lib.hid z0') (Lib.hid (gO L (-1) mL lL)) (Lib.hid z1') (Lib.hid (gO t k hm rfl)) (Lib.hid z2')
      (Lib.hid (gA L (xi + 1) 0 R true mL fL lL hRe bR rfl)) (Lib.hid (gU R mR lR)) (Lib.hid z3') hw rfl h64 ⟨hkl, hx.symm⟩ hk lt hxi rfl hu
    have := tlow_any (some ad) ca t W (by omega) h
    rwa [low_some hm hu] at this
  · refine wayNone ad kt t.length ca k who xi xs t w L R (upL t) (upL L) (othL (-1) L) (othL (k : Int) t) (upL R) (upL t).length (upL L).length (othL (-1) L).length (othL (k : Int) t).length (upL R).length
      (Lib.hid hF) (Lib.hid hC) (Lib.hid fun W h => ?_) (Lib.hid (gU t hm rfl)) (Lib.hid (gA t xi 3 L (xs != 3) hm ft rfl hLe bL rfl)) (Lib.hid (gU L mL lL)) (Lib.hid z0') (Lib.hid (gO L (-1) mL lL)) (Lib.hid z1') (Lib.hid (gO t k hm rfl)) (Lib.hid z2')
      (Lib.hid (gA L (xi + 1) 0 R true mL fL lL hRe bR rfl)) (Lib.hid (gU R mR lR)) (Lib.hid z3') hw rfl h64 ⟨hkl, hx.symm⟩ hk lt hxi rfl (by omega)
    have := tlow_any (some ad) ca t W (by omega) h
    rwa [low_none hm (List.eq_nil_of_length_eq_zero (by omega))] at this

/-! ### the statement -/
theorem parOk : ∀ t ∈ (#[22, 5] : Array TypeId).toList, Try.prog.readableRec t = true ∧ t < Try.prog.types.size := by
  have hall : ([22, 5].all fun t => Try.prog.readableRec t && decide (t < Try.prog.types.size)) = true := by kernel_rfl
  intro t ht
  simpa using List.all_eq_true.1 hall t ht

/-- What the walk gives, for every argument. -/
theorem contract (H : Type) (enc : TypeId × Value → H) (W : World) (base : Nat) (args : Array Value) (ds gs : List (DataW H)) (before : List MemPlace)
    (hval : ∀ (j : Nat) t v, Try.f7.params[j]? = some t → args[j]? = some v → Value.okWide Try.prog W .any base t v)
    (hW : DataW.Whole enc Try.prog Try.f7.params.toList Rows.tablePartsSpec.vars false W args.toList ds gs before) :
    Calls Try.prog 7 args W fun e W' => ∃ v, e = .returned v ∧ Rows.tablePartsSpec.post enc Try.prog Try.f7 false true false false W args v W' := by
  have hW' := hW
  obtain ⟨p, q, hA0, hV, rfl, hfz, hnd⟩ := hW
  have hA : DataW.TrodAll enc Try.prog W 0 (fun _ => true) true Try.f7.params.toList args.toList ds p := hA0
  rw [Try.params7] at hA hval
  obtain ⟨v0, vs0, d0, ds0, p0, q0, hargs, rfl, rfl, h0, r0⟩ := trodAll_cons hA
  obtain ⟨v1, vs1, d1, ds1, p1, q1, rfl, rfl, rfl, h1, r1⟩ := trodAll_cons r0
  obtain ⟨rfl, rfl, rfl⟩ := trodAll_nil r1
  obtain rfl : args = #[v0, v1] := by cases args; simp_all
  obtain ⟨rfl, rfl⟩ := trodVars_none hV
  obtain ⟨A, ca, t, rfl, ht⟩ := open_kns (hval 0 22 v0 rfl rfl) h0
  obtain ⟨who, rfl, hwho⟩ := open_u8 (hval 1 5 v1 rfl rfl) h1
  clear hA0
  refine (walk A ca who t W hwho ht).mono fun e W' ⟨he, hb⟩ => ?_
  subst he
  exact ⟨_, rfl, law_post rfl (by rw [Try.params7]; exact parOk) rfl hW' rfl rfl rfl hb⟩

set_option maxRecDepth 100000 in
theorem lifted (os : Os) (started : os.Started) (H : Type) (enc : TypeId × Value → H) :
    ReturnsInHanded {} Try.checked os 7 .any (Rows.tablePartsSpec.pre6 enc Try.prog Try.f7 Rows.tablePartsRow.domain false) (Rows.tablePartsSpec.post enc Try.prog Try.f7 false true false false) := by
  refine returnsInHanded_of_change (C := Try.checked) own started (by kernel_rfl) Try.func7
    (ChangeSpec.witness6 (enc := enc) (C := Try.checked) false ⟨#[], #[.slice none 0 0, .int .u8 0], []⟩ 8 (by kernel_rfl) (by kernel_rfl) (by kernel_rfl) (by kernel_rfl)) ?_
  intro W base args ds gs before hval hW _ _
  exact contract H enc W base args ds gs before hval hW

/-- THE STATEMENT. -/
theorem said : Rows.TablePartsSaid :=
  OpenClaim.holds_of_wide 7 Try.f7 rfl rfl rfl rfl rfl rfl rfl ⟨rfl, rfl, rfl, rfl, rfl⟩ rfl rfl rfl rfl rfl (by kernel_rfl) Try.func7 (by kernel_rfl)
    (of_decide_eq_true (by kernel_rfl)) (by unfold Func.isWrapper; first | (rw [if_pos (by decide +kernel)]; kernel_rfl) | (rw [if_neg (by decide +kernel)]; exact ⟨rfl, rfl⟩))
    (fun os started H enc _ => lifted os started H enc)
end Go.Proofs.Ytmfpipcedblklaa.lawParts
