/-
  THE LAW TableMerges: Merge hangs on no order, on nothing twice, and on no brackets; two tables that are merged with one another are the same, and neither is behind.
  For any three tables; the law itself looks at the first sixty-five of each.
-/
import Derived.Test.YtmfpipcedblklaaLaw
namespace Go.Proofs.Ytmfpipcedblklaa.lawMerges
open Go.Sort Go.ChangeShapes Go.WideShapes Go.ChangeAt Go.RowKit Go.Joins Go.Proofs.Ytmfpipcedblklaa.Pure

set_option maxRecDepth 100000 in
set_option maxHeartbeats 4000000 in
theorem wayBad (A B C : Option Addr) (na nb nc ca cb cc : Nat) (w : World) (a b : List Kn) (la lb lc : Nat)
    (HFa : Hid (∀ W : World, Calls Try.prog 9 #[.slice A na ca] W fun e w' => e = .returned (.slice A la ca) ∧ W = w')) (HFb : Hid (∀ W : World, Calls Try.prog 9 #[.slice B nb cb] W fun e w' => e = .returned (.slice B lb cb) ∧ W = w')) (HFc : Hid (∀ W : World, Calls Try.prog 9 #[.slice C nc cc] W fun e w' => e = .returned (.slice C lc cc) ∧ W = w'))
    (HM : Hid (∀ (W : World) X cx Y cy, Lst W X a → Lst W Y b → Calls Try.prog 13 #[.slice X la cx, .slice Y lb cy] W fun e w' => ∃ A' c', e = .returned (.tuple #[.slice A' 0 c', .int .i64 1]) ∧ Lst w' A' [] ∧ Below W.heap.size W w')) (HN : Hid (∀ (W : World) X cx Y cy, Lst W X b → Lst W Y a → Calls Try.prog 13 #[.slice X lb cx, .slice Y la cy] W fun e w' => ∃ A' c', e = .returned (.tuple #[.slice A' 0 c', .int .i64 1]) ∧ Lst w' A' [] ∧ Below W.heap.size W w')) (hA : Lst w A a) (hB : Lst w B b) :
    Calls Try.prog 4 #[.slice A na ca, .slice B nb cb, .slice C nc cc] w fun e w' => e = .returned (.bool true) ∧ Below w.heap.size w w' := by
  have LA_0 := Lib.hid (hA)
  have LB_0 := Lib.hid (hB)
  clear hA hB
  go_enter Try.func4, Try.ntmps4
  go_wp2_with fail
  refine (HFa.out _).mono ?_
  rintro e w' ⟨rfl, rfl⟩
  go_wp2_with fail
  refine (HFb.out _).mono ?_
  rintro e w' ⟨rfl, rfl⟩
  go_wp2_with fail
  refine (HFc.out _).mono ?_
  rintro e w' ⟨rfl, rfl⟩
  go_wp2_with fail
  refine (HM.out _ _ _ _ _ LA_0.out LB_0.out).mono ?_
  rintro e w1 ⟨_, _, rfl, _, hb⟩
  have HB_1 : Hid (Below w.heap.size w w1) := Lib.hid hb
  have LA_1 := Lib.hid (LA_0.out.on hb)
  have LB_1 := Lib.hid (LB_0.out.on hb)
  clear LA_0 LB_0 hb
  go_wp2_with fail
  refine (HN.out _ _ _ _ _ LB_1.out LA_1.out).mono ?_
  rintro e w2 ⟨_, _, rfl, _, hb⟩
  have HB_2 : Hid (Below w.heap.size w w2) := Lib.hid (HB_1.out.trans (hb.mono HB_1.out.size))
  have LA_2 := Lib.hid (LA_1.out.on hb)
  have LB_2 := Lib.hid (LB_1.out.on hb)
  clear HB_1 LA_1 LB_1 hb
  go_wp2_with fail
  refine (awake_any _).mono ?_
  rintro e wE ⟨rfl, hbE⟩
  have HE : Hid (Below w.heap.size w wE) := Lib.hid (HB_2.out.trans (hbE.mono HB_2.out.size))
  clear hbE
  go_wp2_with fail
  go_ret
  exact ⟨rfl, HE.out⟩

set_option maxRecDepth 100000 in
set_option maxHeartbeats 4000000 in
theorem wayTwo (A B C : Option Addr) (na nb nc ca cb cc : Nat) (w : World) (a b c p : List Kn) (n lc : Nat)
    (HFa : Hid (∀ W : World, Calls Try.prog 9 #[.slice A na ca] W fun e w' => e = .returned (.slice A n ca) ∧ W = w')) (HFb : Hid (∀ W : World, Calls Try.prog 9 #[.slice B nb cb] W fun e w' => e = .returned (.slice B n cb) ∧ W = w')) (HFc : Hid (∀ W : World, Calls Try.prog 9 #[.slice C nc cc] W fun e w' => e = .returned (.slice C lc cc) ∧ W = w'))
    (HM : Hid (∀ (W : World) X cx Y cy, Lst W X a → Lst W Y b → Calls Try.prog 13 #[.slice X n cx, .slice Y n cy] W fun e w' => ∃ A' c', e = .returned (.tuple #[.slice A' n c', .int .i64 0]) ∧ Lst w' A' p ∧ Below W.heap.size W w'))
    (HN : Hid (∀ (W : World) X cx Y cy, Lst W X b → Lst W Y a → Calls Try.prog 13 #[.slice X n cx, .slice Y n cy] W fun e w' => ∃ A' c', e = .returned (.tuple #[.slice A' n c', .int .i64 0]) ∧ Lst w' A' p ∧ Below W.heap.size W w'))
    (HX : Hid (∀ (W : World) X cx Y cy, Lst W X p → Lst W Y a → Calls Try.prog 14 #[.slice X n cx, .slice Y n cy] W fun e w' => ∃ A' c', e = .returned (.tuple #[.slice A' 0 c', .int .i64 0]) ∧ Ns w' A' [] ∧ Below W.heap.size W w'))
    (HY : Hid (∀ (W : World) X cx Y cy, Lst W X p → Lst W Y b → Calls Try.prog 14 #[.slice X n cx, .slice Y n cy] W fun e w' => ∃ A' c', e = .returned (.tuple #[.slice A' 0 c', .int .i64 0]) ∧ Ns w' A' [] ∧ Below W.heap.size W w'))
    (HS : Hid (∀ (W : World) X cx Y cy, Lst W X p → Lst W Y p → Calls Try.prog 13 #[.slice X n cx, .slice Y n cy] W fun e w' => ∃ A' c', e = .returned (.tuple #[.slice A' n c', .int .i64 0]) ∧ Lst w' A' p ∧ Below W.heap.size W w'))
    (HE : Hid (∀ (W : World) X cx Y cy, Lst W X p → Lst W Y p → Calls Try.prog 11 #[.slice X n cx, .slice Y n cy] W fun e w' => e = .returned (.bool true) ∧ Below W.heap.size W w'))
    (HR : Hid (∀ (W : World) X cx Y cy, Lst W X p → Lst W Y c → Calls Try.prog 13 #[.slice X n cx, .slice Y lc cy] W fun e w' => ∃ A' c', e = .returned (.tuple #[.slice A' 0 c', .int .i64 1]) ∧ Lst w' A' [] ∧ Below W.heap.size W w'))
    (hA : Lst w A a) (hB : Lst w B b) (hC : Lst w C c) :
    Calls Try.prog 4 #[.slice A na ca, .slice B nb cb, .slice C nc cc] w fun e w' => e = .returned (.bool true) ∧ Below w.heap.size w w' := by
  have LA_0 := Lib.hid (hA)
  have LB_0 := Lib.hid (hB)
  have LC_0 := Lib.hid (hC)
  clear hA hB hC
  go_enter Try.func4, Try.ntmps4
  go_wp2_with fail
  refine (HFa.out _).mono ?_
  rintro e w' ⟨rfl, rfl⟩
  go_wp2_with fail
  refine (HFb.out _).mono ?_
  rintro e w' ⟨rfl, rfl⟩
  go_wp2_with fail
  refine (HFc.out _).mono ?_
  rintro e w' ⟨rfl, rfl⟩
  go_wp2_with fail
  refine (HM.out _ _ _ _ _ LA_0.out LB_0.out).mono ?_
  rintro e w1 ⟨A1, c1, rfl, hl, hb⟩
  have HB_1 : Hid (Below w.heap.size w w1) := Lib.hid hb
  have LA_1 := Lib.hid (LA_0.out.on hb)
  have LB_1 := Lib.hid (LB_0.out.on hb)
  have LC_1 := Lib.hid (LC_0.out.on hb)
  clear LA_0 LB_0 LC_0 hb
  have LP_1 := Lib.hid hl
  clear hl
  go_wp2_with fail
  refine (HN.out _ _ _ _ _ LB_1.out LA_1.out).mono ?_
  rintro e w2 ⟨A2, c2, rfl, hl, hb⟩
  have HB_2 : Hid (Below w.heap.size w w2) := Lib.hid (HB_1.out.trans (hb.mono HB_1.out.size))
  have LA_2 := Lib.hid (LA_1.out.on hb)
  have LB_2 := Lib.hid (LB_1.out.on hb)
  have LC_2 := Lib.hid (LC_1.out.on hb)
  have LP_2 := Lib.hid (LP_1.out.on hb)
  clear HB_1 LA_1 LB_1 LC_1 LP_1 hb
  have LQ_2 := Lib.hid hl
  clear hl
  go_wp2_with fail
  refine (HX.out _ _ _ _ _ LP_2.out LA_2.out).mono ?_
  rintro e w3 ⟨A3, c3, rfl, _, hb⟩
  have HB_3 : Hid (Below w.heap.size w w3) := Lib.hid (HB_2.out.trans (hb.mono HB_2.out.size))
  have LA_3 := Lib.hid (LA_2.out.on hb)
  have LB_3 := Lib.hid (LB_2.out.on hb)
  have LC_3 := Lib.hid (LC_2.out.on hb)
  have LP_3 := Lib.hid (LP_2.out.on hb)
  have LQ_3 := Lib.hid (LQ_2.out.on hb)
  clear HB_2 LA_2 LB_2 LC_2 LP_2 LQ_2 hb
  go_wp2_with fail
  refine (HY.out _ _ _ _ _ LP_3.out LB_3.out).mono ?_
  rintro e w4 ⟨A4, c4, rfl, _, hb⟩
  have HB_4 : Hid (Below w.heap.size w w4) := Lib.hid (HB_3.out.trans (hb.mono HB_3.out.size))
  have LA_4 := Lib.hid (LA_3.out.on hb)
  have LB_4 := Lib.hid (LB_3.out.on hb)
  have LC_4 := Lib.hid (LC_3.out.on hb)
  have LP_4 := Lib.hid (LP_3.out.on hb)
  have LQ_4 := Lib.hid (LQ_3.out.on hb)
  clear HB_3 LA_3 LB_3 LC_3 LP_3 LQ_3 hb
  go_wp2_with fail
  refine (HS.out _ _ _ _ _ LP_4.out LQ_4.out).mono ?_
  rintro e w5 ⟨A5, c5, rfl, hl, hb⟩
  have HB_5 : Hid (Below w.heap.size w w5) := Lib.hid (HB_4.out.trans (hb.mono HB_4.out.size))
  have LA_5 := Lib.hid (LA_4.out.on hb)
  have LB_5 := Lib.hid (LB_4.out.on hb)
  have LC_5 := Lib.hid (LC_4.out.on hb)
  have LP_5 := Lib.hid (LP_4.out.on hb)
  have LQ_5 := Lib.hid (LQ_4.out.on hb)
  clear HB_4 LA_4 LB_4 LC_4 LP_4 LQ_4 hb
  have LS_5 := Lib.hid hl
  clear hl
  go_wp2_with fail
  refine (HE.out _ _ _ _ _ LP_5.out LQ_5.out).mono ?_
  rintro e w6 ⟨rfl, hb⟩
  have HB_6 : Hid (Below w.heap.size w w6) := Lib.hid (HB_5.out.trans (hb.mono HB_5.out.size))
  have LA_6 := Lib.hid (LA_5.out.on hb)
  have LB_6 := Lib.hid (LB_5.out.on hb)
  have LC_6 := Lib.hid (LC_5.out.on hb)
  have LP_6 := Lib.hid (LP_5.out.on hb)
  have LQ_6 := Lib.hid (LQ_5.out.on hb)
  have LS_6 := Lib.hid (LS_5.out.on hb)
  clear HB_5 LA_5 LB_5 LC_5 LP_5 LQ_5 LS_5 hb
  go_wp2_with fail
  refine (HE.out _ _ _ _ _ LS_6.out LP_6.out).mono ?_
  rintro e w7 ⟨rfl, hb⟩
  have HB_7 : Hid (Below w.heap.size w w7) := Lib.hid (HB_6.out.trans (hb.mono HB_6.out.size))
  have LA_7 := Lib.hid (LA_6.out.on hb)
  have LB_7 := Lib.hid (LB_6.out.on hb)
  have LC_7 := Lib.hid (LC_6.out.on hb)
  have LP_7 := Lib.hid (LP_6.out.on hb)
  have LQ_7 := Lib.hid (LQ_6.out.on hb)
  have LS_7 := Lib.hid (LS_6.out.on hb)
  clear HB_6 LA_6 LB_6 LC_6 LP_6 LQ_6 LS_6 hb
  clear LQ_7 LS_7
  go_wp2_with fail
  refine (HR.out _ _ _ _ _ LP_7.out LC_7.out).mono ?_
  rintro e w8 ⟨A6, c6, rfl, _, hb⟩
  have HB_8 : Hid (Below w.heap.size w w8) := Lib.hid (HB_7.out.trans (hb.mono HB_7.out.size))
  have LA_8 := Lib.hid (LA_7.out.on hb)
  have LB_8 := Lib.hid (LB_7.out.on hb)
  have LC_8 := Lib.hid (LC_7.out.on hb)
  have LP_8 := Lib.hid (LP_7.out.on hb)
  clear HB_7 LA_7 LB_7 LC_7 LP_7 hb
  go_wp2_with fail
  refine (awake_any _).mono ?_
  rintro e wE ⟨rfl, hbE⟩
  have HE : Hid (Below w.heap.size w wE) := Lib.hid (HB_8.out.trans (hbE.mono HB_8.out.size))
  clear hbE
  go_wp2_with fail
  go_ret
  exact ⟨rfl, HE.out⟩

set_option maxRecDepth 100000 in
set_option maxHeartbeats 4000000 in
theorem wayThree (A B C : Option Addr) (na nb nc ca cb cc : Nat) (w : World) (a b c p r t : List Kn) (n : Nat)
    (HFa : Hid (∀ W : World, Calls Try.prog 9 #[.slice A na ca] W fun e w' => e = .returned (.slice A n ca) ∧ W = w')) (HFb : Hid (∀ W : World, Calls Try.prog 9 #[.slice B nb cb] W fun e w' => e = .returned (.slice B n cb) ∧ W = w')) (HFc : Hid (∀ W : World, Calls Try.prog 9 #[.slice C nc cc] W fun e w' => e = .returned (.slice C n cc) ∧ W = w'))
    (HM : Hid (∀ (W : World) X cx Y cy, Lst W X a → Lst W Y b → Calls Try.prog 13 #[.slice X n cx, .slice Y n cy] W fun e w' => ∃ A' c', e = .returned (.tuple #[.slice A' n c', .int .i64 0]) ∧ Lst w' A' p ∧ Below W.heap.size W w'))
    (HN : Hid (∀ (W : World) X cx Y cy, Lst W X b → Lst W Y a → Calls Try.prog 13 #[.slice X n cx, .slice Y n cy] W fun e w' => ∃ A' c', e = .returned (.tuple #[.slice A' n c', .int .i64 0]) ∧ Lst w' A' p ∧ Below W.heap.size W w'))
    (HX : Hid (∀ (W : World) X cx Y cy, Lst W X p → Lst W Y a → Calls Try.prog 14 #[.slice X n cx, .slice Y n cy] W fun e w' => ∃ A' c', e = .returned (.tuple #[.slice A' 0 c', .int .i64 0]) ∧ Ns w' A' [] ∧ Below W.heap.size W w'))
    (HY : Hid (∀ (W : World) X cx Y cy, Lst W X p → Lst W Y b → Calls Try.prog 14 #[.slice X n cx, .slice Y n cy] W fun e w' => ∃ A' c', e = .returned (.tuple #[.slice A' 0 c', .int .i64 0]) ∧ Ns w' A' [] ∧ Below W.heap.size W w'))
    (HS : Hid (∀ (W : World) X cx Y cy, Lst W X p → Lst W Y p → Calls Try.prog 13 #[.slice X n cx, .slice Y n cy] W fun e w' => ∃ A' c', e = .returned (.tuple #[.slice A' n c', .int .i64 0]) ∧ Lst w' A' p ∧ Below W.heap.size W w'))
    (HE : Hid (∀ (W : World) X cx Y cy, Lst W X p → Lst W Y p → Calls Try.prog 11 #[.slice X n cx, .slice Y n cy] W fun e w' => e = .returned (.bool true) ∧ Below W.heap.size W w'))
    (HR : Hid (∀ (W : World) X cx Y cy, Lst W X p → Lst W Y c → Calls Try.prog 13 #[.slice X n cx, .slice Y n cy] W fun e w' => ∃ A' c', e = .returned (.tuple #[.slice A' n c', .int .i64 0]) ∧ Lst w' A' r ∧ Below W.heap.size W w'))
    (HT : Hid (∀ (W : World) X cx Y cy, Lst W X b → Lst W Y c → Calls Try.prog 13 #[.slice X n cx, .slice Y n cy] W fun e w' => ∃ A' c', e = .returned (.tuple #[.slice A' n c', .int .i64 0]) ∧ Lst w' A' t ∧ Below W.heap.size W w'))
    (HU : Hid (∀ (W : World) X cx Y cy, Lst W X a → Lst W Y t → Calls Try.prog 13 #[.slice X n cx, .slice Y n cy] W fun e w' => ∃ A' c', e = .returned (.tuple #[.slice A' n c', .int .i64 0]) ∧ Lst w' A' r ∧ Below W.heap.size W w'))
    (HEr : Hid (∀ (W : World) X cx Y cy, Lst W X r → Lst W Y r → Calls Try.prog 11 #[.slice X n cx, .slice Y n cy] W fun e w' => e = .returned (.bool true) ∧ Below W.heap.size W w'))
    (hA : Lst w A a) (hB : Lst w B b) (hC : Lst w C c) :
    Calls Try.prog 4 #[.slice A na ca, .slice B nb cb, .slice C nc cc] w fun e w' => e = .returned (.bool true) ∧ Below w.heap.size w w' := by
  have LA_0 := Lib.hid (hA)
  have LB_0 := Lib.hid (hB)
  have LC_0 := Lib.hid (hC)
  clear hA hB hC
  go_enter Try.func4, Try.ntmps4
  go_wp2_with fail
  refine (HFa.out _).mono ?_
  rintro e w' ⟨rfl, rfl⟩
  go_wp2_with fail
  refine (HFb.out _).mono ?_
  rintro e w' ⟨rfl, rfl⟩
  go_wp2_with fail
  refine (HFc.out _).mono ?_
  rintro e w' ⟨rfl, rfl⟩
  go_wp2_with fail
  refine (HM.out _ _ _ _ _ LA_0.out LB_0.out).mono ?_
  rintro e w1 ⟨A1, c1, rfl, hl, hb⟩
  have HB_1 : Hid (Below w.heap.size w w1) := Lib.hid hb
  have LA_1 := Lib.hid (LA_0.out.on hb)
  have LB_1 := Lib.hid (LB_0.out.on hb)
  have LC_1 := Lib.hid (LC_0.out.on hb)
  clear LA_0 LB_0 LC_0 hb
  have LP_1 := Lib.hid hl
  clear hl
  go_wp2_with fail
  refine (HN.out _ _ _ _ _ LB_1.out LA_1.out).mono ?_
  rintro e w2 ⟨A2, c2, rfl, hl, hb⟩
  have HB_2 : Hid (Below w.heap.size w w2) := Lib.hid (HB_1.out.trans (hb.mono HB_1.out.size))
  have LA_2 := Lib.hid (LA_1.out.on hb)
  have LB_2 := Lib.hid (LB_1.out.on hb)
  have LC_2 := Lib.hid (LC_1.out.on hb)
  have LP_2 := Lib.hid (LP_1.out.on hb)
  clear HB_1 LA_1 LB_1 LC_1 LP_1 hb
  have LQ_2 := Lib.hid hl
  clear hl
  go_wp2_with fail
  refine (HX.out _ _ _ _ _ LP_2.out LA_2.out).mono ?_
  rintro e w3 ⟨A3, c3, rfl, _, hb⟩
  have HB_3 : Hid (Below w.heap.size w w3) := Lib.hid (HB_2.out.trans (hb.mono HB_2.out.size))
  have LA_3 := Lib.hid (LA_2.out.on hb)
  have LB_3 := Lib.hid (LB_2.out.on hb)
  have LC_3 := Lib.hid (LC_2.out.on hb)
  have LP_3 := Lib.hid (LP_2.out.on hb)
  have LQ_3 := Lib.hid (LQ_2.out.on hb)
  clear HB_2 LA_2 LB_2 LC_2 LP_2 LQ_2 hb
  go_wp2_with fail
  refine (HY.out _ _ _ _ _ LP_3.out LB_3.out).mono ?_
  rintro e w4 ⟨A4, c4, rfl, _, hb⟩
  have HB_4 : Hid (Below w.heap.size w w4) := Lib.hid (HB_3.out.trans (hb.mono HB_3.out.size))
  have LA_4 := Lib.hid (LA_3.out.on hb)
  have LB_4 := Lib.hid (LB_3.out.on hb)
  have LC_4 := Lib.hid (LC_3.out.on hb)
  have LP_4 := Lib.hid (LP_3.out.on hb)
  have LQ_4 := Lib.hid (LQ_3.out.on hb)
  clear HB_3 LA_3 LB_3 LC_3 LP_3 LQ_3 hb
  go_wp2_with fail
  refine (HS.out _ _ _ _ _ LP_4.out LQ_4.out).mono ?_
  rintro e w5 ⟨A5, c5, rfl, hl, hb⟩
  have HB_5 : Hid (Below w.heap.size w w5) := Lib.hid (HB_4.out.trans (hb.mono HB_4.out.size))
  have LA_5 := Lib.hid (LA_4.out.on hb)
  have LB_5 := Lib.hid (LB_4.out.on hb)
  have LC_5 := Lib.hid (LC_4.out.on hb)
  have LP_5 := Lib.hid (LP_4.out.on hb)
  have LQ_5 := Lib.hid (LQ_4.out.on hb)
  clear HB_4 LA_4 LB_4 LC_4 LP_4 LQ_4 hb
  have LS_5 := Lib.hid hl
  clear hl
  go_wp2_with fail
  refine (HE.out _ _ _ _ _ LP_5.out LQ_5.out).mono ?_
  rintro e w6 ⟨rfl, hb⟩
  have HB_6 : Hid (Below w.heap.size w w6) := Lib.hid (HB_5.out.trans (hb.mono HB_5.out.size))
  have LA_6 := Lib.hid (LA_5.out.on hb)
  have LB_6 := Lib.hid (LB_5.out.on hb)
  have LC_6 := Lib.hid (LC_5.out.on hb)
  have LP_6 := Lib.hid (LP_5.out.on hb)
  have LQ_6 := Lib.hid (LQ_5.out.on hb)
  have LS_6 := Lib.hid (LS_5.out.on hb)
  clear HB_5 LA_5 LB_5 LC_5 LP_5 LQ_5 LS_5 hb
  go_wp2_with fail
  refine (HE.out _ _ _ _ _ LS_6.out LP_6.out).mono ?_
  rintro e w7 ⟨rfl, hb⟩
  have HB_7 : Hid (Below w.heap.size w w7) := Lib.hid (HB_6.out.trans (hb.mono HB_6.out.size))
  have LA_7 := Lib.hid (LA_6.out.on hb)
  have LB_7 := Lib.hid (LB_6.out.on hb)
  have LC_7 := Lib.hid (LC_6.out.on hb)
  have LP_7 := Lib.hid (LP_6.out.on hb)
  have LQ_7 := Lib.hid (LQ_6.out.on hb)
  have LS_7 := Lib.hid (LS_6.out.on hb)
  clear HB_6 LA_6 LB_6 LC_6 LP_6 LQ_6 LS_6 hb
  clear LQ_7 LS_7
  go_wp2_with fail
  refine (HR.out _ _ _ _ _ LP_7.out LC_7.out).mono ?_
  rintro e w8 ⟨A6, c6, rfl, hl, hb⟩
  have HB_8 : Hid (Below w.heap.size w w8) := Lib.hid (HB_7.out.trans (hb.mono HB_7.out.size))
  have LA_8 := Lib.hid (LA_7.out.on hb)
  have LB_8 := Lib.hid (LB_7.out.on hb)
  have LC_8 := Lib.hid (LC_7.out.on hb)
  have LP_8 := Lib.hid (LP_7.out.on hb)
  clear HB_7 LA_7 LB_7 LC_7 LP_7 hb
  have LR_8 := Lib.hid hl
  clear hl
  go_wp2_with fail
  refine (HT.out _ _ _ _ _ LB_8.out LC_8.out).mono ?_
  rintro e w9 ⟨A7, c7, rfl, hl, hb⟩
  have HB_9 : Hid (Below w.heap.size w w9) := Lib.hid (HB_8.out.trans (hb.mono HB_8.out.size))
  have LA_9 := Lib.hid (LA_8.out.on hb)
  have LB_9 := Lib.hid (LB_8.out.on hb)
  have LC_9 := Lib.hid (LC_8.out.on hb)
  have LP_9 := Lib.hid (LP_8.out.on hb)
  have LR_9 := Lib.hid (LR_8.out.on hb)
  clear HB_8 LA_8 LB_8 LC_8 LP_8 LR_8 hb
  have LT_9 := Lib.hid hl
  clear hl
  go_wp2_with fail
  refine (HU.out _ _ _ _ _ LA_9.out LT_9.out).mono ?_
  rintro e w10 ⟨A8, c8, rfl, hl, hb⟩
  have HB_10 : Hid (Below w.heap.size w w10) := Lib.hid (HB_9.out.trans (hb.mono HB_9.out.size))
  have LA_10 := Lib.hid (LA_9.out.on hb)
  have LB_10 := Lib.hid (LB_9.out.on hb)
  have LC_10 := Lib.hid (LC_9.out.on hb)
  have LP_10 := Lib.hid (LP_9.out.on hb)
  have LR_10 := Lib.hid (LR_9.out.on hb)
  have LT_10 := Lib.hid (LT_9.out.on hb)
  clear HB_9 LA_9 LB_9 LC_9 LP_9 LR_9 LT_9 hb
  have LU_10 := Lib.hid hl
  clear hl
  go_wp2_with fail
  refine (HEr.out _ _ _ _ _ LR_10.out LU_10.out).mono ?_
  rintro e w11 ⟨rfl, hb⟩
  have HB_11 : Hid (Below w.heap.size w w11) := Lib.hid (HB_10.out.trans (hb.mono HB_10.out.size))
  have LA_11 := Lib.hid (LA_10.out.on hb)
  have LB_11 := Lib.hid (LB_10.out.on hb)
  have LC_11 := Lib.hid (LC_10.out.on hb)
  have LP_11 := Lib.hid (LP_10.out.on hb)
  have LR_11 := Lib.hid (LR_10.out.on hb)
  have LT_11 := Lib.hid (LT_10.out.on hb)
  have LU_11 := Lib.hid (LU_10.out.on hb)
  clear HB_10 LA_10 LB_10 LC_10 LP_10 LR_10 LT_10 LU_10 hb
  clear LA_11 LB_11 LC_11 LP_11 LR_11 LT_11 LU_11
  go_wp2_with fail
  refine (awake_any _).mono ?_
  rintro e wE ⟨rfl, hbE⟩
  have HE : Hid (Below w.heap.size w wE) := Lib.hid (HB_11.out.trans (hbE.mono HB_11.out.size))
  clear hbE
  go_wp2_with fail
  go_ret
  exact ⟨rfl, HE.out⟩

theorem both_iff (t o : List Kn) : both t o = true ↔ t.length = o.length ∧ mayT t = true ∧ mayT o = true := by simp [both]
theorem both_sym {t o : List Kn} : both t o = both o t := by
  rw [Bool.eq_iff_iff, both_iff, both_iff]
  exact ⟨fun ⟨h1, h2, h3⟩ => ⟨h1.symm, h3, h2⟩, fun ⟨h1, h2, h3⟩ => ⟨h1.symm, h3, h2⟩⟩

theorem walk (A B C : Option Addr) (ca cb cc : Nat) (a b c : List Kn) (w : World) (ha : a.length ≤ ca ∧ ca ≤ maxLen ∧ Lst w A a) (hb : b.length ≤ cb ∧ cb ≤ maxLen ∧ Lst w B b) (hc : c.length ≤ cc ∧ cc ≤ maxLen ∧ Lst w C c) :
    Calls Try.prog 4 #[.slice A a.length ca, .slice B b.length cb, .slice C c.length cc] w fun e w' => e = .returned (.bool true) ∧ Below w.heap.size w w' := by
  have fa := few_any A ca a w ha.1 ha.2.1 ha.2.2
  have fb := few_any B cb b w hb.1 hb.2.1 hb.2.2
  have fc := few_any C cc c w hc.1 hc.2.1 hc.2.2
  have la := ha.2.2.take 65
  have lb := hb.2.2.take 65
  have lc := hc.2.2.take 65
  have na : (a.take 65).length ≤ 65 := by rw [List.length_take]; omega
  have nb : (b.take 65).length ≤ 65 := by rw [List.length_take]; omega
  have nc : (c.take 65).length ≤ 65 := by rw [List.length_take]; omega
  generalize a.length = ka at *
  generalize b.length = kb at *
  generalize c.length = kc at *
  generalize a.take 65 = a at *
  generalize b.take 65 = b at *
  generalize c.take 65 = c at *
  rcases hab : both a b with _ | _
  · have hba : both b a = false := by rw [both_sym]; exact hab
    exact wayBad A B C ka kb kc ca cb cc w a b a.length b.length c.length (Lib.hid fa) (Lib.hid fb) (Lib.hid fc)
      (Lib.hid fun W A c B d h h' => mer_bad A B c d a b W (by omega) (by omega) h h' hab) (Lib.hid fun W A c B d h h' => mer_bad A B c d b a W (by omega) (by omega) h h' hba) la lb
  have hba : both b a = true := by rw [both_sym]; exact hab
  obtain ⟨hl, ma, mb⟩ := (both_iff a b).1 hab
  have a3 := ((mayT_iff a).1 ma).2.2
  have b3 := ((mayT_iff b).1 mb).2.2
  have hp := mer_comm hl a3 b3
  have mp : mayT (merL a b) = true := mayT_mer ma
  have lp : (merL a b).length = a.length := len_merL a b
  have hpa : both (merL a b) a = true := (both_iff _ _).2 ⟨lp, mp, ma⟩
  have hpb : both (merL a b) b = true := (both_iff _ _).2 ⟨by omega, mp, mb⟩
  have hpp : both (merL a b) (merL a b) = true := (both_iff _ _).2 ⟨rfl, mp, mp⟩
  have gM : ∀ (W : World) X cx Y cy, Lst W X a → Lst W Y b → Calls Try.prog 13 #[.slice X a.length cx, .slice Y a.length cy] W fun e w' => ∃ A' c', e = .returned (.tuple #[.slice A' a.length c', .int .i64 0]) ∧ Lst w' A' (merL a b) ∧ Below W.heap.size W w' := fun W A c B d h h' => by
    have := mer_yes A B c d a b W (by omega) h h' hab
    unfold Gives at this
    rwa [lp, ← hl] at this
  have gN : ∀ (W : World) X cx Y cy, Lst W X b → Lst W Y a → Calls Try.prog 13 #[.slice X a.length cx, .slice Y a.length cy] W fun e w' => ∃ A' c', e = .returned (.tuple #[.slice A' a.length c', .int .i64 0]) ∧ Lst w' A' (merL a b) ∧ Below W.heap.size W w' := fun W A c B d h h' => by
    have := mer_yes A B c d b a W (by omega) h h' hba
    unfold Gives at this
    rwa [← hp, lp, ← hl] at this
  have gX : ∀ (W : World) X cx Y cy, Lst W X (merL a b) → Lst W Y a → Calls Try.prog 14 #[.slice X a.length cx, .slice Y a.length cy] W fun e w' => ∃ A' c', e = .returned (.tuple #[.slice A' 0 c', .int .i64 0]) ∧ Ns w' A' [] ∧ Below W.heap.size W w' := fun W A c B d h h' => by
    have := beh_yes A B c d (merL a b) a W (by omega) h h' hpa
    unfold NodesE at this
    rwa [beh_mer_left hl a3 b3, lp] at this
  have gY : ∀ (W : World) X cx Y cy, Lst W X (merL a b) → Lst W Y b → Calls Try.prog 14 #[.slice X a.length cx, .slice Y a.length cy] W fun e w' => ∃ A' c', e = .returned (.tuple #[.slice A' 0 c', .int .i64 0]) ∧ Ns w' A' [] ∧ Below W.heap.size W w' := fun W A c B d h h' => by
    have := beh_yes A B c d (merL a b) b W (by omega) h h' hpb
    unfold NodesE at this
    rwa [beh_mer_right hl a3 b3, lp, ← hl] at this
  have gS : ∀ (W : World) X cx Y cy, Lst W X (merL a b) → Lst W Y (merL a b) → Calls Try.prog 13 #[.slice X a.length cx, .slice Y a.length cy] W fun e w' => ∃ A' c', e = .returned (.tuple #[.slice A' a.length c', .int .i64 0]) ∧ Lst w' A' (merL a b) ∧ Below W.heap.size W w' := fun W A c B d h h' => by
    have := mer_yes A B c d (merL a b) (merL a b) W (by omega) h h' hpp
    unfold Gives at this
    rwa [mer_self, lp] at this
  have gE : ∀ (W : World) X cx Y cy, Lst W X (merL a b) → Lst W Y (merL a b) → Calls Try.prog 11 #[.slice X a.length cx, .slice Y a.length cy] W fun e w' => e = .returned (.bool true) ∧ Below W.heap.size W w' := fun W A c B d h h' => by
    have := rsame_any A B c d (merL a b) (merL a b) W (by omega) h h' true (by simp)
    rwa [lp] at this
  have fb' := fb
  rw [← hl] at fb'
  rcases hpc : both (merL a b) c with _ | _
  · have gR : ∀ (W : World) X cx Y cy, Lst W X (merL a b) → Lst W Y c → Calls Try.prog 13 #[.slice X a.length cx, .slice Y c.length cy] W fun e w' => ∃ A' c', e = .returned (.tuple #[.slice A' 0 c', .int .i64 1]) ∧ Lst w' A' [] ∧ Below W.heap.size W w' := fun W A k B d h h' => by
      have := mer_bad A B k d (merL a b) c W (by omega) (by omega) h h' hpc
      unfold Gives at this
      rwa [lp] at this
    exact wayTwo A B C ka kb kc ca cb cc w a b c (merL a b) a.length c.length (Lib.hid fa) (Lib.hid fb') (Lib.hid fc) (Lib.hid gM) (Lib.hid gN) (Lib.hid gX) (Lib.hid gY) (Lib.hid gS) (Lib.hid gE) (Lib.hid gR) la lb lc
  obtain ⟨hlc, _, mc⟩ := (both_iff _ _).1 hpc
  have c3 := ((mayT_iff c).1 mc).2.2
  have hbc : both b c = true := (both_iff _ _).2 ⟨by omega, mb, mc⟩
  have mt : mayT (merL b c) = true := mayT_mer mb
  have lt : (merL b c).length = b.length := len_merL b c
  have hat : both a (merL b c) = true := (both_iff _ _).2 ⟨by omega, ma, mt⟩
  have hr := mer_assoc hl (show b.length = c.length by omega) a3 b3 c3
  have lr : (merL (merL a b) c).length = a.length := by rw [len_merL, lp]
  have hca : c.length = a.length := by omega
  have gR : ∀ (W : World) X cx Y cy, Lst W X (merL a b) → Lst W Y c → Calls Try.prog 13 #[.slice X a.length cx, .slice Y a.length cy] W fun e w' => ∃ A' c', e = .returned (.tuple #[.slice A' a.length c', .int .i64 0]) ∧ Lst w' A' (merL (merL a b) c) ∧ Below W.heap.size W w' := fun W A k B d h h' => by
    have := mer_yes A B k d (merL a b) c W (by omega) h h' hpc
    unfold Gives at this
    rwa [lr, lp, hca] at this
  have gT : ∀ (W : World) X cx Y cy, Lst W X b → Lst W Y c → Calls Try.prog 13 #[.slice X a.length cx, .slice Y a.length cy] W fun e w' => ∃ A' c', e = .returned (.tuple #[.slice A' a.length c', .int .i64 0]) ∧ Lst w' A' (merL b c) ∧ Below W.heap.size W w' := fun W A k B d h h' => by
    have := mer_yes A B k d b c W (by omega) h h' hbc
    unfold Gives at this
    rwa [lt, hca, ← hl] at this
  have gU : ∀ (W : World) X cx Y cy, Lst W X a → Lst W Y (merL b c) → Calls Try.prog 13 #[.slice X a.length cx, .slice Y a.length cy] W fun e w' => ∃ A' c', e = .returned (.tuple #[.slice A' a.length c', .int .i64 0]) ∧ Lst w' A' (merL (merL a b) c) ∧ Below W.heap.size W w' := fun W A k B d h h' => by
    have := mer_yes A B k d a (merL b c) W (by omega) h h' hat
    unfold Gives at this
    rwa [← hr, lr, lt, ← hl] at this
  have gEr : ∀ (W : World) X cx Y cy, Lst W X (merL (merL a b) c) → Lst W Y (merL (merL a b) c) → Calls Try.prog 11 #[.slice X a.length cx, .slice Y a.length cy] W fun e w' => e = .returned (.bool true) ∧ Below W.heap.size W w' := fun W A k B d h h' => by
    have := rsame_any A B k d (merL (merL a b) c) (merL (merL a b) c) W (by omega) h h' true (by simp)
    rwa [lr] at this
  have fc' := fc
  rw [hca] at fc'
  exact wayThree A B C ka kb kc ca cb cc w a b c (merL a b) (merL (merL a b) c) (merL b c) a.length (Lib.hid fa) (Lib.hid fb') (Lib.hid fc') (Lib.hid gM) (Lib.hid gN) (Lib.hid gX) (Lib.hid gY) (Lib.hid gS) (Lib.hid gE) (Lib.hid gR) (Lib.hid gT) (Lib.hid gU) (Lib.hid gEr) la lb lc

/-! ### the statement -/
theorem parOk : ∀ t ∈ (#[22, 22, 22] : Array TypeId).toList, Try.prog.readableRec t = true ∧ t < Try.prog.types.size := by
  have hall : ([22, 22, 22].all fun t => Try.prog.readableRec t && decide (t < Try.prog.types.size)) = true := by kernel_rfl
  intro t ht
  simpa using List.all_eq_true.1 hall t ht

/-- What the walk gives, for every argument. -/
theorem contract (H : Type) (enc : TypeId × Value → H) (W : World) (base : Nat) (args : Array Value) (ds gs : List (DataW H)) (before : List MemPlace)
    (hval : ∀ (j : Nat) t v, Try.f4.params[j]? = some t → args[j]? = some v → Value.okWide Try.prog W .any base t v)
    (hW : DataW.Whole enc Try.prog Try.f4.params.toList Rows.tableMergesSpec.vars false W args.toList ds gs before) :
    Calls Try.prog 4 args W fun e W' => ∃ v, e = .returned v ∧ Rows.tableMergesSpec.post enc Try.prog Try.f4 false true false false W args v W' := by
  have hW' := hW
  obtain ⟨p, q, hA0, hV, rfl, hfz, hnd⟩ := hW
  have hA : DataW.TrodAll enc Try.prog W 0 (fun _ => true) true Try.f4.params.toList args.toList ds p := hA0
  rw [Try.params4] at hA hval
  obtain ⟨v0, vs0, d0, ds0, p0, q0, hargs, rfl, rfl, h0, r0⟩ := trodAll_cons hA
  obtain ⟨v1, vs1, d1, ds1, p1, q1, rfl, rfl, rfl, h1, r1⟩ := trodAll_cons r0
  obtain ⟨v2, vs2, d2, ds2, p2, q2, rfl, rfl, rfl, h2, r2⟩ := trodAll_cons r1
  obtain ⟨rfl, rfl, rfl⟩ := trodAll_nil r2
  obtain rfl : args = #[v0, v1, v2] := by cases args; simp_all
  obtain ⟨rfl, rfl⟩ := trodVars_none hV
  obtain ⟨A, ca, a, rfl, ha⟩ := open_kns (hval 0 22 v0 rfl rfl) h0
  obtain ⟨B, cb, b, rfl, hb⟩ := open_kns (hval 1 22 v1 rfl rfl) h1
  obtain ⟨C, cc, c, rfl, hc⟩ := open_kns (hval 2 22 v2 rfl rfl) h2
  clear hA0
  refine (walk A B C ca cb cc a b c W ⟨ha.1, ha.2.1, ha.2.2.1⟩ ⟨hb.1, hb.2.1, hb.2.2.1⟩ ⟨hc.1, hc.2.1, hc.2.2.1⟩).mono fun e W' ⟨he, hbl⟩ => ?_
  subst he
  exact ⟨_, rfl, law_post rfl (by rw [Try.params4]; exact parOk) rfl hW' rfl rfl rfl hbl⟩

set_option maxRecDepth 100000 in
theorem lifted (os : Os) (started : os.Started) (H : Type) (enc : TypeId × Value → H) :
    ReturnsInHanded {} Try.checked os 4 .any (Rows.tableMergesSpec.pre6 enc Try.prog Try.f4 Rows.tableMergesRow.domain false) (Rows.tableMergesSpec.post enc Try.prog Try.f4 false true false false) := by
  refine returnsInHanded_of_change (C := Try.checked) own started (by kernel_rfl) Try.func4
    (ChangeSpec.witness6 (enc := enc) (C := Try.checked) false ⟨#[], #[.slice none 0 0, .slice none 0 0, .slice none 0 0], []⟩ 8 (by kernel_rfl) (by kernel_rfl) (by kernel_rfl) (by kernel_rfl)) ?_
  intro W base args ds gs before hval hW _ _
  exact contract H enc W base args ds gs before hval hW

/-- THE STATEMENT. -/
theorem said : Rows.TableMergesSaid :=
  OpenClaim.holds_of_wide 4 Try.f4 rfl rfl rfl rfl rfl rfl rfl ⟨rfl, rfl, rfl, rfl, rfl⟩ rfl rfl rfl rfl rfl (by kernel_rfl) Try.func4 (by kernel_rfl)
    (of_decide_eq_true (by kernel_rfl)) (by unfold Func.isWrapper; first | (rw [if_pos (by decide +kernel)]; kernel_rfl) | (rw [if_neg (by decide +kernel)]; exact ⟨rfl, rfl⟩))
    (fun os started H enc _ => lifted os started H enc)
end Go.Proofs.Ytmfpipcedblklaa.lawMerges
