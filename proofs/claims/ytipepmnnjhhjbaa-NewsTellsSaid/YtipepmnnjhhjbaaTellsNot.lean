/-
  THE LAW NewsTells, where the queue may not be.
  For every queue (of which the law looks at the first sixty-five), all news, and every two numbers.
-/
import Derived.Test.YtipepmnnjhhjbaaRefs
namespace Go.Proofs.Ytipepmnnjhhjbaa.lawTells
open Go.Sort Go.ChangeShapes Go.WideShapes Go.ChangeAt Go.RowKit Go.Joins Go.Proofs.Ytipepmnnjhhjbaa.Pure

set_option maxRecDepth 100000 in
set_option maxHeartbeats 4000000 in
theorem wayNot (A : Option Addr) (kq nt nu nl nr c : Nat) (t u lR : List Td) (lN : List Nw) (n : Nw) (a b nb db eu et : Int) (sm su : Bool) (w : World)
    (HF : Hid (∀ (W : World), Calls Try.prog 9 #[.slice A kq c] W fun e w' => e = .returned (.slice A nt c) ∧ Below W.heap.size W w'))
    (HBU : Hid (∀ (W : World), Calls Try.prog 10 #[.int .i64 a, .int .i64 b] W fun e w' => e = .returned (.tuple #[.int .i64 nb, .int .i64 db]) ∧ Below W.heap.size W w'))
    (HRB : Hid (budB a b = true → ∀ (W : World), Calls Try.prog 11 #[.int .i64 a, .int .i64 b] W fun e w' => e = .returned (.int .i64 nb) ∧ Below W.heap.size W w'))
    (HA : Hid (∀ (W : World), Ts W A t → Calls Try.prog 12 #[.slice A nt c, .agg #[.int .i64 n.w, .int .u64 n.i, .int .i64 n.s], .int .i64 a] W fun e w' => ∃ A' c', e = .returned (.tuple #[.slice A' nu c', .int .i64 eu]) ∧ Ts w' A' u ∧ Below W.heap.size W w'))
    (HT : Hid (∀ (W : World), Ts W A t → Calls Try.prog 13 #[.slice A nt c, .int .i64 b] W fun e w' => ∃ A' c' A2 c2, e = .returned (.tuple #[.slice A' nl c', .slice A2 nr c2, .int .i64 et]) ∧ Ns w' A' lN ∧ Ts w' A2 lR ∧ Below W.heap.size W w'))
    (HCk : Hid (∀ (W : World), Ts W A t → Calls Try.prog 14 #[.slice A nt c] W fun e w' => e = .returned (.int .i64 1) ∧ Below W.heap.size W w'))
    (HMy : Hid (∀ (W : World), Ts W A t → Calls Try.prog 15 #[.slice A nt c] W fun e w' => e = .returned (.bool false) ∧ Below W.heap.size W w'))
    (HSu : Hid (∀ (W : World) X cx Y cy, Ts W X t → Ts W Y u → Calls Try.prog 16 #[.slice X nt cx, .slice Y nu cy] W fun e w' => e = .returned (.bool sm) ∧ Below W.heap.size W w'))
    (HRu : Hid (∀ (W : World) X cx Y cy, Ts W X t → Ts W Y u → Calls Try.prog 17 #[.slice X nt cx, .slice Y nu cy] W fun e w' => e = .returned (.bool sm) ∧ Below W.heap.size W w'))
    (HSt : Hid (∀ (W : World) X cx Y cy, Ts W X t → Ts W Y t → Calls Try.prog 16 #[.slice X nt cx, .slice Y nt cy] W fun e w' => e = .returned (.bool true) ∧ Below W.heap.size W w'))
    (HSut : Hid (∀ (W : World) X cx Y cy, Ts W X u → Ts W Y t → Calls Try.prog 17 #[.slice X nu cx, .slice Y nt cy] W fun e w' => e = .returned (.bool su) ∧ Below W.heap.size W w'))
    (hB : (budB a b = true ∧ db = 0) ∨ (budB a b = false ∧ nb = 0 ∧ db = 1)) (hA : u = t ∧ nu = nt ∧ eu = 1 ∧ sm = true ∧ su = true) (hT : nl = 0 ∧ nr = 0 ∧ et = 1) (hT0 : Ts w A t) :
    Calls Try.prog 3 #[.agg #[.slice A kq c, .int .i64 n.w, .int .u64 n.i, .int .i64 n.s, .int .i64 a, .int .i64 b]] w fun e w' => e = .returned (.bool true) ∧ Below w.heap.size w w' := by
  obtain ⟨rfl, rfl, rfl, rfl, rfl⟩ := hA
  obtain ⟨rfl, rfl, rfl⟩ := hT
  have hb0 : Below w.heap.size w (w.alloc (.cells #[.slice A kq c, .int .i64 n.w, .int .u64 n.i, .int .i64 n.s, .int .i64 a, .int .i64 b] 29)) := (Below.refl _ _).alloc (Nat.le_refl _) _
  have BK_0 := Lib.hid (Bask.new w A kq c n a b 29)
  have LT_0 := Lib.hid (hT0.on hb0)
  have HB_0 := Lib.hid hb0
  clear hb0 hT0
  go_enter Try.func3, Try.ntmps3
  go_upto_region 1 with (fail)
  generalize w.alloc (.cells #[.slice A kq c, .int .i64 n.w, .int .u64 n.i, .int .i64 n.s, .int .i64 a, .int .i64 b] 29) = w0 at *
  obtain ⟨b0, b1, b2, b3, b4, b5⟩ := BK_0.out
  go_wp2_with fail
  refine (HF.out _).mono ?_
  rintro e w1 ⟨rfl, hb⟩
  have HB_1 : Hid (Below w.heap.size w w1) := Lib.hid (HB_0.out.trans (hb.mono HB_0.out.size))
  have BK_1 := Lib.hid (BK_0.out.on hb)
  have LT_1 := Lib.hid (LT_0.out.on hb)
  clear HB_0 BK_0 LT_0 hb
  clear b0 b1 b2 b3 b4 b5
  obtain ⟨b0, b1, b2, b3, b4, b5⟩ := BK_1.out
  go_wp2_with fail
  refine (HBU.out _).mono ?_
  rintro e w2 ⟨rfl, hb⟩
  have HB_2 : Hid (Below w.heap.size w w2) := Lib.hid (HB_1.out.trans (hb.mono HB_1.out.size))
  have BK_2 := Lib.hid (BK_1.out.on hb)
  have LT_2 := Lib.hid (LT_1.out.on hb)
  clear HB_1 BK_1 LT_1 hb
  clear b0 b1 b2 b3 b4 b5
  obtain ⟨bad, hbad⟩ : ∃ bad : Bool, bad = !budB a b := ⟨_, rfl⟩
  have HBAD := Lib.hid hbad
  clear hbad
  obtain ⟨b0, b1, b2, b3, b4, b5⟩ := BK_2.out
  go_upto_region 3 with (fail)
  go_cut [41] from 24 to 41 (fun s wx => s = .bool bad ∧ w2 = wx)
  case first =>
    by_cases h0 : a < 1
    · have d0 : decide (a < 1) = true := by simpa using h0
      obtain rfl : bad = true := by
        rw [HBAD.out]
        unfold budB
        simp
        omega
      clear h0
      go_wp2_with fail
      go_meet
      exact ⟨rfl, rfl⟩
    have d0 : decide (a < 1) = false := by simpa using h0
    by_cases h1 : 64 < a
    · have d1 : decide (64 < a) = true := by simpa using h1
      obtain rfl : bad = true := by
        rw [HBAD.out]
        unfold budB
        simp
        omega
      clear h0 h1
      go_wp2_with fail
      go_meet
      exact ⟨rfl, rfl⟩
    have d1 : decide (64 < a) = false := by simpa using h1
    by_cases h2 : b < 1
    · have d2 : decide (b < 1) = true := by simpa using h2
      obtain rfl : bad = true := by
        rw [HBAD.out]
        unfold budB
        simp
        omega
      clear h0 h1 h2
      go_wp2_with fail
      go_meet
      exact ⟨rfl, rfl⟩
    have d2 : decide (b < 1) = false := by simpa using h2
    by_cases h3 : 8 < b
    · have d3 : decide (8 < b) = true := by simpa using h3
      obtain rfl : bad = true := by
        rw [HBAD.out]
        unfold budB
        simp
        omega
      clear h0 h1 h2 h3
      go_wp2_with fail
      go_meet
      exact ⟨rfl, rfl⟩
    have d3 : decide (8 < b) = false := by simpa using h3
    obtain rfl : bad = false := by
      rw [HBAD.out]
      unfold budB
      simp
      omega
    clear h0 h1 h2 h3
    go_wp2_with fail
    go_meet
    exact ⟨rfl, rfl⟩
  case rest =>
  obtain ⟨rfl, rfl⟩ := hcut
  clear b0 b1 b2 b3 b4 b5
  obtain ⟨b0, b1, b2, b3, b4, b5⟩ := BK_2.out
  go_upto_if 41 with (fail)
  go_cut [2] from 42 to 58 (fun s wx => s = .bool false ∧ Hid (Below w2.heap.size w2 wx))
  case first =>
    rcases hB with ⟨hb, rfl⟩ | ⟨hb, rfl, rfl⟩
    · obtain rfl : bad = false := by rw [HBAD.out, hb]; rfl
      have HRB' := Lib.hid (HRB.out hb)
      clear hb
      go_wp2_with fail
      refine (HRB'.out _).mono ?_
      rintro e wy ⟨rfl, hby⟩
      have HY := Lib.hid hby
      clear hby b0 b1 b2 b3 b4 b5
      go_wp2_with fail
      go_meet
      exact ⟨rfl, HY⟩
    · obtain rfl : bad = true := by rw [HBAD.out, hb]; rfl
      clear hb
      go_wp2_with fail
      go_meet
      exact ⟨rfl, Lib.hid (Below.refl _ _)⟩
  case rest =>
  obtain ⟨rfl, HCC⟩ := hcut
  have hbc := HCC.out
  clear HCC HBAD hB HRB
  clear b0 b1 b2 b3 b4 b5
  have HB_3 : Hid (Below w.heap.size w wc) := Lib.hid (HB_2.out.trans (hbc.mono HB_2.out.size))
  have BK_3 := Lib.hid (BK_2.out.on hbc)
  have LT_3 := Lib.hid (LT_2.out.on hbc)
  clear HB_2 BK_2 LT_2 hbc
  obtain ⟨b0, b1, b2, b3, b4, b5⟩ := BK_3.out
  go_upto_region 8 with (fail)
  go_wp2_with fail
  refine (HA.out _ LT_3.out).mono ?_
  rintro e w4 ⟨A2, c2, rfl, hl, hb⟩
  have HB_4 : Hid (Below w.heap.size w w4) := Lib.hid (HB_3.out.trans (hb.mono HB_3.out.size))
  have BK_4 := Lib.hid (BK_3.out.on hb)
  have LT_4 := Lib.hid (LT_3.out.on hb)
  clear HB_3 BK_3 LT_3 hb
  have LA_4 := Lib.hid hl
  clear hl
  clear b0 b1 b2 b3 b4 b5
  obtain ⟨b0, b1, b2, b3, b4, b5⟩ := BK_4.out
  go_wp2_with fail
  refine (HT.out _ LT_4.out).mono ?_
  rintro e w5 ⟨A3, c3, A4, c4, rfl, hn, hl, hb⟩
  have HB_5 : Hid (Below w.heap.size w w5) := Lib.hid (HB_4.out.trans (hb.mono HB_4.out.size))
  have BK_5 := Lib.hid (BK_4.out.on hb)
  have LT_5 := Lib.hid (LT_4.out.on hb)
  have LA_5 := Lib.hid (LA_4.out.on hb)
  clear HB_4 BK_4 LT_4 LA_4 hb
  have LN_5 := Lib.hid hn
  clear hn
  have LR_5 := Lib.hid hl
  clear hl
  clear b0 b1 b2 b3 b4 b5
  go_wp2_with fail
  refine (HCk.out _ LT_5.out).mono ?_
  rintro e w6 ⟨rfl, hb⟩
  have HB_6 : Hid (Below w.heap.size w w6) := Lib.hid (HB_5.out.trans (hb.mono HB_5.out.size))
  have BK_6 := Lib.hid (BK_5.out.on hb)
  have LT_6 := Lib.hid (LT_5.out.on hb)
  have LA_6 := Lib.hid (LA_5.out.on hb)
  have LN_6 := Lib.hid (LN_5.out.on hb)
  have LR_6 := Lib.hid (LR_5.out.on hb)
  clear HB_5 BK_5 LT_5 LA_5 LN_5 LR_5 hb
  go_wp2_with fail
  refine (HMy.out _ LT_6.out).mono ?_
  rintro e w7 ⟨rfl, hb⟩
  have HB_7 : Hid (Below w.heap.size w w7) := Lib.hid (HB_6.out.trans (hb.mono HB_6.out.size))
  have BK_7 := Lib.hid (BK_6.out.on hb)
  have LT_7 := Lib.hid (LT_6.out.on hb)
  have LA_7 := Lib.hid (LA_6.out.on hb)
  have LN_7 := Lib.hid (LN_6.out.on hb)
  have LR_7 := Lib.hid (LR_6.out.on hb)
  clear HB_6 BK_6 LT_6 LA_6 LN_6 LR_6 hb
  go_wp2_with fail
  refine (HSu.out _ _ _ _ _ LT_7.out LA_7.out).mono ?_
  rintro e w8 ⟨rfl, hb⟩
  have HB_8 : Hid (Below w.heap.size w w8) := Lib.hid (HB_7.out.trans (hb.mono HB_7.out.size))
  have BK_8 := Lib.hid (BK_7.out.on hb)
  have LT_8 := Lib.hid (LT_7.out.on hb)
  have LA_8 := Lib.hid (LA_7.out.on hb)
  have LN_8 := Lib.hid (LN_7.out.on hb)
  have LR_8 := Lib.hid (LR_7.out.on hb)
  clear HB_7 BK_7 LT_7 LA_7 LN_7 LR_7 hb
  go_wp2_with fail
  refine (HRu.out _ _ _ _ _ LT_8.out LA_8.out).mono ?_
  rintro e w9 ⟨rfl, hb⟩
  have HB_9 : Hid (Below w.heap.size w w9) := Lib.hid (HB_8.out.trans (hb.mono HB_8.out.size))
  have BK_9 := Lib.hid (BK_8.out.on hb)
  have LT_9 := Lib.hid (LT_8.out.on hb)
  have LA_9 := Lib.hid (LA_8.out.on hb)
  have LN_9 := Lib.hid (LN_8.out.on hb)
  have LR_9 := Lib.hid (LR_8.out.on hb)
  clear HB_8 BK_8 LT_8 LA_8 LN_8 LR_8 hb
  go_wp2_with fail
  refine (HSt.out _ _ _ _ _ LT_9.out LT_9.out).mono ?_
  rintro e w10 ⟨rfl, hb⟩
  have HB_10 : Hid (Below w.heap.size w w10) := Lib.hid (HB_9.out.trans (hb.mono HB_9.out.size))
  have BK_10 := Lib.hid (BK_9.out.on hb)
  have LT_10 := Lib.hid (LT_9.out.on hb)
  have LA_10 := Lib.hid (LA_9.out.on hb)
  have LN_10 := Lib.hid (LN_9.out.on hb)
  have LR_10 := Lib.hid (LR_9.out.on hb)
  clear HB_9 BK_9 LT_9 LA_9 LN_9 LR_9 hb
  go_wp2_with fail
  refine (HMy.out _ LT_10.out).mono ?_
  rintro e w11 ⟨rfl, hb⟩
  have HB_11 : Hid (Below w.heap.size w w11) := Lib.hid (HB_10.out.trans (hb.mono HB_10.out.size))
  have BK_11 := Lib.hid (BK_10.out.on hb)
  have LT_11 := Lib.hid (LT_10.out.on hb)
  have LA_11 := Lib.hid (LA_10.out.on hb)
  have LN_11 := Lib.hid (LN_10.out.on hb)
  have LR_11 := Lib.hid (LR_10.out.on hb)
  clear HB_10 BK_10 LT_10 LA_10 LN_10 LR_10 hb
  go_wp2_with fail
  refine (HSut.out _ _ _ _ _ LA_11.out LT_11.out).mono ?_
  rintro e w12 ⟨rfl, hb⟩
  have HB_12 : Hid (Below w.heap.size w w12) := Lib.hid (HB_11.out.trans (hb.mono HB_11.out.size))
  have BK_12 := Lib.hid (BK_11.out.on hb)
  have LT_12 := Lib.hid (LT_11.out.on hb)
  have LA_12 := Lib.hid (LA_11.out.on hb)
  have LN_12 := Lib.hid (LN_11.out.on hb)
  have LR_12 := Lib.hid (LR_11.out.on hb)
  clear HB_11 BK_11 LT_11 LA_11 LN_11 LR_11 hb
  go_wp2_with fail
  refine (HMy.out _ LT_12.out).mono ?_
  rintro e w13 ⟨rfl, hb⟩
  have HB_13 : Hid (Below w.heap.size w w13) := Lib.hid (HB_12.out.trans (hb.mono HB_12.out.size))
  have BK_13 := Lib.hid (BK_12.out.on hb)
  have LT_13 := Lib.hid (LT_12.out.on hb)
  have LA_13 := Lib.hid (LA_12.out.on hb)
  have LN_13 := Lib.hid (LN_12.out.on hb)
  have LR_13 := Lib.hid (LR_12.out.on hb)
  clear HB_12 BK_12 LT_12 LA_12 LN_12 LR_12 hb
  clear BK_13 LT_13 LA_13 LN_13 LR_13
  go_wp2_with fail
  refine (awake_any _).mono ?_
  rintro e wE ⟨rfl, hbE⟩
  have HE : Hid (Below w.heap.size w wE) := Lib.hid (HB_13.out.trans (hbE.mono HB_13.out.size))
  clear hbE
  go_wp2_with fail
  go_ret
  exact ⟨rfl, HE.out⟩

end Go.Proofs.Ytipepmnnjhhjbaa.lawTells
