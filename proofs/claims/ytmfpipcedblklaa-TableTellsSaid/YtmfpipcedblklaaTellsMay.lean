/-
  TableTells, where the table may be.
-/
import Derived.Test.YtmfpipcedblklaaLaw
import Derived.Test.YtmfpipcedblklaaTellsNot
namespace Go.Proofs.Ytmfpipcedblklaa.lawTells
open Go.Sort Go.ChangeShapes Go.WideShapes Go.ChangeAt Go.RowKit Go.Joins Go.Proofs.Ytmfpipcedblklaa.Pure

set_option maxRecDepth 100000 in
set_option maxHeartbeats 4000000 in
theorem wayMay (A B : Option Addr) (kt ko nt no ca cb nn nm nb nf ng : Nat) (t o RN RA RM : List Kn) (RB Fu Gu : List Nat) (who ki ks en ea em eb lo le : Int) (ya sto sm mk mo : Bool) (w : World)
    (HFt : Hid (∀ (W : World), Calls Try.prog 9 #[.slice A kt ca] W fun e w' => e = .returned (.slice A nt ca) ∧ Below W.heap.size W w'))
    (HFo : Hid (∀ (W : World), Calls Try.prog 9 #[.slice B ko cb] W fun e w' => e = .returned (.slice B no cb) ∧ Below W.heap.size W w'))
    (HNw : Hid (∀ (W : World), Calls Try.prog 10 #[.int .i64 who] W fun e w' => ∃ A' c', e = .returned (.tuple #[.slice A' nn c', .int .i64 en]) ∧ Lst w' A' RN ∧ Below W.heap.size W w'))
    (HSN : Hid (∀ n : Nat, n ≤ 64 → ∀ (W : World) X cx Y cy, Lst W X (newL n) → Lst W Y (newL n) → Calls Try.prog 11 #[.slice X n cx, .slice Y n cy] W fun e w' => e = .returned (.bool true) ∧ Below W.heap.size W w'))
    (HAp : Hid (∀ (W : World), Lst W A t → Calls Try.prog 12 #[.slice A nt ca, .int .i64 who, .agg #[.int .u64 ki, .int .i64 ks]] W fun e w' => ∃ A' c', e = .returned (.tuple #[.slice A' nt c', .bool ya, .int .i64 ea]) ∧ Lst w' A' RA ∧ Below W.heap.size W w'))
    (HMg : Hid (∀ (W : World), Lst W A t → Lst W B o → Calls Try.prog 13 #[.slice A nt ca, .slice B no cb] W fun e w' => ∃ A' c', e = .returned (.tuple #[.slice A' nm c', .int .i64 em]) ∧ Lst w' A' RM ∧ Below W.heap.size W w'))
    (HBh : Hid (∀ (W : World), Lst W A t → Lst W B o → Calls Try.prog 14 #[.slice A nt ca, .slice B no cb] W fun e w' => ∃ A' c', e = .returned (.tuple #[.slice A' nb c', .int .i64 eb]) ∧ Ns w' A' RB ∧ Below W.heap.size W w'))
    (HLw : Hid (∀ (W : World), Lst W A t → Calls Try.prog 15 #[.slice A nt ca] W fun e w' => e = .returned (.tuple #[.int .i64 lo, .int .i64 le]) ∧ Below W.heap.size W w'))
    (HTS : Hid (∀ (W : World), Lst W A t → Lst W B o → Calls Try.prog 18 #[.slice A nt ca, .slice B no cb] W fun e w' => e = .returned (.bool sto) ∧ Below W.heap.size W w'))
    (HRS : Hid (∀ (W : World), Lst W A t → Lst W B o → Calls Try.prog 11 #[.slice A nt ca, .slice B no cb] W fun e w' => e = .returned (.bool sto) ∧ Below W.heap.size W w'))
    (HCk : Hid (∀ (W : World), Lst W A t → Calls Try.prog 16 #[.slice A nt ca] W fun e w' => e = .returned (.int .i64 0) ∧ Below W.heap.size W w'))
    (HMy : Hid (∀ (W : World), Lst W A t → Calls Try.prog 17 #[.slice A nt ca] W fun e w' => e = .returned (.bool true) ∧ Below W.heap.size W w'))
    (HSat : Hid (∀ (W : World) X cx Y cy, Lst W X t → Lst W Y t → Calls Try.prog 11 #[.slice X nt cx, .slice Y nt cy] W fun e w' => e = .returned (.bool true) ∧ Below W.heap.size W w'))
    (HTU : Hid (∀ (W : World), Lst W A t → Calls Try.prog 19 #[.slice A nt ca] W fun e w' => ∃ A' c', e = .returned (.slice A' nf c') ∧ Ns w' A' Fu ∧ Below W.heap.size W w'))
    (HTO : Hid (∀ (W : World), Lst W A t → Calls Try.prog 20 #[.slice A nt ca, .int .i64 who] W fun e w' => ∃ A' c', e = .returned (.slice A' ng c') ∧ Ns w' A' Gu ∧ Below W.heap.size W w'))
    (HRU : Hid (∀ (W : World), Lst W A t → Calls Try.prog 22 #[.slice A nt ca] W fun e w' => ∃ A' c', e = .returned (.slice A' nf c') ∧ Ns w' A' Fu ∧ Below W.heap.size W w'))
    (HNS : Hid (∀ (W : World) X cx Y cy, Ns W X Fu → Ns W Y Fu → Calls Try.prog 23 #[.slice X nf cx, .slice Y nf cy] W fun e w' => e = .returned (.bool true) ∧ Below W.heap.size W w'))
    (HRO : Hid (∀ (W : World), Lst W A t → Calls Try.prog 24 #[.slice A nt ca, .int .i64 who] W fun e w' => ∃ A' c', e = .returned (.slice A' ng c') ∧ Ns w' A' Gu ∧ Below W.heap.size W w'))
    (HNG : Hid (∀ (W : World) X cx Y cy, Ns W X Gu → Ns W Y Gu → Calls Try.prog 23 #[.slice X ng cx, .slice Y ng cy] W fun e w' => e = .returned (.bool true) ∧ Below W.heap.size W w'))
    (HMk : Hid (∀ (W : World), Calls Try.prog 25 #[.agg #[.int .u64 ki, .int .i64 ks]] W fun e w' => e = .returned (.bool mk) ∧ Below W.heap.size W w'))
    (HRA : Hid (∀ q : Nat, who = (q : Int) → q < nt → mk = true → ∀ (W : World), Lst W A t → Calls Try.prog 26 #[.slice A nt ca, .int .i64 who, .agg #[.int .u64 ki, .int .i64 ks]] W fun e w' => ∃ A' c', e = .returned (.slice A' nt c') ∧ Lst w' A' RA ∧ Below W.heap.size W w'))
    (HSaa : Hid (∀ (W : World) X cx Y cy, Lst W X RA → Lst W Y RA → Calls Try.prog 11 #[.slice X nt cx, .slice Y nt cy] W fun e w' => e = .returned (.bool true) ∧ Below W.heap.size W w'))
    (HSwt : Hid (∀ (W : World) X cx Y cy, Lst W X RA → Lst W Y t → Calls Try.prog 11 #[.slice X nt cx, .slice Y nt cy] W fun e w' => e = .returned (.bool sm) ∧ Below W.heap.size W w'))
    (HMo : Hid (∀ (W : World), Lst W B o → Calls Try.prog 17 #[.slice B no cb] W fun e w' => e = .returned (.bool mo) ∧ Below W.heap.size W w'))
    (HRM : Hid (no = nt → mo = true → ∀ (W : World), Lst W A t → Lst W B o → Calls Try.prog 27 #[.slice A nt ca, .slice B no cb] W fun e w' => ∃ A' c', e = .returned (.slice A' nm c') ∧ Lst w' A' RM ∧ Below W.heap.size W w'))
    (HSM : Hid (∀ (W : World) X cx Y cy, Lst W X RM → Lst W Y RM → Calls Try.prog 11 #[.slice X nm cx, .slice Y nm cy] W fun e w' => e = .returned (.bool true) ∧ Below W.heap.size W w'))
    (HRB : Hid (no = nt → mo = true → ∀ (W : World), Lst W A t → Lst W B o → Calls Try.prog 28 #[.slice A nt ca, .slice B no cb] W fun e w' => ∃ A' c', e = .returned (.slice A' nb c') ∧ Ns w' A' RB ∧ Below W.heap.size W w'))
    (HNB : Hid (∀ (W : World) X cx Y cy, Ns W X RB → Ns W Y RB → Calls Try.prog 23 #[.slice X nb cx, .slice Y nb cy] W fun e w' => e = .returned (.bool true) ∧ Below W.heap.size W w'))
    (hN : (∃ n : Nat, who = (n : Int) ∧ 1 ≤ n ∧ n ≤ 64 ∧ RN = newL n ∧ nn = n ∧ en = 0) ∨ ((who < 1 ∨ 64 < who) ∧ nn = 0 ∧ en = 1)) (hA : ((who < 0 ∨ (nt : Int) ≤ who ∨ mk = false) ∧ RA = t ∧ ya = false ∧ ea = 1) ∨ ((∃ q : Nat, who = (q : Int) ∧ q < nt) ∧ mk = true ∧ ya = (!sm) ∧ ea = 0))
    (hM : ((mo = false ∨ no ≠ nt) ∧ nm = 0 ∧ em = 1 ∧ nb = 0 ∧ eb = 1) ∨ (mo = true ∧ no = nt ∧ em = 0 ∧ eb = 0))
    (hLl : (nf = 0 ∧ lo = 0 ∧ le = 6) ∨ (0 < nf ∧ lo = ((Fu.getD 0 0 : Nat) : Int) ∧ le = 0)) (hnf : nf = Fu.length) (hnt : nt ≤ 64) (hT : Lst w A t) (hO : Lst w B o) :
    Calls Try.prog 3 #[.agg #[.slice A kt ca, .slice B ko cb, .int .i64 who, .int .u64 ki, .int .i64 ks]] w fun e w' => e = .returned (.bool true) ∧ Below w.heap.size w w' := by
  have HAA := Lib.hid hA
  have HMM := Lib.hid hM
  have HLL := Lib.hid hLl
  have HNF := Lib.hid hnf
  clear hA hM hLl hnf
  have c0 : (w.alloc (.cells #[.slice A kt ca, .slice B ko cb, .int .i64 who, .int .u64 ki, .int .i64 ks] 27)).cell? ⟨w.heap.size, 0, none⟩ = some (.slice A kt ca) := by rw [World.cell?_alloc_mark]; rfl
  have c1 : (w.alloc (.cells #[.slice A kt ca, .slice B ko cb, .int .i64 who, .int .u64 ki, .int .i64 ks] 27)).cell? ⟨w.heap.size, 1, none⟩ = some (.slice B ko cb) := by rw [World.cell?_alloc_mark]; rfl
  have BK0 : Bk (w.alloc (.cells #[.slice A kt ca, .slice B ko cb, .int .i64 who, .int .u64 ki, .int .i64 ks] 27)) w.heap.size who ki ks := ⟨by rw [World.cell?_alloc_mark]; rfl, by rw [World.cell?_alloc_mark]; rfl, by rw [World.cell?_alloc_mark]; rfl⟩
  have hal : Below w.heap.size w (w.alloc (.cells #[.slice A kt ca, .slice B ko cb, .int .i64 who, .int .u64 ki, .int .i64 ks] 27)) := (Below.refl _ _).alloc (Nat.le_refl _) _
  have HNN := Lib.hid hN
  clear hN
  have LT_0 := Lib.hid (hT)
  have LO_0 := Lib.hid (hO)
  clear hT hO
  have HB_1 : Hid (Below w.heap.size w (w.alloc (.cells #[.slice A kt ca, .slice B ko cb, .int .i64 who, .int .u64 ki, .int .i64 ks] 27))) := Lib.hid hal
  have LT_1 := Lib.hid (LT_0.out.on hal)
  have LO_1 := Lib.hid (LO_0.out.on hal)
  clear LT_0 LO_0 hal
  have BK_1 := Lib.hid (BK0)
  clear BK0
  go_enter Try.func3, Try.ntmps3
  go_upto_region 1 with (fail)
  generalize w.alloc (.cells #[.slice A kt ca, .slice B ko cb, .int .i64 who, .int .u64 ki, .int .i64 ks] 27) = wb at *
  have C0 := fun d os => cell_regrown c0 d os
  have C1 := fun d os => cell_regrown c1 d os
  clear c0 c1
  refine q_enter (by kernel_rfl) (by kernel_rfl) ?_
  iterate 8 (refine q_step ?_; intro K hK; go_simp; first | (refine hK _ ?_; clear hK K) | (refine ⟨_, fun p => Calls.regrown_of (by with_reducible exact HFt.out _), hK _ ?_⟩; clear hK K) | (refine ⟨_, fun p => Calls.regrown_of (by with_reducible exact HFo.out _), hK _ ?_⟩; clear hK K))
  refine q_nil ?_
  intro wz hbz
  have HB_2 : Hid (Below w.heap.size w wz) := Lib.hid (HB_1.out.trans (hbz.mono HB_1.out.size))
  have LT_2 := Lib.hid (LT_1.out.on hbz)
  have LO_2 := Lib.hid (LO_1.out.on hbz)
  have BK_2 := Lib.hid (BK_1.out.on hbz)
  clear HB_1 LT_1 LO_1 BK_1 hbz
  clear C0 C1
  obtain ⟨k2, k3, k4⟩ := BK_2.out
  go_wp2_with fail
  refine (HNw.out _).mono ?_
  rintro e w3 ⟨A1, c1, rfl, hl, hb⟩
  have HB_3 : Hid (Below w.heap.size w w3) := Lib.hid (HB_2.out.trans (hb.mono HB_2.out.size))
  have LT_3 := Lib.hid (LT_2.out.on hb)
  have LO_3 := Lib.hid (LO_2.out.on hb)
  have BK_3 := Lib.hid (BK_2.out.on hb)
  clear HB_2 LT_2 LO_2 BK_2 hb
  have LN_3 := Lib.hid hl
  clear hl
  clear k2 k3 k4
  obtain ⟨k2, k3, k4⟩ := BK_3.out
  obtain ⟨out, hout⟩ : ∃ out : Bool, out = (decide (who < 1) || decide (64 < who)) := ⟨_, rfl⟩
  have HOUT := Lib.hid hout
  clear hout
  go_upto_region 3 with (fail)
  go_cut [37] from 30 to 37 (fun s wx => s = .bool out ∧ w3 = wx)
  case first =>
    have hcase : who < 1 ∨ (¬who < 1 ∧ 64 < who) ∨ (¬who < 1 ∧ ¬64 < who) := by omega
    rcases hcase with h | ⟨h, h2⟩ | ⟨h, h2⟩
    · have d1 : decide (who < 1) = true := by simpa using h
      obtain rfl : out = true := by rw [HOUT.out, d1]; rfl
      clear h
      go_wp2_with fail
      go_meet
      exact ⟨rfl, rfl⟩
    · have d1 : decide (who < 1) = false := by simpa using h
      have d2 : decide (64 < who) = true := by simpa using h2
      obtain rfl : out = true := by rw [HOUT.out, d1, d2]; rfl
      clear h h2
      go_wp2_with fail
      go_meet
      exact ⟨rfl, rfl⟩
    · have d1 : decide (who < 1) = false := by simpa using h
      have d2 : decide (64 < who) = false := by simpa using h2
      obtain rfl : out = false := by rw [HOUT.out, d1, d2]; rfl
      clear h h2
      go_wp2_with fail
      go_meet
      exact ⟨rfl, rfl⟩
  case rest =>
  obtain ⟨rfl, rfl⟩ := hcut
  go_upto_if 37 with (fail)
  go_cut [2] from 38 to 54 (fun s wx => s = .bool false ∧ Hid (Below w3.heap.size w3 wx))
  case first =>
    rcases HNN.out with ⟨n, rfl, hn1, hn2, rfl, rfl, rfl⟩ | ⟨hw, rfl, rfl⟩
    · obtain rfl : out = false := by
        rw [HOUT.out]
        simp
        omega
      have hm := made _ hn2
      have HSNn := Lib.hid (HSN.out _ hn2)
      have LNz := LN_3
      have hz2 := Lib.hid hn2
      go_wp2_with fail
      refine (HSNn.out _ _ _ _ _ (LNz.out.alloc _) (lst_zs _ _ hz2.out)).mono ?_
      rintro e wy ⟨rfl, hby⟩
      have HY : Hid (Below w3.heap.size w3 wy) := Lib.hid (((Below.refl _ _).alloc (Nat.le_refl _) _).trans (hby.mono (by simp)))
      clear hby
      go_wp2_with fail
      go_meet
      exact ⟨rfl, HY⟩
    · obtain rfl : out = true := by
        rw [HOUT.out]
        simp
        omega
      go_wp2_with fail
      go_meet
      exact ⟨rfl, Lib.hid (Below.refl _ _)⟩
  case rest =>
  obtain ⟨rfl, HCC⟩ := hcut
  have hbc := HCC.out
  clear HCC HNN HOUT HSN HNw
  clear k2 k3 k4
  clear LN_3
  have HB_4 : Hid (Below w.heap.size w wc) := Lib.hid (HB_3.out.trans (hbc.mono HB_3.out.size))
  have LT_4 := Lib.hid (LT_3.out.on hbc)
  have LO_4 := Lib.hid (LO_3.out.on hbc)
  have BK_4 := Lib.hid (BK_3.out.on hbc)
  clear HB_3 LT_3 LO_3 BK_3 hbc
  obtain ⟨k2, k3, k4⟩ := BK_4.out
  go_wp2_with fail
  refine (HAp.out _ LT_4.out).mono ?_
  rintro e w5 ⟨A2, c2, rfl, hl, hb⟩
  have HB_5 : Hid (Below w.heap.size w w5) := Lib.hid (HB_4.out.trans (hb.mono HB_4.out.size))
  have LT_5 := Lib.hid (LT_4.out.on hb)
  have LO_5 := Lib.hid (LO_4.out.on hb)
  have BK_5 := Lib.hid (BK_4.out.on hb)
  clear HB_4 LT_4 LO_4 BK_4 hb
  have LA_5 := Lib.hid hl
  clear hl
  clear k2 k3 k4
  go_wp2_with fail
  refine (HMg.out _ LT_5.out LO_5.out).mono ?_
  rintro e w6 ⟨A3, c3, rfl, hl, hb⟩
  have HB_6 : Hid (Below w.heap.size w w6) := Lib.hid (HB_5.out.trans (hb.mono HB_5.out.size))
  have LT_6 := Lib.hid (LT_5.out.on hb)
  have LO_6 := Lib.hid (LO_5.out.on hb)
  have BK_6 := Lib.hid (BK_5.out.on hb)
  have LA_6 := Lib.hid (LA_5.out.on hb)
  clear HB_5 LT_5 LO_5 BK_5 LA_5 hb
  have LM_6 := Lib.hid hl
  clear hl
  go_wp2_with fail
  refine (HBh.out _ LT_6.out LO_6.out).mono ?_
  rintro e w7 ⟨A4, c4, rfl, hl, hb⟩
  have HB_7 : Hid (Below w.heap.size w w7) := Lib.hid (HB_6.out.trans (hb.mono HB_6.out.size))
  have LT_7 := Lib.hid (LT_6.out.on hb)
  have LO_7 := Lib.hid (LO_6.out.on hb)
  have BK_7 := Lib.hid (BK_6.out.on hb)
  have LA_7 := Lib.hid (LA_6.out.on hb)
  have LM_7 := Lib.hid (LM_6.out.on hb)
  clear HB_6 LT_6 LO_6 BK_6 LA_6 LM_6 hb
  have NB_7 := Lib.hid hl
  clear hl
  go_wp2_with fail
  refine (HLw.out _ LT_7.out).mono ?_
  rintro e w8 ⟨rfl, hb⟩
  have HB_8 : Hid (Below w.heap.size w w8) := Lib.hid (HB_7.out.trans (hb.mono HB_7.out.size))
  have LT_8 := Lib.hid (LT_7.out.on hb)
  have LO_8 := Lib.hid (LO_7.out.on hb)
  have BK_8 := Lib.hid (BK_7.out.on hb)
  have LA_8 := Lib.hid (LA_7.out.on hb)
  have LM_8 := Lib.hid (LM_7.out.on hb)
  have NB_8 := Lib.hid (NB_7.out.on hb)
  clear HB_7 LT_7 LO_7 BK_7 LA_7 LM_7 NB_7 hb
  go_wp2_with fail
  refine (HCk.out _ LT_8.out).mono ?_
  rintro e w9 ⟨rfl, hb⟩
  have HB_9 : Hid (Below w.heap.size w w9) := Lib.hid (HB_8.out.trans (hb.mono HB_8.out.size))
  have LT_9 := Lib.hid (LT_8.out.on hb)
  have LO_9 := Lib.hid (LO_8.out.on hb)
  have BK_9 := Lib.hid (BK_8.out.on hb)
  have LA_9 := Lib.hid (LA_8.out.on hb)
  have LM_9 := Lib.hid (LM_8.out.on hb)
  have NB_9 := Lib.hid (NB_8.out.on hb)
  clear HB_8 LT_8 LO_8 BK_8 LA_8 LM_8 NB_8 hb
  go_wp2_with fail
  refine (HMy.out _ LT_9.out).mono ?_
  rintro e w10 ⟨rfl, hb⟩
  have HB_10 : Hid (Below w.heap.size w w10) := Lib.hid (HB_9.out.trans (hb.mono HB_9.out.size))
  have LT_10 := Lib.hid (LT_9.out.on hb)
  have LO_10 := Lib.hid (LO_9.out.on hb)
  have BK_10 := Lib.hid (BK_9.out.on hb)
  have LA_10 := Lib.hid (LA_9.out.on hb)
  have LM_10 := Lib.hid (LM_9.out.on hb)
  have NB_10 := Lib.hid (NB_9.out.on hb)
  clear HB_9 LT_9 LO_9 BK_9 LA_9 LM_9 NB_9 hb
  go_wp2_with fail
  refine (HTS.out _ LT_10.out LO_10.out).mono ?_
  rintro e w11 ⟨rfl, hb⟩
  have HB_11 : Hid (Below w.heap.size w w11) := Lib.hid (HB_10.out.trans (hb.mono HB_10.out.size))
  have LT_11 := Lib.hid (LT_10.out.on hb)
  have LO_11 := Lib.hid (LO_10.out.on hb)
  have BK_11 := Lib.hid (BK_10.out.on hb)
  have LA_11 := Lib.hid (LA_10.out.on hb)
  have LM_11 := Lib.hid (LM_10.out.on hb)
  have NB_11 := Lib.hid (NB_10.out.on hb)
  clear HB_10 LT_10 LO_10 BK_10 LA_10 LM_10 NB_10 hb
  go_wp2_with fail
  refine (HRS.out _ LT_11.out LO_11.out).mono ?_
  rintro e w12 ⟨rfl, hb⟩
  have HB_12 : Hid (Below w.heap.size w w12) := Lib.hid (HB_11.out.trans (hb.mono HB_11.out.size))
  have LT_12 := Lib.hid (LT_11.out.on hb)
  have LO_12 := Lib.hid (LO_11.out.on hb)
  have BK_12 := Lib.hid (BK_11.out.on hb)
  have LA_12 := Lib.hid (LA_11.out.on hb)
  have LM_12 := Lib.hid (LM_11.out.on hb)
  have NB_12 := Lib.hid (NB_11.out.on hb)
  clear HB_11 LT_11 LO_11 BK_11 LA_11 LM_11 NB_11 hb
  go_wp2_with fail
  refine (HMy.out _ LT_12.out).mono ?_
  rintro e w13 ⟨rfl, hb⟩
  have HB_13 : Hid (Below w.heap.size w w13) := Lib.hid (HB_12.out.trans (hb.mono HB_12.out.size))
  have LT_13 := Lib.hid (LT_12.out.on hb)
  have LO_13 := Lib.hid (LO_12.out.on hb)
  have BK_13 := Lib.hid (BK_12.out.on hb)
  have LA_13 := Lib.hid (LA_12.out.on hb)
  have LM_13 := Lib.hid (LM_12.out.on hb)
  have NB_13 := Lib.hid (NB_12.out.on hb)
  clear HB_12 LT_12 LO_12 BK_12 LA_12 LM_12 NB_12 hb
  go_wp2_with fail
  refine (HRU.out _ LT_13.out).mono ?_
  rintro e w14 ⟨A5, c5, rfl, hl, hb⟩
  have HB_14 : Hid (Below w.heap.size w w14) := Lib.hid (HB_13.out.trans (hb.mono HB_13.out.size))
  have LT_14 := Lib.hid (LT_13.out.on hb)
  have LO_14 := Lib.hid (LO_13.out.on hb)
  have BK_14 := Lib.hid (BK_13.out.on hb)
  have LA_14 := Lib.hid (LA_13.out.on hb)
  have LM_14 := Lib.hid (LM_13.out.on hb)
  have NB_14 := Lib.hid (NB_13.out.on hb)
  clear HB_13 LT_13 LO_13 BK_13 LA_13 LM_13 NB_13 hb
  have NU_14 := Lib.hid hl
  clear hl
  go_wp2_with fail
  obtain ⟨k2, k3, k4⟩ := BK_14.out
  go_upto_region 17 with (fail)
  refine z_enter [(0, true), (2, true), (1, false), (3, false), (4, true), (5, true), (6, true), (7, true), (8, true), (10, true), (11, true), (12, true), (9, false), (13, false), (14, false), (15, true), (16, true)] (fun w' => w'.cell? ⟨w.heap.size, 2, none⟩ = some (.int .i64 who)) (by kernel_rfl) (by kernel_rfl) (by kernel_rfl) (fun _ _ d _ _ h => by cases d <;> exact h) k2 ?_
  simp only [pickL, List.drop_succ_cons, List.drop_zero]
  have hdr : Below w14.heap.size w14 w14.drew := (Below.refl _ _).drew
  clear k2 k3 k4
  have HB_15 : Hid (Below w.heap.size w w14.drew) := Lib.hid (HB_14.out.trans (hdr.mono HB_14.out.size))
  have LT_15 := Lib.hid (LT_14.out.on hdr)
  have LO_15 := Lib.hid (LO_14.out.on hdr)
  have BK_15 := Lib.hid (BK_14.out.on hdr)
  have LA_15 := Lib.hid (LA_14.out.on hdr)
  have LM_15 := Lib.hid (LM_14.out.on hdr)
  have NB_15 := Lib.hid (NB_14.out.on hdr)
  have NU_15 := Lib.hid (NU_14.out.on hdr)
  clear HB_14 LT_14 LO_14 BK_14 LA_14 LM_14 NB_14 NU_14 hdr
  generalize w14.drew = wd at *
  iterate 2 (first | (refine' z_yes ?_ (by rfl) ?_ ?_; rotate_left; (intro w' hS; (try dsimp only at hS); go_simp; try (with_reducible rfl)); simp only [Act.put, List.setIfInBounds_toArray, List.set_cons_zero, List.set_cons_succ]) | (refine z_no (by rfl) ?_; simp only [Act.put, List.setIfInBounds_toArray, List.set_cons_zero, List.set_cons_succ]))
  refine z_mem ?_
  intro KK hK
  go_simp
  refine (HTU.out _ LT_15.out).mono ?_
  rintro e w16 ⟨A6, c6, rfl, hl, hb⟩
  have HB_16 : Hid (Below w.heap.size w w16) := Lib.hid (HB_15.out.trans (hb.mono HB_15.out.size))
  have LT_16 := Lib.hid (LT_15.out.on hb)
  have LO_16 := Lib.hid (LO_15.out.on hb)
  have BK_16 := Lib.hid (BK_15.out.on hb)
  have LA_16 := Lib.hid (LA_15.out.on hb)
  have LM_16 := Lib.hid (LM_15.out.on hb)
  have NB_16 := Lib.hid (NB_15.out.on hb)
  have NU_16 := Lib.hid (NU_15.out.on hb)
  clear HB_15 LT_15 LO_15 BK_15 LA_15 LM_15 NB_15 NU_15 hb
  have N1_16 := Lib.hid hl
  clear hl
  obtain ⟨k2, k3, k4⟩ := BK_16.out
  refine hK.out _ _ k2 ?_
  clear hK k2 k3 k4
  refine z_mem ?_
  intro KK hK
  go_simp
  refine (HNS.out _ _ _ _ _ N1_16.out NU_16.out).mono ?_
  rintro e w17 ⟨rfl, hb⟩
  have HB_17 : Hid (Below w.heap.size w w17) := Lib.hid (HB_16.out.trans (hb.mono HB_16.out.size))
  have LT_17 := Lib.hid (LT_16.out.on hb)
  have LO_17 := Lib.hid (LO_16.out.on hb)
  have BK_17 := Lib.hid (BK_16.out.on hb)
  have LA_17 := Lib.hid (LA_16.out.on hb)
  have LM_17 := Lib.hid (LM_16.out.on hb)
  have NB_17 := Lib.hid (NB_16.out.on hb)
  have NU_17 := Lib.hid (NU_16.out.on hb)
  have N1_17 := Lib.hid (N1_16.out.on hb)
  clear HB_16 LT_16 LO_16 BK_16 LA_16 LM_16 NB_16 NU_16 N1_16 hb
  obtain ⟨k2, k3, k4⟩ := BK_17.out
  refine hK.out _ _ k2 ?_
  clear hK k2 k3 k4
  iterate 8 (first | (refine' z_yes ?_ (by rfl) ?_ ?_; rotate_left; (intro w' hS; (try dsimp only at hS); go_simp; try (with_reducible rfl)); simp only [Act.put, List.setIfInBounds_toArray, List.set_cons_zero, List.set_cons_succ]) | (refine z_no (by rfl) ?_; simp only [Act.put, List.setIfInBounds_toArray, List.set_cons_zero, List.set_cons_succ]))
  refine z_mem ?_
  intro KK hK
  go_simp
  refine (HTO.out _ LT_17.out).mono ?_
  rintro e w18 ⟨A7, c7, rfl, hl, hb⟩
  have HB_18 : Hid (Below w.heap.size w w18) := Lib.hid (HB_17.out.trans (hb.mono HB_17.out.size))
  have LT_18 := Lib.hid (LT_17.out.on hb)
  have LO_18 := Lib.hid (LO_17.out.on hb)
  have BK_18 := Lib.hid (BK_17.out.on hb)
  have LA_18 := Lib.hid (LA_17.out.on hb)
  have LM_18 := Lib.hid (LM_17.out.on hb)
  have NB_18 := Lib.hid (NB_17.out.on hb)
  have NU_18 := Lib.hid (NU_17.out.on hb)
  have N1_18 := Lib.hid (N1_17.out.on hb)
  clear HB_17 LT_17 LO_17 BK_17 LA_17 LM_17 NB_17 NU_17 N1_17 hb
  have N2_18 := Lib.hid hl
  clear hl
  obtain ⟨k2, k3, k4⟩ := BK_18.out
  refine hK.out _ _ k2 ?_
  clear hK k2 k3 k4
  refine z_mem ?_
  intro KK hK
  go_simp
  refine (HRO.out _ LT_18.out).mono ?_
  rintro e w19 ⟨A8, c8, rfl, hl, hb⟩
  have HB_19 : Hid (Below w.heap.size w w19) := Lib.hid (HB_18.out.trans (hb.mono HB_18.out.size))
  have LT_19 := Lib.hid (LT_18.out.on hb)
  have LO_19 := Lib.hid (LO_18.out.on hb)
  have BK_19 := Lib.hid (BK_18.out.on hb)
  have LA_19 := Lib.hid (LA_18.out.on hb)
  have LM_19 := Lib.hid (LM_18.out.on hb)
  have NB_19 := Lib.hid (NB_18.out.on hb)
  have NU_19 := Lib.hid (NU_18.out.on hb)
  have N1_19 := Lib.hid (N1_18.out.on hb)
  have N2_19 := Lib.hid (N2_18.out.on hb)
  clear HB_18 LT_18 LO_18 BK_18 LA_18 LM_18 NB_18 NU_18 N1_18 N2_18 hb
  have N3_19 := Lib.hid hl
  clear hl
  obtain ⟨k2, k3, k4⟩ := BK_19.out
  refine hK.out _ _ k2 ?_
  clear hK k2 k3 k4
  refine z_mem ?_
  intro KK hK
  go_simp
  refine (HNG.out _ _ _ _ _ N2_19.out N3_19.out).mono ?_
  rintro e w20 ⟨rfl, hb⟩
  have HB_20 : Hid (Below w.heap.size w w20) := Lib.hid (HB_19.out.trans (hb.mono HB_19.out.size))
  have LT_20 := Lib.hid (LT_19.out.on hb)
  have LO_20 := Lib.hid (LO_19.out.on hb)
  have BK_20 := Lib.hid (BK_19.out.on hb)
  have LA_20 := Lib.hid (LA_19.out.on hb)
  have LM_20 := Lib.hid (LM_19.out.on hb)
  have NB_20 := Lib.hid (NB_19.out.on hb)
  have NU_20 := Lib.hid (NU_19.out.on hb)
  have N1_20 := Lib.hid (N1_19.out.on hb)
  have N2_20 := Lib.hid (N2_19.out.on hb)
  have N3_20 := Lib.hid (N3_19.out.on hb)
  clear HB_19 LT_19 LO_19 BK_19 LA_19 LM_19 NB_19 NU_19 N1_19 N2_19 N3_19 hb
  obtain ⟨k2, k3, k4⟩ := BK_20.out
  refine hK.out _ _ k2 ?_
  clear hK k2 k3 k4
  iterate 2 (first | (refine' z_yes ?_ (by rfl) ?_ ?_; rotate_left; (intro w' hS; (try dsimp only at hS); go_simp; try (with_reducible rfl)); simp only [Act.put, List.setIfInBounds_toArray, List.set_cons_zero, List.set_cons_succ]) | (refine z_no (by rfl) ?_; simp only [Act.put, List.setIfInBounds_toArray, List.set_cons_zero, List.set_cons_succ]))
  refine z_nil ?_
  clear N1_20 N2_20 N3_20
  go_upto_region 19 with (fail)
  go_cut [199] from 173 to 199 (fun s wx => s = .bool false ∧ w20 = wx)
  case first =>
    rcases HLL.out with ⟨rfl, rfl, rfl⟩ | ⟨h0, rfl, rfl⟩
    · go_wp2_with fail
      go_meet
      exact ⟨rfl, rfl⟩
    · obtain ⟨au, eu, _, _⟩ := NU_20.out 0 (by rw [← HNF.out]; exact h0)
      subst eu
      have u0 := first_ NU_20.out (by rw [← HNF.out]; exact h0)
      generalize Fu.getD 0 0 = y at *
      have d1 : ((nf : Int) == 0) = false := by simp only [beq_eq_false_iff_ne]; omega
      have d2 : decide ((0 : Int) < (nf : Int)) = true := by simp only [decide_eq_true_eq]; omega
      have d3 : (0 : Int) < (nf : Int) := by omega
      have d4 : ¬(nf : Int) = 0 := by omega
      have d5 : ¬nf = 0 := by omega
      go_wp2_with fail
      go_meet
      exact ⟨rfl, rfl⟩
  case rest =>
  obtain ⟨rfl, rfl⟩ := hcut
  clear HLL
  clear NU_20
  obtain ⟨k2, k3, k4⟩ := BK_20.out
  obtain ⟨bad, hbad⟩ : ∃ bad : Bool, bad = (decide (who < 0) || (decide ((nt : Int) ≤ who) || !mk)) := ⟨_, rfl⟩
  have HBAD := Lib.hid hbad
  clear hbad
  go_upto_region 21 with (fail)
  go_cut [215] from 200 to 215 (fun s wx => s = .bool bad ∧ Hid (Below w20.heap.size w20 wx))
  case first =>
    by_cases h0 : who < 0
    · have d1 : decide (who < 0) = true := by simpa using h0
      obtain rfl : bad = true := by rw [HBAD.out, d1]; rfl
      clear h0
      go_wp2_with fail
      go_meet
      exact ⟨rfl, Lib.hid (Below.refl _ _)⟩
    have d1 : decide (who < 0) = false := by simpa using h0
    by_cases h1 : (nt : Int) ≤ who
    · have d2 : decide ((nt : Int) ≤ who) = true := by simpa using h1
      obtain rfl : bad = true := by rw [HBAD.out, d1, d2]; rfl
      clear h0 h1
      go_wp2_with fail
      go_meet
      exact ⟨rfl, Lib.hid (Below.refl _ _)⟩
    have d2 : decide ((nt : Int) ≤ who) = false := by simpa using h1
    have hb2 : bad = !mk := by rw [HBAD.out, d1, d2]; rfl
    clear h0 h1
    subst hb2
    go_wp2_with fail
    refine (HMk.out _).mono ?_
    rintro e wy ⟨rfl, hby⟩
    have HY := Lib.hid hby
    clear hby
    go_wp2_with fail
    go_meet
    exact ⟨rfl, HY⟩
  case rest =>
  obtain ⟨rfl, HCC⟩ := hcut
  have hbc := HCC.out
  clear HCC HMk
  clear k2 k3 k4
  have HB_21 : Hid (Below w.heap.size w wc) := Lib.hid (HB_20.out.trans (hbc.mono HB_20.out.size))
  have LT_21 := Lib.hid (LT_20.out.on hbc)
  have LO_21 := Lib.hid (LO_20.out.on hbc)
  have BK_21 := Lib.hid (BK_20.out.on hbc)
  have LA_21 := Lib.hid (LA_20.out.on hbc)
  have LM_21 := Lib.hid (LM_20.out.on hbc)
  have NB_21 := Lib.hid (NB_20.out.on hbc)
  clear HB_20 LT_20 LO_20 BK_20 LA_20 LM_20 NB_20 hbc
  obtain ⟨k2, k3, k4⟩ := BK_21.out
  go_upto_if 215 with (fail)
  go_cut [2] from 216 to 248 (fun s wx => s = .bool false ∧ Hid (Below wc.heap.size wc wx))
  case first =>
    rcases HAA.out with ⟨hb, rfl, rfl, rfl⟩ | ⟨⟨q, rfl, hq⟩, rfl, rfl, rfl⟩
    · obtain rfl : bad = true := by
        rw [HBAD.out]
        rcases hb with h | h | h <;> simp [h]
      clear hb
      go_wp2_with fail
      refine (HSat.out _ _ _ _ _ LA_21.out LT_21.out).mono ?_
      rintro e wy ⟨rfl, hby⟩
      have HY := Lib.hid hby
      clear hby
      go_wp2_with fail
      go_meet
      exact ⟨rfl, HY⟩
    · obtain rfl : bad = false := by
        rw [HBAD.out]
        simp
        omega
      have HRAq := Lib.hid (HRA.out q rfl hq rfl)
      have LA0 := LA_21
      have LT0 := LT_21
      go_wp2_with fail
      refine (HRAq.out _ LT0.out).mono ?_
      rintro e wy ⟨A9, c9, rfl, hl, hby⟩
      have LW1 := Lib.hid hl
      have LA1 := Lib.hid (LA0.out.on hby)
      have LT1 := Lib.hid (LT0.out.on hby)
      have HY := Lib.hid hby
      clear hby hl
      go_wp2_with fail
      refine (HSaa.out _ _ _ _ _ LA1.out LW1.out).mono ?_
      rintro e wy2 ⟨rfl, hby⟩
      have LW2 := Lib.hid (LW1.out.on hby)
      have LT2 := Lib.hid (LT1.out.on hby)
      have HY2 : Hid (Below wc.heap.size wc wy2) := Lib.hid (HY.out.trans (hby.mono HY.out.size))
      clear hby
      go_wp2_with fail
      refine (HSwt.out _ _ _ _ _ LW2.out LT2.out).mono ?_
      rintro e wy3 ⟨rfl, hby⟩
      have HY3 : Hid (Below wc.heap.size wc wy3) := Lib.hid (HY2.out.trans (hby.mono HY2.out.size))
      clear hby
      go_wp2_with fail
      go_meet
      exact ⟨rfl, HY3⟩
  case rest =>
  obtain ⟨rfl, HCC⟩ := hcut
  have hbc := HCC.out
  clear HCC HBAD HAA HRA HSaa HSwt HSat
  clear k2 k3 k4
  clear LA_21 BK_21
  have HB_22 : Hid (Below w.heap.size w wc) := Lib.hid (HB_21.out.trans (hbc.mono HB_21.out.size))
  have LT_22 := Lib.hid (LT_21.out.on hbc)
  have LO_22 := Lib.hid (LO_21.out.on hbc)
  have LM_22 := Lib.hid (LM_21.out.on hbc)
  have NB_22 := Lib.hid (NB_21.out.on hbc)
  clear HB_21 LT_21 LO_21 LM_21 NB_21 hbc
  obtain ⟨bad2, hbad2⟩ : ∃ bad : Bool, bad = (!mo || decide (no ≠ nt)) := ⟨_, rfl⟩
  have HBAD2 := Lib.hid hbad2
  clear hbad2
  go_upto_region 27 with (fail)
  go_cut [258] from 249 to 258 (fun s wx => s = .bool bad2 ∧ Hid (Below wc.heap.size wc wx))
  case first =>
    go_wp2_with fail
    refine (HMo.out _ LO_22.out).mono ?_
    rintro e wy ⟨rfl, hby⟩
    have HY := Lib.hid hby
    clear hby
    rcases mo with _ | _
    · obtain rfl : bad2 = true := by rw [HBAD2.out]; rfl
      go_wp2_with fail
      go_meet
      exact ⟨rfl, HY⟩
    · by_cases hne : no = nt
      · obtain rfl : bad2 = false := by rw [HBAD2.out]; simp [hne]
        subst hne
        go_wp2_with fail
        go_meet
        exact ⟨rfl, HY⟩
      · obtain rfl : bad2 = true := by rw [HBAD2.out]; simp [hne]
        have d1 : ((no : Int) != (nt : Int)) = true := by simp only [bne_iff_ne, ne_eq]; omega
        have d2 : ¬(no : Int) = (nt : Int) := by omega
        go_wp2_with fail
        go_meet
        exact ⟨rfl, HY⟩
  case rest =>
  obtain ⟨rfl, HCC⟩ := hcut
  have hbc := HCC.out
  clear HCC HMo
  have HB_23 : Hid (Below w.heap.size w wc) := Lib.hid (HB_22.out.trans (hbc.mono HB_22.out.size))
  have LT_23 := Lib.hid (LT_22.out.on hbc)
  have LO_23 := Lib.hid (LO_22.out.on hbc)
  have LM_23 := Lib.hid (LM_22.out.on hbc)
  have NB_23 := Lib.hid (NB_22.out.on hbc)
  clear HB_22 LT_22 LO_22 LM_22 NB_22 hbc
  rcases HMM.out with ⟨hb, rfl, rfl, rfl, rfl⟩ | ⟨rfl, rfl, rfl, rfl⟩
  · skip
    obtain rfl : bad2 = true := by
      rw [HBAD2.out]
      rcases hb with h | h <;> simp [h]
    clear hb
    clear LT_23 LO_23 LM_23 NB_23
    go_wp2_with fail
    refine (awake_any _).mono ?_
    rintro e wE ⟨rfl, hbE⟩
    have HE : Hid (Below w.heap.size w wE) := Lib.hid (HB_23.out.trans (hbE.mono HB_23.out.size))
    clear hbE
    go_wp2_with fail
    go_ret
    exact ⟨rfl, HE.out⟩
  · skip
    obtain rfl : bad2 = false := by rw [HBAD2.out]; simp
    have HRMq := Lib.hid (HRM.out rfl rfl)
    have HRBq := Lib.hid (HRB.out rfl rfl)
    go_wp2_with fail
    refine (HRMq.out _ LT_23.out LO_23.out).mono ?_
    rintro e w24 ⟨A9, c9, rfl, hl, hb⟩
    have HB_24 : Hid (Below w.heap.size w w24) := Lib.hid (HB_23.out.trans (hb.mono HB_23.out.size))
    have LT_24 := Lib.hid (LT_23.out.on hb)
    have LO_24 := Lib.hid (LO_23.out.on hb)
    have LM_24 := Lib.hid (LM_23.out.on hb)
    have NB_24 := Lib.hid (NB_23.out.on hb)
    clear HB_23 LT_23 LO_23 LM_23 NB_23 hb
    have LQ_24 := Lib.hid hl
    clear hl
    go_wp2_with fail
    refine (HSM.out _ _ _ _ _ LM_24.out LQ_24.out).mono ?_
    rintro e w25 ⟨rfl, hb⟩
    have HB_25 : Hid (Below w.heap.size w w25) := Lib.hid (HB_24.out.trans (hb.mono HB_24.out.size))
    have LT_25 := Lib.hid (LT_24.out.on hb)
    have LO_25 := Lib.hid (LO_24.out.on hb)
    have LM_25 := Lib.hid (LM_24.out.on hb)
    have NB_25 := Lib.hid (NB_24.out.on hb)
    have LQ_25 := Lib.hid (LQ_24.out.on hb)
    clear HB_24 LT_24 LO_24 LM_24 NB_24 LQ_24 hb
    go_wp2_with fail
    refine (HRBq.out _ LT_25.out LO_25.out).mono ?_
    rintro e w26 ⟨A10, c10, rfl, hl, hb⟩
    have HB_26 : Hid (Below w.heap.size w w26) := Lib.hid (HB_25.out.trans (hb.mono HB_25.out.size))
    have LT_26 := Lib.hid (LT_25.out.on hb)
    have LO_26 := Lib.hid (LO_25.out.on hb)
    have LM_26 := Lib.hid (LM_25.out.on hb)
    have NB_26 := Lib.hid (NB_25.out.on hb)
    have LQ_26 := Lib.hid (LQ_25.out.on hb)
    clear HB_25 LT_25 LO_25 LM_25 NB_25 LQ_25 hb
    have NQ_26 := Lib.hid hl
    clear hl
    go_wp2_with fail
    refine (HNB.out _ _ _ _ _ NB_26.out NQ_26.out).mono ?_
    rintro e w27 ⟨rfl, hb⟩
    have HB_27 : Hid (Below w.heap.size w w27) := Lib.hid (HB_26.out.trans (hb.mono HB_26.out.size))
    have LT_27 := Lib.hid (LT_26.out.on hb)
    have LO_27 := Lib.hid (LO_26.out.on hb)
    have LM_27 := Lib.hid (LM_26.out.on hb)
    have NB_27 := Lib.hid (NB_26.out.on hb)
    have LQ_27 := Lib.hid (LQ_26.out.on hb)
    have NQ_27 := Lib.hid (NQ_26.out.on hb)
    clear HB_26 LT_26 LO_26 LM_26 NB_26 LQ_26 NQ_26 hb
    clear LT_27 LO_27 LM_27 NB_27 LQ_27 NQ_27
    go_wp2_with fail
    refine (awake_any _).mono ?_
    rintro e wE ⟨rfl, hbE⟩
    have HE : Hid (Below w.heap.size w wE) := Lib.hid (HB_27.out.trans (hbE.mono HB_27.out.size))
    clear hbE
    go_wp2_with fail
    go_ret
    exact ⟨rfl, HE.out⟩

end Go.Proofs.Ytmfpipcedblklaa.lawTells
