/-
  TableTells, where the table may not be.
-/
import Derived.Test.YtmfpipcedblklaaLaw
namespace Go.Proofs.Ytmfpipcedblklaa.lawTells
open Go.Sort Go.ChangeShapes Go.WideShapes Go.ChangeAt Go.RowKit Go.Joins Go.Proofs.Ytmfpipcedblklaa.Pure

/-- What was asked lies in block b: the node, and what is known. -/
def Bk (w : World) (b : Nat) (who ki ks : Int) : Prop := w.cell? ⟨b, 2, none⟩ = some (.int .i64 who) ∧ w.cell? ⟨b, 3, none⟩ = some (.int .u64 ki) ∧ w.cell? ⟨b, 4, none⟩ = some (.int .i64 ks)
theorem Bk.on {w w' : World} {b : Nat} {who ki ks : Int} (h : Bk w b who ki ks) (hb : Below w.heap.size w w') : Bk w' b who ki ks := ⟨cell_on h.1 hb, cell_on h.2.1 hb, cell_on h.2.2 hb⟩
theorem lst_zs (w : World) (n : Nat) (hn : n ≤ 64) : Lst (w.alloc (.cells (zs n).toArray 25)) (some ⟨w.heap.size, 0, none⟩) (newL n) := by
  have h : Own (w.alloc (.cells (zs n).toArray 25)) w.heap.size (.slice (some ⟨w.heap.size, 0, none⟩) n n) (newL n) := own_zs hn (Nat.le_refl _) (by show (w.heap.push _)[w.heap.size]? = _; simp)
  obtain ⟨A, c, e, _, hl⟩ := h.lst
  simp only [Value.slice.injEq] at e
  obtain ⟨rfl, _, _⟩ := e
  exact hl
theorem first_ {w : World} {ad : Addr} {l : List Nat} (h : Ns w (some ad) l) (hl : 0 < l.length) : w.cell? ad = some (.int .i64 ((l.getD 0 0 : Nat) : Int)) := by
  obtain ⟨ad', e, _, h1⟩ := h 0 hl
  cases e
  exact h1

set_option maxRecDepth 100000 in
set_option maxHeartbeats 4000000 in
theorem wayNot (A B : Option Addr) (kt ko nt no ca cb nn nm nb : Nat) (t o RN RA RM : List Kn) (RB : List Nat) (who ki ks en ea em eb lo le : Int) (ya sto : Bool) (w : World)
    (HFt : Hid (∀ (W : World), Calls Try.prog 9 #[.slice A kt ca] W fun e w' => e = .returned (.slice A nt ca) ∧ Below W.heap.size W w'))
    (HFo : Hid (∀ (W : World), Calls Try.prog 9 #[.slice B ko cb] W fun e w' => e = .returned (.slice B no cb) ∧ Below W.heap.size W w'))
    (HNw : Hid (∀ (W : World), Calls Try.prog 10 #[.int .i64 who] W fun e w' => ∃ A' c', e = .returned (.tuple #[.slice A' nn c', .int .i64 en]) ∧ Lst w' A' RN ∧ Below W.heap.size W w'))
    (HSN : Hid (∀ n : Nat, n ≤ 64 → ∀ (W : World) X cx Y cy, Lst W X (newL n) → Lst W Y (newL n) → Calls Try.prog 11 #[.slice X n cx, .slice Y n cy] W fun e w' => e = .returned (.bool true) ∧ Below W.heap.size W w'))
    (HAp : Hid (∀ (W : World), Lst W A t → Calls Try.prog 12 #[.slice A nt ca, .int .i64 who, .agg #[.int .u64 ki, .int .i64 ks]] W fun e w' => ∃ A' c', e = .returned (.tuple #[.slice A' nt c', .bool ya, .int .i64 ea]) ∧ Lst w' A' RA ∧ Below W.heap.size W w'))
    (HMg : Hid (∀ (W : World), Lst W A t → Lst W B o → Calls Try.prog 13 #[.slice A nt ca, .slice B no cb] W fun e w' => ∃ A' c', e = .returned (.tuple #[.slice A' nm c', .int .i64 em]) ∧ Lst w' A' RM ∧ Below W.heap.size W w'))
    (HBh : Hid (∀ (W : World), Lst W A t → Lst W B o → Calls Try.prog 14 #[.slice A nt ca, .slice B no cb] W fun e w' => ∃ A' c', e = .returned (.tuple #[.slice A' nb c', .int .i64 eb]) ∧ Ns w' A' RB ∧ Below W.heap.size W w'))
    (HLw : Hid (∀ (W : World), Lst W A t → Calls Try.prog 15 #[.slice A nt ca] W fun e w' => e = .returned (.tuple #[.int .i64 lo, .int .i64 le]) ∧ Below W.heap.size W w'))
    (HTS : Hid (∀ (W : World), Lst W A t → Lst W B o → Calls Try.prog 18 #[.slice A nt ca, .slice B no cb] W fun e w' => e = .returned (.bool sto) ∧ Below W.heap.size W w'))
    (HRS : Hid (∀ (W : World), Lst W A t → Lst W B o → Calls Try.prog 11 #[.slice A nt ca, .slice B no cb] W fun e w' => e = .returned (.bool sto) ∧ Below W.heap.size W w'))
    (HCk : Hid (∀ (W : World), Lst W A t → Calls Try.prog 16 #[.slice A nt ca] W fun e w' => e = .returned (.int .i64 1) ∧ Below W.heap.size W w'))
    (HMy : Hid (∀ (W : World), Lst W A t → Calls Try.prog 17 #[.slice A nt ca] W fun e w' => e = .returned (.bool false) ∧ Below W.heap.size W w'))
    (HSat : Hid (∀ (W : World) X cx Y cy, Lst W X t → Lst W Y t → Calls Try.prog 11 #[.slice X nt cx, .slice Y nt cy] W fun e w' => e = .returned (.bool true) ∧ Below W.heap.size W w'))
    (HTU : Hid (∀ (W : World), Lst W A t → Calls Try.prog 19 #[.slice A nt ca] W fun e w' => ∃ A' c', e = .returned (.slice A' 0 c') ∧ Below W.heap.size W w'))
    (HTO : Hid (∀ (W : World), Lst W A t → Calls Try.prog 20 #[.slice A nt ca, .int .i64 who] W fun e w' => ∃ A' c', e = .returned (.slice A' 0 c') ∧ Below W.heap.size W w'))
    (hN : (∃ n : Nat, who = (n : Int) ∧ 1 ≤ n ∧ n ≤ 64 ∧ RN = newL n ∧ nn = n ∧ en = 0) ∨ ((who < 1 ∨ 64 < who) ∧ nn = 0 ∧ en = 1)) (hA : RA = t ∧ ya = false ∧ ea = 1) (hM : nm = 0 ∧ em = 1 ∧ nb = 0 ∧ eb = 1) (hLl : lo = 0 ∧ le = 1) (hT : Lst w A t) (hO : Lst w B o) :
    Calls Try.prog 3 #[.agg #[.slice A kt ca, .slice B ko cb, .int .i64 who, .int .u64 ki, .int .i64 ks]] w fun e w' => e = .returned (.bool true) ∧ Below w.heap.size w w' := by
  obtain ⟨rfl, rfl, rfl⟩ := hA
  obtain ⟨rfl, rfl, rfl, rfl⟩ := hM
  obtain ⟨rfl, rfl⟩ := hLl
  have c0 : (w.alloc (.cells #[.slice A kt ca, .slice B ko cb, .int .i64 who, .int .u64 ki, .int .i64 ks] 27)).cell? ⟨w.heap.size, 0, none⟩ = some (.slice A kt ca) := by rw [World.cell?_alloc_mark]; rfl
  have c1 : (w.alloc (.cells #[.slice A kt ca, .slice B ko cb, .int .i64 who, .int .u64 ki, .int .i64 ks] 27)).cell? ⟨w.heap.size, 1, none⟩ = some (.slice B ko cb) := by rw [World.cell?_alloc_mark]; rfl
  have BK0 : Bk (w.alloc (.cells #[.slice A kt ca, .slice B ko cb, .int .i64 who, .int .u64 ki, .int .i64 ks] 27)) w.heap.size who ki ks := ⟨by rw [World.cell?_alloc_mark]; rfl, by rw [World.cell?_alloc_mark]; rfl, by rw [World.cell?_alloc_mark]; rfl⟩
  have hal : Below w.heap.size w (w.alloc (.cells #[.slice A kt ca, .slice B ko cb, .int .i64 who, .int .u64 ki, .int .i64 ks] 27)) := (Below.refl _ _).alloc (Nat.le_refl _) _
  have HNN := Lib.hid hN
  clear hN
  have LT_0 := Lib.hid (hT)
  have LO_0 := Lib.hid (hO)
  clear hT hO
  have HB_1 : Hid (Below w.heap.size w (w.alloc (.cells #[.slice A kt ca, .slice B ko cb, .int .i64 who, .int .u64 ki, .int .i64 ks] 27))) := Lib.hid hal
  have LT_1 := Lib.hid (LT_0.out.on hal)
  have LO_1 := Lib.hid (LO_0.out.on hal)
  clear LT_0 LO_0 hal
  have BK_1 := Lib.hid (BK0)
  clear BK0
  go_enter Try.func3, Try.ntmps3
  go_upto_region 1 with (fail)
  generalize w.alloc (.cells #[.slice A kt ca, .slice B ko cb, .int .i64 who, .int .u64 ki, .int .i64 ks] 27) = wb at *
  have C0 := fun d os => cell_regrown c0 d os
  have C1 := fun d os => cell_regrown c1 d os
  clear c0 c1
  refine q_enter (by kernel_rfl) (by kernel_rfl) ?_
  iterate 8 (refine q_step ?_; intro K hK; go_simp; first | (refine hK _ ?_; clear hK K) | (refine ⟨_, fun p => Calls.regrown_of (by with_reducible exact HFt.out _), hK _ ?_⟩; clear hK K) | (refine ⟨_, fun p => Calls.regrown_of (by with_reducible exact HFo.out _), hK _ ?_⟩; clear hK K))
  refine q_nil ?_
  intro wz hbz
  have HB_2 : Hid (Below w.heap.size w wz) := Lib.hid (HB_1.out.trans (hbz.mono HB_1.out.size))
  have LT_2 := Lib.hid (LT_1.out.on hbz)
  have LO_2 := Lib.hid (LO_1.out.on hbz)
  have BK_2 := Lib.hid (BK_1.out.on hbz)
  clear HB_1 LT_1 LO_1 BK_1 hbz
  clear C0 C1
  obtain ⟨k2, k3, k4⟩ := BK_2.out
  go_wp2_with fail
  refine (HNw.out _).mono ?_
  rintro e w3 ⟨A1, c1, rfl, hl, hb⟩
  have HB_3 : Hid (Below w.heap.size w w3) := Lib.hid (HB_2.out.trans (hb.mono HB_2.out.size))
  have LT_3 := Lib.hid (LT_2.out.on hb)
  have LO_3 := Lib.hid (LO_2.out.on hb)
  have BK_3 := Lib.hid (BK_2.out.on hb)
  clear HB_2 LT_2 LO_2 BK_2 hb
  have LN_3 := Lib.hid hl
  clear hl
  clear k2 k3 k4
  obtain ⟨k2, k3, k4⟩ := BK_3.out
  obtain ⟨out, hout⟩ : ∃ out : Bool, out = (decide (who < 1) || decide (64 < who)) := ⟨_, rfl⟩
  have HOUT := Lib.hid hout
  clear hout
  go_upto_region 3 with (fail)
  go_cut [37] from 30 to 37 (fun s wx => s = .bool out ∧ w3 = wx)
  case first =>
    have hcase : who < 1 ∨ (¬who < 1 ∧ 64 < who) ∨ (¬who < 1 ∧ ¬64 < who) := by omega
    rcases hcase with h | ⟨h, h2⟩ | ⟨h, h2⟩
    · have d1 : decide (who < 1) = true := by simpa using h
      obtain rfl : out = true := by rw [HOUT.out, d1]; rfl
      clear h
      go_wp2_with fail
      go_meet
      exact ⟨rfl, rfl⟩
    · have d1 : decide (who < 1) = false := by simpa using h
      have d2 : decide (64 < who) = true := by simpa using h2
      obtain rfl : out = true := by rw [HOUT.out, d1, d2]; rfl
      clear h h2
      go_wp2_with fail
      go_meet
      exact ⟨rfl, rfl⟩
    · have d1 : decide (who < 1) = false := by simpa using h
      have d2 : decide (64 < who) = false := by simpa using h2
      obtain rfl : out = false := by rw [HOUT.out, d1, d2]; rfl
      clear h h2
      go_wp2_with fail
      go_meet
      exact ⟨rfl, rfl⟩
  case rest =>
  obtain ⟨rfl, rfl⟩ := hcut
  go_upto_if 37 with (fail)
  go_cut [2] from 38 to 54 (fun s wx => s = .bool false ∧ Hid (Below w3.heap.size w3 wx))
  case first =>
    rcases HNN.out with ⟨n, rfl, hn1, hn2, rfl, rfl, rfl⟩ | ⟨hw, rfl, rfl⟩
    · obtain rfl : out = false := by
        rw [HOUT.out]
        simp
        omega
      have hm := made _ hn2
      have HSNn := Lib.hid (HSN.out _ hn2)
      have LNz := LN_3
      have hz2 := Lib.hid hn2
      go_wp2_with fail
      refine (HSNn.out _ _ _ _ _ (LNz.out.alloc _) (lst_zs _ _ hz2.out)).mono ?_
      rintro e wy ⟨rfl, hby⟩
      have HY : Hid (Below w3.heap.size w3 wy) := Lib.hid (((Below.refl _ _).alloc (Nat.le_refl _) _).trans (hby.mono (by simp)))
      clear hby
      go_wp2_with fail
      go_meet
      exact ⟨rfl, HY⟩
    · obtain rfl : out = true := by
        rw [HOUT.out]
        simp
        omega
      go_wp2_with fail
      go_meet
      exact ⟨rfl, Lib.hid (Below.refl _ _)⟩
  case rest =>
  obtain ⟨rfl, HCC⟩ := hcut
  have hbc := HCC.out
  clear HCC HNN HOUT HSN HNw
  clear k2 k3 k4
  clear LN_3
  have HB_4 : Hid (Below w.heap.size w wc) := Lib.hid (HB_3.out.trans (hbc.mono HB_3.out.size))
  have LT_4 := Lib.hid (LT_3.out.on hbc)
  have LO_4 := Lib.hid (LO_3.out.on hbc)
  have BK_4 := Lib.hid (BK_3.out.on hbc)
  clear HB_3 LT_3 LO_3 BK_3 hbc
  obtain ⟨k2, k3, k4⟩ := BK_4.out
  go_wp2_with fail
  refine (HAp.out _ LT_4.out).mono ?_
  rintro e w5 ⟨A2, c2, rfl, hl, hb⟩
  have HB_5 : Hid (Below w.heap.size w w5) := Lib.hid (HB_4.out.trans (hb.mono HB_4.out.size))
  have LT_5 := Lib.hid (LT_4.out.on hb)
  have LO_5 := Lib.hid (LO_4.out.on hb)
  have BK_5 := Lib.hid (BK_4.out.on hb)
  clear HB_4 LT_4 LO_4 BK_4 hb
  have LA_5 := Lib.hid hl
  clear hl
  clear k2 k3 k4
  go_wp2_with fail
  refine (HMg.out _ LT_5.out LO_5.out).mono ?_
  rintro e w6 ⟨A3, c3, rfl, hl, hb⟩
  have HB_6 : Hid (Below w.heap.size w w6) := Lib.hid (HB_5.out.trans (hb.mono HB_5.out.size))
  have LT_6 := Lib.hid (LT_5.out.on hb)
  have LO_6 := Lib.hid (LO_5.out.on hb)
  have BK_6 := Lib.hid (BK_5.out.on hb)
  have LA_6 := Lib.hid (LA_5.out.on hb)
  clear HB_5 LT_5 LO_5 BK_5 LA_5 hb
  have LM_6 := Lib.hid hl
  clear hl
  go_wp2_with fail
  refine (HBh.out _ LT_6.out LO_6.out).mono ?_
  rintro e w7 ⟨A4, c4, rfl, hl, hb⟩
  have HB_7 : Hid (Below w.heap.size w w7) := Lib.hid (HB_6.out.trans (hb.mono HB_6.out.size))
  have LT_7 := Lib.hid (LT_6.out.on hb)
  have LO_7 := Lib.hid (LO_6.out.on hb)
  have BK_7 := Lib.hid (BK_6.out.on hb)
  have LA_7 := Lib.hid (LA_6.out.on hb)
  have LM_7 := Lib.hid (LM_6.out.on hb)
  clear HB_6 LT_6 LO_6 BK_6 LA_6 LM_6 hb
  have NB_7 := Lib.hid hl
  clear hl
  go_wp2_with fail
  refine (HLw.out _ LT_7.out).mono ?_
  rintro e w8 ⟨rfl, hb⟩
  have HB_8 : Hid (Below w.heap.size w w8) := Lib.hid (HB_7.out.trans (hb.mono HB_7.out.size))
  have LT_8 := Lib.hid (LT_7.out.on hb)
  have LO_8 := Lib.hid (LO_7.out.on hb)
  have BK_8 := Lib.hid (BK_7.out.on hb)
  have LA_8 := Lib.hid (LA_7.out.on hb)
  have LM_8 := Lib.hid (LM_7.out.on hb)
  have NB_8 := Lib.hid (NB_7.out.on hb)
  clear HB_7 LT_7 LO_7 BK_7 LA_7 LM_7 NB_7 hb
  clear LM_8 NB_8
  go_wp2_with fail
  refine (HCk.out _ LT_8.out).mono ?_
  rintro e w9 ⟨rfl, hb⟩
  have HB_9 : Hid (Below w.heap.size w w9) := Lib.hid (HB_8.out.trans (hb.mono HB_8.out.size))
  have LT_9 := Lib.hid (LT_8.out.on hb)
  have LO_9 := Lib.hid (LO_8.out.on hb)
  have BK_9 := Lib.hid (BK_8.out.on hb)
  have LA_9 := Lib.hid (LA_8.out.on hb)
  clear HB_8 LT_8 LO_8 BK_8 LA_8 hb
  go_wp2_with fail
  refine (HMy.out _ LT_9.out).mono ?_
  rintro e w10 ⟨rfl, hb⟩
  have HB_10 : Hid (Below w.heap.size w w10) := Lib.hid (HB_9.out.trans (hb.mono HB_9.out.size))
  have LT_10 := Lib.hid (LT_9.out.on hb)
  have LO_10 := Lib.hid (LO_9.out.on hb)
  have BK_10 := Lib.hid (BK_9.out.on hb)
  have LA_10 := Lib.hid (LA_9.out.on hb)
  clear HB_9 LT_9 LO_9 BK_9 LA_9 hb
  go_wp2_with fail
  refine (HTS.out _ LT_10.out LO_10.out).mono ?_
  rintro e w11 ⟨rfl, hb⟩
  have HB_11 : Hid (Below w.heap.size w w11) := Lib.hid (HB_10.out.trans (hb.mono HB_10.out.size))
  have LT_11 := Lib.hid (LT_10.out.on hb)
  have LO_11 := Lib.hid (LO_10.out.on hb)
  have BK_11 := Lib.hid (BK_10.out.on hb)
  have LA_11 := Lib.hid (LA_10.out.on hb)
  clear HB_10 LT_10 LO_10 BK_10 LA_10 hb
  go_wp2_with fail
  refine (HRS.out _ LT_11.out LO_11.out).mono ?_
  rintro e w12 ⟨rfl, hb⟩
  have HB_12 : Hid (Below w.heap.size w w12) := Lib.hid (HB_11.out.trans (hb.mono HB_11.out.size))
  have LT_12 := Lib.hid (LT_11.out.on hb)
  have LO_12 := Lib.hid (LO_11.out.on hb)
  have BK_12 := Lib.hid (BK_11.out.on hb)
  have LA_12 := Lib.hid (LA_11.out.on hb)
  clear HB_11 LT_11 LO_11 BK_11 LA_11 hb
  go_wp2_with fail
  refine (HMy.out _ LT_12.out).mono ?_
  rintro e w13 ⟨rfl, hb⟩
  have HB_13 : Hid (Below w.heap.size w w13) := Lib.hid (HB_12.out.trans (hb.mono HB_12.out.size))
  have LT_13 := Lib.hid (LT_12.out.on hb)
  have LO_13 := Lib.hid (LO_12.out.on hb)
  have BK_13 := Lib.hid (BK_12.out.on hb)
  have LA_13 := Lib.hid (LA_12.out.on hb)
  clear HB_12 LT_12 LO_12 BK_12 LA_12 hb
  go_wp2_with fail
  refine (HSat.out _ _ _ _ _ LA_13.out LT_13.out).mono ?_
  rintro e w14 ⟨rfl, hb⟩
  have HB_14 : Hid (Below w.heap.size w w14) := Lib.hid (HB_13.out.trans (hb.mono HB_13.out.size))
  have LT_14 := Lib.hid (LT_13.out.on hb)
  have LO_14 := Lib.hid (LO_13.out.on hb)
  have BK_14 := Lib.hid (BK_13.out.on hb)
  have LA_14 := Lib.hid (LA_13.out.on hb)
  clear HB_13 LT_13 LO_13 BK_13 LA_13 hb
  go_wp2_with fail
  refine (HTU.out _ LT_14.out).mono ?_
  rintro e w15 ⟨_, _, rfl, hb⟩
  have HB_15 : Hid (Below w.heap.size w w15) := Lib.hid (HB_14.out.trans (hb.mono HB_14.out.size))
  have LT_15 := Lib.hid (LT_14.out.on hb)
  have LO_15 := Lib.hid (LO_14.out.on hb)
  have BK_15 := Lib.hid (BK_14.out.on hb)
  have LA_15 := Lib.hid (LA_14.out.on hb)
  clear HB_14 LT_14 LO_14 BK_14 LA_14 hb
  obtain ⟨k2, k3, k4⟩ := BK_15.out
  go_wp2_with fail
  refine (HTO.out _ LT_15.out).mono ?_
  rintro e w16 ⟨_, _, rfl, hb⟩
  have HB_16 : Hid (Below w.heap.size w w16) := Lib.hid (HB_15.out.trans (hb.mono HB_15.out.size))
  have LT_16 := Lib.hid (LT_15.out.on hb)
  have LO_16 := Lib.hid (LO_15.out.on hb)
  have BK_16 := Lib.hid (BK_15.out.on hb)
  have LA_16 := Lib.hid (LA_15.out.on hb)
  clear HB_15 LT_15 LO_15 BK_15 LA_15 hb
  clear k2 k3 k4
  clear LT_16 LO_16 BK_16 LA_16
  go_wp2_with fail
  refine (awake_any _).mono ?_
  rintro e wE ⟨rfl, hbE⟩
  have HE : Hid (Below w.heap.size w wE) := Lib.hid (HB_16.out.trans (hbE.mono HB_16.out.size))
  clear hbE
  go_wp2_with fail
  go_ret
  exact ⟨rfl, HE.out⟩

end Go.Proofs.Ytmfpipcedblklaa.lawTells
