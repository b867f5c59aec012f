/-
  TimerTakes: what of any timers is due, what is left without some, and the first one, or why not, are the document's: the law returns true for every input.
-/
import Derived.Test.YtbhpinmdpngbkaaEq
namespace Go.Proofs.Ytbhpinmdpngbkaa.lawTakes
open Go.ChangeShapes Go.WideShapes Go.ChangeAt Go.RowKit Go.Proofs.Ytbhpinmdpngbkaa.Pure

set_option maxRecDepth 100000 in
set_option maxHeartbeats 4000000 in
theorem wayBad (A : Option Addr) (c n0 : Nat) (xs : List Tm) (now kind who : Int) (w : World) (hfx : ∀ W : World, Calls Try.prog 9 #[.slice A n0 c] W fun e w' => e = .returned (.slice A xs.length c) ∧ W = w') (hx : Lst w A xs) (_fx : Fits xs) (nx : xs.length ≤ 257) (hm : mayB xs = false) :
    Calls Try.prog 4 #[.agg #[.slice A n0 c, .int .i64 now, .int .i64 kind, .int .i64 who]] w fun e w' => e = .returned (.bool true) ∧ Below w.heap.size w w' := by
  have HFX : Hid (∀ W : World, Calls Try.prog 9 #[.slice A n0 c] W fun e w' => e = .returned (.slice A xs.length c) ∧ Below W.heap.size W w') := Lib.hid fun W => (hfx W).mono fun _ _ ⟨h1, h2⟩ => ⟨h1, h2 ▸ Below.refl _ _⟩
  have HMy : Hid (∀ W : World, Lst W A xs → Calls Try.prog 13 #[.slice A xs.length c] W fun e w' => e = .returned (.bool false) ∧ Below W.heap.size W w') := Lib.hid fun W h => l_may h (by omega) false hm
  have HDue : Hid (∀ W : World, Lst W A xs → Calls Try.prog 19 #[.slice A xs.length c, .int .i64 now] W (Gives2N W 0 0 [] [] 1)) := Lib.hid fun W h => (l_due_bad h now hm (by omega)).mono fun _ _ h => h.n rfl rfl
  have HDrop : Hid (∀ W : World, Lst W A xs → Calls Try.prog 20 #[.slice A xs.length c, .int .i64 kind, .int .i64 who] W (GivesN W 0 [] 1)) := Lib.hid fun W h => (l_drop_bad h kind who hm (by omega)).mono fun _ _ h => h.n rfl
  have HNx : Hid (∀ W : World, Lst W A xs → Calls Try.prog 21 #[.slice A xs.length c] W fun e w' => e = .returned (.tuple #[.agg #[.int .i64 0, .int .i64 0, .int .i64 0, .int .u64 0], .int .i64 1]) ∧ Below W.heap.size W w') := Lib.hid fun W h => next_bad A c _ _ xs W hm (by omega) h (Nat.le_refl _)
  have LX := Lib.hid (hx.alloc (.cells #[.slice A n0 c, .int .i64 now, .int .i64 kind, .int .i64 who] 37))
  have HB : Hid (Below w.heap.size w (w.alloc (.cells #[.slice A n0 c, .int .i64 now, .int .i64 kind, .int .i64 who] 37))) := Lib.hid ((Below.refl _ _).alloc (Nat.le_refl _) _)
  clear hfx hx _fx hm
  go_enter Try.func4, Try.ntmps4
  go_upto_region 1 with (fail)
  have b0 : (w.alloc (.cells #[.slice A n0 c, .int .i64 now, .int .i64 kind, .int .i64 who] 37)).cell? ⟨w.heap.size, 0, none⟩ = some (.slice A n0 c) := by go_simp
  have b1 : (w.alloc (.cells #[.slice A n0 c, .int .i64 now, .int .i64 kind, .int .i64 who] 37)).cell? ⟨w.heap.size, 1, none⟩ = some (.int .i64 now) := by go_simp
  have b2 : (w.alloc (.cells #[.slice A n0 c, .int .i64 now, .int .i64 kind, .int .i64 who] 37)).cell? ⟨w.heap.size, 2, none⟩ = some (.int .i64 kind) := by go_simp
  have b3 : (w.alloc (.cells #[.slice A n0 c, .int .i64 now, .int .i64 kind, .int .i64 who] 37)).cell? ⟨w.heap.size, 3, none⟩ = some (.int .i64 who) := by go_simp
  generalize (w.alloc (.cells #[.slice A n0 c, .int .i64 now, .int .i64 kind, .int .i64 who] 37)) = w0 at *
  have b0' := fun d os => cell_regrown b0 d os
  have b1' := fun d os => cell_regrown b1 d os
  have b2' := fun d os => cell_regrown b2 d os
  have b3' := fun d os => cell_regrown b3 d os
  clear b0 b1 b2 b3
  refine q_enter (by kernel_rfl) (by kernel_rfl) ?_
  iterate 2 (refine q_step ?_; intro K hK; go_simp; refine hK _ ?_; clear hK K)
  refine q_step ?_
  intro K hK
  go_simp
  refine ⟨_, fun p => Calls.regrown_of (HFX.out _), hK _ ?_⟩
  clear hK K
  iterate 10 (refine q_step ?_; intro K hK; go_simp; refine hK _ ?_; clear hK K)
  refine q_nil ?_
  intro w1 hb1
  have Lx_1 := Lib.hid (LX.out.on hb1)
  have HB_1 : Hid (Below w.heap.size w _) := Lib.hid (HB.out.trans (hb1.mono HB.out.size))
  clear LX HB hb1 b0' b1' b2' b3'
  go_wp2_with fail
  refine (HDue.out _ Lx_1.out).mono ?_
  rintro e w2 ⟨A2, c2, A3, c3, rfl, hl2, hl3, hb2⟩
  have LNa_2 := Lib.hid hl2
  have LNb_2 := Lib.hid hl3
  have Lx_2 := Lib.hid (Lx_1.out.on hb2)
  have HB_2 : Hid (Below w.heap.size w _) := Lib.hid (HB_1.out.trans (hb2.mono HB_1.out.size))
  clear Lx_1 HB_1 hb2 hl2 hl3
  go_wp2_with fail
  refine (HDrop.out _ Lx_2.out).mono ?_
  rintro e w3 ⟨A4, c4, rfl, hl4, hb3⟩
  have LNd_3 := Lib.hid hl4
  have Lx_3 := Lib.hid (Lx_2.out.on hb3)
  have La_3 := Lib.hid (LNa_2.out.on hb3)
  have Lb_3 := Lib.hid (LNb_2.out.on hb3)
  have HB_3 : Hid (Below w.heap.size w _) := Lib.hid (HB_2.out.trans (hb3.mono HB_2.out.size))
  clear Lx_2 LNa_2 LNb_2 HB_2 hb3 hl4
  go_wp2_with fail
  refine (HNx.out _ Lx_3.out).mono ?_
  rintro e w4 ⟨rfl, hb4⟩
  have Lx_4 := Lib.hid (Lx_3.out.on hb4)
  have La_4 := Lib.hid (La_3.out.on hb4)
  have Lb_4 := Lib.hid (Lb_3.out.on hb4)
  have Ld_4 := Lib.hid (LNd_3.out.on hb4)
  have HB_4 : Hid (Below w.heap.size w _) := Lib.hid (HB_3.out.trans (hb4.mono HB_3.out.size))
  clear Lx_3 La_3 Lb_3 LNd_3 HB_3 hb4
  have BXt : Hid (Bx _ w4.heap.size zt) := Lib.hid (Bx.new w4 zt 33)
  have Lx_5 := Lib.hid (Lx_4.out.alloc (.cells #[.int .i64 0, .int .i64 0, .int .i64 0, .int .u64 0] 33))
  have La_5 := Lib.hid (La_4.out.alloc (.cells #[.int .i64 0, .int .i64 0, .int .i64 0, .int .u64 0] 33))
  have Lb_5 := Lib.hid (Lb_4.out.alloc (.cells #[.int .i64 0, .int .i64 0, .int .i64 0, .int .u64 0] 33))
  have Ld_5 := Lib.hid (Ld_4.out.alloc (.cells #[.int .i64 0, .int .i64 0, .int .i64 0, .int .u64 0] 33))
  have HB_5 := Lib.hid (HB_4.out.alloc HB_4.out.size (.cells #[.int .i64 0, .int .i64 0, .int .i64 0, .int .u64 0] 33))
  clear Lx_4 La_4 Lb_4 Ld_4 HB_4
  go_wp2_with fail
  refine (HMy.out _ Lx_5.out).mono ?_
  rintro e w6 ⟨rfl, hb6⟩
  have Lx_6 := Lib.hid (Lx_5.out.on hb6)
  have La_6 := Lib.hid (La_5.out.on hb6)
  have Lb_6 := Lib.hid (Lb_5.out.on hb6)
  have Ld_6 := Lib.hid (Ld_5.out.on hb6)
  have Xt_6 := Lib.hid (BXt.out.on hb6)
  have HB_6 : Hid (Below w.heap.size w _) := Lib.hid (HB_5.out.trans (hb6.mono HB_5.out.size))
  clear Lx_5 La_5 Lb_5 Ld_5 BXt HB_5 hb6
  obtain ⟨b0, b1, b2, b3⟩ := Xt_6.out
  simp only [zt] at b0 b1 b2 b3
  go_wp2_with fail
  refine (awake_any _).mono ?_
  rintro e wE ⟨rfl, hbE⟩
  have HE : Hid (Below w.heap.size w wE) := Lib.hid (HB_6.out.trans (hbE.mono HB_6.out.size))
  clear hbE
  go_wp2_with fail
  go_ret
  exact ⟨rfl, HE.out⟩

set_option maxRecDepth 100000 in
set_option maxHeartbeats 4000000 in
theorem wayNone (A : Option Addr) (c n0 : Nat) (xs : List Tm) (now kind who : Int) (w : World) (hfx : ∀ W : World, Calls Try.prog 9 #[.slice A n0 c] W fun e w' => e = .returned (.slice A xs.length c) ∧ W = w') (hx : Lst w A xs) (fx : Fits xs) (_nx : xs.length ≤ 257) (hm : mayB xs = true) (h0 : xs.length = 0) :
    Calls Try.prog 4 #[.agg #[.slice A n0 c, .int .i64 now, .int .i64 kind, .int .i64 who]] w fun e w' => e = .returned (.bool true) ∧ Below w.heap.size w w' := by
  have HFX : Hid (∀ W : World, Calls Try.prog 9 #[.slice A n0 c] W fun e w' => e = .returned (.slice A xs.length c) ∧ Below W.heap.size W w') := Lib.hid fun W => (hfx W).mono fun _ _ ⟨h1, h2⟩ => ⟨h1, h2 ▸ Below.refl _ _⟩
  have HMy : Hid (∀ W : World, Lst W A xs → Calls Try.prog 13 #[.slice A xs.length c] W fun e w' => e = .returned (.bool true) ∧ Below W.heap.size W w') := Lib.hid fun W h => l_may h (by omega) true hm
  have hl := ((mayB_iff xs).1 hm).1
  obtain ⟨a, ha⟩ : ∃ a, dueL now xs = a := ⟨_, rfl⟩
  obtain ⟨b, hb⟩ : ∃ b, restL now xs = b := ⟨_, rfl⟩
  obtain ⟨d, hd⟩ : ∃ d, dropL kind who xs = d := ⟨_, rfl⟩
  have hal : a.length ≤ 256 := by rw [← ha]; exact Nat.le_trans (List.length_filter_le _ _) hl
  have hbl : b.length ≤ 256 := by rw [← hb]; exact Nat.le_trans (List.length_filter_le _ _) hl
  have hdl : d.length ≤ 256 := by rw [← hd]; exact Nat.le_trans (List.length_filter_le _ _) hl
  have HDue : Hid (∀ W : World, Lst W A xs → Calls Try.prog 19 #[.slice A xs.length c, .int .i64 now] W (Gives2 W a b 0)) := Lib.hid fun W h => by
    rw [← ha, ← hb]; exact l_due h now hm fx
  have HDrop : Hid (∀ W : World, Lst W A xs → Calls Try.prog 20 #[.slice A xs.length c, .int .i64 kind, .int .i64 who] W (Gives W d 0)) := Lib.hid fun W h => by
    rw [← hd]; exact l_drop h kind who hm
  have HRD : Hid (∀ W : World, Lst W A xs → Calls Try.prog 22 #[.slice A xs.length c, .int .i64 now, .bool true] W (Lists W a)) := Lib.hid fun W h => by
    rw [← ha]; exact l_rdue h now (by omega)
  have HRR : Hid (∀ W : World, Lst W A xs → Calls Try.prog 22 #[.slice A xs.length c, .int .i64 now, .bool false] W (Lists W b)) := Lib.hid fun W h => by
    rw [← hb]; exact l_rrest h now (by omega)
  have HRO : Hid (∀ W : World, Lst W A xs → Calls Try.prog 23 #[.slice A xs.length c, .int .i64 kind, .int .i64 who] W (Lists W d)) := Lib.hid fun W h => by
    rw [← hd]; exact l_rdrop h kind who (by omega)
  have HSm : Hid (∀ (W : World) (ys : List Tm) (B B' : Option Addr) (e e' : Nat), ys.length ≤ 256 → Lst W B ys → Lst W B' ys → Calls Try.prog 17 #[.slice B ys.length e, .slice B' ys.length e'] W fun e w' => e = .returned (.bool true) ∧ Below W.heap.size W w') := Lib.hid fun W ys B B' e e' hl h h' => l_same h h' (by omega)
  have HNx : Hid (∀ W : World, Calls Try.prog 21 #[.slice A xs.length c] W fun e w' => e = .returned (.tuple #[.agg #[.int .i64 0, .int .i64 0, .int .i64 0, .int .u64 0], .int .i64 6]) ∧ Below W.heap.size W w') := Lib.hid fun W => by rw [h0]; exact next_none A c W
  have d0 : ((xs.length : Int) == 0) = true := by rw [h0]; rfl
  have LX := Lib.hid (hx.alloc (.cells #[.slice A n0 c, .int .i64 now, .int .i64 kind, .int .i64 who] 37))
  have HB : Hid (Below w.heap.size w (w.alloc (.cells #[.slice A n0 c, .int .i64 now, .int .i64 kind, .int .i64 who] 37))) := Lib.hid ((Below.refl _ _).alloc (Nat.le_refl _) _)
  clear hfx hx fx hm ha hb hd h0
  go_enter Try.func4, Try.ntmps4
  go_upto_region 1 with (fail)
  have b0 : (w.alloc (.cells #[.slice A n0 c, .int .i64 now, .int .i64 kind, .int .i64 who] 37)).cell? ⟨w.heap.size, 0, none⟩ = some (.slice A n0 c) := by go_simp
  have b1 : (w.alloc (.cells #[.slice A n0 c, .int .i64 now, .int .i64 kind, .int .i64 who] 37)).cell? ⟨w.heap.size, 1, none⟩ = some (.int .i64 now) := by go_simp
  have b2 : (w.alloc (.cells #[.slice A n0 c, .int .i64 now, .int .i64 kind, .int .i64 who] 37)).cell? ⟨w.heap.size, 2, none⟩ = some (.int .i64 kind) := by go_simp
  have b3 : (w.alloc (.cells #[.slice A n0 c, .int .i64 now, .int .i64 kind, .int .i64 who] 37)).cell? ⟨w.heap.size, 3, none⟩ = some (.int .i64 who) := by go_simp
  generalize (w.alloc (.cells #[.slice A n0 c, .int .i64 now, .int .i64 kind, .int .i64 who] 37)) = w0 at *
  have b0' := fun d os => cell_regrown b0 d os
  have b1' := fun d os => cell_regrown b1 d os
  have b2' := fun d os => cell_regrown b2 d os
  have b3' := fun d os => cell_regrown b3 d os
  clear b0 b1 b2 b3
  refine q_enter (by kernel_rfl) (by kernel_rfl) ?_
  iterate 2 (refine q_step ?_; intro K hK; go_simp; refine hK _ ?_; clear hK K)
  refine q_step ?_
  intro K hK
  go_simp
  refine ⟨_, fun p => Calls.regrown_of (HFX.out _), hK _ ?_⟩
  clear hK K
  iterate 10 (refine q_step ?_; intro K hK; go_simp; refine hK _ ?_; clear hK K)
  refine q_nil ?_
  intro w1 hb1
  have Lx_1 := Lib.hid (LX.out.on hb1)
  have HB_1 : Hid (Below w.heap.size w _) := Lib.hid (HB.out.trans (hb1.mono HB.out.size))
  clear LX HB hb1 b0' b1' b2' b3'
  go_wp2_with fail
  refine (HDue.out _ Lx_1.out).mono ?_
  rintro e w2 ⟨A2, c2, A3, c3, rfl, hl2, hl3, hb2⟩
  have LNa_2 := Lib.hid hl2
  have LNb_2 := Lib.hid hl3
  have Lx_2 := Lib.hid (Lx_1.out.on hb2)
  have HB_2 : Hid (Below w.heap.size w _) := Lib.hid (HB_1.out.trans (hb2.mono HB_1.out.size))
  clear Lx_1 HB_1 hb2 hl2 hl3
  go_wp2_with fail
  refine (HDrop.out _ Lx_2.out).mono ?_
  rintro e w3 ⟨A4, c4, rfl, hl4, hb3⟩
  have LNd_3 := Lib.hid hl4
  have Lx_3 := Lib.hid (Lx_2.out.on hb3)
  have La_3 := Lib.hid (LNa_2.out.on hb3)
  have Lb_3 := Lib.hid (LNb_2.out.on hb3)
  have HB_3 : Hid (Below w.heap.size w _) := Lib.hid (HB_2.out.trans (hb3.mono HB_2.out.size))
  clear Lx_2 LNa_2 LNb_2 HB_2 hb3 hl4
  go_wp2_with fail
  refine (HNx.out _).mono ?_
  rintro e w4 ⟨rfl, hb4⟩
  have Lx_4 := Lib.hid (Lx_3.out.on hb4)
  have La_4 := Lib.hid (La_3.out.on hb4)
  have Lb_4 := Lib.hid (Lb_3.out.on hb4)
  have Ld_4 := Lib.hid (LNd_3.out.on hb4)
  have HB_4 : Hid (Below w.heap.size w _) := Lib.hid (HB_3.out.trans (hb4.mono HB_3.out.size))
  clear Lx_3 La_3 Lb_3 LNd_3 HB_3 hb4
  have BXt : Hid (Bx _ w4.heap.size zt) := Lib.hid (Bx.new w4 zt 33)
  have Lx_5 := Lib.hid (Lx_4.out.alloc (.cells #[.int .i64 0, .int .i64 0, .int .i64 0, .int .u64 0] 33))
  have La_5 := Lib.hid (La_4.out.alloc (.cells #[.int .i64 0, .int .i64 0, .int .i64 0, .int .u64 0] 33))
  have Lb_5 := Lib.hid (Lb_4.out.alloc (.cells #[.int .i64 0, .int .i64 0, .int .i64 0, .int .u64 0] 33))
  have Ld_5 := Lib.hid (Ld_4.out.alloc (.cells #[.int .i64 0, .int .i64 0, .int .i64 0, .int .u64 0] 33))
  have HB_5 := Lib.hid (HB_4.out.alloc HB_4.out.size (.cells #[.int .i64 0, .int .i64 0, .int .i64 0, .int .u64 0] 33))
  clear Lx_4 La_4 Lb_4 Ld_4 HB_4
  go_wp2_with fail
  refine (HMy.out _ Lx_5.out).mono ?_
  rintro e w6 ⟨rfl, hb6⟩
  have Lx_6 := Lib.hid (Lx_5.out.on hb6)
  have La_6 := Lib.hid (La_5.out.on hb6)
  have Lb_6 := Lib.hid (Lb_5.out.on hb6)
  have Ld_6 := Lib.hid (Ld_5.out.on hb6)
  have Xt_6 := Lib.hid (BXt.out.on hb6)
  have HB_6 : Hid (Below w.heap.size w _) := Lib.hid (HB_5.out.trans (hb6.mono HB_5.out.size))
  clear Lx_5 La_5 Lb_5 Ld_5 BXt HB_5 hb6
  go_wp2_with fail
  refine (HRD.out _ Lx_6.out).mono ?_
  rintro e w7 ⟨A5, c5, rfl, hl5, hb7⟩
  have LNr_7 := Lib.hid hl5
  have Lx_7 := Lib.hid (Lx_6.out.on hb7)
  have La_7 := Lib.hid (La_6.out.on hb7)
  have Lb_7 := Lib.hid (Lb_6.out.on hb7)
  have Ld_7 := Lib.hid (Ld_6.out.on hb7)
  have Xt_7 := Lib.hid (Xt_6.out.on hb7)
  have HB_7 : Hid (Below w.heap.size w _) := Lib.hid (HB_6.out.trans (hb7.mono HB_6.out.size))
  clear Lx_6 La_6 Lb_6 Ld_6 Xt_6 HB_6 hb7 hl5
  go_wp2_with fail
  refine (HSm.out _ _ _ _ _ _ hal La_7.out LNr_7.out).mono ?_
  rintro e w8 ⟨rfl, hb8⟩
  have Lx_8 := Lib.hid (Lx_7.out.on hb8)
  have Lb_8 := Lib.hid (Lb_7.out.on hb8)
  have Ld_8 := Lib.hid (Ld_7.out.on hb8)
  have Xt_8 := Lib.hid (Xt_7.out.on hb8)
  have HB_8 : Hid (Below w.heap.size w _) := Lib.hid (HB_7.out.trans (hb8.mono HB_7.out.size))
  clear Lx_7 La_7 Lb_7 Ld_7 LNr_7 Xt_7 HB_7 hb8
  go_wp2_with fail
  refine (HRR.out _ Lx_8.out).mono ?_
  rintro e w9 ⟨A6, c6, rfl, hl6, hb9⟩
  have LNr_9 := Lib.hid hl6
  have Lx_9 := Lib.hid (Lx_8.out.on hb9)
  have Lb_9 := Lib.hid (Lb_8.out.on hb9)
  have Ld_9 := Lib.hid (Ld_8.out.on hb9)
  have Xt_9 := Lib.hid (Xt_8.out.on hb9)
  have HB_9 : Hid (Below w.heap.size w _) := Lib.hid (HB_8.out.trans (hb9.mono HB_8.out.size))
  clear Lx_8 Lb_8 Ld_8 Xt_8 HB_8 hb9 hl6
  go_wp2_with fail
  refine (HSm.out _ _ _ _ _ _ hbl Lb_9.out LNr_9.out).mono ?_
  rintro e w10 ⟨rfl, hb10⟩
  have Lx_10 := Lib.hid (Lx_9.out.on hb10)
  have Ld_10 := Lib.hid (Ld_9.out.on hb10)
  have Xt_10 := Lib.hid (Xt_9.out.on hb10)
  have HB_10 : Hid (Below w.heap.size w _) := Lib.hid (HB_9.out.trans (hb10.mono HB_9.out.size))
  clear Lx_9 Lb_9 Ld_9 LNr_9 Xt_9 HB_9 hb10
  go_wp2_with fail
  refine (HRO.out _ Lx_10.out).mono ?_
  rintro e w11 ⟨A7, c7, rfl, hl7, hb11⟩
  have LNr_11 := Lib.hid hl7
  have Lx_11 := Lib.hid (Lx_10.out.on hb11)
  have Ld_11 := Lib.hid (Ld_10.out.on hb11)
  have Xt_11 := Lib.hid (Xt_10.out.on hb11)
  have HB_11 : Hid (Below w.heap.size w _) := Lib.hid (HB_10.out.trans (hb11.mono HB_10.out.size))
  clear Lx_10 Ld_10 Xt_10 HB_10 hb11 hl7
  go_wp2_with fail
  refine (HSm.out _ _ _ _ _ _ hdl Ld_11.out LNr_11.out).mono ?_
  rintro e w12 ⟨rfl, hb12⟩
  have Lx_12 := Lib.hid (Lx_11.out.on hb12)
  have Xt_12 := Lib.hid (Xt_11.out.on hb12)
  have HB_12 : Hid (Below w.heap.size w _) := Lib.hid (HB_11.out.trans (hb12.mono HB_11.out.size))
  clear Lx_11 Ld_11 LNr_11 Xt_11 HB_11 hb12
  obtain ⟨b0, b1, b2, b3⟩ := Xt_12.out
  simp only [zt] at b0 b1 b2 b3
  go_wp2_with fail
  refine (awake_any _).mono ?_
  rintro e wE ⟨rfl, hbE⟩
  have HE : Hid (Below w.heap.size w wE) := Lib.hid (HB_12.out.trans (hbE.mono HB_12.out.size))
  clear hbE
  go_wp2_with fail
  go_ret
  exact ⟨rfl, HE.out⟩

set_option maxRecDepth 100000 in
set_option maxHeartbeats 4000000 in
theorem waySome (A : Option Addr) (c n0 : Nat) (xs : List Tm) (now kind who : Int) (w : World) (hfx : ∀ W : World, Calls Try.prog 9 #[.slice A n0 c] W fun e w' => e = .returned (.slice A xs.length c) ∧ W = w') (hx : Lst w A xs) (fx : Fits xs) (nx : xs.length ≤ 257) (hm : mayB xs = true) (h0 : 0 < xs.length) :
    Calls Try.prog 4 #[.agg #[.slice A n0 c, .int .i64 now, .int .i64 kind, .int .i64 who]] w fun e w' => e = .returned (.bool true) ∧ Below w.heap.size w w' := by
  have HFX : Hid (∀ W : World, Calls Try.prog 9 #[.slice A n0 c] W fun e w' => e = .returned (.slice A xs.length c) ∧ Below W.heap.size W w') := Lib.hid fun W => (hfx W).mono fun _ _ ⟨h1, h2⟩ => ⟨h1, h2 ▸ Below.refl _ _⟩
  have HMy : Hid (∀ W : World, Lst W A xs → Calls Try.prog 13 #[.slice A xs.length c] W fun e w' => e = .returned (.bool true) ∧ Below W.heap.size W w') := Lib.hid fun W h => l_may h (by omega) true hm
  have hl := ((mayB_iff xs).1 hm).1
  obtain ⟨a, ha⟩ : ∃ a, dueL now xs = a := ⟨_, rfl⟩
  obtain ⟨b, hb⟩ : ∃ b, restL now xs = b := ⟨_, rfl⟩
  obtain ⟨d, hd⟩ : ∃ d, dropL kind who xs = d := ⟨_, rfl⟩
  have hal : a.length ≤ 256 := by rw [← ha]; exact Nat.le_trans (List.length_filter_le _ _) hl
  have hbl : b.length ≤ 256 := by rw [← hb]; exact Nat.le_trans (List.length_filter_le _ _) hl
  have hdl : d.length ≤ 256 := by rw [← hd]; exact Nat.le_trans (List.length_filter_le _ _) hl
  have HDue : Hid (∀ W : World, Lst W A xs → Calls Try.prog 19 #[.slice A xs.length c, .int .i64 now] W (Gives2 W a b 0)) := Lib.hid fun W h => by
    rw [← ha, ← hb]; exact l_due h now hm fx
  have HDrop : Hid (∀ W : World, Lst W A xs → Calls Try.prog 20 #[.slice A xs.length c, .int .i64 kind, .int .i64 who] W (Gives W d 0)) := Lib.hid fun W h => by
    rw [← hd]; exact l_drop h kind who hm
  have HRD : Hid (∀ W : World, Lst W A xs → Calls Try.prog 22 #[.slice A xs.length c, .int .i64 now, .bool true] W (Lists W a)) := Lib.hid fun W h => by
    rw [← ha]; exact l_rdue h now (by omega)
  have HRR : Hid (∀ W : World, Lst W A xs → Calls Try.prog 22 #[.slice A xs.length c, .int .i64 now, .bool false] W (Lists W b)) := Lib.hid fun W h => by
    rw [← hb]; exact l_rrest h now (by omega)
  have HRO : Hid (∀ W : World, Lst W A xs → Calls Try.prog 23 #[.slice A xs.length c, .int .i64 kind, .int .i64 who] W (Lists W d)) := Lib.hid fun W h => by
    rw [← hd]; exact l_rdrop h kind who (by omega)
  have HSm : Hid (∀ (W : World) (ys : List Tm) (B B' : Option Addr) (e e' : Nat), ys.length ≤ 256 → Lst W B ys → Lst W B' ys → Calls Try.prog 17 #[.slice B ys.length e, .slice B' ys.length e'] W fun e w' => e = .returned (.bool true) ∧ Below W.heap.size W w') := Lib.hid fun W ys B B' e e' hl h h' => l_same h h' (by omega)
  obtain ⟨x, hx0⟩ : ∃ x, nth xs 0 = x := ⟨_, rfl⟩
  have HX0 := Lib.hid hx0
  have HNx : Hid (∀ W : World, Lst W A xs → Calls Try.prog 21 #[.slice A xs.length c] W fun e w' => e = .returned (.tuple #[.agg #[.int .i64 x.a, .int .i64 x.k, .int .i64 x.o, .int .u64 x.n], .int .i64 0]) ∧ Below W.heap.size W w') := Lib.hid fun W h => by
    have := next_some A c _ _ xs W hm h0 h (Nat.le_refl _)
    rw [hx0] at this
    exact this
  have d0 : ((xs.length : Int) == 0) = false := by rw [beq_eq_false_iff_ne]; omega
  have i1 : (0 : Int) < (xs.length : Int) := by omega
  have LX := Lib.hid (hx.alloc (.cells #[.slice A n0 c, .int .i64 now, .int .i64 kind, .int .i64 who] 37))
  have HB : Hid (Below w.heap.size w (w.alloc (.cells #[.slice A n0 c, .int .i64 now, .int .i64 kind, .int .i64 who] 37))) := Lib.hid ((Below.refl _ _).alloc (Nat.le_refl _) _)
  clear hfx hx fx hm ha hb hd hx0
  go_enter Try.func4, Try.ntmps4
  go_upto_region 1 with (fail)
  have b0 : (w.alloc (.cells #[.slice A n0 c, .int .i64 now, .int .i64 kind, .int .i64 who] 37)).cell? ⟨w.heap.size, 0, none⟩ = some (.slice A n0 c) := by go_simp
  have b1 : (w.alloc (.cells #[.slice A n0 c, .int .i64 now, .int .i64 kind, .int .i64 who] 37)).cell? ⟨w.heap.size, 1, none⟩ = some (.int .i64 now) := by go_simp
  have b2 : (w.alloc (.cells #[.slice A n0 c, .int .i64 now, .int .i64 kind, .int .i64 who] 37)).cell? ⟨w.heap.size, 2, none⟩ = some (.int .i64 kind) := by go_simp
  have b3 : (w.alloc (.cells #[.slice A n0 c, .int .i64 now, .int .i64 kind, .int .i64 who] 37)).cell? ⟨w.heap.size, 3, none⟩ = some (.int .i64 who) := by go_simp
  generalize (w.alloc (.cells #[.slice A n0 c, .int .i64 now, .int .i64 kind, .int .i64 who] 37)) = w0 at *
  have b0' := fun d os => cell_regrown b0 d os
  have b1' := fun d os => cell_regrown b1 d os
  have b2' := fun d os => cell_regrown b2 d os
  have b3' := fun d os => cell_regrown b3 d os
  clear b0 b1 b2 b3
  refine q_enter (by kernel_rfl) (by kernel_rfl) ?_
  iterate 2 (refine q_step ?_; intro K hK; go_simp; refine hK _ ?_; clear hK K)
  refine q_step ?_
  intro K hK
  go_simp
  refine ⟨_, fun p => Calls.regrown_of (HFX.out _), hK _ ?_⟩
  clear hK K
  iterate 10 (refine q_step ?_; intro K hK; go_simp; refine hK _ ?_; clear hK K)
  refine q_nil ?_
  intro w1 hb1
  have Lx_1 := Lib.hid (LX.out.on hb1)
  have HB_1 : Hid (Below w.heap.size w _) := Lib.hid (HB.out.trans (hb1.mono HB.out.size))
  clear LX HB hb1 b0' b1' b2' b3'
  go_wp2_with fail
  refine (HDue.out _ Lx_1.out).mono ?_
  rintro e w2 ⟨A2, c2, A3, c3, rfl, hl2, hl3, hb2⟩
  have LNa_2 := Lib.hid hl2
  have LNb_2 := Lib.hid hl3
  have Lx_2 := Lib.hid (Lx_1.out.on hb2)
  have HB_2 : Hid (Below w.heap.size w _) := Lib.hid (HB_1.out.trans (hb2.mono HB_1.out.size))
  clear Lx_1 HB_1 hb2 hl2 hl3
  go_wp2_with fail
  refine (HDrop.out _ Lx_2.out).mono ?_
  rintro e w3 ⟨A4, c4, rfl, hl4, hb3⟩
  have LNd_3 := Lib.hid hl4
  have Lx_3 := Lib.hid (Lx_2.out.on hb3)
  have La_3 := Lib.hid (LNa_2.out.on hb3)
  have Lb_3 := Lib.hid (LNb_2.out.on hb3)
  have HB_3 : Hid (Below w.heap.size w _) := Lib.hid (HB_2.out.trans (hb3.mono HB_2.out.size))
  clear Lx_2 LNa_2 LNb_2 HB_2 hb3 hl4
  go_wp2_with fail
  refine (HNx.out _ Lx_3.out).mono ?_
  rintro e w4 ⟨rfl, hb4⟩
  have Lx_4 := Lib.hid (Lx_3.out.on hb4)
  have La_4 := Lib.hid (La_3.out.on hb4)
  have Lb_4 := Lib.hid (Lb_3.out.on hb4)
  have Ld_4 := Lib.hid (LNd_3.out.on hb4)
  have HB_4 : Hid (Below w.heap.size w _) := Lib.hid (HB_3.out.trans (hb4.mono HB_3.out.size))
  clear Lx_3 La_3 Lb_3 LNd_3 HB_3 hb4
  have BXt := Lib.hid (Bx.new w4 x 33)
  have Lx_5 := Lib.hid (Lx_4.out.alloc (.cells #[.int .i64 x.a, .int .i64 x.k, .int .i64 x.o, .int .u64 x.n] 33))
  have La_5 := Lib.hid (La_4.out.alloc (.cells #[.int .i64 x.a, .int .i64 x.k, .int .i64 x.o, .int .u64 x.n] 33))
  have Lb_5 := Lib.hid (Lb_4.out.alloc (.cells #[.int .i64 x.a, .int .i64 x.k, .int .i64 x.o, .int .u64 x.n] 33))
  have Ld_5 := Lib.hid (Ld_4.out.alloc (.cells #[.int .i64 x.a, .int .i64 x.k, .int .i64 x.o, .int .u64 x.n] 33))
  have HB_5 := Lib.hid (HB_4.out.alloc HB_4.out.size (.cells #[.int .i64 x.a, .int .i64 x.k, .int .i64 x.o, .int .u64 x.n] 33))
  clear Lx_4 La_4 Lb_4 Ld_4 HB_4
  go_wp2_with fail
  refine (HMy.out _ Lx_5.out).mono ?_
  rintro e w6 ⟨rfl, hb6⟩
  have Lx_6 := Lib.hid (Lx_5.out.on hb6)
  have La_6 := Lib.hid (La_5.out.on hb6)
  have Lb_6 := Lib.hid (Lb_5.out.on hb6)
  have Ld_6 := Lib.hid (Ld_5.out.on hb6)
  have Xt_6 := Lib.hid (BXt.out.on hb6)
  have HB_6 : Hid (Below w.heap.size w _) := Lib.hid (HB_5.out.trans (hb6.mono HB_5.out.size))
  clear Lx_5 La_5 Lb_5 Ld_5 BXt HB_5 hb6
  go_wp2_with fail
  refine (HRD.out _ Lx_6.out).mono ?_
  rintro e w7 ⟨A5, c5, rfl, hl5, hb7⟩
  have LNr_7 := Lib.hid hl5
  have Lx_7 := Lib.hid (Lx_6.out.on hb7)
  have La_7 := Lib.hid (La_6.out.on hb7)
  have Lb_7 := Lib.hid (Lb_6.out.on hb7)
  have Ld_7 := Lib.hid (Ld_6.out.on hb7)
  have Xt_7 := Lib.hid (Xt_6.out.on hb7)
  have HB_7 : Hid (Below w.heap.size w _) := Lib.hid (HB_6.out.trans (hb7.mono HB_6.out.size))
  clear Lx_6 La_6 Lb_6 Ld_6 Xt_6 HB_6 hb7 hl5
  go_wp2_with fail
  refine (HSm.out _ _ _ _ _ _ hal La_7.out LNr_7.out).mono ?_
  rintro e w8 ⟨rfl, hb8⟩
  have Lx_8 := Lib.hid (Lx_7.out.on hb8)
  have Lb_8 := Lib.hid (Lb_7.out.on hb8)
  have Ld_8 := Lib.hid (Ld_7.out.on hb8)
  have Xt_8 := Lib.hid (Xt_7.out.on hb8)
  have HB_8 : Hid (Below w.heap.size w _) := Lib.hid (HB_7.out.trans (hb8.mono HB_7.out.size))
  clear Lx_7 La_7 Lb_7 Ld_7 LNr_7 Xt_7 HB_7 hb8
  go_wp2_with fail
  refine (HRR.out _ Lx_8.out).mono ?_
  rintro e w9 ⟨A6, c6, rfl, hl6, hb9⟩
  have LNr_9 := Lib.hid hl6
  have Lx_9 := Lib.hid (Lx_8.out.on hb9)
  have Lb_9 := Lib.hid (Lb_8.out.on hb9)
  have Ld_9 := Lib.hid (Ld_8.out.on hb9)
  have Xt_9 := Lib.hid (Xt_8.out.on hb9)
  have HB_9 : Hid (Below w.heap.size w _) := Lib.hid (HB_8.out.trans (hb9.mono HB_8.out.size))
  clear Lx_8 Lb_8 Ld_8 Xt_8 HB_8 hb9 hl6
  go_wp2_with fail
  refine (HSm.out _ _ _ _ _ _ hbl Lb_9.out LNr_9.out).mono ?_
  rintro e w10 ⟨rfl, hb10⟩
  have Lx_10 := Lib.hid (Lx_9.out.on hb10)
  have Ld_10 := Lib.hid (Ld_9.out.on hb10)
  have Xt_10 := Lib.hid (Xt_9.out.on hb10)
  have HB_10 : Hid (Below w.heap.size w _) := Lib.hid (HB_9.out.trans (hb10.mono HB_9.out.size))
  clear Lx_9 Lb_9 Ld_9 LNr_9 Xt_9 HB_9 hb10
  go_wp2_with fail
  refine (HRO.out _ Lx_10.out).mono ?_
  rintro e w11 ⟨A7, c7, rfl, hl7, hb11⟩
  have LNr_11 := Lib.hid hl7
  have Lx_11 := Lib.hid (Lx_10.out.on hb11)
  have Ld_11 := Lib.hid (Ld_10.out.on hb11)
  have Xt_11 := Lib.hid (Xt_10.out.on hb11)
  have HB_11 : Hid (Below w.heap.size w _) := Lib.hid (HB_10.out.trans (hb11.mono HB_10.out.size))
  clear Lx_10 Ld_10 Xt_10 HB_10 hb11 hl7
  go_wp2_with fail
  refine (HSm.out _ _ _ _ _ _ hdl Ld_11.out LNr_11.out).mono ?_
  rintro e w12 ⟨rfl, hb12⟩
  have Lx_12 := Lib.hid (Lx_11.out.on hb12)
  have Xt_12 := Lib.hid (Xt_11.out.on hb12)
  have HB_12 : Hid (Below w.heap.size w _) := Lib.hid (HB_11.out.trans (hb12.mono HB_11.out.size))
  clear Lx_11 Ld_11 LNr_11 Xt_11 HB_11 hb12
  obtain ⟨b0, b1, b2, b3⟩ := Xt_12.out
  obtain ⟨ad, rfl, _, _, t0⟩ := Lx_12.out 0 h0
  have t0' : At _ ad (nth xs 0) := t0
  rw [HX0.out] at t0'
  obtain ⟨x1, x2, x3, x4⟩ := t0'.flat
  clear t0 t0'
  have b0' := fun d os => cell_regrown b0 d os
  have b1' := fun d os => cell_regrown b1 d os
  have b2' := fun d os => cell_regrown b2 d os
  have b3' := fun d os => cell_regrown b3 d os
  have x1' := fun d os => cell_regrown x1 d os
  have x2' := fun d os => cell_regrown x2 d os
  have x3' := fun d os => cell_regrown x3 d os
  have x4' := fun d os => cell_regrown x4 d os
  clear b0 b1 b2 b3 x1 x2 x3 x4
  go_upto_region 11 with (fail)
  refine q_enter (by kernel_rfl) (by kernel_rfl) ?_
  iterate 10 (refine q_step ?_; intro K hK; go_simp; refine hK _ ?_; clear hK K)
  refine q_step ?_
  intro K hK
  go_simp
  refine ⟨_, fun p => Calls.regrown_of (awake_any _), hK _ ?_⟩
  clear hK K
  iterate 2 (refine q_step ?_; intro K hK; go_simp; refine hK _ ?_; clear hK K)
  refine q_nil ?_
  intro w13 hb13
  have HB_13 : Hid (Below w.heap.size w _) := Lib.hid (HB_12.out.trans (hb13.mono HB_12.out.size))
  clear Lx_12 Xt_12 HB_12 hb13 b0' b1' b2' b3' x1' x2' x3' x4'
  go_wp2_with fail
  go_ret
  exact ⟨rfl, HB_13.out⟩

theorem walk (A : Option Addr) (c : Nat) (xs0 : List Tm) (now kind who : Int) (w : World) (hc : xs0.length ≤ c) (hm : c ≤ maxLen) (hl : Lst w A xs0) (hf : Fits xs0) :
    Calls Try.prog 4 #[.agg #[.slice A xs0.length c, .int .i64 now, .int .i64 kind, .int .i64 who]] w fun e w' => e = .returned (.bool true) ∧ Below w.heap.size w w' := by
  have hfx := few_any A c _ _ xs0 w hc hm hl
  have hx : Lst w A (cutL xs0) := Has.take hl 257
  have fx : Fits (cutL xs0) := fun x h => hf x (List.mem_of_mem_take h)
  have nx := cutL_len xs0
  rcases hmay : mayB (cutL xs0) with _ | _
  · exact wayBad A c _ _ now kind who w hfx hx fx nx hmay
  · rcases Nat.eq_zero_or_pos (cutL xs0).length with h0 | h0
    · exact wayNone A c _ _ now kind who w hfx hx fx nx hmay h0
    · exact waySome A c _ _ now kind who w hfx hx fx nx hmay h0

/-! ### the statement -/
theorem parOk : ∀ t ∈ (#[37] : Array TypeId).toList, Try.prog.readableRec t = true ∧ t < Try.prog.types.size := by
  have hall : ([37].all fun t => Try.prog.readableRec t && decide (t < Try.prog.types.size)) = true := by kernel_rfl
  intro t ht
  simpa using List.all_eq_true.1 hall t ht

/-- What the walk gives, for every argument. -/
theorem contract (H : Type) (enc : TypeId × Value → H) (W : World) (base : Nat) (args : Array Value) (ds gs : List (DataW H)) (before : List MemPlace)
    (hval : ∀ (j : Nat) t v, Try.f4.params[j]? = some t → args[j]? = some v → Value.okWide Try.prog W .any base t v)
    (hW : DataW.Whole enc Try.prog Try.f4.params.toList Rows.timerTakesSpec.vars false W args.toList ds gs before) :
    Calls Try.prog 4 args W fun e W' => ∃ v, e = .returned v ∧ Rows.timerTakesSpec.post enc Try.prog Try.f4 false true false false W args v W' := by
  have hW' := hW
  obtain ⟨p, q, hA0, hV, rfl, hfz, hnd⟩ := hW
  have hA : DataW.TrodAll enc Try.prog W 0 (fun _ => true) true Try.f4.params.toList args.toList ds p := hA0
  rw [Try.params4] at hA hval
  obtain ⟨v0, vs0, d0, ds0, p0, q0, hargs, rfl, rfl, h0, r0⟩ := trodAll_cons hA
  obtain ⟨rfl, rfl, rfl⟩ := trodAll_nil r0
  obtain rfl : args = #[v0] := by cases args; simp_all
  obtain ⟨rfl, rfl⟩ := trodVars_none hV
  obtain ⟨A, c, xs, now, kind, who, rfl, hc, hm, hl, hf⟩ := open_take (hval 0 37 v0 rfl rfl) h0
  clear hA0
  refine (walk A c xs now kind who W hc hm hl hf).mono fun e W' ⟨he, hb⟩ => ?_
  subst he
  exact ⟨_, rfl, law_post rfl (by rw [Try.params4]; exact parOk) rfl hW' rfl rfl rfl hb⟩

set_option maxRecDepth 100000 in
theorem lifted (os : Os) (started : os.Started) (H : Type) (enc : TypeId × Value → H) :
    ReturnsInHanded {} Try.checked os 4 .any (Rows.timerTakesSpec.pre6 enc Try.prog Try.f4 Rows.timerTakesRow.domain false) (Rows.timerTakesSpec.post enc Try.prog Try.f4 false true false false) := by
  refine returnsInHanded_of_change (C := Try.checked) own started (by kernel_rfl) Try.func4
    (ChangeSpec.witness6 (enc := enc) (C := Try.checked) false ⟨#[], #[.agg #[.slice none 0 0, .int .i64 0, .int .i64 0, .int .i64 0]], []⟩ 8 (by kernel_rfl) (by kernel_rfl) (by kernel_rfl) (by kernel_rfl)) ?_
  intro W base args ds gs before hval hW _ _
  exact contract H enc W base args ds gs before hval hW

/-- THE STATEMENT. -/
theorem said : Rows.TimerTakesSaid :=
  OpenClaim.holds_of_wide 4 Try.f4 rfl rfl rfl rfl rfl rfl rfl ⟨rfl, rfl, rfl, rfl, rfl⟩ rfl rfl rfl rfl rfl (by kernel_rfl) Try.func4 (by kernel_rfl)
    (of_decide_eq_true (by kernel_rfl)) (by unfold Func.isWrapper; first | (rw [if_pos (by decide +kernel)]; kernel_rfl) | (rw [if_neg (by decide +kernel)]; exact ⟨rfl, rfl⟩))
    (fun os started H enc _ => lifted os started H enc)
end Go.Proofs.Ytbhpinmdpngbkaa.lawTakes
