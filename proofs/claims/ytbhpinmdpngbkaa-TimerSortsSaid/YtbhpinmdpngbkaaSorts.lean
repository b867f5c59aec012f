/-
  TimerSorts: which timers may be, any timers in order, and with others, or why not, are the document's: the law returns true for every input.
-/
import Derived.Test.YtbhpinmdpngbkaaEq
namespace Go.Proofs.Ytbhpinmdpngbkaa.lawSorts
open Go.ChangeShapes Go.WideShapes Go.ChangeAt Go.RowKit Go.Proofs.Ytbhpinmdpngbkaa.Pure

set_option maxRecDepth 100000 in
set_option maxHeartbeats 4000000 in
theorem wayA (A T : Option Addr) (c d n0 m0 : Nat) (xs ts : List Tm) (w : World) (hfx : ∀ W : World, Calls Try.prog 9 #[.slice A n0 c] W fun e w' => e = .returned (.slice A xs.length c) ∧ W = w')
    (hft : ∀ W : World, Calls Try.prog 9 #[.slice T m0 d] W fun e w' => e = .returned (.slice T ts.length d) ∧ W = w') (hx : Lst w A xs) (ht : Lst w T ts) (_fx : Fits xs) (_ft : Fits ts) (nx : xs.length ≤ 257) (_nt : ts.length ≤ 257) (hn : 256 < xs.length) :
    Calls Try.prog 3 #[.slice A n0 c, .slice T m0 d] w fun e w' => e = .returned (.bool true) ∧ Below w.heap.size w w' := by
  have HFX := Lib.hid hfx
  have HFT := Lib.hid hft
  have LX := Lib.hid hx
  have LT := Lib.hid ht
  have HB : Hid (Below w.heap.size w w) := Lib.hid (Below.refl _ _)
  have hm : mayB xs = false := by
    rcases h : mayB xs with _ | _
    · rfl
    · have := ((mayB_iff xs).1 h).1; omega
  have h1 : 1 < xs.length := by omega
  have HSort : Hid (∀ W : World, Lst W A xs → Calls Try.prog 10 #[.slice A xs.length c] W (GivesN W 0 [] 9)) := Lib.hid fun W _ => (l_sort_full xs.length hn (by omega)).mono fun _ _ h => h.n rfl
  have HAdd : Hid (∀ W : World, Lst W A xs → Lst W T ts → Calls Try.prog 11 #[.slice A xs.length c, .slice T ts.length d] W (GivesN W 0 [] 1)) := Lib.hid fun W h _ => (l_add_bad h ts.length hm (by omega)).mono fun _ _ h => h.n rfl
  have HCk : Hid (∀ W : World, Lst W A xs → Calls Try.prog 12 #[.slice A xs.length c] W fun e w' => e = .returned (.int .i64 1) ∧ Below W.heap.size W w') := Lib.hid fun W h => l_check h (by omega) false hm
  have HMy : Hid (∀ W : World, Lst W A xs → Calls Try.prog 13 #[.slice A xs.length c] W fun e w' => e = .returned (.bool false) ∧ Below W.heap.size W w') := Lib.hid fun W h => l_may h (by omega) false hm
  obtain ⟨LB, hLB⟩ : ∃ LB, lt (nth xs 0) (nth xs 1) = LB := ⟨_, rfl⟩
  have HP : Hid (∀ W : World, Calls Try.prog 14 #[.agg #[.int .i64 (nth xs 0).a, .int .i64 (nth xs 0).k, .int .i64 (nth xs 0).o, .int .u64 (nth xs 0).n], .agg #[.int .i64 (nth xs 1).a, .int .i64 (nth xs 1).k, .int .i64 (nth xs 1).o, .int .u64 (nth xs 1).n]] W fun e w' => e = .returned (.bool LB) ∧ Below W.heap.size W w') := Lib.hid fun W => by
    subst hLB
    exact less_any (nth xs 0).a (nth xs 0).k (nth xs 0).o (nth xs 0).n (nth xs 1).a (nth xs 1).k (nth xs 1).o (nth xs 1).n W
  have HR : Hid (∀ W : World, Calls Try.prog 15 #[.agg #[.int .i64 (nth xs 0).a, .int .i64 (nth xs 0).k, .int .i64 (nth xs 0).o, .int .u64 (nth xs 0).n], .agg #[.int .i64 (nth xs 1).a, .int .i64 (nth xs 1).k, .int .i64 (nth xs 1).o, .int .u64 (nth xs 1).n]] W fun e w' => e = .returned (.bool LB) ∧ Below W.heap.size W w') := Lib.hid fun W => by
    subst hLB
    exact rless_any (nth xs 0).a (nth xs 0).k (nth xs 0).o (nth xs 0).n (nth xs 1).a (nth xs 1).k (nth xs 1).o (nth xs 1).n W
  have d1 : decide ((1 : Int) < (xs.length : Int)) = true := by simp; omega
  have i1 : (1 : Int) < (xs.length : Int) := by omega
  have i0 : (0 : Int) < (xs.length : Int) := by omega
  have i2 : 0 < xs.length := by omega
  have i3 : 1 < xs.length := by omega
  have d2 : decide ((256 : Int) < (xs.length : Int)) = true := by simp; omega
  clear hfx hft hx ht _fx _ft hLB hm
  go_enter Try.func3, Try.ntmps3
  go_wp2_with fail
  refine (HFX.out _).mono ?_
  rintro e w' ⟨rfl, rfl⟩
  go_wp2_with fail
  refine (HFT.out _).mono ?_
  rintro e w' ⟨rfl, rfl⟩
  go_wp2_with fail
  refine (HSort.out _ LX.out).mono ?_
  rintro e w1 ⟨A1, c1, rfl, hl1, hb1⟩
  have LNa_1 := Lib.hid hl1
  have Lx_1 := Lib.hid (LX.out.on hb1)
  have Lt_1 := Lib.hid (LT.out.on hb1)
  have HB_1 : Hid (Below w.heap.size w _) := Lib.hid (HB.out.trans (hb1.mono HB.out.size))
  clear LX LT HB hb1 hl1
  go_wp2_with fail
  refine (HAdd.out _ Lx_1.out Lt_1.out).mono ?_
  rintro e w2 ⟨A2, c2, rfl, hl2, hb2⟩
  have LNb_2 := Lib.hid hl2
  have Lx_2 := Lib.hid (Lx_1.out.on hb2)
  have Lt_2 := Lib.hid (Lt_1.out.on hb2)
  have La_2 := Lib.hid (LNa_1.out.on hb2)
  have HB_2 : Hid (Below w.heap.size w _) := Lib.hid (HB_1.out.trans (hb2.mono HB_1.out.size))
  clear Lx_1 Lt_1 LNa_1 HB_1 hb2 hl2
  obtain ⟨ad, rfl, _, _, t0⟩ := Lx_2.out 0 (by omega)
  obtain ⟨ad', ee, _, _, t1⟩ := Lx_2.out 1 (by omega)
  obtain rfl := Option.some.inj ee
  have t0' : At _ ad (nth xs 0) := t0
  have t1' : At _ ⟨ad.block, ad.off + 4, none⟩ (nth xs 1) := t1
  obtain ⟨x1, x2, x3, x4⟩ := t0'.flat
  obtain ⟨y1, y2, y3, y4⟩ := t1'.at_
  clear t0 t1 t0' t1' ee
  have x1' := fun d os => cell_regrown x1 d os
  have x2' := fun d os => cell_regrown x2 d os
  have x3' := fun d os => cell_regrown x3 d os
  have x4' := fun d os => cell_regrown x4 d os
  have y1' := fun d os => cell_regrown y1 d os
  have y2' := fun d os => cell_regrown y2 d os
  have y3' := fun d os => cell_regrown y3 d os
  have y4' := fun d os => cell_regrown y4 d os
  clear x1 x2 x3 x4 y1 y2 y3 y4
  go_upto_region 4 with (fail)
  refine q_enter (by kernel_rfl) (by kernel_rfl) ?_
  iterate 1 (refine q_step ?_; intro K hK; go_simp; refine hK _ ?_; clear hK K)
  refine q_step ?_
  intro K hK
  go_simp
  refine ⟨_, fun p => Calls.regrown_of (HCk.out _ (Lx_2.out.on (below_regrown _ _ _))), hK _ ?_⟩
  clear hK K
  iterate 2 (refine q_step ?_; intro K hK; go_simp; refine hK _ ?_; clear hK K)
  refine q_step ?_
  intro K hK
  go_simp
  refine ⟨_, fun p => Calls.regrown_of (HMy.out _ (Lx_2.out.on (below_regrown _ _ _))), hK _ ?_⟩
  clear hK K
  iterate 12 (refine q_step ?_; intro K hK; go_simp; refine hK _ ?_; clear hK K)
  refine q_step ?_
  intro K hK
  go_simp
  refine ⟨_, fun p => Calls.regrown_of (HP.out _), hK _ ?_⟩
  clear hK K
  iterate 6 (refine q_step ?_; intro K hK; go_simp; refine hK _ ?_; clear hK K)
  refine q_step ?_
  intro K hK
  go_simp
  refine ⟨_, fun p => Calls.regrown_of (HR.out _), hK _ ?_⟩
  clear hK K
  iterate 3 (refine q_step ?_; intro K hK; go_simp; refine hK _ ?_; clear hK K)
  refine q_nil ?_
  intro w3 hb3
  have Lx_3 := Lib.hid (Lx_2.out.on hb3)
  have Lt_3 := Lib.hid (Lt_2.out.on hb3)
  have La_3 := Lib.hid (La_2.out.on hb3)
  have Lb_3 := Lib.hid (LNb_2.out.on hb3)
  have HB_3 : Hid (Below w.heap.size w _) := Lib.hid (HB_2.out.trans (hb3.mono HB_2.out.size))
  clear Lx_2 Lt_2 La_2 LNb_2 HB_2 hb3 x1' x2' x3' x4' y1' y2' y3' y4'
  go_wp2_with fail
  refine (awake_any _).mono ?_
  rintro e wE ⟨rfl, hbE⟩
  have HE : Hid (Below w.heap.size w wE) := Lib.hid (HB_3.out.trans (hbE.mono HB_3.out.size))
  clear hbE
  go_wp2_with fail
  go_ret
  exact ⟨rfl, HE.out⟩

set_option maxRecDepth 100000 in
set_option maxHeartbeats 4000000 in
theorem wayB1 (A T : Option Addr) (c d n0 m0 : Nat) (xs ts : List Tm) (w : World) (hfx : ∀ W : World, Calls Try.prog 9 #[.slice A n0 c] W fun e w' => e = .returned (.slice A xs.length c) ∧ W = w')
    (hft : ∀ W : World, Calls Try.prog 9 #[.slice T m0 d] W fun e w' => e = .returned (.slice T ts.length d) ∧ W = w') (hx : Lst w A xs) (ht : Lst w T ts) (fx : Fits xs) (_ft : Fits ts) (nx : xs.length ≤ 257) (_nt : ts.length ≤ 257) (hn : xs.length ≤ 256) (hm : mayB xs = false) :
    Calls Try.prog 3 #[.slice A n0 c, .slice T m0 d] w fun e w' => e = .returned (.bool true) ∧ Below w.heap.size w w' := by
  have HFX := Lib.hid hfx
  have HFT := Lib.hid hft
  have LX := Lib.hid hx
  have LT := Lib.hid ht
  have HB : Hid (Below w.heap.size w w) := Lib.hid (Below.refl _ _)
  have h1 : 1 < xs.length := by
    rcases Nat.lt_or_ge 1 xs.length with h | h
    · exact h
    · have : mayB xs = true := (mayB_iff xs).2 ⟨by omega, sorted_of_steps xs fun i hi => by omega⟩
      rw [hm] at this; cases this
  have HSort : Hid (∀ W : World, Lst W A xs → Calls Try.prog 10 #[.slice A xs.length c] W (GivesN W xs.length (srt xs) 0)) := Lib.hid fun W h => (l_sort h hn fx).mono fun _ _ h => h.n (srt_len xs)
  have HAdd : Hid (∀ W : World, Lst W A xs → Lst W T ts → Calls Try.prog 11 #[.slice A xs.length c, .slice T ts.length d] W (GivesN W 0 [] 1)) := Lib.hid fun W h _ => (l_add_bad h ts.length hm (by omega)).mono fun _ _ h => h.n rfl
  have HCk : Hid (∀ W : World, Lst W A xs → Calls Try.prog 12 #[.slice A xs.length c] W fun e w' => e = .returned (.int .i64 1) ∧ Below W.heap.size W w') := Lib.hid fun W h => l_check h (by omega) false hm
  have HMy : Hid (∀ W : World, Lst W A xs → Calls Try.prog 13 #[.slice A xs.length c] W fun e w' => e = .returned (.bool false) ∧ Below W.heap.size W w') := Lib.hid fun W h => l_may h (by omega) false hm
  have HRs : Hid (∀ (W : World) (zs : List Tm) (B : Option Addr) (e m : Nat), zs.length = m → m ≤ 1000 → Lst W B zs → Calls Try.prog 18 #[.slice B m e] W (ListsN W m (srt zs))) := Lib.hid fun W zs B e m hm hl h => by
    subst hm
    exact (l_rsort h hl).mono fun _ _ h => h.n (srt_len zs)
  have HSm : Hid (∀ (W : World) (zs : List Tm) (B B' : Option Addr) (e e' m : Nat), zs.length = m → m ≤ 1000 → Lst W B zs → Lst W B' zs → Calls Try.prog 17 #[.slice B m e, .slice B' m e'] W fun e w' => e = .returned (.bool true) ∧ Below W.heap.size W w') := Lib.hid fun W zs B B' e e' m hm hl h h' => by
    subst hm
    exact l_same h h' (by omega)
  obtain ⟨LB, hLB⟩ : ∃ LB, lt (nth xs 0) (nth xs 1) = LB := ⟨_, rfl⟩
  have HP : Hid (∀ W : World, Calls Try.prog 14 #[.agg #[.int .i64 (nth xs 0).a, .int .i64 (nth xs 0).k, .int .i64 (nth xs 0).o, .int .u64 (nth xs 0).n], .agg #[.int .i64 (nth xs 1).a, .int .i64 (nth xs 1).k, .int .i64 (nth xs 1).o, .int .u64 (nth xs 1).n]] W fun e w' => e = .returned (.bool LB) ∧ Below W.heap.size W w') := Lib.hid fun W => by
    subst hLB
    exact less_any (nth xs 0).a (nth xs 0).k (nth xs 0).o (nth xs 0).n (nth xs 1).a (nth xs 1).k (nth xs 1).o (nth xs 1).n W
  have HR : Hid (∀ W : World, Calls Try.prog 15 #[.agg #[.int .i64 (nth xs 0).a, .int .i64 (nth xs 0).k, .int .i64 (nth xs 0).o, .int .u64 (nth xs 0).n], .agg #[.int .i64 (nth xs 1).a, .int .i64 (nth xs 1).k, .int .i64 (nth xs 1).o, .int .u64 (nth xs 1).n]] W fun e w' => e = .returned (.bool LB) ∧ Below W.heap.size W w') := Lib.hid fun W => by
    subst hLB
    exact rless_any (nth xs 0).a (nth xs 0).k (nth xs 0).o (nth xs 0).n (nth xs 1).a (nth xs 1).k (nth xs 1).o (nth xs 1).n W
  have d1 : decide ((1 : Int) < (xs.length : Int)) = true := by simp; omega
  have i1 : (1 : Int) < (xs.length : Int) := by omega
  have i0 : (0 : Int) < (xs.length : Int) := by omega
  have i2 : 0 < xs.length := by omega
  have i3 : 1 < xs.length := by omega
  have d2 : decide ((256 : Int) < (xs.length : Int)) = false := by simp; omega
  clear hfx hft hx ht fx _ft hLB hm
  go_enter Try.func3, Try.ntmps3
  go_wp2_with fail
  refine (HFX.out _).mono ?_
  rintro e w' ⟨rfl, rfl⟩
  go_wp2_with fail
  refine (HFT.out _).mono ?_
  rintro e w' ⟨rfl, rfl⟩
  go_wp2_with fail
  refine (HSort.out _ LX.out).mono ?_
  rintro e w1 ⟨A1, c1, rfl, hl1, hb1⟩
  have LNa_1 := Lib.hid hl1
  have Lx_1 := Lib.hid (LX.out.on hb1)
  have Lt_1 := Lib.hid (LT.out.on hb1)
  have HB_1 : Hid (Below w.heap.size w _) := Lib.hid (HB.out.trans (hb1.mono HB.out.size))
  clear LX LT HB hb1 hl1
  go_wp2_with fail
  refine (HAdd.out _ Lx_1.out Lt_1.out).mono ?_
  rintro e w2 ⟨A2, c2, rfl, hl2, hb2⟩
  have LNb_2 := Lib.hid hl2
  have Lx_2 := Lib.hid (Lx_1.out.on hb2)
  have Lt_2 := Lib.hid (Lt_1.out.on hb2)
  have La_2 := Lib.hid (LNa_1.out.on hb2)
  have HB_2 : Hid (Below w.heap.size w _) := Lib.hid (HB_1.out.trans (hb2.mono HB_1.out.size))
  clear Lx_1 Lt_1 LNa_1 HB_1 hb2 hl2
  obtain ⟨ad, rfl, _, _, t0⟩ := Lx_2.out 0 (by omega)
  obtain ⟨ad', ee, _, _, t1⟩ := Lx_2.out 1 (by omega)
  obtain rfl := Option.some.inj ee
  have t0' : At _ ad (nth xs 0) := t0
  have t1' : At _ ⟨ad.block, ad.off + 4, none⟩ (nth xs 1) := t1
  obtain ⟨x1, x2, x3, x4⟩ := t0'.flat
  obtain ⟨y1, y2, y3, y4⟩ := t1'.at_
  clear t0 t1 t0' t1' ee
  have x1' := fun d os => cell_regrown x1 d os
  have x2' := fun d os => cell_regrown x2 d os
  have x3' := fun d os => cell_regrown x3 d os
  have x4' := fun d os => cell_regrown x4 d os
  have y1' := fun d os => cell_regrown y1 d os
  have y2' := fun d os => cell_regrown y2 d os
  have y3' := fun d os => cell_regrown y3 d os
  have y4' := fun d os => cell_regrown y4 d os
  clear x1 x2 x3 x4 y1 y2 y3 y4
  go_upto_region 4 with (fail)
  refine q_enter (by kernel_rfl) (by kernel_rfl) ?_
  iterate 1 (refine q_step ?_; intro K hK; go_simp; refine hK _ ?_; clear hK K)
  refine q_step ?_
  intro K hK
  go_simp
  refine ⟨_, fun p => Calls.regrown_of (HCk.out _ (Lx_2.out.on (below_regrown _ _ _))), hK _ ?_⟩
  clear hK K
  iterate 2 (refine q_step ?_; intro K hK; go_simp; refine hK _ ?_; clear hK K)
  refine q_step ?_
  intro K hK
  go_simp
  refine ⟨_, fun p => Calls.regrown_of (HMy.out _ (Lx_2.out.on (below_regrown _ _ _))), hK _ ?_⟩
  clear hK K
  iterate 12 (refine q_step ?_; intro K hK; go_simp; refine hK _ ?_; clear hK K)
  refine q_step ?_
  intro K hK
  go_simp
  refine ⟨_, fun p => Calls.regrown_of (HP.out _), hK _ ?_⟩
  clear hK K
  iterate 6 (refine q_step ?_; intro K hK; go_simp; refine hK _ ?_; clear hK K)
  refine q_step ?_
  intro K hK
  go_simp
  refine ⟨_, fun p => Calls.regrown_of (HR.out _), hK _ ?_⟩
  clear hK K
  iterate 3 (refine q_step ?_; intro K hK; go_simp; refine hK _ ?_; clear hK K)
  refine q_nil ?_
  intro w3 hb3
  have Lx_3 := Lib.hid (Lx_2.out.on hb3)
  have Lt_3 := Lib.hid (Lt_2.out.on hb3)
  have La_3 := Lib.hid (La_2.out.on hb3)
  have Lb_3 := Lib.hid (LNb_2.out.on hb3)
  have HB_3 : Hid (Below w.heap.size w _) := Lib.hid (HB_2.out.trans (hb3.mono HB_2.out.size))
  clear Lx_2 Lt_2 La_2 LNb_2 HB_2 hb3 x1' x2' x3' x4' y1' y2' y3' y4'
  go_wp2_with fail
  refine (HRs.out _ _ _ _ xs.length rfl (by omega) Lx_3.out).mono ?_
  rintro e w4 ⟨A3, c3, rfl, hl3, hb4⟩
  have LNr_4 := Lib.hid hl3
  have Lx_4 := Lib.hid (Lx_3.out.on hb4)
  have Lt_4 := Lib.hid (Lt_3.out.on hb4)
  have La_4 := Lib.hid (La_3.out.on hb4)
  have Lb_4 := Lib.hid (Lb_3.out.on hb4)
  have HB_4 : Hid (Below w.heap.size w _) := Lib.hid (HB_3.out.trans (hb4.mono HB_3.out.size))
  clear Lx_3 Lt_3 La_3 Lb_3 HB_3 hb4 hl3
  go_wp2_with fail
  refine (HSm.out _ _ _ _ _ _ xs.length (srt_len xs) (by omega) La_4.out LNr_4.out).mono ?_
  rintro e w5 ⟨rfl, hb5⟩
  have Lx_5 := Lib.hid (Lx_4.out.on hb5)
  have Lt_5 := Lib.hid (Lt_4.out.on hb5)
  have Lb_5 := Lib.hid (Lb_4.out.on hb5)
  have HB_5 : Hid (Below w.heap.size w _) := Lib.hid (HB_4.out.trans (hb5.mono HB_4.out.size))
  clear Lx_4 Lt_4 La_4 Lb_4 LNr_4 HB_4 hb5
  go_wp2_with fail
  refine (HMy.out _ Lx_5.out).mono ?_
  rintro e w6 ⟨rfl, hb6⟩
  have Lx_6 := Lib.hid (Lx_5.out.on hb6)
  have Lt_6 := Lib.hid (Lt_5.out.on hb6)
  have Lb_6 := Lib.hid (Lb_5.out.on hb6)
  have HB_6 : Hid (Below w.heap.size w _) := Lib.hid (HB_5.out.trans (hb6.mono HB_5.out.size))
  clear Lx_5 Lt_5 Lb_5 HB_5 hb6
  go_wp2_with fail
  refine (awake_any _).mono ?_
  rintro e wE ⟨rfl, hbE⟩
  have HE : Hid (Below w.heap.size w wE) := Lib.hid (HB_6.out.trans (hbE.mono HB_6.out.size))
  clear hbE
  go_wp2_with fail
  go_ret
  exact ⟨rfl, HE.out⟩

set_option maxRecDepth 100000 in
set_option maxHeartbeats 4000000 in
theorem wayFullShort (A T : Option Addr) (c d n0 m0 : Nat) (xs ts : List Tm) (w : World) (hfx : ∀ W : World, Calls Try.prog 9 #[.slice A n0 c] W fun e w' => e = .returned (.slice A xs.length c) ∧ W = w')
    (hft : ∀ W : World, Calls Try.prog 9 #[.slice T m0 d] W fun e w' => e = .returned (.slice T ts.length d) ∧ W = w') (hx : Lst w A xs) (ht : Lst w T ts) (fx : Fits xs) (_ft : Fits ts) (nx : xs.length ≤ 257) (nt : ts.length ≤ 257) (hn : xs.length ≤ 256) (hm : mayB xs = true) (hsum : 256 < xs.length + ts.length) (h1 : xs.length ≤ 1) :
    Calls Try.prog 3 #[.slice A n0 c, .slice T m0 d] w fun e w' => e = .returned (.bool true) ∧ Below w.heap.size w w' := by
  have HFX := Lib.hid hfx
  have HFT := Lib.hid hft
  have LX := Lib.hid hx
  have LT := Lib.hid ht
  have HB : Hid (Below w.heap.size w w) := Lib.hid (Below.refl _ _)
  have HSort : Hid (∀ W : World, Lst W A xs → Calls Try.prog 10 #[.slice A xs.length c] W (GivesN W xs.length (srt xs) 0)) := Lib.hid fun W h => (l_sort h hn fx).mono fun _ _ h => h.n (srt_len xs)
  have HAdd : Hid (∀ W : World, Lst W A xs → Lst W T ts → Calls Try.prog 11 #[.slice A xs.length c, .slice T ts.length d] W (GivesN W 0 [] 9)) := Lib.hid fun W h _ => (l_add_full h ts.length hm hsum (by omega)).mono fun _ _ h => h.n rfl
  have HCk : Hid (∀ W : World, Lst W A xs → Calls Try.prog 12 #[.slice A xs.length c] W fun e w' => e = .returned (.int .i64 0) ∧ Below W.heap.size W w') := Lib.hid fun W h => l_check h (by omega) true hm
  have HMy : Hid (∀ W : World, Lst W A xs → Calls Try.prog 13 #[.slice A xs.length c] W fun e w' => e = .returned (.bool true) ∧ Below W.heap.size W w') := Lib.hid fun W h => l_may h (by omega) true hm
  have HRs : Hid (∀ (W : World) (zs : List Tm) (B : Option Addr) (e m : Nat), zs.length = m → m ≤ 1000 → Lst W B zs → Calls Try.prog 18 #[.slice B m e] W (ListsN W m (srt zs))) := Lib.hid fun W zs B e m hm hl h => by
    subst hm
    exact (l_rsort h hl).mono fun _ _ h => h.n (srt_len zs)
  have HSm : Hid (∀ (W : World) (zs : List Tm) (B B' : Option Addr) (e e' m : Nat), zs.length = m → m ≤ 1000 → Lst W B zs → Lst W B' zs → Calls Try.prog 17 #[.slice B m e, .slice B' m e'] W fun e w' => e = .returned (.bool true) ∧ Below W.heap.size W w') := Lib.hid fun W zs B B' e e' m hm hl h h' => by
    subst hm
    exact l_same h h' (by omega)
  have d1 : decide ((1 : Int) < (xs.length : Int)) = false := by simp; omega
  have d2 : decide ((256 : Int) < (xs.length : Int)) = false := by simp; omega
  have d3 : decide ((256 : Int) < (xs.length : Int) + (ts.length : Int)) = true := by simp; omega
  have hsum' : ¬ xs.length + ts.length ≤ 256 := by omega
  clear hfx hft hx ht fx _ft hm
  go_enter Try.func3, Try.ntmps3
  go_wp2_with fail
  refine (HFX.out _).mono ?_
  rintro e w' ⟨rfl, rfl⟩
  go_wp2_with fail
  refine (HFT.out _).mono ?_
  rintro e w' ⟨rfl, rfl⟩
  go_wp2_with fail
  refine (HSort.out _ LX.out).mono ?_
  rintro e w1 ⟨A1, c1, rfl, hl1, hb1⟩
  have LNa_1 := Lib.hid hl1
  have Lx_1 := Lib.hid (LX.out.on hb1)
  have Lt_1 := Lib.hid (LT.out.on hb1)
  have HB_1 : Hid (Below w.heap.size w _) := Lib.hid (HB.out.trans (hb1.mono HB.out.size))
  clear LX LT HB hb1 hl1
  go_wp2_with fail
  refine (HAdd.out _ Lx_1.out Lt_1.out).mono ?_
  rintro e w2 ⟨A2, c2, rfl, hl2, hb2⟩
  have LNb_2 := Lib.hid hl2
  have Lx_2 := Lib.hid (Lx_1.out.on hb2)
  have Lt_2 := Lib.hid (Lt_1.out.on hb2)
  have La_2 := Lib.hid (LNa_1.out.on hb2)
  have HB_2 : Hid (Below w.heap.size w _) := Lib.hid (HB_1.out.trans (hb2.mono HB_1.out.size))
  clear Lx_1 Lt_1 LNa_1 HB_1 hb2 hl2
  go_upto_region 4 with (fail)
  refine q_enter (by kernel_rfl) (by kernel_rfl) ?_
  iterate 1 (refine q_step ?_; intro K hK; go_simp; refine hK _ ?_; clear hK K)
  refine q_step ?_
  intro K hK
  go_simp
  refine ⟨_, fun p => Calls.regrown_of (HCk.out _ (Lx_2.out.on (below_regrown _ _ _))), hK _ ?_⟩
  clear hK K
  iterate 2 (refine q_step ?_; intro K hK; go_simp; refine hK _ ?_; clear hK K)
  refine q_step ?_
  intro K hK
  go_simp
  refine ⟨_, fun p => Calls.regrown_of (HMy.out _ (Lx_2.out.on (below_regrown _ _ _))), hK _ ?_⟩
  clear hK K
  iterate 23 (refine q_step ?_; intro K hK; go_simp; refine hK _ ?_; clear hK K)
  refine q_nil ?_
  intro w3 hb3
  have Lx_3 := Lib.hid (Lx_2.out.on hb3)
  have Lt_3 := Lib.hid (Lt_2.out.on hb3)
  have La_3 := Lib.hid (La_2.out.on hb3)
  have Lb_3 := Lib.hid (LNb_2.out.on hb3)
  have HB_3 : Hid (Below w.heap.size w _) := Lib.hid (HB_2.out.trans (hb3.mono HB_2.out.size))
  clear Lx_2 Lt_2 La_2 LNb_2 HB_2 hb3
  go_wp2_with fail
  refine (HRs.out _ _ _ _ xs.length rfl (by omega) Lx_3.out).mono ?_
  rintro e w4 ⟨A3, c3, rfl, hl3, hb4⟩
  have LNr_4 := Lib.hid hl3
  have Lx_4 := Lib.hid (Lx_3.out.on hb4)
  have Lt_4 := Lib.hid (Lt_3.out.on hb4)
  have La_4 := Lib.hid (La_3.out.on hb4)
  have Lb_4 := Lib.hid (Lb_3.out.on hb4)
  have HB_4 : Hid (Below w.heap.size w _) := Lib.hid (HB_3.out.trans (hb4.mono HB_3.out.size))
  clear Lx_3 Lt_3 La_3 Lb_3 HB_3 hb4 hl3
  go_wp2_with fail
  refine (HSm.out _ _ _ _ _ _ xs.length (srt_len xs) (by omega) La_4.out LNr_4.out).mono ?_
  rintro e w5 ⟨rfl, hb5⟩
  have Lx_5 := Lib.hid (Lx_4.out.on hb5)
  have Lt_5 := Lib.hid (Lt_4.out.on hb5)
  have Lb_5 := Lib.hid (Lb_4.out.on hb5)
  have HB_5 : Hid (Below w.heap.size w _) := Lib.hid (HB_4.out.trans (hb5.mono HB_4.out.size))
  clear Lx_4 Lt_4 La_4 Lb_4 LNr_4 HB_4 hb5
  go_wp2_with fail
  refine (HMy.out _ Lx_5.out).mono ?_
  rintro e w6 ⟨rfl, hb6⟩
  have Lx_6 := Lib.hid (Lx_5.out.on hb6)
  have Lt_6 := Lib.hid (Lt_5.out.on hb6)
  have Lb_6 := Lib.hid (Lb_5.out.on hb6)
  have HB_6 : Hid (Below w.heap.size w _) := Lib.hid (HB_5.out.trans (hb6.mono HB_5.out.size))
  clear Lx_5 Lt_5 Lb_5 HB_5 hb6
  go_wp2_with (at_builtin; refine wpList_append_has rfl _ _ rfl w6.heap.size (.slice (some ⟨w6.heap.size, 0, none⟩) 0 0) [] rfl ?c1 A c 0 (w6.heap.size + 1) xs rfl ?c2 ?c3 ?c4 ?_)
  case c1 => exact World.ownsRow_made w6 #[] 0 (Nat.le_refl _) (Nat.zero_le _) rfl
  case c2 => exact (Lx_6.out.alloc _).wide (Nat.le_refl _) (by simp)
  case c3 => simp; omega
  case c4 => simp
  intro v1 W1 own1 grow1
  have OW1 : Hid (Own W1 w6.heap.size v1 xs) := Lib.hid (by simpa using own1)
  have BW1 : Hid (Below w6.heap.size w6 W1) := Lib.hid (((Below.refl _ w6).alloc (Nat.le_refl _) _).grown grow1 (by simp) (by intro k hk; simp [Value.ownBlock] at hk; omega))
  clear own1 grow1
  go_wp2_with (at_builtin; refine wpList_append_has rfl _ _ rfl w6.heap.size v1 xs rfl OW1.out T d 0 W1.heap.size ts rfl (Lt_6.out.on BW1.out) ?c3 BW1.out.size ?_)
  case c3 => omega
  intro v2 W2 own2 grow2
  have hbW : Below w6.heap.size w6 W2 := BW1.out.grown grow2 BW1.out.size (fun k hk => (OW1.out.ge k hk).1)
  obtain ⟨A9, c9, rfl, _, hl9⟩ := own2.lst
  have LNb_9 := Lib.hid hl9
  have hlen9 : (xs ++ ts).length = xs.length + ts.length := List.length_append
  rw [hlen9]
  clear OW1 BW1 own2 grow2 hl9 hlen9
  have Lx_7 := Lib.hid (Lx_6.out.on hbW)
  have Lt_7 := Lib.hid (Lt_6.out.on hbW)
  have Lb_7 := Lib.hid (Lb_6.out.on hbW)
  have HB_7 : Hid (Below w.heap.size w _) := Lib.hid (HB_6.out.trans (hbW.mono HB_6.out.size))
  clear Lx_6 Lt_6 Lb_6 HB_6 hbW
  go_wp2_with fail
  refine (awake_any _).mono ?_
  rintro e wE ⟨rfl, hbE⟩
  have HE : Hid (Below w.heap.size w wE) := Lib.hid (HB_7.out.trans (hbE.mono HB_7.out.size))
  clear hbE
  go_wp2_with fail
  go_ret
  exact ⟨rfl, HE.out⟩

set_option maxRecDepth 100000 in
set_option maxHeartbeats 4000000 in
theorem wayFullLong (A T : Option Addr) (c d n0 m0 : Nat) (xs ts : List Tm) (w : World) (hfx : ∀ W : World, Calls Try.prog 9 #[.slice A n0 c] W fun e w' => e = .returned (.slice A xs.length c) ∧ W = w')
    (hft : ∀ W : World, Calls Try.prog 9 #[.slice T m0 d] W fun e w' => e = .returned (.slice T ts.length d) ∧ W = w') (hx : Lst w A xs) (ht : Lst w T ts) (fx : Fits xs) (_ft : Fits ts) (nx : xs.length ≤ 257) (nt : ts.length ≤ 257) (hn : xs.length ≤ 256) (hm : mayB xs = true) (hsum : 256 < xs.length + ts.length) (h1 : 1 < xs.length) :
    Calls Try.prog 3 #[.slice A n0 c, .slice T m0 d] w fun e w' => e = .returned (.bool true) ∧ Below w.heap.size w w' := by
  have HFX := Lib.hid hfx
  have HFT := Lib.hid hft
  have LX := Lib.hid hx
  have LT := Lib.hid ht
  have HB : Hid (Below w.heap.size w w) := Lib.hid (Below.refl _ _)
  have HSort : Hid (∀ W : World, Lst W A xs → Calls Try.prog 10 #[.slice A xs.length c] W (GivesN W xs.length (srt xs) 0)) := Lib.hid fun W h => (l_sort h hn fx).mono fun _ _ h => h.n (srt_len xs)
  have HAdd : Hid (∀ W : World, Lst W A xs → Lst W T ts → Calls Try.prog 11 #[.slice A xs.length c, .slice T ts.length d] W (GivesN W 0 [] 9)) := Lib.hid fun W h _ => (l_add_full h ts.length hm hsum (by omega)).mono fun _ _ h => h.n rfl
  have HCk : Hid (∀ W : World, Lst W A xs → Calls Try.prog 12 #[.slice A xs.length c] W fun e w' => e = .returned (.int .i64 0) ∧ Below W.heap.size W w') := Lib.hid fun W h => l_check h (by omega) true hm
  have HMy : Hid (∀ W : World, Lst W A xs → Calls Try.prog 13 #[.slice A xs.length c] W fun e w' => e = .returned (.bool true) ∧ Below W.heap.size W w') := Lib.hid fun W h => l_may h (by omega) true hm
  have HRs : Hid (∀ (W : World) (zs : List Tm) (B : Option Addr) (e m : Nat), zs.length = m → m ≤ 1000 → Lst W B zs → Calls Try.prog 18 #[.slice B m e] W (ListsN W m (srt zs))) := Lib.hid fun W zs B e m hm hl h => by
    subst hm
    exact (l_rsort h hl).mono fun _ _ h => h.n (srt_len zs)
  have HSm : Hid (∀ (W : World) (zs : List Tm) (B B' : Option Addr) (e e' m : Nat), zs.length = m → m ≤ 1000 → Lst W B zs → Lst W B' zs → Calls Try.prog 17 #[.slice B m e, .slice B' m e'] W fun e w' => e = .returned (.bool true) ∧ Below W.heap.size W w') := Lib.hid fun W zs B B' e e' m hm hl h h' => by
    subst hm
    exact l_same h h' (by omega)
  obtain ⟨LB, hLB⟩ : ∃ LB, lt (nth xs 0) (nth xs 1) = LB := ⟨_, rfl⟩
  have HP : Hid (∀ W : World, Calls Try.prog 14 #[.agg #[.int .i64 (nth xs 0).a, .int .i64 (nth xs 0).k, .int .i64 (nth xs 0).o, .int .u64 (nth xs 0).n], .agg #[.int .i64 (nth xs 1).a, .int .i64 (nth xs 1).k, .int .i64 (nth xs 1).o, .int .u64 (nth xs 1).n]] W fun e w' => e = .returned (.bool LB) ∧ Below W.heap.size W w') := Lib.hid fun W => by
    subst hLB
    exact less_any (nth xs 0).a (nth xs 0).k (nth xs 0).o (nth xs 0).n (nth xs 1).a (nth xs 1).k (nth xs 1).o (nth xs 1).n W
  have HR : Hid (∀ W : World, Calls Try.prog 15 #[.agg #[.int .i64 (nth xs 0).a, .int .i64 (nth xs 0).k, .int .i64 (nth xs 0).o, .int .u64 (nth xs 0).n], .agg #[.int .i64 (nth xs 1).a, .int .i64 (nth xs 1).k, .int .i64 (nth xs 1).o, .int .u64 (nth xs 1).n]] W fun e w' => e = .returned (.bool LB) ∧ Below W.heap.size W w') := Lib.hid fun W => by
    subst hLB
    exact rless_any (nth xs 0).a (nth xs 0).k (nth xs 0).o (nth xs 0).n (nth xs 1).a (nth xs 1).k (nth xs 1).o (nth xs 1).n W
  have d1 : decide ((1 : Int) < (xs.length : Int)) = true := by simp; omega
  have i1 : (1 : Int) < (xs.length : Int) := by omega
  have i0 : (0 : Int) < (xs.length : Int) := by omega
  have i2 : 0 < xs.length := by omega
  have i3 : 1 < xs.length := by omega
  have d2 : decide ((256 : Int) < (xs.length : Int)) = false := by simp; omega
  have d3 : decide ((256 : Int) < (xs.length : Int) + (ts.length : Int)) = true := by simp; omega
  have hsum' : ¬ xs.length + ts.length ≤ 256 := by omega
  clear hfx hft hx ht fx _ft hLB hm
  go_enter Try.func3, Try.ntmps3
  go_wp2_with fail
  refine (HFX.out _).mono ?_
  rintro e w' ⟨rfl, rfl⟩
  go_wp2_with fail
  refine (HFT.out _).mono ?_
  rintro e w' ⟨rfl, rfl⟩
  go_wp2_with fail
  refine (HSort.out _ LX.out).mono ?_
  rintro e w1 ⟨A1, c1, rfl, hl1, hb1⟩
  have LNa_1 := Lib.hid hl1
  have Lx_1 := Lib.hid (LX.out.on hb1)
  have Lt_1 := Lib.hid (LT.out.on hb1)
  have HB_1 : Hid (Below w.heap.size w _) := Lib.hid (HB.out.trans (hb1.mono HB.out.size))
  clear LX LT HB hb1 hl1
  go_wp2_with fail
  refine (HAdd.out _ Lx_1.out Lt_1.out).mono ?_
  rintro e w2 ⟨A2, c2, rfl, hl2, hb2⟩
  have LNb_2 := Lib.hid hl2
  have Lx_2 := Lib.hid (Lx_1.out.on hb2)
  have Lt_2 := Lib.hid (Lt_1.out.on hb2)
  have La_2 := Lib.hid (LNa_1.out.on hb2)
  have HB_2 : Hid (Below w.heap.size w _) := Lib.hid (HB_1.out.trans (hb2.mono HB_1.out.size))
  clear Lx_1 Lt_1 LNa_1 HB_1 hb2 hl2
  obtain ⟨ad, rfl, _, _, t0⟩ := Lx_2.out 0 (by omega)
  obtain ⟨ad', ee, _, _, t1⟩ := Lx_2.out 1 (by omega)
  obtain rfl := Option.some.inj ee
  have t0' : At _ ad (nth xs 0) := t0
  have t1' : At _ ⟨ad.block, ad.off + 4, none⟩ (nth xs 1) := t1
  obtain ⟨x1, x2, x3, x4⟩ := t0'.flat
  obtain ⟨y1, y2, y3, y4⟩ := t1'.at_
  clear t0 t1 t0' t1' ee
  have x1' := fun d os => cell_regrown x1 d os
  have x2' := fun d os => cell_regrown x2 d os
  have x3' := fun d os => cell_regrown x3 d os
  have x4' := fun d os => cell_regrown x4 d os
  have y1' := fun d os => cell_regrown y1 d os
  have y2' := fun d os => cell_regrown y2 d os
  have y3' := fun d os => cell_regrown y3 d os
  have y4' := fun d os => cell_regrown y4 d os
  clear x1 x2 x3 x4 y1 y2 y3 y4
  go_upto_region 4 with (fail)
  refine q_enter (by kernel_rfl) (by kernel_rfl) ?_
  iterate 1 (refine q_step ?_; intro K hK; go_simp; refine hK _ ?_; clear hK K)
  refine q_step ?_
  intro K hK
  go_simp
  refine ⟨_, fun p => Calls.regrown_of (HCk.out _ (Lx_2.out.on (below_regrown _ _ _))), hK _ ?_⟩
  clear hK K
  iterate 2 (refine q_step ?_; intro K hK; go_simp; refine hK _ ?_; clear hK K)
  refine q_step ?_
  intro K hK
  go_simp
  refine ⟨_, fun p => Calls.regrown_of (HMy.out _ (Lx_2.out.on (below_regrown _ _ _))), hK _ ?_⟩
  clear hK K
  iterate 12 (refine q_step ?_; intro K hK; go_simp; refine hK _ ?_; clear hK K)
  refine q_step ?_
  intro K hK
  go_simp
  refine ⟨_, fun p => Calls.regrown_of (HP.out _), hK _ ?_⟩
  clear hK K
  iterate 6 (refine q_step ?_; intro K hK; go_simp; refine hK _ ?_; clear hK K)
  refine q_step ?_
  intro K hK
  go_simp
  refine ⟨_, fun p => Calls.regrown_of (HR.out _), hK _ ?_⟩
  clear hK K
  iterate 3 (refine q_step ?_; intro K hK; go_simp; refine hK _ ?_; clear hK K)
  refine q_nil ?_
  intro w3 hb3
  have Lx_3 := Lib.hid (Lx_2.out.on hb3)
  have Lt_3 := Lib.hid (Lt_2.out.on hb3)
  have La_3 := Lib.hid (La_2.out.on hb3)
  have Lb_3 := Lib.hid (LNb_2.out.on hb3)
  have HB_3 : Hid (Below w.heap.size w _) := Lib.hid (HB_2.out.trans (hb3.mono HB_2.out.size))
  clear Lx_2 Lt_2 La_2 LNb_2 HB_2 hb3 x1' x2' x3' x4' y1' y2' y3' y4'
  go_wp2_with fail
  refine (HRs.out _ _ _ _ xs.length rfl (by omega) Lx_3.out).mono ?_
  rintro e w4 ⟨A3, c3, rfl, hl3, hb4⟩
  have LNr_4 := Lib.hid hl3
  have Lx_4 := Lib.hid (Lx_3.out.on hb4)
  have Lt_4 := Lib.hid (Lt_3.out.on hb4)
  have La_4 := Lib.hid (La_3.out.on hb4)
  have Lb_4 := Lib.hid (Lb_3.out.on hb4)
  have HB_4 : Hid (Below w.heap.size w _) := Lib.hid (HB_3.out.trans (hb4.mono HB_3.out.size))
  clear Lx_3 Lt_3 La_3 Lb_3 HB_3 hb4 hl3
  go_wp2_with fail
  refine (HSm.out _ _ _ _ _ _ xs.length (srt_len xs) (by omega) La_4.out LNr_4.out).mono ?_
  rintro e w5 ⟨rfl, hb5⟩
  have Lx_5 := Lib.hid (Lx_4.out.on hb5)
  have Lt_5 := Lib.hid (Lt_4.out.on hb5)
  have Lb_5 := Lib.hid (Lb_4.out.on hb5)
  have HB_5 : Hid (Below w.heap.size w _) := Lib.hid (HB_4.out.trans (hb5.mono HB_4.out.size))
  clear Lx_4 Lt_4 La_4 Lb_4 LNr_4 HB_4 hb5
  go_wp2_with fail
  refine (HMy.out _ Lx_5.out).mono ?_
  rintro e w6 ⟨rfl, hb6⟩
  have Lx_6 := Lib.hid (Lx_5.out.on hb6)
  have Lt_6 := Lib.hid (Lt_5.out.on hb6)
  have Lb_6 := Lib.hid (Lb_5.out.on hb6)
  have HB_6 : Hid (Below w.heap.size w _) := Lib.hid (HB_5.out.trans (hb6.mono HB_5.out.size))
  clear Lx_5 Lt_5 Lb_5 HB_5 hb6
  go_wp2_with (at_builtin; refine wpList_append_has rfl _ _ rfl w6.heap.size (.slice (some ⟨w6.heap.size, 0, none⟩) 0 0) [] rfl ?c1 (some ad) c 0 (w6.heap.size + 1) xs rfl ?c2 ?c3 ?c4 ?_)
  case c1 => exact World.ownsRow_made w6 #[] 0 (Nat.le_refl _) (Nat.zero_le _) rfl
  case c2 => exact (Lx_6.out.alloc _).wide (Nat.le_refl _) (by simp)
  case c3 => simp; omega
  case c4 => simp
  intro v1 W1 own1 grow1
  have OW1 : Hid (Own W1 w6.heap.size v1 xs) := Lib.hid (by simpa using own1)
  have BW1 : Hid (Below w6.heap.size w6 W1) := Lib.hid (((Below.refl _ w6).alloc (Nat.le_refl _) _).grown grow1 (by simp) (by intro k hk; simp [Value.ownBlock] at hk; omega))
  clear own1 grow1
  go_wp2_with (at_builtin; refine wpList_append_has rfl _ _ rfl w6.heap.size v1 xs rfl OW1.out T d 0 W1.heap.size ts rfl (Lt_6.out.on BW1.out) ?c3 BW1.out.size ?_)
  case c3 => omega
  intro v2 W2 own2 grow2
  have hbW : Below w6.heap.size w6 W2 := BW1.out.grown grow2 BW1.out.size (fun k hk => (OW1.out.ge k hk).1)
  obtain ⟨A9, c9, rfl, _, hl9⟩ := own2.lst
  have LNb_9 := Lib.hid hl9
  have hlen9 : (xs ++ ts).length = xs.length + ts.length := List.length_append
  rw [hlen9]
  clear OW1 BW1 own2 grow2 hl9 hlen9
  have Lx_7 := Lib.hid (Lx_6.out.on hbW)
  have Lt_7 := Lib.hid (Lt_6.out.on hbW)
  have Lb_7 := Lib.hid (Lb_6.out.on hbW)
  have HB_7 : Hid (Below w.heap.size w _) := Lib.hid (HB_6.out.trans (hbW.mono HB_6.out.size))
  clear Lx_6 Lt_6 Lb_6 HB_6 hbW
  go_wp2_with fail
  refine (awake_any _).mono ?_
  rintro e wE ⟨rfl, hbE⟩
  have HE : Hid (Below w.heap.size w wE) := Lib.hid (HB_7.out.trans (hbE.mono HB_7.out.size))
  clear hbE
  go_wp2_with fail
  go_ret
  exact ⟨rfl, HE.out⟩

set_option maxRecDepth 100000 in
set_option maxHeartbeats 4000000 in
theorem wayAddShort (A T : Option Addr) (c d n0 m0 : Nat) (xs ts : List Tm) (w : World) (hfx : ∀ W : World, Calls Try.prog 9 #[.slice A n0 c] W fun e w' => e = .returned (.slice A xs.length c) ∧ W = w')
    (hft : ∀ W : World, Calls Try.prog 9 #[.slice T m0 d] W fun e w' => e = .returned (.slice T ts.length d) ∧ W = w') (hx : Lst w A xs) (ht : Lst w T ts) (fx : Fits xs) (ft : Fits ts) (nx : xs.length ≤ 257) (_nt : ts.length ≤ 257) (hn : xs.length ≤ 256) (hm : mayB xs = true) (hsum : xs.length + ts.length ≤ 256) (h1 : xs.length ≤ 1) :
    Calls Try.prog 3 #[.slice A n0 c, .slice T m0 d] w fun e w' => e = .returned (.bool true) ∧ Below w.heap.size w w' := by
  have HFX := Lib.hid hfx
  have HFT := Lib.hid hft
  have LX := Lib.hid hx
  have LT := Lib.hid ht
  have HB : Hid (Below w.heap.size w w) := Lib.hid (Below.refl _ _)
  have HSort : Hid (∀ W : World, Lst W A xs → Calls Try.prog 10 #[.slice A xs.length c] W (GivesN W xs.length (srt xs) 0)) := Lib.hid fun W h => (l_sort h hn fx).mono fun _ _ h => h.n (srt_len xs)
  have HAdd : Hid (∀ W : World, Lst W A xs → Lst W T ts → Calls Try.prog 11 #[.slice A xs.length c, .slice T ts.length d] W (GivesN W (xs.length + ts.length) (srt (xs ++ ts)) 0)) := Lib.hid fun W h h2 => (l_add h h2 hm hsum fx ft).mono fun _ _ h => h.n (by rw [srt_len, List.length_append])
  have HCk : Hid (∀ W : World, Lst W A xs → Calls Try.prog 12 #[.slice A xs.length c] W fun e w' => e = .returned (.int .i64 0) ∧ Below W.heap.size W w') := Lib.hid fun W h => l_check h (by omega) true hm
  have HMy : Hid (∀ W : World, Lst W A xs → Calls Try.prog 13 #[.slice A xs.length c] W fun e w' => e = .returned (.bool true) ∧ Below W.heap.size W w') := Lib.hid fun W h => l_may h (by omega) true hm
  have HRs : Hid (∀ (W : World) (zs : List Tm) (B : Option Addr) (e m : Nat), zs.length = m → m ≤ 1000 → Lst W B zs → Calls Try.prog 18 #[.slice B m e] W (ListsN W m (srt zs))) := Lib.hid fun W zs B e m hm hl h => by
    subst hm
    exact (l_rsort h hl).mono fun _ _ h => h.n (srt_len zs)
  have HSm : Hid (∀ (W : World) (zs : List Tm) (B B' : Option Addr) (e e' m : Nat), zs.length = m → m ≤ 1000 → Lst W B zs → Lst W B' zs → Calls Try.prog 17 #[.slice B m e, .slice B' m e'] W fun e w' => e = .returned (.bool true) ∧ Below W.heap.size W w') := Lib.hid fun W zs B B' e e' m hm hl h h' => by
    subst hm
    exact l_same h h' (by omega)
  have d1 : decide ((1 : Int) < (xs.length : Int)) = false := by simp; omega
  have d2 : decide ((256 : Int) < (xs.length : Int)) = false := by simp; omega
  have d3 : decide ((256 : Int) < (xs.length : Int) + (ts.length : Int)) = false := by simp; omega
  clear hfx hft hx ht fx ft hm
  go_enter Try.func3, Try.ntmps3
  go_wp2_with fail
  refine (HFX.out _).mono ?_
  rintro e w' ⟨rfl, rfl⟩
  go_wp2_with fail
  refine (HFT.out _).mono ?_
  rintro e w' ⟨rfl, rfl⟩
  go_wp2_with fail
  refine (HSort.out _ LX.out).mono ?_
  rintro e w1 ⟨A1, c1, rfl, hl1, hb1⟩
  have LNa_1 := Lib.hid hl1
  have Lx_1 := Lib.hid (LX.out.on hb1)
  have Lt_1 := Lib.hid (LT.out.on hb1)
  have HB_1 : Hid (Below w.heap.size w _) := Lib.hid (HB.out.trans (hb1.mono HB.out.size))
  clear LX LT HB hb1 hl1
  go_wp2_with fail
  refine (HAdd.out _ Lx_1.out Lt_1.out).mono ?_
  rintro e w2 ⟨A2, c2, rfl, hl2, hb2⟩
  have LNb_2 := Lib.hid hl2
  have Lx_2 := Lib.hid (Lx_1.out.on hb2)
  have Lt_2 := Lib.hid (Lt_1.out.on hb2)
  have La_2 := Lib.hid (LNa_1.out.on hb2)
  have HB_2 : Hid (Below w.heap.size w _) := Lib.hid (HB_1.out.trans (hb2.mono HB_1.out.size))
  clear Lx_1 Lt_1 LNa_1 HB_1 hb2 hl2
  go_upto_region 4 with (fail)
  refine q_enter (by kernel_rfl) (by kernel_rfl) ?_
  iterate 1 (refine q_step ?_; intro K hK; go_simp; refine hK _ ?_; clear hK K)
  refine q_step ?_
  intro K hK
  go_simp
  refine ⟨_, fun p => Calls.regrown_of (HCk.out _ (Lx_2.out.on (below_regrown _ _ _))), hK _ ?_⟩
  clear hK K
  iterate 2 (refine q_step ?_; intro K hK; go_simp; refine hK _ ?_; clear hK K)
  refine q_step ?_
  intro K hK
  go_simp
  refine ⟨_, fun p => Calls.regrown_of (HMy.out _ (Lx_2.out.on (below_regrown _ _ _))), hK _ ?_⟩
  clear hK K
  iterate 23 (refine q_step ?_; intro K hK; go_simp; refine hK _ ?_; clear hK K)
  refine q_nil ?_
  intro w3 hb3
  have Lx_3 := Lib.hid (Lx_2.out.on hb3)
  have Lt_3 := Lib.hid (Lt_2.out.on hb3)
  have La_3 := Lib.hid (La_2.out.on hb3)
  have Lb_3 := Lib.hid (LNb_2.out.on hb3)
  have HB_3 : Hid (Below w.heap.size w _) := Lib.hid (HB_2.out.trans (hb3.mono HB_2.out.size))
  clear Lx_2 Lt_2 La_2 LNb_2 HB_2 hb3
  go_wp2_with fail
  refine (HRs.out _ _ _ _ xs.length rfl (by omega) Lx_3.out).mono ?_
  rintro e w4 ⟨A3, c3, rfl, hl3, hb4⟩
  have LNr_4 := Lib.hid hl3
  have Lx_4 := Lib.hid (Lx_3.out.on hb4)
  have Lt_4 := Lib.hid (Lt_3.out.on hb4)
  have La_4 := Lib.hid (La_3.out.on hb4)
  have Lb_4 := Lib.hid (Lb_3.out.on hb4)
  have HB_4 : Hid (Below w.heap.size w _) := Lib.hid (HB_3.out.trans (hb4.mono HB_3.out.size))
  clear Lx_3 Lt_3 La_3 Lb_3 HB_3 hb4 hl3
  go_wp2_with fail
  refine (HSm.out _ _ _ _ _ _ xs.length (srt_len xs) (by omega) La_4.out LNr_4.out).mono ?_
  rintro e w5 ⟨rfl, hb5⟩
  have Lx_5 := Lib.hid (Lx_4.out.on hb5)
  have Lt_5 := Lib.hid (Lt_4.out.on hb5)
  have Lb_5 := Lib.hid (Lb_4.out.on hb5)
  have HB_5 : Hid (Below w.heap.size w _) := Lib.hid (HB_4.out.trans (hb5.mono HB_4.out.size))
  clear Lx_4 Lt_4 La_4 Lb_4 LNr_4 HB_4 hb5
  go_wp2_with fail
  refine (HMy.out _ Lx_5.out).mono ?_
  rintro e w6 ⟨rfl, hb6⟩
  have Lx_6 := Lib.hid (Lx_5.out.on hb6)
  have Lt_6 := Lib.hid (Lt_5.out.on hb6)
  have Lb_6 := Lib.hid (Lb_5.out.on hb6)
  have HB_6 : Hid (Below w.heap.size w _) := Lib.hid (HB_5.out.trans (hb6.mono HB_5.out.size))
  clear Lx_5 Lt_5 Lb_5 HB_5 hb6
  go_wp2_with (at_builtin; refine wpList_append_has rfl _ _ rfl w6.heap.size (.slice (some ⟨w6.heap.size, 0, none⟩) 0 0) [] rfl ?c1 A c 0 (w6.heap.size + 1) xs rfl ?c2 ?c3 ?c4 ?_)
  case c1 => exact World.ownsRow_made w6 #[] 0 (Nat.le_refl _) (Nat.zero_le _) rfl
  case c2 => exact (Lx_6.out.alloc _).wide (Nat.le_refl _) (by simp)
  case c3 => simp; omega
  case c4 => simp
  intro v1 W1 own1 grow1
  have OW1 : Hid (Own W1 w6.heap.size v1 xs) := Lib.hid (by simpa using own1)
  have BW1 : Hid (Below w6.heap.size w6 W1) := Lib.hid (((Below.refl _ w6).alloc (Nat.le_refl _) _).grown grow1 (by simp) (by intro k hk; simp [Value.ownBlock] at hk; omega))
  clear own1 grow1
  go_wp2_with (at_builtin; refine wpList_append_has rfl _ _ rfl w6.heap.size v1 xs rfl OW1.out T d 0 W1.heap.size ts rfl (Lt_6.out.on BW1.out) ?c3 BW1.out.size ?_)
  case c3 => omega
  intro v2 W2 own2 grow2
  have hbW : Below w6.heap.size w6 W2 := BW1.out.grown grow2 BW1.out.size (fun k hk => (OW1.out.ge k hk).1)
  obtain ⟨A9, c9, rfl, _, hl9⟩ := own2.lst
  have LNb_9 := Lib.hid hl9
  have hlen9 : (xs ++ ts).length = xs.length + ts.length := List.length_append
  rw [hlen9]
  clear OW1 BW1 own2 grow2 hl9 hlen9
  have Lx_7 := Lib.hid (Lx_6.out.on hbW)
  have Lt_7 := Lib.hid (Lt_6.out.on hbW)
  have Lb_7 := Lib.hid (Lb_6.out.on hbW)
  have HB_7 : Hid (Below w.heap.size w _) := Lib.hid (HB_6.out.trans (hbW.mono HB_6.out.size))
  clear Lx_6 Lt_6 Lb_6 HB_6 hbW
  go_wp2_with fail
  refine (HRs.out _ _ _ _ (xs.length + ts.length) List.length_append (by omega) LNb_9.out).mono ?_
  rintro e w8 ⟨A5, c5, rfl, hl5, hb8⟩
  have LNs_8 := Lib.hid hl5
  have Lx_8 := Lib.hid (Lx_7.out.on hb8)
  have Lt_8 := Lib.hid (Lt_7.out.on hb8)
  have Lb_8 := Lib.hid (Lb_7.out.on hb8)
  have Lboth_8 := Lib.hid (LNb_9.out.on hb8)
  have HB_8 : Hid (Below w.heap.size w _) := Lib.hid (HB_7.out.trans (hb8.mono HB_7.out.size))
  clear Lx_7 Lt_7 Lb_7 LNb_9 HB_7 hb8 hl5
  go_wp2_with fail
  refine (HSm.out _ _ _ _ _ _ (xs.length + ts.length) (by rw [srt_len, List.length_append]) (by omega) Lb_8.out LNs_8.out).mono ?_
  rintro e w9 ⟨rfl, hb9⟩
  have Lx_9 := Lib.hid (Lx_8.out.on hb9)
  have Lt_9 := Lib.hid (Lt_8.out.on hb9)
  have HB_9 : Hid (Below w.heap.size w _) := Lib.hid (HB_8.out.trans (hb9.mono HB_8.out.size))
  clear Lx_8 Lt_8 Lb_8 Lboth_8 LNs_8 HB_8 hb9
  go_wp2_with fail
  refine (awake_any _).mono ?_
  rintro e wE ⟨rfl, hbE⟩
  have HE : Hid (Below w.heap.size w wE) := Lib.hid (HB_9.out.trans (hbE.mono HB_9.out.size))
  clear hbE
  go_wp2_with fail
  go_ret
  exact ⟨rfl, HE.out⟩

set_option maxRecDepth 100000 in
set_option maxHeartbeats 4000000 in
theorem wayAddLong (A T : Option Addr) (c d n0 m0 : Nat) (xs ts : List Tm) (w : World) (hfx : ∀ W : World, Calls Try.prog 9 #[.slice A n0 c] W fun e w' => e = .returned (.slice A xs.length c) ∧ W = w')
    (hft : ∀ W : World, Calls Try.prog 9 #[.slice T m0 d] W fun e w' => e = .returned (.slice T ts.length d) ∧ W = w') (hx : Lst w A xs) (ht : Lst w T ts) (fx : Fits xs) (ft : Fits ts) (nx : xs.length ≤ 257) (_nt : ts.length ≤ 257) (hn : xs.length ≤ 256) (hm : mayB xs = true) (hsum : xs.length + ts.length ≤ 256) (h1 : 1 < xs.length) :
    Calls Try.prog 3 #[.slice A n0 c, .slice T m0 d] w fun e w' => e = .returned (.bool true) ∧ Below w.heap.size w w' := by
  have HFX := Lib.hid hfx
  have HFT := Lib.hid hft
  have LX := Lib.hid hx
  have LT := Lib.hid ht
  have HB : Hid (Below w.heap.size w w) := Lib.hid (Below.refl _ _)
  have HSort : Hid (∀ W : World, Lst W A xs → Calls Try.prog 10 #[.slice A xs.length c] W (GivesN W xs.length (srt xs) 0)) := Lib.hid fun W h => (l_sort h hn fx).mono fun _ _ h => h.n (srt_len xs)
  have HAdd : Hid (∀ W : World, Lst W A xs → Lst W T ts → Calls Try.prog 11 #[.slice A xs.length c, .slice T ts.length d] W (GivesN W (xs.length + ts.length) (srt (xs ++ ts)) 0)) := Lib.hid fun W h h2 => (l_add h h2 hm hsum fx ft).mono fun _ _ h => h.n (by rw [srt_len, List.length_append])
  have HCk : Hid (∀ W : World, Lst W A xs → Calls Try.prog 12 #[.slice A xs.length c] W fun e w' => e = .returned (.int .i64 0) ∧ Below W.heap.size W w') := Lib.hid fun W h => l_check h (by omega) true hm
  have HMy : Hid (∀ W : World, Lst W A xs → Calls Try.prog 13 #[.slice A xs.length c] W fun e w' => e = .returned (.bool true) ∧ Below W.heap.size W w') := Lib.hid fun W h => l_may h (by omega) true hm
  have HRs : Hid (∀ (W : World) (zs : List Tm) (B : Option Addr) (e m : Nat), zs.length = m → m ≤ 1000 → Lst W B zs → Calls Try.prog 18 #[.slice B m e] W (ListsN W m (srt zs))) := Lib.hid fun W zs B e m hm hl h => by
    subst hm
    exact (l_rsort h hl).mono fun _ _ h => h.n (srt_len zs)
  have HSm : Hid (∀ (W : World) (zs : List Tm) (B B' : Option Addr) (e e' m : Nat), zs.length = m → m ≤ 1000 → Lst W B zs → Lst W B' zs → Calls Try.prog 17 #[.slice B m e, .slice B' m e'] W fun e w' => e = .returned (.bool true) ∧ Below W.heap.size W w') := Lib.hid fun W zs B B' e e' m hm hl h h' => by
    subst hm
    exact l_same h h' (by omega)
  obtain ⟨LB, hLB⟩ : ∃ LB, lt (nth xs 0) (nth xs 1) = LB := ⟨_, rfl⟩
  have HP : Hid (∀ W : World, Calls Try.prog 14 #[.agg #[.int .i64 (nth xs 0).a, .int .i64 (nth xs 0).k, .int .i64 (nth xs 0).o, .int .u64 (nth xs 0).n], .agg #[.int .i64 (nth xs 1).a, .int .i64 (nth xs 1).k, .int .i64 (nth xs 1).o, .int .u64 (nth xs 1).n]] W fun e w' => e = .returned (.bool LB) ∧ Below W.heap.size W w') := Lib.hid fun W => by
    subst hLB
    exact less_any (nth xs 0).a (nth xs 0).k (nth xs 0).o (nth xs 0).n (nth xs 1).a (nth xs 1).k (nth xs 1).o (nth xs 1).n W
  have HR : Hid (∀ W : World, Calls Try.prog 15 #[.agg #[.int .i64 (nth xs 0).a, .int .i64 (nth xs 0).k, .int .i64 (nth xs 0).o, .int .u64 (nth xs 0).n], .agg #[.int .i64 (nth xs 1).a, .int .i64 (nth xs 1).k, .int .i64 (nth xs 1).o, .int .u64 (nth xs 1).n]] W fun e w' => e = .returned (.bool LB) ∧ Below W.heap.size W w') := Lib.hid fun W => by
    subst hLB
    exact rless_any (nth xs 0).a (nth xs 0).k (nth xs 0).o (nth xs 0).n (nth xs 1).a (nth xs 1).k (nth xs 1).o (nth xs 1).n W
  have d1 : decide ((1 : Int) < (xs.length : Int)) = true := by simp; omega
  have i1 : (1 : Int) < (xs.length : Int) := by omega
  have i0 : (0 : Int) < (xs.length : Int) := by omega
  have i2 : 0 < xs.length := by omega
  have i3 : 1 < xs.length := by omega
  have d2 : decide ((256 : Int) < (xs.length : Int)) = false := by simp; omega
  have d3 : decide ((256 : Int) < (xs.length : Int) + (ts.length : Int)) = false := by simp; omega
  clear hfx hft hx ht fx ft hLB hm
  go_enter Try.func3, Try.ntmps3
  go_wp2_with fail
  refine (HFX.out _).mono ?_
  rintro e w' ⟨rfl, rfl⟩
  go_wp2_with fail
  refine (HFT.out _).mono ?_
  rintro e w' ⟨rfl, rfl⟩
  go_wp2_with fail
  refine (HSort.out _ LX.out).mono ?_
  rintro e w1 ⟨A1, c1, rfl, hl1, hb1⟩
  have LNa_1 := Lib.hid hl1
  have Lx_1 := Lib.hid (LX.out.on hb1)
  have Lt_1 := Lib.hid (LT.out.on hb1)
  have HB_1 : Hid (Below w.heap.size w _) := Lib.hid (HB.out.trans (hb1.mono HB.out.size))
  clear LX LT HB hb1 hl1
  go_wp2_with fail
  refine (HAdd.out _ Lx_1.out Lt_1.out).mono ?_
  rintro e w2 ⟨A2, c2, rfl, hl2, hb2⟩
  have LNb_2 := Lib.hid hl2
  have Lx_2 := Lib.hid (Lx_1.out.on hb2)
  have Lt_2 := Lib.hid (Lt_1.out.on hb2)
  have La_2 := Lib.hid (LNa_1.out.on hb2)
  have HB_2 : Hid (Below w.heap.size w _) := Lib.hid (HB_1.out.trans (hb2.mono HB_1.out.size))
  clear Lx_1 Lt_1 LNa_1 HB_1 hb2 hl2
  obtain ⟨ad, rfl, _, _, t0⟩ := Lx_2.out 0 (by omega)
  obtain ⟨ad', ee, _, _, t1⟩ := Lx_2.out 1 (by omega)
  obtain rfl := Option.some.inj ee
  have t0' : At _ ad (nth xs 0) := t0
  have t1' : At _ ⟨ad.block, ad.off + 4, none⟩ (nth xs 1) := t1
  obtain ⟨x1, x2, x3, x4⟩ := t0'.flat
  obtain ⟨y1, y2, y3, y4⟩ := t1'.at_
  clear t0 t1 t0' t1' ee
  have x1' := fun d os => cell_regrown x1 d os
  have x2' := fun d os => cell_regrown x2 d os
  have x3' := fun d os => cell_regrown x3 d os
  have x4' := fun d os => cell_regrown x4 d os
  have y1' := fun d os => cell_regrown y1 d os
  have y2' := fun d os => cell_regrown y2 d os
  have y3' := fun d os => cell_regrown y3 d os
  have y4' := fun d os => cell_regrown y4 d os
  clear x1 x2 x3 x4 y1 y2 y3 y4
  go_upto_region 4 with (fail)
  refine q_enter (by kernel_rfl) (by kernel_rfl) ?_
  iterate 1 (refine q_step ?_; intro K hK; go_simp; refine hK _ ?_; clear hK K)
  refine q_step ?_
  intro K hK
  go_simp
  refine ⟨_, fun p => Calls.regrown_of (HCk.out _ (Lx_2.out.on (below_regrown _ _ _))), hK _ ?_⟩
  clear hK K
  iterate 2 (refine q_step ?_; intro K hK; go_simp; refine hK _ ?_; clear hK K)
  refine q_step ?_
  intro K hK
  go_simp
  refine ⟨_, fun p => Calls.regrown_of (HMy.out _ (Lx_2.out.on (below_regrown _ _ _))), hK _ ?_⟩
  clear hK K
  iterate 12 (refine q_step ?_; intro K hK; go_simp; refine hK _ ?_; clear hK K)
  refine q_step ?_
  intro K hK
  go_simp
  refine ⟨_, fun p => Calls.regrown_of (HP.out _), hK _ ?_⟩
  clear hK K
  iterate 6 (refine q_step ?_; intro K hK; go_simp; refine hK _ ?_; clear hK K)
  refine q_step ?_
  intro K hK
  go_simp
  refine ⟨_, fun p => Calls.regrown_of (HR.out _), hK _ ?_⟩
  clear hK K
  iterate 3 (refine q_step ?_; intro K hK; go_simp; refine hK _ ?_; clear hK K)
  refine q_nil ?_
  intro w3 hb3
  have Lx_3 := Lib.hid (Lx_2.out.on hb3)
  have Lt_3 := Lib.hid (Lt_2.out.on hb3)
  have La_3 := Lib.hid (La_2.out.on hb3)
  have Lb_3 := Lib.hid (LNb_2.out.on hb3)
  have HB_3 : Hid (Below w.heap.size w _) := Lib.hid (HB_2.out.trans (hb3.mono HB_2.out.size))
  clear Lx_2 Lt_2 La_2 LNb_2 HB_2 hb3 x1' x2' x3' x4' y1' y2' y3' y4'
  go_wp2_with fail
  refine (HRs.out _ _ _ _ xs.length rfl (by omega) Lx_3.out).mono ?_
  rintro e w4 ⟨A3, c3, rfl, hl3, hb4⟩
  have LNr_4 := Lib.hid hl3
  have Lx_4 := Lib.hid (Lx_3.out.on hb4)
  have Lt_4 := Lib.hid (Lt_3.out.on hb4)
  have La_4 := Lib.hid (La_3.out.on hb4)
  have Lb_4 := Lib.hid (Lb_3.out.on hb4)
  have HB_4 : Hid (Below w.heap.size w _) := Lib.hid (HB_3.out.trans (hb4.mono HB_3.out.size))
  clear Lx_3 Lt_3 La_3 Lb_3 HB_3 hb4 hl3
  go_wp2_with fail
  refine (HSm.out _ _ _ _ _ _ xs.length (srt_len xs) (by omega) La_4.out LNr_4.out).mono ?_
  rintro e w5 ⟨rfl, hb5⟩
  have Lx_5 := Lib.hid (Lx_4.out.on hb5)
  have Lt_5 := Lib.hid (Lt_4.out.on hb5)
  have Lb_5 := Lib.hid (Lb_4.out.on hb5)
  have HB_5 : Hid (Below w.heap.size w _) := Lib.hid (HB_4.out.trans (hb5.mono HB_4.out.size))
  clear Lx_4 Lt_4 La_4 Lb_4 LNr_4 HB_4 hb5
  go_wp2_with fail
  refine (HMy.out _ Lx_5.out).mono ?_
  rintro e w6 ⟨rfl, hb6⟩
  have Lx_6 := Lib.hid (Lx_5.out.on hb6)
  have Lt_6 := Lib.hid (Lt_5.out.on hb6)
  have Lb_6 := Lib.hid (Lb_5.out.on hb6)
  have HB_6 : Hid (Below w.heap.size w _) := Lib.hid (HB_5.out.trans (hb6.mono HB_5.out.size))
  clear Lx_5 Lt_5 Lb_5 HB_5 hb6
  go_wp2_with (at_builtin; refine wpList_append_has rfl _ _ rfl w6.heap.size (.slice (some ⟨w6.heap.size, 0, none⟩) 0 0) [] rfl ?c1 (some ad) c 0 (w6.heap.size + 1) xs rfl ?c2 ?c3 ?c4 ?_)
  case c1 => exact World.ownsRow_made w6 #[] 0 (Nat.le_refl _) (Nat.zero_le _) rfl
  case c2 => exact (Lx_6.out.alloc _).wide (Nat.le_refl _) (by simp)
  case c3 => simp; omega
  case c4 => simp
  intro v1 W1 own1 grow1
  have OW1 : Hid (Own W1 w6.heap.size v1 xs) := Lib.hid (by simpa using own1)
  have BW1 : Hid (Below w6.heap.size w6 W1) := Lib.hid (((Below.refl _ w6).alloc (Nat.le_refl _) _).grown grow1 (by simp) (by intro k hk; simp [Value.ownBlock] at hk; omega))
  clear own1 grow1
  go_wp2_with (at_builtin; refine wpList_append_has rfl _ _ rfl w6.heap.size v1 xs rfl OW1.out T d 0 W1.heap.size ts rfl (Lt_6.out.on BW1.out) ?c3 BW1.out.size ?_)
  case c3 => omega
  intro v2 W2 own2 grow2
  have hbW : Below w6.heap.size w6 W2 := BW1.out.grown grow2 BW1.out.size (fun k hk => (OW1.out.ge k hk).1)
  obtain ⟨A9, c9, rfl, _, hl9⟩ := own2.lst
  have LNb_9 := Lib.hid hl9
  have hlen9 : (xs ++ ts).length = xs.length + ts.length := List.length_append
  rw [hlen9]
  clear OW1 BW1 own2 grow2 hl9 hlen9
  have Lx_7 := Lib.hid (Lx_6.out.on hbW)
  have Lt_7 := Lib.hid (Lt_6.out.on hbW)
  have Lb_7 := Lib.hid (Lb_6.out.on hbW)
  have HB_7 : Hid (Below w.heap.size w _) := Lib.hid (HB_6.out.trans (hbW.mono HB_6.out.size))
  clear Lx_6 Lt_6 Lb_6 HB_6 hbW
  go_wp2_with fail
  refine (HRs.out _ _ _ _ (xs.length + ts.length) List.length_append (by omega) LNb_9.out).mono ?_
  rintro e w8 ⟨A5, c5, rfl, hl5, hb8⟩
  have LNs_8 := Lib.hid hl5
  have Lx_8 := Lib.hid (Lx_7.out.on hb8)
  have Lt_8 := Lib.hid (Lt_7.out.on hb8)
  have Lb_8 := Lib.hid (Lb_7.out.on hb8)
  have Lboth_8 := Lib.hid (LNb_9.out.on hb8)
  have HB_8 : Hid (Below w.heap.size w _) := Lib.hid (HB_7.out.trans (hb8.mono HB_7.out.size))
  clear Lx_7 Lt_7 Lb_7 LNb_9 HB_7 hb8 hl5
  go_wp2_with fail
  refine (HSm.out _ _ _ _ _ _ (xs.length + ts.length) (by rw [srt_len, List.length_append]) (by omega) Lb_8.out LNs_8.out).mono ?_
  rintro e w9 ⟨rfl, hb9⟩
  have Lx_9 := Lib.hid (Lx_8.out.on hb9)
  have Lt_9 := Lib.hid (Lt_8.out.on hb9)
  have HB_9 : Hid (Below w.heap.size w _) := Lib.hid (HB_8.out.trans (hb9.mono HB_8.out.size))
  clear Lx_8 Lt_8 Lb_8 Lboth_8 LNs_8 HB_8 hb9
  go_wp2_with fail
  refine (awake_any _).mono ?_
  rintro e wE ⟨rfl, hbE⟩
  have HE : Hid (Below w.heap.size w wE) := Lib.hid (HB_9.out.trans (hbE.mono HB_9.out.size))
  clear hbE
  go_wp2_with fail
  go_ret
  exact ⟨rfl, HE.out⟩

theorem walk (A T : Option Addr) (c d : Nat) (xs0 ts0 : List Tm) (w : World) (hc : xs0.length ≤ c) (hm : c ≤ maxLen) (hl : Lst w A xs0) (hf : Fits xs0) (hd : ts0.length ≤ d) (hm' : d ≤ maxLen) (hl' : Lst w T ts0) (hf' : Fits ts0) :
    Calls Try.prog 3 #[.slice A xs0.length c, .slice T ts0.length d] w fun e w' => e = .returned (.bool true) ∧ Below w.heap.size w w' := by
  have hfx := few_any A c _ _ xs0 w hc hm hl
  have hft := few_any T d _ _ ts0 w hd hm' hl'
  have hx : Lst w A (cutL xs0) := Has.take hl 257
  have ht : Lst w T (cutL ts0) := Has.take hl' 257
  have fx : Fits (cutL xs0) := fun x h => hf x (List.mem_of_mem_take h)
  have ft : Fits (cutL ts0) := fun x h => hf' x (List.mem_of_mem_take h)
  have nx := cutL_len xs0
  have nt := cutL_len ts0
  rcases Nat.lt_or_ge 256 (cutL xs0).length with hn | hn
  · exact wayA A T c d _ _ _ _ w hfx hft hx ht fx ft nx nt hn
  · rcases hmay : mayB (cutL xs0) with _ | _
    · exact wayB1 A T c d _ _ _ _ w hfx hft hx ht fx ft nx nt hn hmay
    · rcases Nat.lt_or_ge 256 ((cutL xs0).length + (cutL ts0).length) with hs | hs
      · rcases Nat.lt_or_ge 1 (cutL xs0).length with h1 | h1
        · exact wayFullLong A T c d _ _ _ _ w hfx hft hx ht fx ft nx nt hn hmay hs h1
        · exact wayFullShort A T c d _ _ _ _ w hfx hft hx ht fx ft nx nt hn hmay hs h1
      · rcases Nat.lt_or_ge 1 (cutL xs0).length with h1 | h1
        · exact wayAddLong A T c d _ _ _ _ w hfx hft hx ht fx ft nx nt hn hmay hs h1
        · exact wayAddShort A T c d _ _ _ _ w hfx hft hx ht fx ft nx nt hn hmay hs h1

/-! ### the statement -/
theorem parOk : ∀ t ∈ (#[22, 22] : Array TypeId).toList, Try.prog.readableRec t = true ∧ t < Try.prog.types.size := by
  have hall : ([22, 22].all fun t => Try.prog.readableRec t && decide (t < Try.prog.types.size)) = true := by kernel_rfl
  intro t ht
  simpa using List.all_eq_true.1 hall t ht

/-- What the walk gives, for every argument. -/
theorem contract (H : Type) (enc : TypeId × Value → H) (W : World) (base : Nat) (args : Array Value) (ds gs : List (DataW H)) (before : List MemPlace)
    (hval : ∀ (j : Nat) t v, Try.f3.params[j]? = some t → args[j]? = some v → Value.okWide Try.prog W .any base t v)
    (hW : DataW.Whole enc Try.prog Try.f3.params.toList Rows.timerSortsSpec.vars false W args.toList ds gs before) :
    Calls Try.prog 3 args W fun e W' => ∃ v, e = .returned v ∧ Rows.timerSortsSpec.post enc Try.prog Try.f3 false true false false W args v W' := by
  have hW' := hW
  obtain ⟨p, q, hA0, hV, rfl, hfz, hnd⟩ := hW
  have hA : DataW.TrodAll enc Try.prog W 0 (fun _ => true) true Try.f3.params.toList args.toList ds p := hA0
  rw [Try.params3] at hA hval
  obtain ⟨v0, vs0, d0, ds0, p0, q0, hargs, rfl, rfl, h0, r0⟩ := trodAll_cons hA
  obtain ⟨v1, vs1, d1, ds1, p1, q1, rfl, rfl, rfl, h1, r1⟩ := trodAll_cons r0
  obtain ⟨rfl, rfl, rfl⟩ := trodAll_nil r1
  obtain rfl : args = #[v0, v1] := by cases args; simp_all
  obtain ⟨rfl, rfl⟩ := trodVars_none hV
  obtain ⟨Axs, cxs, xs, rfl, hcxs, hmxs, hlxs, hfxs⟩ := open_tms (hval 0 22 v0 rfl rfl) h0
  obtain ⟨Ats, cts, ts, rfl, hcts, hmts, hlts, hfts⟩ := open_tms (hval 1 22 v1 rfl rfl) h1
  clear hA0
  refine (walk Axs Ats cxs cts xs ts W hcxs hmxs hlxs hfxs hcts hmts hlts hfts).mono fun e W' ⟨he, hb⟩ => ?_
  subst he
  exact ⟨_, rfl, law_post rfl (by rw [Try.params3]; exact parOk) rfl hW' rfl rfl rfl hb⟩

set_option maxRecDepth 100000 in
theorem lifted (os : Os) (started : os.Started) (H : Type) (enc : TypeId × Value → H) :
    ReturnsInHanded {} Try.checked os 3 .any (Rows.timerSortsSpec.pre6 enc Try.prog Try.f3 Rows.timerSortsRow.domain false) (Rows.timerSortsSpec.post enc Try.prog Try.f3 false true false false) := by
  refine returnsInHanded_of_change (C := Try.checked) own started (by kernel_rfl) Try.func3
    (ChangeSpec.witness6 (enc := enc) (C := Try.checked) false ⟨#[], #[.slice none 0 0, .slice none 0 0], []⟩ 8 (by kernel_rfl) (by kernel_rfl) (by kernel_rfl) (by kernel_rfl)) ?_
  intro W base args ds gs before hval hW _ _
  exact contract H enc W base args ds gs before hval hW

/-- THE STATEMENT. -/
theorem said : Rows.TimerSortsSaid :=
  OpenClaim.holds_of_wide 3 Try.f3 rfl rfl rfl rfl rfl rfl rfl ⟨rfl, rfl, rfl, rfl, rfl⟩ rfl rfl rfl rfl rfl (by kernel_rfl) Try.func3 (by kernel_rfl)
    (of_decide_eq_true (by kernel_rfl)) (by unfold Func.isWrapper; first | (rw [if_pos (by decide +kernel)]; kernel_rfl) | (rw [if_neg (by decide +kernel)]; exact ⟨rfl, rfl⟩))
    (fun os started H enc _ => lifted os started H enc)
end Go.Proofs.Ytbhpinmdpngbkaa.lawSorts
