/-
  TimerOrders: of any two timers just one comes ahead, or they are the same; which one goes on from one to the next; in whatever order they are added, the timers are the same: the law returns true for every input.
-/
import Derived.Test.YtbhpinmdpngbkaaEq
namespace Go.Proofs.Ytbhpinmdpngbkaa.lawOrders
open Go.ChangeShapes Go.WideShapes Go.ChangeAt Go.RowKit Go.Proofs.Ytbhpinmdpngbkaa.Pure

set_option maxRecDepth 100000 in
set_option maxHeartbeats 4000000 in
theorem walk (a b c : Tm) (w : World) (ha : a.a ≤ 9223372036854775807) (hb : b.a ≤ 9223372036854775807) (hc : c.a ≤ 9223372036854775807) :
    Calls Try.prog 6 #[.agg #[.int .i64 a.a, .int .i64 a.k, .int .i64 a.o, .int .u64 a.n], .agg #[.int .i64 b.a, .int .i64 b.k, .int .i64 b.o, .int .u64 b.n], .agg #[.int .i64 c.a, .int .i64 c.k, .int .i64 c.o, .int .u64 c.n]] w fun e w' => e = .returned (.bool true) ∧ Below w.heap.size w w' := by
  obtain ⟨P, hP⟩ : ∃ P, P = srt [a, b, c] := ⟨_, rfl⟩
  have hPl : P.length = 3 := by rw [hP, srt_len]; rfl
  have hPs : Sorted P := by rw [hP]; exact srt_sorted _
  have e1 : srt ([] ++ [a, b, c]) = P := by rw [hP]; rfl
  have e2 : srt ([] ++ [c, b, a]) = P := by rw [hP]; exact srt_congr (by
    have h1 : ([c, b, a] : List Tm).Perm [c, a, b] := List.Perm.cons _ (List.Perm.swap ..)
    have h2 : ([c, a, b] : List Tm).Perm [a, c, b] := List.Perm.swap ..
    exact (h1.trans h2).trans (List.Perm.cons _ (List.Perm.swap ..)))
  have HAdd : Hid (∀ (W : World) (g : Nat) (x y z : Tm), srt ([] ++ [x, y, z]) = P → Fits [x, y, z] → g = W.heap.size → Calls Try.prog 11 #[.slice none 0 0, .slice (some ⟨g, 0, none⟩) 3 3] (W.alloc (.cells #[.int .i64 x.a, .int .i64 x.k, .int .i64 x.o, .int .u64 x.n, .int .i64 y.a, .int .i64 y.k, .int .i64 y.o, .int .u64 y.n, .int .i64 z.a, .int .i64 z.k, .int .i64 z.o, .int .u64 z.n] 33))
      (GivesN (W.alloc (.cells #[.int .i64 x.a, .int .i64 x.k, .int .i64 x.o, .int .u64 x.n, .int .i64 y.a, .int .i64 y.k, .int .i64 y.o, .int .u64 y.n, .int .i64 z.a, .int .i64 z.k, .int .i64 z.o, .int .u64 z.n] 33)) 3 P 0)) := Lib.hid fun W g x y z he hf hg => by
    subst hg
    have := l_add (A := none) (c := 0) (d := 3) (xs := []) (ts := [x, y, z]) (w := W.alloc (.cells (tms [x, y, z]).toArray 33)) (Lst.nil _ none) (lst_new W [x, y, z] _) rfl (by simp) (fun _ h => (List.not_mem_nil h).elim) hf
    rw [he] at this
    exact this.mono fun _ _ h => h.n hPl
  have HF1 : Hid (Fits [a, b, c]) := Lib.hid (by intro x hx; simp at hx; rcases hx with rfl | rfl | rfl <;> assumption)
  have HF2 : Hid (Fits [c, b, a]) := Lib.hid (by intro x hx; simp at hx; rcases hx with rfl | rfl | rfl <;> assumption)
  have HE1 := Lib.hid e1
  have HE2 := Lib.hid e2
  have HPL := Lib.hid hPl
  have HPS := Lib.hid hPs
  have HL : Hid (∀ (x y : Tm) (L : Bool) (W : World), lt x y = L → Calls Try.prog 14 #[.agg #[.int .i64 x.a, .int .i64 x.k, .int .i64 x.o, .int .u64 x.n], .agg #[.int .i64 y.a, .int .i64 y.k, .int .i64 y.o, .int .u64 y.n]] W fun e w' => e = .returned (.bool L) ∧ Below W.heap.size W w') := Lib.hid (fun x y L W h => by
    subst h
    exact less_any x.a x.k x.o x.n y.a y.k y.o y.n W)
  obtain ⟨X, hX⟩ : ∃ X, lt a b = X := ⟨_, rfl⟩
  obtain ⟨Y, hY⟩ : ∃ Y, lt b a = Y := ⟨_, rfl⟩
  obtain ⟨Z, hZ⟩ : ∃ Z, lt b c = Z := ⟨_, rfl⟩
  obtain ⟨V, hV⟩ : ∃ V, lt a c = V := ⟨_, rfl⟩
  have h1 : ¬ (X = true ∧ Y = true) := fun ⟨h, g⟩ => by rw [lt_asymm (hX.trans h)] at hY; rw [← hY] at g; cases g
  have h2 : decide (a = b) = (!X && !Y) := by
    rw [Bool.eq_iff_iff, decide_eq_true_iff]
    constructor
    · rintro rfl
      rw [lt_irrefl] at hX hY
      rw [← hX, ← hY]; rfl
    · intro h
      rcases X with _ | _ <;> rcases Y with _ | _ <;> first | exact eq_of_not_lt hX hY | cases h
  have h3 : X = true → Z = true → V = true := fun hx hz => by rw [← hV]; exact lt_trans (hX.trans hx) (hZ.trans hz)
  have hq : ∀ W, (binOp .eql 33 (.agg #[.int .i64 a.a, .int .i64 a.k, .int .i64 a.o, .int .u64 a.n]) (.agg #[.int .i64 b.a, .int .i64 b.k, .int .i64 b.o, .int .u64 b.n])).run Try.prog W = .ok (.bool (!X && !Y)) W := fun W => by rw [eql_tm, h2]
  have HX := Lib.hid hX
  have HY := Lib.hid hY
  have HZ := Lib.hid hZ
  have HV := Lib.hid hV
  have H1 := Lib.hid h1
  have H3 := Lib.hid h3
  clear hX hY hZ hV h1 h2 h3
  clear e1 e2 hP hPl hPs ha hb hc
  go_enter Try.func6, Try.ntmps6
  go_upto_region 1 with (fail)
  have BA := Lib.hid (((Bx.new w a 33).alloc (.cells #[.int .i64 b.a, .int .i64 b.k, .int .i64 b.o, .int .u64 b.n] 33)).alloc (.cells #[.int .i64 c.a, .int .i64 c.k, .int .i64 c.o, .int .u64 c.n] 33))
  have BB := Lib.hid ((Bx.new (w.alloc (.cells #[.int .i64 a.a, .int .i64 a.k, .int .i64 a.o, .int .u64 a.n] 33)) b 33).alloc (.cells #[.int .i64 c.a, .int .i64 c.k, .int .i64 c.o, .int .u64 c.n] 33))
  have BC := Lib.hid (Bx.new ((w.alloc (.cells #[.int .i64 a.a, .int .i64 a.k, .int .i64 a.o, .int .u64 a.n] 33)).alloc (.cells #[.int .i64 b.a, .int .i64 b.k, .int .i64 b.o, .int .u64 b.n] 33)) c 33)
  have HB0 : Hid (Below w.heap.size w (((w.alloc (.cells #[.int .i64 a.a, .int .i64 a.k, .int .i64 a.o, .int .u64 a.n] 33)).alloc (.cells #[.int .i64 b.a, .int .i64 b.k, .int .i64 b.o, .int .u64 b.n] 33)).alloc (.cells #[.int .i64 c.a, .int .i64 c.k, .int .i64 c.o, .int .u64 c.n] 33))) :=
    Lib.hid ((((Below.refl _ _).alloc (Nat.le_refl _) _).alloc (by simp) _).alloc (by simp; omega) _)
  simp only [World.size_alloc] at BB BC
  generalize ((w.alloc (.cells #[.int .i64 a.a, .int .i64 a.k, .int .i64 a.o, .int .u64 a.n] 33)).alloc (.cells #[.int .i64 b.a, .int .i64 b.k, .int .i64 b.o, .int .u64 b.n] 33)).alloc (.cells #[.int .i64 c.a, .int .i64 c.k, .int .i64 c.o, .int .u64 c.n] 33) = w1 at *
  obtain ⟨a0, a1, a2, a3⟩ := BA.out
  obtain ⟨b0, b1, b2, b3⟩ := BB.out
  have A0 := fun d os => cell_regrown a0 d os
  have A1 := fun d os => cell_regrown a1 d os
  have A2 := fun d os => cell_regrown a2 d os
  have A3 := fun d os => cell_regrown a3 d os
  have B0 := fun d os => cell_regrown b0 d os
  have B1 := fun d os => cell_regrown b1 d os
  have B2 := fun d os => cell_regrown b2 d os
  have B3 := fun d os => cell_regrown b3 d os
  refine q_enter (by kernel_rfl) (by kernel_rfl) ?_
  iterate 2 (refine q_step ?_; intro K hK; go_simp; refine hK _ ?_; clear hK K)
  refine q_step ?_
  intro K hK
  go_simp
  refine ⟨_, fun p => Calls.regrown_of (HL.out a b X _ HX.out), hK _ ?_⟩
  clear hK K
  iterate 2 (refine q_step ?_; intro K hK; go_simp; refine hK _ ?_; clear hK K)
  refine q_step ?_
  intro K hK
  go_simp
  refine ⟨_, fun p => Calls.regrown_of (HL.out b a Y _ HY.out), hK _ ?_⟩
  clear hK K
  iterate 2 (refine q_step ?_; intro K hK; go_simp; refine hK _ ?_; clear hK K)
  refine q_nil ?_
  intro w2 hb2
  have BA2 := Lib.hid (BA.out.on hb2)
  have BB2 := Lib.hid (BB.out.on hb2)
  have BC2 := Lib.hid (BC.out.on hb2)
  have HB2 : Hid (Below w.heap.size w w2) := Lib.hid (HB0.out.trans (hb2.mono HB0.out.size))
  clear hb2 BA BB BC HB0 a0 a1 a2 a3 b0 b1 b2 b3 A0 A1 A2 A3 B0 B1 B2 B3
  obtain ⟨a0, a1, a2, a3⟩ := BA2.out
  obtain ⟨b0, b1, b2, b3⟩ := BB2.out
  obtain ⟨c0, c1, c2, c3⟩ := BC2.out
  go_wp2_with fail
  refine (HAdd.out w2 _ a b c HE1.out HF1.out rfl).mono ?_
  rintro e w3 ⟨Ap, cp, rfl, hp, hb3⟩
  have HP3 := Lib.hid hp
  have BA3 := Lib.hid ((BA2.out.alloc _).on hb3)
  have BB3 := Lib.hid ((BB2.out.alloc _).on hb3)
  have BC3 := Lib.hid ((BC2.out.alloc _).on hb3)
  have HB3 : Hid (Below w.heap.size w w3) := Lib.hid ((HB2.out.alloc HB2.out.size _).trans (hb3.mono (by have := HB2.out.size; simp; omega)))
  clear hp hb3 BA2 BB2 BC2 a0 a1 a2 a3 b0 b1 b2 b3 c0 c1 c2 c3
  obtain ⟨a0, a1, a2, a3⟩ := BA3.out
  obtain ⟨b0, b1, b2, b3⟩ := BB3.out
  obtain ⟨c0, c1, c2, c3⟩ := BC3.out
  go_wp2_with fail
  refine (HAdd.out w3 _ c b a HE2.out HF2.out rfl).mono ?_
  rintro e w4 ⟨Aq, cq, rfl, hq4, hb4⟩
  have HP4 := Lib.hid ((HP3.out.alloc _).on hb4)
  have HQ4 := Lib.hid hq4
  have BA4 := Lib.hid ((BA3.out.alloc _).on hb4)
  have BB4 := Lib.hid ((BB3.out.alloc _).on hb4)
  have BC4 := Lib.hid ((BC3.out.alloc _).on hb4)
  have HB4 : Hid (Below w.heap.size w w4) := Lib.hid ((HB3.out.alloc HB3.out.size _).trans (hb4.mono (by have := HB3.out.size; simp; omega)))
  have HS : Hid (Calls Try.prog 17 #[.slice Ap 3 cp, .slice Aq 3 cq] w4 fun e w' => e = .returned (.bool true) ∧ Below w4.heap.size w4 w') := Lib.hid (by
    have := l_same (c := cp) (c' := cq) HP4.out HQ4.out (by rw [HPL.out]; decide)
    rw [HPL.out] at this
    exact this)
  clear hq4 hb4 BA3 BB3 BC3 HP3 a0 a1 a2 a3 b0 b1 b2 b3 c0 c1 c2 c3
  go_wp2_with fail
  refine HS.out.mono ?_
  rintro e w5 ⟨rfl, hb5⟩
  have HP5 := Lib.hid (HP4.out.on hb5)
  have BA5 := Lib.hid (BA4.out.on hb5)
  have BB5 := Lib.hid (BB4.out.on hb5)
  have BC5 := Lib.hid (BC4.out.on hb5)
  have HB5 : Hid (Below w.heap.size w w5) := Lib.hid (HB4.out.trans (hb5.mono HB4.out.size))
  clear hb5 BA4 BB4 BC4 HP4 HQ4 HS
  obtain ⟨a0, a1, a2, a3⟩ := BA5.out
  obtain ⟨b0, b1, b2, b3⟩ := BB5.out
  obtain ⟨c0, c1, c2, c3⟩ := BC5.out
  have HW : Hid (∀ (W : World), Lst W Ap P → ∃ ad, Ap = some ad ∧ At W ⟨ad.block, ad.off + 4, none⟩ (nth P 1) ∧ At W ad (nth P 0) ∧ At W ⟨ad.block, ad.off + 8, none⟩ (nth P 2)) := Lib.hid fun W h => by
    obtain ⟨ad, e, _, _, h0⟩ := h 0 (by rw [HPL.out]; decide)
    obtain ⟨ad1, e1, _, _, h1⟩ := h 1 (by rw [HPL.out]; decide)
    obtain ⟨ad2, e2, _, _, h2⟩ := h 2 (by rw [HPL.out]; decide)
    subst e
    obtain rfl := Option.some.inj e1
    obtain rfl := Option.some.inj e2
    exact ⟨_, rfl, h1, h0, h2⟩
  have HL10 := Lib.hid (HPS.out.steps 0 (by rw [HPL.out]; decide))
  have HL21 := Lib.hid (HPS.out.steps 1 (by rw [HPL.out]; decide))
  rcases X with _ | _
  · go_wp2_with fail
    have HPz := HP5
    have HBz := HB5
    clear HP5 HB5
    obtain ⟨ad, rfl, t1, t0, t2⟩ := HW.out _ HPz.out
    obtain ⟨x1, x2, x3, x4⟩ := t0.flat
    obtain ⟨y1, y2, y3, y4⟩ := t1.at_
    obtain ⟨z1, z2, z3, z4⟩ := t2.at_
    have X1 := fun d os => cell_regrown x1 d os
    have X2 := fun d os => cell_regrown x2 d os
    have X3 := fun d os => cell_regrown x3 d os
    have X4 := fun d os => cell_regrown x4 d os
    have Y1 := fun d os => cell_regrown y1 d os
    have Y2 := fun d os => cell_regrown y2 d os
    have Y3 := fun d os => cell_regrown y3 d os
    have Y4 := fun d os => cell_regrown y4 d os
    have Z1 := fun d os => cell_regrown z1 d os
    have Z2 := fun d os => cell_regrown z2 d os
    have Z3 := fun d os => cell_regrown z3 d os
    have Z4 := fun d os => cell_regrown z4 d os
    clear t0 t1 t2 x1 x2 x3 x4 y1 y2 y3 y4 z1 z2 z3 z4
    refine q_enter (by kernel_rfl) (by kernel_rfl) ?_
    iterate 6 (refine q_step ?_; intro K hK; go_simp; refine hK _ ?_; clear hK K)
    refine q_step ?_
    intro K hK
    go_simp
    refine ⟨_, fun p => Calls.regrown_of (HL.out (nth P 1) (nth P 0) false _ HL10.out), hK _ ?_⟩
    clear hK K
    iterate 8 (refine q_step ?_; intro K hK; go_simp; refine hK _ ?_; clear hK K)
    refine q_step ?_
    intro K hK
    go_simp
    refine ⟨_, fun p => Calls.regrown_of (HL.out (nth P 2) (nth P 1) false _ HL21.out), hK _ ?_⟩
    clear hK K
    iterate 3 (refine q_step ?_; intro K hK; go_simp; refine hK _ ?_; clear hK K)
    refine q_step ?_
    intro K hK
    go_simp
    refine ⟨_, fun p => Calls.regrown_of (awake_any _), hK _ ?_⟩
    clear hK K
    iterate 2 (refine q_step ?_; intro K hK; go_simp; refine hK _ ?_; clear hK K)
    refine q_nil ?_
    intro wz hbz
    have HE : Hid (Below w.heap.size w wz) := Lib.hid (HBz.out.trans (hbz.mono HBz.out.size))
    clear hbz
    go_wp2_with fail
    go_ret
    exact ⟨rfl, HE.out⟩
  · rcases Y with _ | _
    · rcases Z with _ | _
      · go_wp2_with fail
        refine (HL.out b c false _ HZ.out).mono ?_
        rintro e w6 ⟨rfl, hb6⟩
        have HPz := Lib.hid (HP5.out.on hb6)
        have HBz : Hid (Below w.heap.size w w6) := Lib.hid (HB5.out.trans (hb6.mono HB5.out.size))
        clear hb6 HP5 HB5
        go_wp2_with fail
        obtain ⟨ad, rfl, t1, t0, t2⟩ := HW.out _ HPz.out
        obtain ⟨x1, x2, x3, x4⟩ := t0.flat
        obtain ⟨y1, y2, y3, y4⟩ := t1.at_
        obtain ⟨z1, z2, z3, z4⟩ := t2.at_
        have X1 := fun d os => cell_regrown x1 d os
        have X2 := fun d os => cell_regrown x2 d os
        have X3 := fun d os => cell_regrown x3 d os
        have X4 := fun d os => cell_regrown x4 d os
        have Y1 := fun d os => cell_regrown y1 d os
        have Y2 := fun d os => cell_regrown y2 d os
        have Y3 := fun d os => cell_regrown y3 d os
        have Y4 := fun d os => cell_regrown y4 d os
        have Z1 := fun d os => cell_regrown z1 d os
        have Z2 := fun d os => cell_regrown z2 d os
        have Z3 := fun d os => cell_regrown z3 d os
        have Z4 := fun d os => cell_regrown z4 d os
        clear t0 t1 t2 x1 x2 x3 x4 y1 y2 y3 y4 z1 z2 z3 z4
        refine q_enter (by kernel_rfl) (by kernel_rfl) ?_
        iterate 6 (refine q_step ?_; intro K hK; go_simp; refine hK _ ?_; clear hK K)
        refine q_step ?_
        intro K hK
        go_simp
        refine ⟨_, fun p => Calls.regrown_of (HL.out (nth P 1) (nth P 0) false _ HL10.out), hK _ ?_⟩
        clear hK K
        iterate 8 (refine q_step ?_; intro K hK; go_simp; refine hK _ ?_; clear hK K)
        refine q_step ?_
        intro K hK
        go_simp
        refine ⟨_, fun p => Calls.regrown_of (HL.out (nth P 2) (nth P 1) false _ HL21.out), hK _ ?_⟩
        clear hK K
        iterate 3 (refine q_step ?_; intro K hK; go_simp; refine hK _ ?_; clear hK K)
        refine q_step ?_
        intro K hK
        go_simp
        refine ⟨_, fun p => Calls.regrown_of (awake_any _), hK _ ?_⟩
        clear hK K
        iterate 2 (refine q_step ?_; intro K hK; go_simp; refine hK _ ?_; clear hK K)
        refine q_nil ?_
        intro wz hbz
        have HE : Hid (Below w.heap.size w wz) := Lib.hid (HBz.out.trans (hbz.mono HBz.out.size))
        clear hbz
        go_wp2_with fail
        go_ret
        exact ⟨rfl, HE.out⟩
      · have hv := H3.out rfl rfl
        subst hv
        go_wp2_with fail
        refine (HL.out b c true _ HZ.out).mono ?_
        rintro e w6 ⟨rfl, hb6⟩
        have HP6 := Lib.hid (HP5.out.on hb6)
        have BA6 := Lib.hid (BA5.out.on hb6)
        have BC6 := Lib.hid (BC5.out.on hb6)
        have HB6 : Hid (Below w.heap.size w w6) := Lib.hid (HB5.out.trans (hb6.mono HB5.out.size))
        clear hb6 HP5 HB5 a0 a1 a2 a3 b0 b1 b2 b3 c0 c1 c2 c3
        obtain ⟨a0, a1, a2, a3⟩ := BA6.out
        obtain ⟨c0, c1, c2, c3⟩ := BC6.out
        go_wp2_with fail
        refine (HL.out a c true _ HV.out).mono ?_
        rintro e w7 ⟨rfl, hb7⟩
        have HPz := Lib.hid (HP6.out.on hb7)
        have HBz : Hid (Below w.heap.size w w7) := Lib.hid (HB6.out.trans (hb7.mono HB6.out.size))
        clear hb7 HP6 HB6
        go_wp2_with fail
        obtain ⟨ad, rfl, t1, t0, t2⟩ := HW.out _ HPz.out
        obtain ⟨x1, x2, x3, x4⟩ := t0.flat
        obtain ⟨y1, y2, y3, y4⟩ := t1.at_
        obtain ⟨z1, z2, z3, z4⟩ := t2.at_
        have X1 := fun d os => cell_regrown x1 d os
        have X2 := fun d os => cell_regrown x2 d os
        have X3 := fun d os => cell_regrown x3 d os
        have X4 := fun d os => cell_regrown x4 d os
        have Y1 := fun d os => cell_regrown y1 d os
        have Y2 := fun d os => cell_regrown y2 d os
        have Y3 := fun d os => cell_regrown y3 d os
        have Y4 := fun d os => cell_regrown y4 d os
        have Z1 := fun d os => cell_regrown z1 d os
        have Z2 := fun d os => cell_regrown z2 d os
        have Z3 := fun d os => cell_regrown z3 d os
        have Z4 := fun d os => cell_regrown z4 d os
        clear t0 t1 t2 x1 x2 x3 x4 y1 y2 y3 y4 z1 z2 z3 z4
        refine q_enter (by kernel_rfl) (by kernel_rfl) ?_
        iterate 6 (refine q_step ?_; intro K hK; go_simp; refine hK _ ?_; clear hK K)
        refine q_step ?_
        intro K hK
        go_simp
        refine ⟨_, fun p => Calls.regrown_of (HL.out (nth P 1) (nth P 0) false _ HL10.out), hK _ ?_⟩
        clear hK K
        iterate 8 (refine q_step ?_; intro K hK; go_simp; refine hK _ ?_; clear hK K)
        refine q_step ?_
        intro K hK
        go_simp
        refine ⟨_, fun p => Calls.regrown_of (HL.out (nth P 2) (nth P 1) false _ HL21.out), hK _ ?_⟩
        clear hK K
        iterate 3 (refine q_step ?_; intro K hK; go_simp; refine hK _ ?_; clear hK K)
        refine q_step ?_
        intro K hK
        go_simp
        refine ⟨_, fun p => Calls.regrown_of (awake_any _), hK _ ?_⟩
        clear hK K
        iterate 2 (refine q_step ?_; intro K hK; go_simp; refine hK _ ?_; clear hK K)
        refine q_nil ?_
        intro wz hbz
        have HE : Hid (Below w.heap.size w wz) := Lib.hid (HBz.out.trans (hbz.mono HBz.out.size))
        clear hbz
        go_wp2_with fail
        go_ret
        exact ⟨rfl, HE.out⟩
    · exact (H1.out ⟨rfl, rfl⟩).elim
/-! ### the statement -/
theorem parOk : ∀ t ∈ (#[33, 33, 33] : Array TypeId).toList, Try.prog.readableRec t = true ∧ t < Try.prog.types.size := by
  have hall : ([33, 33, 33].all fun t => Try.prog.readableRec t && decide (t < Try.prog.types.size)) = true := by kernel_rfl
  intro t ht
  simpa using List.all_eq_true.1 hall t ht

/-- What the walk gives, for every argument. -/
theorem contract (H : Type) (enc : TypeId × Value → H) (W : World) (base : Nat) (args : Array Value) (ds gs : List (DataW H)) (before : List MemPlace)
    (hval : ∀ (j : Nat) t v, Try.f6.params[j]? = some t → args[j]? = some v → Value.okWide Try.prog W .any base t v)
    (hW : DataW.Whole enc Try.prog Try.f6.params.toList Rows.timerOrdersSpec.vars false W args.toList ds gs before) :
    Calls Try.prog 6 args W fun e W' => ∃ v, e = .returned v ∧ Rows.timerOrdersSpec.post enc Try.prog Try.f6 false true false false W args v W' := by
  have hW' := hW
  obtain ⟨p, q, hA0, hV, rfl, hfz, hnd⟩ := hW
  have hA : DataW.TrodAll enc Try.prog W 0 (fun _ => true) true Try.f6.params.toList args.toList ds p := hA0
  rw [Try.params6] at hA hval
  obtain ⟨v0, vs0, d0, ds0, p0, q0, hargs, rfl, rfl, h0, r0⟩ := trodAll_cons hA
  obtain ⟨v1, vs1, d1, ds1, p1, q1, rfl, rfl, rfl, h1, r1⟩ := trodAll_cons r0
  obtain ⟨v2, vs2, d2, ds2, p2, q2, rfl, rfl, rfl, h2, r2⟩ := trodAll_cons r1
  obtain ⟨rfl, rfl, rfl⟩ := trodAll_nil r2
  obtain rfl : args = #[v0, v1, v2] := by cases args; simp_all
  obtain ⟨rfl, rfl⟩ := trodVars_none hV
  obtain ⟨a, rfl, ha⟩ := open_tm (hval 0 33 v0 rfl rfl) h0
  obtain ⟨b, rfl, hb⟩ := open_tm (hval 1 33 v1 rfl rfl) h1
  obtain ⟨c, rfl, hc⟩ := open_tm (hval 2 33 v2 rfl rfl) h2
  clear hA0
  refine (walk a b c W ha hb hc).mono fun e W' ⟨he, hb⟩ => ?_
  subst he
  exact ⟨_, rfl, law_post rfl (by rw [Try.params6]; exact parOk) rfl hW' rfl rfl rfl hb⟩

set_option maxRecDepth 100000 in
theorem lifted (os : Os) (started : os.Started) (H : Type) (enc : TypeId × Value → H) :
    ReturnsInHanded {} Try.checked os 6 .any (Rows.timerOrdersSpec.pre6 enc Try.prog Try.f6 Rows.timerOrdersRow.domain false) (Rows.timerOrdersSpec.post enc Try.prog Try.f6 false true false false) := by
  refine returnsInHanded_of_change (C := Try.checked) own started (by kernel_rfl) Try.func6
    (ChangeSpec.witness6 (enc := enc) (C := Try.checked) false ⟨#[], #[.agg #[.int .i64 0, .int .i64 0, .int .i64 0, .int .u64 0], .agg #[.int .i64 0, .int .i64 0, .int .i64 0, .int .u64 0], .agg #[.int .i64 0, .int .i64 0, .int .i64 0, .int .u64 0]], []⟩ 8 (by kernel_rfl) (by kernel_rfl) (by kernel_rfl) (by kernel_rfl)) ?_
  intro W base args ds gs before hval hW _ _
  exact contract H enc W base args ds gs before hval hW

/-- THE STATEMENT. -/
theorem said : Rows.TimerOrdersSaid :=
  OpenClaim.holds_of_wide 6 Try.f6 rfl rfl rfl rfl rfl rfl rfl ⟨rfl, rfl, rfl, rfl, rfl⟩ rfl rfl rfl rfl rfl (by kernel_rfl) Try.func6 (by kernel_rfl)
    (of_decide_eq_true (by kernel_rfl)) (by unfold Func.isWrapper; first | (rw [if_pos (by decide +kernel)]; kernel_rfl) | (rw [if_neg (by decide +kernel)]; exact ⟨rfl, rfl⟩))
    (fun os started H enc _ => lifted os started H enc)
end Go.Proofs.Ytbhpinmdpngbkaa.lawOrders
